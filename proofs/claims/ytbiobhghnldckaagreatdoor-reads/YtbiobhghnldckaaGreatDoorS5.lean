/- Proved: the ends of a command, and a head without an address. Conditions: the cursor lies in memory as 'Cur' says, and the parser leads to it. -/
import Derived.Test.YtbiobhghnldckaaGreatDoorS4
import Derived.Lib.OthersKept
import Derived.Deep.Cut
import Derived.Maps.RangeRun
namespace Go.Proofs.YtbiobhghnldckaaGreatDoor
set_option linter.unusedVariables false
set_option maxRecDepth 100000
set_option maxHeartbeats 6400000
section
open Go.RowKit
def F6 (W0:World) (R:Nat) (x0 x1 x2 x3 x4 x5 x6 x7 x8 x9 ke kg jG jH:Value):World:=(((((((((((((W0.setCell ⟨R,0,none⟩ x0).setCell ⟨R,1,none⟩ x1).setCell ⟨R,2,none⟩ x2).setCell ⟨R,3,none⟩ x3).setCell ⟨R,4,none⟩ x4).setCell ⟨R,5,none⟩ x5).setCell ⟨R,6,none⟩ x6).setCell ⟨R,7,none⟩ x7).setCell ⟨R,8,none⟩ x8).setCell ⟨R,9,none⟩ x9).setCell ⟨R,10,none⟩ ke).setCell ⟨R,11,none⟩ kg).setCell ⟨R,12,none⟩ jG).setCell ⟨R,13,none⟩ jH
theorem fj {W0:World}{R:Nat}{y0 y1 y2 y3 y4 y5 y6 y7 y8 y9 tH pZ MW MX:Value} (x0 x1 x2 x3 x4 x5 x6 x7 x8 x9 ke kg jG jH:Value) (h:ai W0 R [y0,y1,y2,y3,y4,y5,y6,y7,y8,y9,tH,pZ,MW,MX]):ai (F6 W0 R x0 x1 x2 x3 x4 x5 x6 x7 x8 x9 ke kg jG jH) R [x0,x1,x2,x3,x4,x5,x6,x7,x8,x9,ke,kg,jG,jH]:=(((((((((((((h.set 0 x0).set 1 x1).set 2 x2).set 3 x3).set 4 x4).set 5 x5).set 6 x6).set 7 x7).set 8 x8).set 9 x9).set 10 ke).set 11 kg).set 12 jG).set 13 jH
theorem fL (W0:World) (R:Nat) (x0 x1 x2 x3 x4 x5 x6 x7 x8 x9 ke kg jG jH:Value):ae (·=R) W0 (F6 W0 R x0 x1 x2 x3 x4 x5 x6 x7 x8 x9 ke kg jG jH):=aW (aW (aW (aW (aW (aW (aW (aW (aW (aW (aW (aW (aW (af W0 R 0 x0) (af _ R 1 x1)) (af _ R 2 x2)) (af _ R 3 x3)) (af _ R 4 x4)) (af _ R 5 x5)) (af _ R 6 x6)) (af _ R 7 x7)) (af _ R 8 x8)) (af _ R 9 x9)) (af _ R 10 ke)) (af _ R 11 kg)) (af _ R 12 jG)) (af _ R 13 jH)
theorem fB {W:World}{R:Nat}{x0 x1 x2 x3 x4 x5 x6 x7 x8 x9 ke kg jG jH:Value}{tmps:Array Value} (h2:tmps[2]? =some (.pointer (some ⟨R,0,none⟩))) (h3:tmps[3]? =some (.pointer none)) (hR:ai W R [x0,x1,x2,x3,x4,x5,x6,x7,x8,x9,ke,kg,jG,jH]):
 (results Tryz.f100 tmps).run Tryz.prog W=.ok (.tuple #[.agg #[x0,x1,x2,x3,x4,x5,x6,x7,x8,x9,ke,kg,jG,jH],.pointer none]) W:=by
 simp[results,Tryz.results100,go_sem,h2,h3,(hR 0 _ rfl).1,(hR 1 _ rfl).1,(hR 2 _ rfl).1,(hR 3 _ rfl).1,(hR 4 _ rfl).1,(hR 5 _ rfl).1,(hR 6 _ rfl).1,(hR 7 _ rfl).1,(hR 8 _ rfl).1,(hR 9 _ rfl).1,(hR 10 _ rfl).1,(hR 11 _ rfl).1,(hR 12 _ rfl).1,(hR 13 _ rfl).1]
theorem ER (g:CG) (pp:Nat) (w:World) (i:Nat) (h:Cur g w i) (hp:Lead g pp w) (i':Nat) (hr:Adz.tail g.L g.pl i=.ok i'):
 Calls Tryz.prog 104 #[.pointer (some ⟨pp,0,none⟩)] w fun e w'=>e=.returned (.pointer none)∧Cur g w' i'∧ae (·=g.c) w w':=by
 unfold Adz.tail at hr;simp only at hr;have q0:=hp.at0;split at hr
 ·rename_i hb
  simp only[Except.ok.injEq] at hr;subst hr;generalize cP:Adz.peek g.L (Adz.blanks g.L i)=r at*
  have HP:Hid (Adz.peek g.L (Adz.blanks g.L i)=r):=cP;have Of:r=59∨r=10∨r=125∨r= -1:=by simpa[or_assoc] using hb
  clear cP hb
  rcases Of with e | e | e | e
  all_goals
   go_enter Tryz.func104,Tryz.ntmps104;go_wp2_with fail;refine(bO g w i h).mono ?_;rintro e w1 ⟨rfl,cC,bq⟩;have q1:=(hp.moved bq).at0;go_wp2_with fail;refine(ah g w1 _ cC).mono ?_;rintro e w2 ⟨rfl,n,rfl⟩;rw[HP.out,e];go_wp2;go_ret;exact⟨rfl,cC.drewN n,bq.drewN n⟩
 ·cases hr
theorem gL (g:CG) (pp:Nat) (w:World) (i:Nat) (h:Cur g w i) (hp:Lead g pp w) (hr:Adz.atAddress g.L i=false):
 Calls Tryz.prog 142 #[.pointer (some ⟨pp,0,none⟩)] w fun e w'=>e=.returned (.bool false)∧∃n,w'=w.drewN n:=by
 have q0:=hp.at0;unfold Adz.atAddress at hr;simp only[Bool.or_eq_false_iff] at hr;obtain⟨⟨hd,b1⟩,b2⟩:=hr;have HD:Hid (Adz.isDigit (Adz.peek g.L i)=false):=hd;clear hd;go_enter Tryz.func142,Tryz.ntmps142;go_wp2_with fail;refine(ah g w i h).mono ?_;rintro e w1 ⟨rfl,n,rfl⟩;go_wp2_with fail;refine(aE _ _).mono ?_;rintro e w1 ⟨rfl,rfl⟩;rw[HD.out];go_wp2;go_ret;exact⟨rfl,n,rfl⟩
theorem oI {g:CG}{w W:World}{i:Nat}{v:Value} (h:Cur g w i) (o:ae (fun _=>False) w W):Ending.returned v=.returned v∧Cur g W i∧ae (·=g.c) w W:=
 ⟨rfl,h.keeps o id (fun _=>id) id,o.mono (fun _ _ e=>e.elim)⟩
theorem wN (g:CG) (pp:Nat) (w:World) (i:Nat) (h:Cur g w i) (hp:Lead g pp w) (ha:Adz.atAddress g.L i=false) (hn:Adz.peek g.L i≠33):
 Calls Tryz.prog 100 #[.pointer (some ⟨pp,0,none⟩)] w fun e w'=>
  e=.returned (.tuple #[.agg #[.int .i32 0,.slice none 0 0,.bool false,.string ⟨#[]⟩,.string ⟨#[]⟩,.int .i64 0,.slice none 0 0,.int .i64 0,.slice none 0 0,.bool false,.bool false,.int .i64 0,.slice none 0 0,.slice none 0 0],.pointer none])∧Cur g w' i∧ae (·=g.c) w w':=by
 have q0:=hp.at0;have eX:pp<w.heap.size:=hp.lt;have HA:Hid (Adz.atAddress g.L i=false):=ha;clear ha;go_enter Tryz.func100,Tryz.ntmps100;go_wp2_with fail;refine(gL g pp _ i ((h.alloc _).alloc _) ((hp.alloc _).alloc _) HA.out).mono ?_;rintro e w1 ⟨rfl,n,rfl⟩;go_wp2_with fail;refine(aH g _ i 33 (((h.alloc _).alloc _).drewN n) hn).mono ?_;rintro e w1 ⟨rfl,n2,rfl⟩;go_wp2;have k0:ai (((w.alloc (.cells #[.int .i32 0,.slice none 0 0,.bool false,.string ⟨#[]⟩,.string ⟨#[]⟩,.int .i64 0,.slice none 0 0,.int .i64 0,.slice none 0 0,.bool false,.bool false,.int .i64 0,.slice none 0 0,.slice none 0 0] 167)).alloc (.cells #[.int .i32 0,.slice none 0 0,.bool false,.string ⟨#[]⟩,.string ⟨#[]⟩,.int .i64 0,.slice none 0 0,.int .i64 0,.slice none 0 0,.bool false,.bool false,.int .i64 0,.slice none 0 0,.slice none 0 0] 167)).drewN (n+n2)) w.heap.size [.int .i32 0,.slice none 0 0,.bool false,.string ⟨#[]⟩,.string ⟨#[]⟩,.int .i64 0,.slice none 0 0,.int .i64 0,.slice none 0 0,.bool false,.bool false,.int .i64 0,.slice none 0 0,.slice none 0 0]:=((ai.new w _ _).alloc _).drewN _;have k1:=fj (W0:=((w.alloc (.cells #[.int .i32 0,.slice none 0 0,.bool false,.string ⟨#[]⟩,.string ⟨#[]⟩,.int .i64 0,.slice none 0 0,.int .i64 0,.slice none 0 0,.bool false,.bool false,.int .i64 0,.slice none 0 0,.slice none 0 0] 167)).alloc (.cells #[.int .i32 0,.slice none 0 0,.bool false,.string ⟨#[]⟩,.string ⟨#[]⟩,.int .i64 0,.slice none 0 0,.int .i64 0,.slice none 0 0,.bool false,.bool false,.int .i64 0,.slice none 0 0,.slice none 0 0] 167)).drewN (n+n2)) (.int .i32 0) (.slice none 0 0) (.bool false) (.string ⟨#[]⟩) (.string ⟨#[]⟩) (.int .i64 0) (.slice none 0 0) (.int .i64 0) (.slice none 0 0) (.bool false) (.bool false) (.int .i64 0) (.slice none 0 0) (.slice none 0 0) k0
 have o1:=fL (((w.alloc (.cells #[.int .i32 0,.slice none 0 0,.bool false,.string ⟨#[]⟩,.string ⟨#[]⟩,.int .i64 0,.slice none 0 0,.int .i64 0,.slice none 0 0,.bool false,.bool false,.int .i64 0,.slice none 0 0,.slice none 0 0] 167)).alloc (.cells #[.int .i32 0,.slice none 0 0,.bool false,.string ⟨#[]⟩,.string ⟨#[]⟩,.int .i64 0,.slice none 0 0,.int .i64 0,.slice none 0 0,.bool false,.bool false,.int .i64 0,.slice none 0 0,.slice none 0 0] 167)).drewN (n+n2)) w.heap.size (.int .i32 0) (.slice none 0 0) (.bool false) (.string ⟨#[]⟩) (.string ⟨#[]⟩) (.int .i64 0) (.slice none 0 0) (.int .i64 0) (.slice none 0 0) (.bool false) (.bool false) (.int .i64 0) (.slice none 0 0) (.slice none 0 0);refine bodyPost_ret (v:=.tuple #[.agg #[.int .i32 0,.slice none 0 0,.bool false,.string ⟨#[]⟩,.string ⟨#[]⟩,.int .i64 0,.slice none 0 0,.int .i64 0,.slice none 0 0,.bool false,.bool false,.int .i64 0,.slice none 0 0,.slice none 0 0],.pointer none]) (fB rfl rfl k1) rfl ?_;have o:ae (fun _=>False) w (((w.alloc (.cells #[.int .i32 0,.slice none 0 0,.bool false,.string ⟨#[]⟩,.string ⟨#[]⟩,.int .i64 0,.slice none 0 0,.int .i64 0,.slice none 0 0,.bool false,.bool false,.int .i64 0,.slice none 0 0,.slice none 0 0] 167)).alloc (.cells #[.int .i32 0,.slice none 0 0,.bool false,.string ⟨#[]⟩,.string ⟨#[]⟩,.int .i64 0,.slice none 0 0,.int .i64 0,.slice none 0 0,.bool false,.bool false,.int .i64 0,.slice none 0 0,.slice none 0 0] 167)).drewN (n+n2)):=(((ae.refl _ w).alloc _).alloc _).drewN _
 exact oI h (o.trans o1 (fun _ e=>e) (fun x hx e=>by omega))
theorem dD {w w':World}{a b m:Nat} (h:w'=(w.drewN (a+b)).drewN m):∃n,w'=w.drewN (a+n):=⟨b+m,by rw[h,World.drewN_drewN,Nat.add_assoc]⟩
theorem zT {w w':World}{b m:Nat} (h:w'=(w.drewN b).drewN m):∃n,w'=w.drewN n:=⟨b+m,by rw[h,World.drewN_drewN]⟩
structure Table (pp:Nat) (w:World) (n:Nat):Prop where
 map:∃mb,w.cell? ⟨pp,1,none⟩=some (.map (some mb))∧iF w mb
 cmds:∃qa qc,w.cell? ⟨pp,2,none⟩=some (.slice qa n qc)
theorem EY (g:CG) (pp cb n:Nat) (w:World) (i:Nat) (h:Cur g w i) (hp:Lead g pp w) (ht:Table pp w n) (c:Adz.Cmd) (hc:CmdAt w cb c) (k:Int) (hk:Adz.behindKind (Adz.peek g.L i)=some k) (h3:k≠3) (h1:k≠1) (hn:n≠40) (CX:n≤500) (hl:i<g.L.length):
 Calls Tryz.prog 102 #[.pointer (some ⟨pp,0,none⟩),.pointer (some ⟨cb,0,none⟩)] w fun e w'=>e=.returned (.pointer none)∧CmdAt w' cb {c with what:=Adz.peek g.L i}∧Cur g w' (i+1)∧ae (fun b=>b=g.c∨b=cb) w w':=by
 obtain⟨mb,m1,m2⟩:=ht.map;obtain⟨qa,qc,q2⟩:=ht.cmds;have q0:=hp.at0
 have kD:∀m,(Instr.lookup 115 (.map (some mb)) (.int .i32 (Adz.peek g.L i)) true).run Tryz.prog (w.drewN m)=.ok (.tuple #[.int .i64 k,.bool true]) (w.drewN m):=fun m=>by
  have:=eU (w.drewN m) mb (Adz.peek g.L i) m2;rw[hk] at this;exact this
 have b3:(k==3)=false:=by simpa using h3
 have b1:(k==1)=false:=by simpa using h1
 have CJ:((n:Int)==40)=false:=by simp;omega
 have bM:cb≠g.c:=hc.typ.ne h.tc (by decide);have gH:pp≠cb:=hp.typ.ne hc.typ (by decide);clear hk;go_enter Tryz.func102,Tryz.ntmps102;go_wp2_with fail;refine(ar g w i h).mono ?_;rintro e w1 ⟨rfl,n1,rfl⟩;go_wp2_with fail
 go_quiet ((go_at_call 51;exact(ah g _ i (h.drewN _)).mono (fun e w1 ⟨he,m,da⟩=>⟨he,dD da⟩)))
 go_wp2_with fail;refine(ax g _ i (h.drewN _) hl).mono ?_;rintro e w2 ⟨rfl,aL,aK⟩;have o2:ae (·=g.c) w w2:=((ae.refl (·=g.c) w).drewN _).trans aK (fun _ e=>e) (fun _ _ e=>e);have ym:=hc.keeps o2 h.spares bM;obtain⟨av,iv,rv,fv,tv,kk,dd⟩:=ym.deep;have k0:=kk 0 _ rfl;go_wp2;go_ret;have o3:=af w2 cb 0 (.int .i32 (Adz.peek g.L i));have d3:=dd.keeps o3 (aS ym.typ (by decide));exact⟨rfl,⟨ym.typ.set,av,iv,rv,fv,tv,kk.set 0 _,⟨d3.a,d3.i,d3.r,d3.f,d3.t⟩⟩,aL.aside o3 ym.typ,o2.trans o3 (fun _ e=>Or.inl e) (fun _ _ e=>Or.inr e)⟩
theorem AR (g:CG) (pp cb n:Nat) (w:World) (i:Nat) (at_:Int) (h:Cur g w i) (hp:Lead g pp w) (ht:Table pp w n) (c:Adz.Cmd) (hc:CmdAt w cb c) (Gw:c.what=115) (c':Adz.Cmd) (i':Nat) (hr:Adz.substitution g.L g.pl c i=.ok (c',i')):
 Calls Tryz.prog 103 #[.pointer (some ⟨pp,0,none⟩),.pointer (some ⟨cb,0,none⟩),.int .i64 at_] w fun e w'=>e=.returned (.pointer none)∧CmdAt w' cb c'∧Cur g w' i'∧ae (fun b=>b=g.c∨b=cb) w w':=by
 obtain⟨mb,m1,m2⟩:=ht.map;obtain⟨av,iv,rv,fv,tv,kk,dd⟩:=hc.deep;have k0:=(kk 0 _ rfl).1;rw[Gw] at k0;have q0:=hp.at0;have kD:∀m,(Instr.lookup 115 (.map (some mb)) (.int .i32 115) false).run Tryz.prog (w.drewN m)=.ok (.int .i64 5) (w.drewN m):=fun m=>bj (w.drewN m) mb 115 m2;have HR:Hid (Adz.substitution g.L g.pl c i=.ok (c',i')):=hr;clear hr kk dd;go_enter Tryz.func103,Tryz.ntmps103;go_wp2_with fail
 go_quiet (fail)
 go_wp2_with fail;have o1:ae (·=g.c) w (w.drewN nq):=(ae.refl _ w).drewN nq;refine(nA g pp cb _ i (h.drewN nq) (hp.drewN nq) c (hc.keeps o1 h.spares (hc.typ.ne h.tc (by decide))) c' i' HR.out).mono ?_;rintro e w2 ⟨rfl,aL,Hp,aK⟩;go_wp2;go_ret;exact⟨rfl,aL,Hp,o1.trans aK (fun _ e=>Or.inl e) (fun _ _ e=>e)⟩
end
section
open Go.RowKit
attribute [local go_sem ↓] Go.wp_at_zero Go.wp_at_succ
theorem ju:(Tryz.prog.info? 167).map (fun i=>(i.zero,i.size,i.bytes))=some (some (.agg (aA {} (.slice none 0 0) (.slice none 0 0) (.slice none 0 0) (.slice none 0 0) (.slice none 0 0)).toArray),14,200):=by kernel_rfl
def di (w:World):List Adz.Cmd→List Value→Prop
 | [],[]=>True
 | c::cs,x0::x1::x2::x3::x4::x5::x6::x7::x8::x9::ke::kg::jG::jH::xs=>(∃av iv rv fv tv,[x0,x1,x2,x3,x4,x5,x6,x7,x8,x9,ke,kg,jG,jH]=aA c av iv rv fv tv∧Deep w c av iv rv fv tv)∧di w cs xs
 | _,_=>False
theorem di.keeps {S:Nat→Prop}{w w':World} (o:ae S w w') (s:Spares w S):∀ {cs:List Adz.Cmd}{xs:List Value},di w cs xs→di w' cs xs
 | [],[],_=>trivial
 | c::cs,x0::x1::x2::x3::x4::x5::x6::x7::x8::x9::ke::kg::jG::jH::xs,h=>by
  obtain⟨⟨av,iv,rv,fv,tv,e,d⟩,r⟩:=h;exact⟨⟨av,iv,rv,fv,tv,e,d.keeps o s⟩,di.keeps o s r⟩
theorem di.snoc {w:World}{c:Adz.Cmd}{av iv rv fv tv:Value} (d:Deep w c av iv rv fv tv):∀ {cs:List Adz.Cmd}{xs:List Value},di w cs xs→di w (cs++ [c]) (xs++aA c av iv rv fv tv)
 | [],[],_=>⟨⟨av,iv,rv,fv,tv,rfl,d⟩,trivial⟩
 | c::cs,x0::x1::x2::x3::x4::x5::x6::x7::x8::x9::ke::kg::jG::jH::xs,h=>⟨h.1,di.snoc d h.2⟩
def bI (x:Adz.Lab) (n:Nat):MapEntry:= {key:=.string ⟨x.name.toArray⟩,val:=.agg #[.int .i64 x.set,.int .i64 x.asked],born:=n}
def aj:Nat→List Adz.Lab→List MapEntry
 | _,[]=> []
 | n,x::l=>bI x n::aj (n+1) l
structure Par (g:CG) (pp base:Nat) (w:World) (s:Adz.Ps):Prop where
 cur:Cur g w s.i
 lead:Lead g pp w
 map:∃mb,w.cell? ⟨pp,1,none⟩=some (.map (some mb))∧iF w mb
 cmds:∃qv xs,w.cell? ⟨pp,2,none⟩=some qv∧w.ownsRow base 167 14 qv s.cmds.length xs∧di w s.cmds xs
 op:∃ov,w.cell? ⟨pp,3,none⟩=some ov∧w.ownsRow base 3 1 ov s.opens.length (s.opens.map (Value.int .i64))
 lab:∃lb,base≤lb+1∧w.cell? ⟨pp,4,none⟩=some (.map (some lb))∧w.heap[lb]? =some (.map (aj 0 s.labs).toArray s.labs.length)
 f2:w.frozen? ⟨pp,2,none⟩=false
 f3:w.frozen? ⟨pp,3,none⟩=false
 bs:base≤w.heap.size
 pb:g.pb<base
 few:s.cmds.length≤s.i
theorem Par.table {g:CG}{pp base:Nat}{w:World}{s:Adz.Ps} (h:Par g pp base w s):Table pp w s.cmds.length:=by
 obtain⟨qv,xs,c1,c2,c3⟩:=h.cmds;obtain⟨qa,qc,rfl⟩:=ak c2;exact⟨h.map,⟨qa,qc,c1⟩⟩
theorem dO {w:World}{b m:Nat}{T:TypeId}{es:Array MapEntry}{n:Nat} (t:aq w b T) (h:w.heap[m]? =some (.map es n)):m≠b:=fun e=>by
 obtain⟨c,f,t⟩:=t;rw[←e,h] at t
 cases t
theorem aN {S:Nat→Prop}{w w':World}{m:Nat}{es:Array MapEntry}{n:Nat} (h:w.heap[m]? =some (.map es n)) (o:ae S w w') (hs:¬S m):w'.heap[m]? =some (.map es n):=
 (o.block m (Array.getElem?_eq_some_iff.1 h).1 hs).trans h
theorem Par.moved {g:CG}{pp base:Nat}{w w':World}{s:Adz.Ps} (h:Par g pp base w s) {i:Nat} (hc:Cur g w' i) (o:ae (·=g.c) w w') (hi:s.i≤i):Par g pp base w' {s with i:=i}:=by
 obtain⟨mb,m1,m2⟩:=h.map;obtain⟨qv,xs,c1,c2,c3⟩:=h.cmds;obtain⟨ov,o1,o2⟩:=h.op;obtain⟨lb,l0,l1,l2⟩:=h.lab;have tc:=h.cur.tc;have n0:¬pp=g.c:=h.lead.ne
 exact⟨hc,h.lead.moved o,⟨mb,o.keeps m1 n0,aN m2 o (dO tc m2)⟩,⟨qv,xs,o.keeps c1 n0,ag c2 o (fun b hb e=>(aq.of_row c2 hb).ne tc (by decide) e),c3.keeps o h.cur.spares⟩,
  ⟨ov,o.keeps o1 n0,ag o2 o (fun b hb e=>(aq.of_row o2 hb).ne tc (by decide) e)⟩,⟨lb,l0,o.keeps l1 n0,aN l2 o (dO tc l2)⟩,o.keepsFrozen c1 h.f2 n0,o.keepsFrozen o1 h.f3 n0,Nat.le_trans h.bs o.size,h.pb,Nat.le_trans h.few hi⟩
theorem Par.more {g:CG}{pp base:Nat}{w w':World}{s:Adz.Ps} (h:Par g pp base w s) {qv v':Value}{xs:List Value}{c:Adz.Cmd}{av iv rv fv tv:Value} (hq:w.cell? ⟨pp,2,none⟩=some qv)
 (cz:w.ownsRow base 167 14 qv s.cmds.length xs) (Fz:di w s.cmds xs) (d:Deep w c av iv rv fv tv)
 (q1:w'.cell? ⟨pp,2,none⟩=some v') (q2:w'.ownsRow base 167 14 v' (s.cmds.length+1) (xs++aA c av iv rv fv tv)) (q3:ae (fun b=>b=pp∨qv.ownBlock=some b) w w') (q4:Field pp 2 w w') (hl:s.cmds.length<s.i):
 Par g pp base w' {s with cmds:=s.cmds++ [c]}:=by
 obtain⟨mb,m1,m2⟩:=h.map;obtain⟨ov,o1,o2⟩:=h.op;obtain⟨lb,l0,l1,l2⟩:=h.lab;have tp:=h.lead.typ
 have key:∀ {b:Nat} {T:TypeId},aq w b T→T≠119→T≠167→¬(b=pp∨qv.ownBlock=some b):=by
  rintro b T t n1 n2 (e | e)
  ·exact t.ne tp n1 e
  ·exact aG cz t n2 e
 have sp:Spares w (fun b=>b=pp∨qv.ownBlock=some b):=⟨fun b t=>key t (by decide) (by decide),fun b t=>key t (by decide) (by decide),fun b t=>key t (by decide) (by decide),fun b t=>key t (by decide) (by decide),fun b t=>key t (by decide) (by decide)⟩
 have mk:∀ {m:Nat} {es:Array MapEntry} {n:Nat},w.heap[m]? =some (.map es n)→¬(m=pp∨qv.ownBlock=some m):=by
  rintro m es n hm (e | e)
  ·exact dO tp hm e
  ·exact dO (aq.of_row cz e) hm rfl
 refine⟨h.cur.keeps q3 (key h.cur.tc (by decide) (by decide)) (fun hn=>key (h.cur.tr hn) (by decide) (by decide)) (key h.cur.tp (by decide) (by decide)),⟨(q4.others 0 (by decide)).trans h.lead.at0,h.lead.ne,q4.typ _ tp⟩,
  ⟨mb,(q4.others 1 (by decide)).trans m1,aN m2 q3 (mk m2)⟩,⟨v',_,q1,by simpa using q2,di.snoc (d.keeps q3 sp) (Fz.keeps q3 sp)⟩,⟨ov,(q4.others 3 (by decide)).trans o1,ag o2 q3 (fun b hb=>key (aq.of_row o2 hb) (by decide) (by decide))⟩,
  ⟨lb,l0,(q4.others 4 (by decide)).trans l1,aN l2 q3 (mk l2)⟩,(q4.frozen 2).trans h.f2,(q4.frozen 3).trans h.f3,Nat.le_trans h.bs q3.size,h.pb,by simp;omega⟩
theorem cH {w:World}{c:Adz.Cmd}{av iv rv fv tv:Value} (d:Deep w c av iv rv fv tv):(∃a n k,av=.slice a n k)∧(∃a n k,iv=.slice a n k)∧(∃a n k,rv=.slice a n k)∧(∃a n k,fv=.slice a n k)∧(∃a n k,tv=.slice a n k):=by
 obtain⟨jw,a1,_⟩:=d.a;obtain⟨gI,i1,_⟩:=d.i;obtain⟨x0,y0,e0⟩:=ak a1;obtain⟨x1,y1,e1⟩:=ak i1;obtain⟨x2,y2,e2⟩:=ak d.r;obtain⟨x3,y3,e3⟩:=ak d.f;obtain⟨x4,y4,e4⟩:=ak d.t;exact⟨⟨_,_,_,e0⟩,⟨_,_,_,e1⟩,⟨_,_,_,e2⟩,⟨_,_,_,e3⟩,⟨_,_,_,e4⟩⟩
theorem yT (w:World):Deep w {} (.slice none 0 0) (.slice none 0 0) (.slice none 0 0) (.slice none 0 0) (.slice none 0 0):=
 ⟨⟨[],World.ownsRow_nil _ _ _ _,trivial⟩,⟨[],World.ownsRow_nil _ _ _ _,trivial⟩,World.ownsRow_nil _ _ _ _,World.ownsRow_nil _ _ _ _,World.ownsRow_nil _ _ _ _⟩
end
section
open Go.RowKit
theorem kI:(Tryz.prog.info? 21).map (fun i=>(i.zero,i.size,i.bytes))=some (some (.int .i32 0),1,4):=by kernel_rfl
structure Dec (s:ByteArray) (L pl:List Int):Prop where
 len:pl.length=L.length+1
 zero:Adz.place pl 0=0
 last:Adz.place pl L.length=s.size
 step:∀k,k<L.length→∃p q:Nat,Adz.place pl k=p∧Adz.place pl (k+1)=q∧p<s.size∧((Utf8.decode s p).1:Int)=Adz.peek L k∧p+(Utf8.decode s p).2=q
 small:s.size≤500
 few:L.length≤500
 good:∀k,k<L.length→0≤Adz.peek L k∧Adz.peek L k≤1114111∧Adz.peek L k≠65533∧Lib.validRune (Adz.peek L k)=true
structure NewSt (s:ByteArray) (L pl:List Int) (c ib base:Nat) (w:World) (ki kr kp:Nat):Prop where
 it:w.heap[ib]? =some (.stringIter s (Adz.place pl ki).toNat)
 r:∃rv,w.cell? ⟨c,0,none⟩=some rv∧w.ownsRow base 21 1 rv kr ((L.take kr).map (Value.int .i32))
 p:∃pv,w.cell? ⟨c,1,none⟩=some pv∧w.ownsRow base 3 1 pv kp ((pl.take kp).map (Value.int .i64))
 c2:w.cell? ⟨c,2,none⟩=some (.int .i64 0)
 f0:w.frozen? ⟨c,0,none⟩=false
 f1:w.frozen? ⟨c,1,none⟩=false
 f2:w.frozen? ⟨c,2,none⟩=false
 tc:aq w c 144
 bs:base≤w.heap.size
 cb:c<base
 ibb:ib<base
theorem gW {w:World}{b m:Nat}{T:TypeId}{s:ByteArray}{n:Nat} (t:aq w b T) (h:w.heap[m]? =some (.stringIter s n)):b≠m:=fun e=>by
 obtain⟨c,f,t⟩:=t;rw[e,h] at t
 cases t
theorem NewSt.next {s:ByteArray}{L pl:List Int}{c ib base:Nat}{w:World}{k kr kp:Nat} (h:NewSt s L pl c ib base w k kr kp) (k':Nat):NewSt s L pl c ib base (w.iterAt ib s (Adz.place pl k').toNat) k' kr kp:=by
 obtain⟨rv,r1,r2⟩:=h.r;obtain⟨pv,p1,p2⟩:=h.p;have o:=dA w ib s (Adz.place pl k').toNat;have n0:¬c=ib:=gW h.tc h.it;exact⟨Lib.iterAt_heap w ib s _ _ h.it,⟨rv,o.keeps r1 n0,ag r2 o (fun b hb=>gW (aq.of_row r2 hb) h.it)⟩,⟨pv,o.keeps p1 n0,ag p2 o (fun b hb=>gW (aq.of_row p2 hb) h.it)⟩,o.keeps h.c2 n0,o.keepsFrozen r1 h.f0 n0,o.keepsFrozen p1 h.f1 n0,o.keepsFrozen h.c2 h.f2 n0,h.tc.keeps o n0,Nat.le_trans h.bs o.size,h.cb,h.ibb⟩
theorem NewSt.rune {s:ByteArray}{L pl:List Int}{c ib base:Nat}{w w':World}{k kr kr' kp:Nat} (h:NewSt s L pl c ib base w k kr kp) {rv v':Value} (hr:w.cell? ⟨c,0,none⟩=some rv)
 (q1:w'.cell? ⟨c,0,none⟩=some v') (q2:w'.ownsRow base 21 1 v' kr' ((L.take kr').map (Value.int .i32))) (q3:ae (fun b=>b=c∨rv.ownBlock=some b) w w') (q4:Field c 0 w w'):NewSt s L pl c ib base w' k kr' kp:=by
 obtain⟨Xh,r1,r2⟩:=h.r;rw[hr] at r1
 cases r1
 obtain⟨pv,p1,p2⟩:=h.p;refine⟨(q3.block ib (Array.getElem?_eq_some_iff.1 h.it).1 ?_).trans h.it,⟨v',q1,q2⟩,⟨pv,(q4.others 1 (by decide)).trans p1,ag p2 q3 (fun b hb=> ?_)⟩,(q4.others 2 (by decide)).trans h.c2,(q4.frozen 0).trans h.f0,(q4.frozen 1).trans h.f1,(q4.frozen 2).trans h.f2,q4.typ _ h.tc,Nat.le_trans h.bs q3.size,h.cb,h.ibb⟩
 ·rintro(e | e)
  ·exact gW h.tc h.it e.symm
  ·exact gW (aq.of_row r2 e) h.it rfl
 ·rintro(e | e)
  ·exact(aq.of_row p2 hb).ne h.tc (by decide) e
  ·exact aG r2 (aq.of_row p2 hb) (by decide) e
theorem NewSt.place {s:ByteArray}{L pl:List Int}{c ib base:Nat}{w w':World}{k kr kp kp':Nat} (h:NewSt s L pl c ib base w k kr kp) {pv v':Value} (hr:w.cell? ⟨c,1,none⟩=some pv)
 (q1:w'.cell? ⟨c,1,none⟩=some v') (q2:w'.ownsRow base 3 1 v' kp' ((pl.take kp').map (Value.int .i64))) (q3:ae (fun b=>b=c∨pv.ownBlock=some b) w w') (q4:Field c 1 w w'):NewSt s L pl c ib base w' k kr kp':=by
 obtain⟨Xb,p1,p2⟩:=h.p;rw[hr] at p1
 cases p1
 obtain⟨rv,r1,r2⟩:=h.r;refine⟨(q3.block ib (Array.getElem?_eq_some_iff.1 h.it).1 ?_).trans h.it,⟨rv,(q4.others 0 (by decide)).trans r1,ag r2 q3 (fun b hb=> ?_)⟩,⟨v',q1,q2⟩,(q4.others 2 (by decide)).trans h.c2,(q4.frozen 0).trans h.f0,(q4.frozen 1).trans h.f1,(q4.frozen 2).trans h.f2,q4.typ _ h.tc,Nat.le_trans h.bs q3.size,h.cb,h.ibb⟩
 ·rintro(e | e)
  ·exact gW h.tc h.it e.symm
  ·exact gW (aq.of_row p2 e) h.it rfl
 ·rintro(e | e)
  ·exact(aq.of_row r2 hb).ne h.tc (by decide) e
  ·exact aG p2 (aq.of_row r2 hb) (by decide) e
theorem jz {L:List Int}{k:Nat} (h:k<L.length):L.take (k+1)=L.take k++ [Adz.peek L k]:=by
 rw[List.take_succ_eq_append_getElem h,Adz.peek_lt h]
theorem fM {pl:List Int}{k:Nat} (h:k<pl.length):pl.take (k+1)=pl.take k++ [Adz.place pl k]:=by
 rw[List.take_succ_eq_append_getElem h];simp[Adz.place,h]
theorem l9 {w:World}:∀ {cs:List Adz.Cmd}{xs:List Value},di w cs xs→∀j (hj:j<cs.length),xs[j*14]? =some (.int .i32 (cs[j]).what)
 | [],[],_,j,hj=>by simp at hj
 | c::cs,x0::x1::x2::x3::x4::x5::x6::x7::x8::x9::ke::kg::jG::jH::xs,h,0,_=>by
  obtain⟨⟨av,iv,rv,fv,tv,e,d⟩,r⟩:=h;have:x0=.int .i32 c.what:=(List.cons.inj e).1;simp[this]
 | c::cs,x0::x1::x2::x3::x4::x5::x6::x7::x8::x9::ke::kg::jG::jH::xs,h,j+1,hj=>by
  have:=l9 h.2 j (by simpa using hj);have e:(j+1)*14=j*14+1+1+1+1+1+1+1+1+1+1+1+1+1+1:=by omega
  rw[e];simpa using this
structure OneS (L pl:List Int) (c:Adz.Cmd):Prop where
 first:Adz.peek L 0=115
 cmd:Adz.command L pl ⟨0,[],[],[]⟩=.ok ⟨L.length,[c],[],[]⟩
def vV (w:World) (pb:Nat) (cs:List Adz.Cmd):Prop:=∃qv xs,w.cell? ⟨pb,0,none⟩=some qv∧w.ownsRow 0 167 14 qv cs.length xs∧di w cs xs∧aq w pb 101
theorem Par.start {g:CG}{w0:World} (h:Cur g w0 0) (mb lb:Nat) (hm:iF w0 mb) (hl:w0.heap[lb]? =some (.map #[] 0)) (zq:w0.heap.size≤lb+1):
 Par g w0.heap.size w0.heap.size (w0.alloc (.cells #[.pointer (some ⟨g.c,0,none⟩),.map (some mb),.slice none 0 0,.slice none 0 0,.map (some lb)] 119)) ⟨0,[],[],[]⟩:=by
 have hk:=ai.new w0 #[.pointer (some ⟨g.c,0,none⟩),.map (some mb),.slice none 0 0,.slice none 0 0,.map (some lb)] 119;have cR:=h.lt
 exact⟨h.alloc _,⟨(hk 0 _ rfl).1,by omega,aq.new _ _ _ _⟩,⟨mb,(hk 1 _ rfl).1,aN hm ((ae.refl (fun _=>False) w0).alloc _) id⟩,⟨_,[],(hk 2 _ rfl).1,World.ownsRow_nil _ _ _ _,trivial⟩,⟨_,(hk 3 _ rfl).1,World.ownsRow_nil _ _ _ _⟩,
  ⟨lb,zq,(hk 4 _ rfl).1,aN hl ((ae.refl (fun _=>False) w0).alloc _) id⟩,(hk 2 _ rfl).2,(hk 3 _ rfl).2,by simp,h.tp.lt,by simp⟩
structure ScriptAt (w:World) (sb:Nat) (cs:List Adz.Cmd):Prop where
 typ:aq w sb 67
 prog:∃pb,w.cell? ⟨sb,0,none⟩=some (.pointer (some ⟨pb,0,none⟩))∧vV w pb cs
end
section
namespace Adz
def spanHas (r:Int) (s:Int×Int):Bool:=decide (s.1≤r) && decide (r≤s.2)
def has (x:Item) (r:Int):Bool:=x.spans.any (spanHas r)
def takes (x:Item) (r:Int):Bool:=if x.kind==4 then true else if x.kind==5 then has x r else if x.kind==6 then !has x r else false
def takesMany (x:Item):Bool:=x.times==1 || x.times==2
def takesNone (x:Item) (at_ n:Int):Bool:=
 if x.kind==0 then at_==0 else if x.kind==1 then at_==n else if x.kind==2 || x.kind==3 then true else x.times==1 || x.times==3
def endAt (x:Item) (r? :Option Int) (at_ n e1 b1 b0:Int):Int:=
 let none_:=if takesNone x at_ n && b0 != -1 then at_ else -1
 match r? with
 | some r=>if takes x r then (if takesMany x && e1 != -1 then e1 else if b1 != -1 then at_+1 else none_) else none_
 | none=>none_
end Adz
end
section
open Go.RowKit
structure ItemAt (w:World) (ib o:Nat) (x:Adz.Item):Prop where
 kind:w.cell? ⟨ib,o,none⟩=some (.int .i64 x.kind)
 spans:∃sa sc,w.cell? ⟨ib,o+2,none⟩=some (.slice sa x.spans.length sc)∧cQ w (.slice sa x.spans.length sc) x.spans
 times:w.cell? ⟨ib,o+3,none⟩=some (.int .i64 x.times)
 few:x.spans.length≤1000
theorem ItemAt.keeps {S:Nat→Prop}{w w':World}{ib o:Nat}{x:Adz.Item} (h:ItemAt w ib o x) (u:ae S w w') (h1:¬S ib) (h2:∀b,aq w b 284→¬S b):ItemAt w' ib o x:=by
 obtain⟨sa,sc,s1,s2⟩:=h.spans;exact⟨u.keeps h.kind h1,⟨sa,sc,u.keeps s1 h1,s2.keeps u h2⟩,u.keeps h.times h1,h.few⟩
theorem ItemAt.quiet {w w':World}{ib o:Nat}{x:Adz.Item} (h:ItemAt w ib o x) (u:ae (fun _=>False) w w'):ItemAt w' ib o x:=h.keeps u id (fun _ _=>id)
theorem jM (a b r:Int) (rb:Nat) (w:World) (hr:w.cell? ⟨rb,0,none⟩=some (.int .i32 r)):
 Calls Tryz.prog 235 #[.agg #[.int .i32 a,.int .i32 b],.pointer (some ⟨rb,0,none⟩)] w fun e w'=>e=.returned (.bool (Adz.spanHas r (a,b)))∧ae (fun _=>False) w w':=by
 have hl:rb<w.heap.size:=World.block_lt_of_cell? w _ hr;by_cases h:a≤r
 ·have hd:decide (a≤r)=true:=by simp[h]
  have e:Adz.spanHas r (a,b)=decide (r≤b):=by simp[Adz.spanHas,h]
  rw[e];go_enter Tryz.func235,Tryz.ntmps235;go_wp2;go_ret;exact⟨rfl,(ae.refl _ w).alloc _⟩
 ·have hd:decide (a≤r)=false:=by simp[h]
  have e:Adz.spanHas r (a,b)=false:=by simp[Adz.spanHas,h]
  rw[e];go_enter Tryz.func235,Tryz.ntmps235;go_wp2;go_ret;exact⟨rfl,(ae.refl _ w).alloc _⟩
theorem nh (sp:List (Int×Int)) (sa:Option Addr) (sc:Nat) (r:Int) (rb:Nat) (w:World) (hs:cQ w (.slice sa sp.length sc) sp) (hn:sp.length≤1000) (hr:w.cell? ⟨rb,0,none⟩=some (.int .i32 r)):
 Calls Tryz.prog 239 #[.slice sa sp.length sc,.func (.func 235) #[] #[.pointer (some ⟨rb,0,none⟩)]] w fun e w'=>∃v:Int,e=.returned (.int .i64 v)∧decide (0≤v)=sp.any (Adz.spanHas r)∧ae (fun _=>False) w w':=by
 go_enter Tryz.func239,Tryz.ntmps239;go_wp2_with fail
 go_loopg [8] sp.length (fun k v wr=>∃j:Nat,v=.int .i64 j∧j+k=sp.length∧Hid ((sp.take j).any (Adz.spanHas r)=false)∧Hid (ae (fun _=>False) w wr))
 case atStart=>exact ⟨0,rfl,by omega,by show(List.take 0 sp).any _=false;simp,ae.refl _ _⟩
 case round=>
  obtain⟨j,rfl,jt,hA,hO⟩:=hrel;have bQ:ae (fun _=>False) w wr:=hO;have HJ:Hid (j+gk=sp.length):=jt;have mi:j≤sp.length:=by omega
  clear hO jt;by_cases aw:j<sp.length
  ·obtain⟨a',c',e',hb⟩:=hs
   simp at e';obtain⟨rfl,rfl⟩:=e';obtain⟨b,rfl,tb,hc⟩:=hb (by intro e;simp[e] at aw);obtain⟨x1,x2⟩:=hc j aw;have y1:=bQ.keeps x1 id;have y2:=bQ.keeps x2 id;have yr:=bQ.keeps hr id;rw[Nat.mul_comm] at y1 y2;have hg:sp[j]'aw=sp.getD j (0,0):=by simp[aw]
   have dR:(sp.take (j+1)).any (Adz.spanHas r)=((sp.take j).any (Adz.spanHas r) || Adz.spanHas r (sp.getD j (0,0))):=by
    rw[List.take_succ_eq_append_getElem aw,List.any_append,hg];simp
   have lB:sp.any (Adz.spanHas r)=((sp.take (j+1)).any (Adz.spanHas r) || (sp.drop (j+1)).any (Adz.spanHas r)):=by
    rw[←List.any_append,List.take_append_drop]
   rw[hA.out] at dR;generalize hp:sp.getD j (0,0)=p at*
   rcases hb:Adz.spanHas r p with _ | _
   ·have HB:Hid (Adz.spanHas r p=false):=hb
    have HT:Hid ((sp.take (j+1)).any (Adz.spanHas r)=false):=by show _=_;rw[dR,hb];rfl
    clear hb dR lB hg;have hw:IntKind.i64.wrap ((j:Int)+1)=(j:Int)+1:=by rw[IntKind.wrap_i64];omega
    go_wp2_with fail;refine(jM _ _ _ _ _ yr).mono ?_;rintro e w1 ⟨rfl,bq⟩;rw[HB.out];go_wp2;go_roundg (gk - 1)
    case measure=>have:=HJ.out;omega
    case rel=>exact ⟨j+1,by first | rfl | simp[hw],by have:=HJ.out;omega,HT,bQ.trans bq (fun _ e=>e) (fun _ _ e=>e)⟩
   ·have HB:Hid (Adz.spanHas r p=true):=hb
    have HT:Hid (sp.any (Adz.spanHas r)=true):=by show _=_;rw[lB,dR,hb];rfl
    clear hb dR lB hg;go_wp2_with fail;refine(jM _ _ _ _ _ yr).mono ?_;rintro e w1 ⟨rfl,bq⟩;rw[HB.out];go_wp2;go_ret;exact⟨_,rfl,by rw[HT.out];simp,bQ.trans bq (fun _ e=>e) (fun _ _ e=>e)⟩
  ·have he:j=sp.length:=by omega
   have QO:sp.any (Adz.spanHas r)=false:=by have:=hA.out;rw[he,List.take_length] at this;exact this
   have HA:Hid (sp.any (Adz.spanHas r)=false):=QO;subst he;clear QO hA aw;go_wp2;go_ret;exact⟨_,rfl,by rw[HA.out];simp,bQ⟩
theorem jQ (sp:List (Int×Int)) (sa:Option Addr) (sc:Nat) (r:Int) (rb:Nat) (w:World) (hs:cQ w (.slice sa sp.length sc) sp) (hn:sp.length≤1000) (hr:w.cell? ⟨rb,0,none⟩=some (.int .i32 r)):
 Calls Tryz.prog 234 #[.slice sa sp.length sc,.func (.func 235) #[] #[.pointer (some ⟨rb,0,none⟩)]] w fun e w'=>e=.returned (.bool (sp.any (Adz.spanHas r)))∧ae (fun _=>False) w w':=by
 go_enter Tryz.func234,Tryz.ntmps234;go_wp2_with fail;refine(nh sp sa sc r rb w hs hn hr).mono ?_;rintro e w1 ⟨v,rfl,hv,ho⟩;go_wp2;go_ret;exact⟨by rw[←hv];rfl,ho⟩
theorem qY (x:Adz.Item) (ib o:Nat) (r:Int) (w:World) (hx:ItemAt w ib o x):
 Calls Tryz.prog 228 #[.pointer (some ⟨ib,o,none⟩),.int .i32 r] w fun e w'=>e=.returned (.bool (Adz.has x r))∧ae (fun _=>False) w w':=by
 have hk:=hx.kind;obtain⟨sa,sc,s1,s2⟩:=hx.spans;have hl:ib<w.heap.size:=World.block_lt_of_cell? w _ hk;have bq:ae (fun _=>False) w (w.alloc (Obj.cells #[Value.int IntKind.i32 r] 21)):=(ae.refl _ w).alloc _;have s3:=s2.keeps bq (fun _ _=>id);have s4:=bq.keeps s1 id;have hr:(w.alloc (Obj.cells #[Value.int IntKind.i32 r] 21)).cell? ⟨w.heap.size,0,none⟩=some (.int .i32 r):=by simp[go_sem]
 go_enter Tryz.func228,Tryz.ntmps228;go_wp2_with fail;refine(jQ x.spans sa sc r w.heap.size _ s3 hx.few hr).mono ?_;rintro e w1 ⟨rfl,ho⟩;go_wp2;go_ret;exact⟨rfl,bq.trans ho (fun _ e=>e) (fun _ _ e=>e)⟩
theorem vB (x:Adz.Item) (ib o:Nat) (r:Int) (w:World) (hx:ItemAt w ib o x):
 Calls Tryz.prog 217 #[.pointer (some ⟨ib,o,none⟩),.int .i32 r] w fun e w'=>e=.returned (.bool (Adz.takes x r))∧ae (fun _=>False) w w':=by
 have hk:=hx.kind;have hl:ib<w.heap.size:=World.block_lt_of_cell? w _ hk;by_cases k4:x.kind=4
 ·have e:Adz.takes x r=true:=by simp[Adz.takes,k4]
  rw[e];rw[k4] at hk;go_enter Tryz.func217,Tryz.ntmps217;go_wp2;go_ret;exact⟨rfl,ae.refl _ _⟩
 by_cases k5:x.kind=5
 ·have e:Adz.takes x r=Adz.has x r:=by simp[Adz.takes,k5]
  rw[e];rw[k5] at hk;go_enter Tryz.func217,Tryz.ntmps217;go_wp2_with fail;refine(qY x ib o r w hx).mono ?_;rintro e w1 ⟨rfl,ho⟩;go_wp2;go_ret;exact⟨rfl,ho⟩
 by_cases k6:x.kind=6
 ·have e:Adz.takes x r= !Adz.has x r:=by simp[Adz.takes,k6]
  rw[e];rw[k6] at hk;go_enter Tryz.func217,Tryz.ntmps217;go_wp2_with fail;refine(qY x ib o r w hx).mono ?_;rintro e w1 ⟨rfl,ho⟩;go_wp2;go_ret;exact⟨rfl,ho⟩
 have e:Adz.takes x r=false:=by simp[Adz.takes,k4,k5,k6]
 have d4:decide (x.kind=4)=false:=by simp[k4]
 have d5:decide (x.kind=5)=false:=by simp[k5]
 have d6:decide (x.kind=6)=false:=by simp[k6]
 rw[e];go_enter Tryz.func217,Tryz.ntmps217;go_wp2;go_ret;exact⟨rfl,ae.refl _ _⟩
theorem nB (x:Adz.Item) (ib o:Nat) (w:World) (hx:ItemAt w ib o x):
 Calls Tryz.prog 218 #[.pointer (some ⟨ib,o,none⟩)] w fun e w'=>e=.returned (.bool (Adz.takesMany x))∧ae (fun _=>False) w w':=by
 have hk:=hx.times;have hl:ib<w.heap.size:=World.block_lt_of_cell? w _ hk;by_cases k1:x.times=1
 ·have e:Adz.takesMany x=true:=by simp[Adz.takesMany,k1]
  rw[e];rw[k1] at hk;go_enter Tryz.func218,Tryz.ntmps218;go_wp2;go_ret;exact⟨rfl,ae.refl _ _⟩
 have e:Adz.takesMany x=(x.times==1 || x.times==2):=rfl;have d4:decide (x.times=1)=false:=by simp[k1]
 rw[e];go_enter Tryz.func218,Tryz.ntmps218;go_wp2;go_ret;exact⟨rfl,ae.refl _ _⟩
theorem dT (x:Adz.Item) (ib o:Nat) (at_ n:Int) (w:World) (hx:ItemAt w ib o x):
 Calls Tryz.prog 219 #[.pointer (some ⟨ib,o,none⟩),.int .i64 at_,.int .i64 n] w fun e w'=>e=.returned (.bool (Adz.takesNone x at_ n))∧ae (fun _=>False) w w':=by
 have hk:=hx.kind;have ht:=hx.times;have hl:ib<w.heap.size:=World.block_lt_of_cell? w _ hk;by_cases k0:x.kind=0
 ·have e:Adz.takesNone x at_ n=decide (at_=0):=by by_cases h:at_=0 <;> simp[Adz.takesNone,k0,h]
  rw[e];rw[k0] at hk;go_enter Tryz.func219,Tryz.ntmps219;go_wp2;go_ret;exact⟨rfl,ae.refl _ _⟩
 by_cases k1:x.kind=1
 ·have e:Adz.takesNone x at_ n=decide (at_=n):=by by_cases h:at_=n <;> simp[Adz.takesNone,k1,h]
  rw[e];rw[k1] at hk;go_enter Tryz.func219,Tryz.ntmps219;go_wp2;go_ret;exact⟨rfl,ae.refl _ _⟩
 by_cases k2:x.kind=2
 ·have e:Adz.takesNone x at_ n=true:=by simp[Adz.takesNone,k2]
  rw[e];rw[k2] at hk;go_enter Tryz.func219,Tryz.ntmps219;go_wp2;go_ret;exact⟨rfl,ae.refl _ _⟩
 by_cases k3:x.kind=3
 ·have e:Adz.takesNone x at_ n=true:=by simp[Adz.takesNone,k3]
  rw[e];rw[k3] at hk;go_enter Tryz.func219,Tryz.ntmps219;go_wp2;go_ret;exact⟨rfl,ae.refl _ _⟩
 have d0:decide (x.kind=0)=false:=by simp[k0]
 have d1:decide (x.kind=1)=false:=by simp[k1]
 have d2:decide (x.kind=2)=false:=by simp[k2]
 have d3:decide (x.kind=3)=false:=by simp[k3]
 by_cases t1:x.times=1
 ·have e:Adz.takesNone x at_ n=true:=by simp[Adz.takesNone,k0,k1,k2,k3,t1]
  rw[e];rw[t1] at ht;go_enter Tryz.func219,Tryz.ntmps219;go_wp2;go_ret;exact⟨rfl,ae.refl _ _⟩
 have e:Adz.takesNone x at_ n=(x.times==1 || x.times==3):=by simp[Adz.takesNone,k0,k1,k2,k3]
 have d4:decide (x.times=1)=false:=by simp[t1]
 rw[e];go_enter Tryz.func219,Tryz.ntmps219;go_wp2;go_ret;exact⟨rfl,ae.refl _ _⟩
structure Srch (w:World) (sb:Nat) (iv sv ev:Value):Prop where
 typ:aq w sb 258
 items:w.cell? ⟨sb,0,none⟩=some iv
 space:w.cell? ⟨sb,1,none⟩=some sv
 ends:w.cell? ⟨sb,2,none⟩=some ev
 steps:∃st,w.cell? ⟨sb,3,none⟩=some (.int .i64 st)
 free:w.frozen? ⟨sb,3,none⟩=false
theorem Srch.keeps {S:Nat→Prop}{w w':World}{sb:Nat}{iv sv ev:Value} (h:Srch w sb iv sv ev) (o:ae S w w') (hs:¬S sb):Srch w' sb iv sv ev:=by
 obtain⟨st,bZ⟩:=h.steps;exact⟨h.typ.keeps o hs,o.keeps h.items hs,o.keeps h.space hs,o.keeps h.ends hs,⟨st,o.keeps bZ hs⟩,o.keepsFrozen bZ h.free hs⟩
theorem Srch.step {w:World}{sb:Nat}{iv sv ev:Value} (h:Srch w sb iv sv ev) (v:Int):Srch (w.setCell ⟨sb,3,none⟩ (.int .i64 v)) sb iv sv ev:=by
 obtain⟨st,bZ⟩:=h.steps;have hc:∀o,o≠3→(w.setCell ⟨sb,3,none⟩ (.int .i64 v)).cell? ⟨sb,o,none⟩=w.cell? ⟨sb,o,none⟩:=fun o ho=>World.cell?_setCell_other w ⟨sb,3,none⟩ ⟨sb,o,none⟩ _ (by intro h;injection h;omega);exact⟨h.typ.setCell _ _,(hc 0 (by omega)).trans h.items,(hc 1 (by omega)).trans h.space,(hc 2 (by omega)).trans h.ends,⟨v,World.cell?_setCell_same _ _ _ bZ⟩,by rw[World.frozen?_setCell];exact h.free⟩
theorem fD {w:World} (sb:Nat) (v:Int):ae (·=sb) w (w.setCell ⟨sb,3,none⟩ (.int .i64 v)):=ae.setCell (S:=(·=sb)) (p:=⟨sb,3,none⟩) (ae.refl _ w) (fun _=>rfl) _
theorem Gu (x:Adz.Item) (ib i K:Nat) (ic:Nat) (w:World) (sb ab:Nat) (rb ro rc n j:Nat) (hs:Srch w sb (.slice (some ⟨ib,0,none⟩) K ic) (.slice (some ⟨rb,ro,none⟩) n rc) (.slice (some ⟨ab,0,none⟩) (K+1) (K+1))) (hi:i<K) (hK:K≤1000) (hx:ItemAt w ib (i*4) x) (hit:aq w ib 270) (U9:aq w rb 21) (bJ:aq w ab 35)
 (hj:j<n) (hn:n≤1000000) (r:Int) (hr:w.cell? ⟨rb,ro+j,none⟩=some (.int .i32 r)) (eb bb:Nat) (Km:w.cell? ⟨ab,i,none⟩=some (.slice (some ⟨eb,0,none⟩) (n+1) (n+1))) (zg:w.cell? ⟨ab,i+1,none⟩=some (.slice (some ⟨bb,0,none⟩) (n+1) (n+1))) (Us:aq w eb 3) (Aq:aq w bb 3) (e1:Int) (he:w.cell? ⟨eb,j+1,none⟩=some (.int .i64 e1)) (b0 b1:Int) (tA:w.cell? ⟨bb,j,none⟩=some (.int .i64 b0)) (iB:w.cell? ⟨bb,j+1,none⟩=some (.int .i64 b1)):
 Calls Tryz.prog 201 #[.pointer (some ⟨sb,0,none⟩),.int .i64 i,.int .i64 j] w fun e w'=>e=.returned (.int .i64 (Adz.endAt x (some r) j n e1 b1 b0))∧ae (·=sb) w w'∧Srch w' sb (.slice (some ⟨ib,0,none⟩) K ic) (.slice (some ⟨rb,ro,none⟩) n rc) (.slice (some ⟨ab,0,none⟩) (K+1) (K+1)):=by
 have dj:decide ((j:Int)<n)=true:=by simp;omega
 have hw:IntKind.i64.wrap ((j:Int)+1)=(j:Int)+1:=by rw[IntKind.wrap_i64];omega
 have RN:IntKind.i64.wrap ((i:Int)+1)=(i:Int)+1:=by rw[IntKind.wrap_i64];omega
 have uA:(i:Int)<K:=by omega
 have uB:(i:Int)<(K:Int)+1:=by omega
 have BD:(i:Int)+1<(K:Int)+1:=by omega
 obtain⟨st,bZ⟩:=hs.steps;have n1:ib≠sb:=hit.ne hs.typ (by decide);have n2:rb≠sb:=U9.ne hs.typ (by decide);have n3:ab≠sb:=bJ.ne hs.typ (by decide);have n4:eb≠sb:=Us.ne hs.typ (by decide);have n5:bb≠sb:=Aq.ne hs.typ (by decide);have q0:=hs.items;have q1:=hs.space;have q2:=hs.ends;have q3:=hs.free;have o0:=fD (w:=w) sb (wrap64 (st+1));have s0:=hs.step (wrap64 (st+1));have x0:=hx.keeps o0 n1 (fun b hb e=>by subst e;exact absurd (hb.one hs.typ) (by decide));have r0:=o0.keeps hr n2;have Ou:=o0.keeps he n4;have Bn:=o0.keeps tA n5;have Ko:=o0.keeps iB n5;have Tj:=o0.keeps Km n3;have Ti:=o0.keeps zg n3;have p0:=s0.items;have p1:=s0.space;have p2:=s0.ends;go_enter Tryz.func201,Tryz.ntmps201;go_wp2_with fail;generalize w.setCell ⟨sb,3,none⟩ (.int .i64 (wrap64 (st+1)))=w0 at*
 clear bZ q0 q1 q2 q3 hr he tA iB Km zg hx;have fin:∀u,ae (fun _=>False) w0 u→ae (·=sb) w u∧Srch u sb (.slice (some ⟨ib,0,none⟩) K ic) (.slice (some ⟨rb,ro,none⟩) n rc) (.slice (some ⟨ab,0,none⟩) (K+1) (K+1)):=fun u hu=>⟨o0.trans hu (fun _ e=>e) (fun _ _ e=>e.elim),s0.keeps hu id⟩
 go_quiet (fail)
 go_wp2_with fail;refine(vB x ib (i*4) r _ (x0.quiet ((ae.refl _ w0).drewN _))).mono ?_;rintro e w1 ⟨rfl,BN⟩;have bq:ae (fun _=>False) w0 w1:=((ae.refl (fun _=>False) w0).drewN _).trans BN (fun _ e=>e) (fun _ _ e=>e);clear BN;have Ov:=bq.keeps Ou id;have W7:=bq.keeps p1 id;have Ui:=bq.keeps Ko id
 rcases hK:Adz.takes x r with _ | _
 ·have HK:Hid (Adz.takes x r=false):=hK
  clear hK;go_wp2_with fail;refine(dT x ib (i*4) _ _ _ (x0.quiet bq)).mono ?_;rintro e w9 ⟨rfl,FE⟩;have sr:=bq.trans FE (fun _ e=>e) (fun _ _ e=>e);have Og:=sr.keeps Bn id
  rcases hT:Adz.takesNone x j n with _ | _
  ·have HT:Hid (Adz.takesNone x j n=false):=hT
   clear hT;go_wp2;go_ret;exact⟨by simp[Adz.endAt,HK.out,HT.out],fin _ sr⟩
  ·have HT:Hid (Adz.takesNone x j n=true):=hT
   clear hT;by_cases hz:b0= -1
   ·subst hz
    go_wp2;go_ret;exact⟨by simp[Adz.endAt,HK.out,HT.out],fin _ sr⟩
   ·have dz:(b0== -1)=false:=by simp[hz]
    have ND:(b0 != -1)=true:=by simp[hz]
    have NG:decide (b0= -1)=false:=by simp[hz]
    have HZ:Hid (¬b0= -1):=hz;clear hz;go_wp2;go_ret;exact⟨by simp[Adz.endAt,HK.out,HT.out,HZ.out],fin _ sr⟩
 ·have HK:Hid (Adz.takes x r=true):=hK
  clear hK;go_wp2_with fail;refine(nB x ib (i*4) w1 (x0.quiet bq)).mono ?_;rintro e w2 ⟨rfl,aK⟩;have ph:=bq.trans aK (fun _ e=>e) (fun _ _ e=>e);have Ws:=ph.keeps Ou id;have W8:=ph.keeps p1 id;have Uj:=ph.keeps Ko id
  have tD:(Adz.takesMany x=true∧¬e1= -1)∨(Adz.takesMany x=true∧e1= -1)∨Adz.takesMany x=false:=by
   rcases Adz.takesMany x with _ | _ <;> by_cases h:e1= -1 <;> simp[h]
  by_cases eJ:b1= -1
  ·rcases tD with ⟨hM,hE⟩ |⟨hM,hE⟩ | hM
   ·have HM:Hid (Adz.takesMany x=true):=hM
    clear hM;rw[HM.out];have HE:Hid (¬e1= -1):=hE;clear hE;have NB:(e1== -1)=false:=by simp[HE.out]
    have Gn:(e1 != -1)=true:=by simp[HE.out]
    have Gp:decide (e1= -1)=false:=by simp[HE.out]
    go_wp2;go_ret;exact⟨by simp[Adz.endAt,HK.out,HM.out,HE.out],fin _ ph⟩
   ·have HM:Hid (Adz.takesMany x=true):=hM
    clear hM;rw[HM.out];have HE:Hid (e1= -1):=hE;clear hE;have NB:(e1== -1)=true:=by simp[HE.out]
    have Gn:(e1 != -1)=false:=by simp[HE.out]
    have Gp:decide (e1= -1)=true:=by simp[HE.out]
    have oC:Hid (b1= -1):=eJ;clear eJ;have NF:(b1== -1)=true:=by simp[oC.out]
    have Gq:(b1 != -1)=false:=by simp[oC.out]
    have Gr:decide (b1= -1)=true:=by simp[oC.out]
    go_wp2_with fail;refine(dT x ib (i*4) _ _ _ (x0.quiet ph)).mono ?_;rintro e w9 ⟨rfl,FE⟩;have sr:=ph.trans FE (fun _ e=>e) (fun _ _ e=>e);have Og:=sr.keeps Bn id
    rcases hT:Adz.takesNone x j n with _ | _
    ·have HT:Hid (Adz.takesNone x j n=false):=hT
     clear hT;go_wp2;go_ret;exact⟨by simp[Adz.endAt,HK.out,HM.out,oC.out,HE.out,HT.out],fin _ sr⟩
    ·have HT:Hid (Adz.takesNone x j n=true):=hT
     clear hT;by_cases hz:b0= -1
     ·subst hz
      go_wp2;go_ret;exact⟨by simp[Adz.endAt,HK.out,HM.out,oC.out,HE.out,HT.out],fin _ sr⟩
     ·have dz:(b0== -1)=false:=by simp[hz]
      have ND:(b0 != -1)=true:=by simp[hz]
      have NG:decide (b0= -1)=false:=by simp[hz]
      have HZ:Hid (¬b0= -1):=hz;clear hz;go_wp2;go_ret;exact⟨by simp[Adz.endAt,HK.out,HM.out,oC.out,HE.out,HT.out,HZ.out],fin _ sr⟩
   ·have HM:Hid (Adz.takesMany x=false):=hM
    clear hM;rw[HM.out];have oC:Hid (b1= -1):=eJ;clear eJ;have NF:(b1== -1)=true:=by simp[oC.out]
    have Gq:(b1 != -1)=false:=by simp[oC.out]
    have Gr:decide (b1= -1)=true:=by simp[oC.out]
    go_wp2_with fail;refine(dT x ib (i*4) _ _ _ (x0.quiet ph)).mono ?_;rintro e w9 ⟨rfl,FE⟩;have sr:=ph.trans FE (fun _ e=>e) (fun _ _ e=>e);have Og:=sr.keeps Bn id
    rcases hT:Adz.takesNone x j n with _ | _
    ·have HT:Hid (Adz.takesNone x j n=false):=hT
     clear hT;go_wp2;go_ret;exact⟨by simp[Adz.endAt,HK.out,HM.out,oC.out,HT.out],fin _ sr⟩
    ·have HT:Hid (Adz.takesNone x j n=true):=hT
     clear hT;by_cases hz:b0= -1
     ·subst hz
      go_wp2;go_ret;exact⟨by simp[Adz.endAt,HK.out,HM.out,oC.out,HT.out],fin _ sr⟩
     ·have dz:(b0== -1)=false:=by simp[hz]
      have ND:(b0 != -1)=true:=by simp[hz]
      have NG:decide (b0= -1)=false:=by simp[hz]
      have HZ:Hid (¬b0= -1):=hz;clear hz;go_wp2;go_ret;exact⟨by simp[Adz.endAt,HK.out,HM.out,oC.out,HT.out,HZ.out],fin _ sr⟩
  ·rcases tD with ⟨hM,hE⟩ |⟨hM,hE⟩ | hM
   ·have HM:Hid (Adz.takesMany x=true):=hM
    clear hM;rw[HM.out];have HE:Hid (¬e1= -1):=hE;clear hE;have NB:(e1== -1)=false:=by simp[HE.out]
    have Gn:(e1 != -1)=true:=by simp[HE.out]
    have Gp:decide (e1= -1)=false:=by simp[HE.out]
    go_wp2;go_ret;exact⟨by simp[Adz.endAt,HK.out,HM.out,HE.out],fin _ ph⟩
   ·have HM:Hid (Adz.takesMany x=true):=hM
    clear hM;rw[HM.out];have HE:Hid (e1= -1):=hE;clear hE;have NB:(e1== -1)=true:=by simp[HE.out]
    have Gn:(e1 != -1)=false:=by simp[HE.out]
    have Gp:decide (e1= -1)=true:=by simp[HE.out]
    have oC:Hid (¬b1= -1):=eJ;clear eJ;have NF:(b1== -1)=false:=by simp[oC.out]
    have Gq:(b1 != -1)=true:=by simp[oC.out]
    have Gr:decide (b1= -1)=false:=by simp[oC.out]
    go_wp2;go_ret;exact⟨by simp[Adz.endAt,HK.out,HM.out,oC.out,HE.out],fin _ ph⟩
   ·have HM:Hid (Adz.takesMany x=false):=hM
    clear hM;rw[HM.out];have oC:Hid (¬b1= -1):=eJ;clear eJ;have NF:(b1== -1)=false:=by simp[oC.out]
    have Gq:(b1 != -1)=true:=by simp[oC.out]
    have Gr:decide (b1= -1)=false:=by simp[oC.out]
    go_wp2;go_ret;exact⟨by simp[Adz.endAt,HK.out,HM.out,oC.out],fin _ ph⟩
theorem Gt (x:Adz.Item) (ib i K:Nat) (ic:Nat) (w:World) (sb ab:Nat) (ra:Option Addr) (rc j:Nat) (hs:Srch w sb (.slice (some ⟨ib,0,none⟩) K ic) (.slice ra j rc) (.slice (some ⟨ab,0,none⟩) (K+1) (K+1))) (hi:i<K) (hK:K≤1000) (hx:ItemAt w ib (i*4) x) (hit:aq w ib 270) (bJ:aq w ab 35)
 (hn:j≤1000000) (eb bb:Nat) (Km:w.cell? ⟨ab,i,none⟩=some (.slice (some ⟨eb,0,none⟩) (j+1) (j+1))) (zg:w.cell? ⟨ab,i+1,none⟩=some (.slice (some ⟨bb,0,none⟩) (j+1) (j+1))) (Aq:aq w bb 3) (e1 b1:Int) (b0:Int) (tA:w.cell? ⟨bb,j,none⟩=some (.int .i64 b0)):
 Calls Tryz.prog 201 #[.pointer (some ⟨sb,0,none⟩),.int .i64 i,.int .i64 j] w fun e w'=>e=.returned (.int .i64 (Adz.endAt x none j j e1 b1 b0))∧ae (·=sb) w w'∧Srch w' sb (.slice (some ⟨ib,0,none⟩) K ic) (.slice ra j rc) (.slice (some ⟨ab,0,none⟩) (K+1) (K+1)):=by
 have dj:decide ((j:Int)<j)=false:=by simp
 have RN:IntKind.i64.wrap ((i:Int)+1)=(i:Int)+1:=by rw[IntKind.wrap_i64];omega
 have uA:(i:Int)<K:=by omega
 have uB:(i:Int)<(K:Int)+1:=by omega
 have BD:(i:Int)+1<(K:Int)+1:=by omega
 obtain⟨st,bZ⟩:=hs.steps;have n1:ib≠sb:=hit.ne hs.typ (by decide);have n3:ab≠sb:=bJ.ne hs.typ (by decide);have n5:bb≠sb:=Aq.ne hs.typ (by decide);have q0:=hs.items;have q1:=hs.space;have q2:=hs.ends;have q3:=hs.free;have o0:=fD (w:=w) sb (wrap64 (st+1));have s0:=hs.step (wrap64 (st+1));have x0:=hx.keeps o0 n1 (fun b hb e=>by subst e;exact absurd (hb.one hs.typ) (by decide));have Bn:=o0.keeps tA n5;have Tj:=o0.keeps Km n3;have Ti:=o0.keeps zg n3;have p0:=s0.items;have p1:=s0.space;have p2:=s0.ends;go_enter Tryz.func201,Tryz.ntmps201;go_wp2_with fail;generalize w.setCell ⟨sb,3,none⟩ (.int .i64 (wrap64 (st+1)))=w0 at*
 clear bZ q0 q1 q2 q3 tA Km zg hx;have fin:∀u,ae (fun _=>False) w0 u→ae (·=sb) w u∧Srch u sb (.slice (some ⟨ib,0,none⟩) K ic) (.slice ra j rc) (.slice (some ⟨ab,0,none⟩) (K+1) (K+1)):=fun u hu=>⟨o0.trans hu (fun _ e=>e) (fun _ _ e=>e.elim),s0.keeps hu id⟩
 go_quiet (fail)
 go_wp2_with fail;refine(dT x ib (i*4) _ _ _ (x0.quiet ((ae.refl _ w0).drewN _))).mono ?_;rintro e w9 ⟨rfl,FE⟩;have sr:ae (fun _=>False) w0 w9:=((ae.refl (fun _=>False) w0).drewN _).trans FE (fun _ e=>e) (fun _ _ e=>e);clear FE;have Og:=sr.keeps Bn id
 rcases hT:Adz.takesNone x j j with _ | _
 ·have HT:Hid (Adz.takesNone x j j=false):=hT
  clear hT;go_wp2;go_ret;exact⟨by simp[Adz.endAt,HT.out],fin _ sr⟩
 ·have HT:Hid (Adz.takesNone x j j=true):=hT
  clear hT;by_cases hz:b0= -1
  ·subst hz
   go_wp2;go_ret;exact⟨by simp[Adz.endAt,HT.out],fin _ sr⟩
  ·have dz:(b0== -1)=false:=by simp[hz]
   have ND:(b0 != -1)=true:=by simp[hz]
   have NG:decide (b0= -1)=false:=by simp[hz]
   have HZ:Hid (¬b0= -1):=hz;clear hz;go_wp2;go_ret;exact⟨by simp[Adz.endAt,HT.out,HZ.out],fin _ sr⟩
end
end Go.Proofs.YtbiobhghnldckaaGreatDoor
