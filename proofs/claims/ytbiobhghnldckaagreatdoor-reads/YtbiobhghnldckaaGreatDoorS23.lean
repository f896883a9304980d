/- Proved: a head is read, whatever stands in it. Conditions: the cursor lies in memory as 'Cur' says, the parser leads to it. -/
import Derived.Test.YtbiobhghnldckaaGreatDoorS22
namespace Go.Proofs.YtbiobhghnldckaaGreatDoor
set_option linter.unusedVariables false
set_option maxRecDepth 100000
set_option maxHeartbeats 6400000
section
open Go.RowKit
attribute [local go_sem ↓] Go.wp_at_zero Go.wp_at_succ
theorem gJ (g:CG) (pp i:Nat) (a:Adz.Ad) (i':Nat) (hr:Adz.address g.L g.pl i=.ok (a,i')):lf g pp i a i':=by
 unfold Adz.address at hr
 cases bJ:Adz.atAddress g.L i with
 | false=>rw [bJ] at hr;simp at hr
 | true=>
  rw[bJ] at hr;simp only[Bool.not_true,Bool.false_eq_true,if_false] at hr;by_cases oR:Adz.peek g.L i=36
  ·rw[if_pos (by simp[oR])] at hr
   simp only[Except.ok.injEq,Prod.mk.injEq] at hr;obtain⟨rfl,rfl⟩:=hr;exact tO g pp i oR
  ·rw[if_neg (by simpa using oR)] at hr
   by_cases bK:Adz.peek g.L i=47
   ·rw[if_pos (by simp[bK])] at hr
    cases hp:Adz.patRead g.L g.pl (i+1) with
    | error f=>rw [hp] at hr;cases hr
    | ok q=>
     obtain⟨p,i1⟩:=q;rw[hp] at hr;simp only[Except.ok.injEq,Prod.mk.injEq] at hr;obtain⟨rfl,rfl⟩:=hr;exact fun w cb B cg h1 h2 h3 h4 h5=>tQ g pp cb B w i h1 h2 cg h3 h4 h5 bK p i1 hp
   ·rw[if_neg (by simpa using bK)] at hr
    have hd:Adz.isDigit (Adz.peek g.L i)=true:=by
     unfold Adz.atAddress at bJ;simp only[Bool.or_eq_true,beq_iff_eq] at bJ
     rcases bJ with (h | h) | h
     ·exact h
     ·exact absurd h oR
     ·exact absurd h bK
    cases hn:Adz.number g.L g.pl i with
    | error f=>rw [hn] at hr;cases hr
    | ok q=>
     obtain⟨n,i1⟩:=q;rw[hn] at hr;simp only[Except.ok.injEq,Prod.mk.injEq] at hr;obtain⟨rfl,rfl⟩:=hr;exact vX g pp i hd n i1 hn
theorem tS (g:CG) (pp i:Nat) (cg:List Adz.Ad) (i':Nat) (hr:Adz.addresses g.L g.pl i=.ok (cg,i')):rE g pp i cg i':=by
 unfold Adz.addresses at hr
 cases ha:Adz.address g.L g.pl i with
 | error f=>rw [ha] at hr;cases hr
 | ok q=>
  obtain⟨a,i1⟩:=q;rw[ha] at hr;simp only at hr;by_cases mV:Adz.peek g.L i1=44
  ·rw[if_pos (by simp[mV])] at hr
   cases hb:Adz.address g.L g.pl (Adz.blanks g.L (i1+1)) with
   | error f=>rw [hb] at hr;cases hr
   | ok q=>
    obtain⟨b,i2⟩:=q;rw[hb] at hr;simp only[Except.ok.injEq,Prod.mk.injEq] at hr;obtain⟨rfl,rfl⟩:=hr;exact tU g pp i a b i1 i2 (gJ g pp i a i1 ha) mV (gJ g pp _ b i2 hb)
  ·rw[if_neg (by simpa using mV)] at hr
   simp only[Except.ok.injEq,Prod.mk.injEq] at hr;obtain⟨rfl,rfl⟩:=hr;exact tT g pp i a i1 (gJ g pp i a i1 ha) mV
theorem sh (g:CG) (pp i:Nat) (cg:List Adz.Ad) (i1:Nat) (hA:rE g pp i cg i1) (bJ:Adz.atAddress g.L i=true) (hn:Adz.peek g.L i1≠33):fZ g pp i {addrs:=cg} i1:=fun w h hp=>by
 have q0:=hp.at0;have Ip:=hp.ne;have eX:pp<w.heap.size:=hp.lt;go_enter Tryz.func100,Tryz.ntmps100;go_wp2_with fail
 have gC:HeadAt ((w.alloc (.cells #[.int .i32 0,.slice none 0 0,.bool false,.string ⟨#[]⟩,.string ⟨#[]⟩,.int .i64 0,.slice none 0 0,.int .i64 0,.slice none 0 0,.bool false,.bool false,.int .i64 0,.slice none 0 0,.slice none 0 0] 167)).alloc (.cells #[.int .i32 0,.slice none 0 0,.bool false,.string ⟨#[]⟩,.string ⟨#[]⟩,.int .i64 0,.slice none 0 0,.int .i64 0,.slice none 0 0,.bool false,.bool false,.int .i64 0,.slice none 0 0,.slice none 0 0] 167)) (w.heap.size+1) (w.heap.size+1) []:=by
  have t:=aq.new (w.alloc (.cells #[.int .i32 0,.slice none 0 0,.bool false,.string ⟨#[]⟩,.string ⟨#[]⟩,.int .i64 0,.slice none 0 0,.int .i64 0,.slice none 0 0,.bool false,.bool false,.int .i64 0,.slice none 0 0,.slice none 0 0] 167)) #[.int .i32 0,.slice none 0 0,.bool false,.string ⟨#[]⟩,.string ⟨#[]⟩,.int .i64 0,.slice none 0 0,.int .i64 0,.slice none 0 0,.bool false,.bool false,.int .i64 0,.slice none 0 0,.slice none 0 0] 167 (0,0);have k:=ai.new (w.alloc (.cells #[.int .i32 0,.slice none 0 0,.bool false,.string ⟨#[]⟩,.string ⟨#[]⟩,.int .i64 0,.slice none 0 0,.int .i64 0,.slice none 0 0,.bool false,.bool false,.int .i64 0,.slice none 0 0,.slice none 0 0] 167)) #[.int .i32 0,.slice none 0 0,.bool false,.string ⟨#[]⟩,.string ⟨#[]⟩,.int .i64 0,.slice none 0 0,.int .i64 0,.slice none 0 0,.bool false,.bool false,.int .i64 0,.slice none 0 0,.slice none 0 0] 167;simp only[World.size_alloc] at t k;exact⟨t,.slice none 0 0,[],k,World.ownsRow_nil _ _ _ _,trivial⟩
 have tR:aq ((w.alloc (.cells #[.int .i32 0,.slice none 0 0,.bool false,.string ⟨#[]⟩,.string ⟨#[]⟩,.int .i64 0,.slice none 0 0,.int .i64 0,.slice none 0 0,.bool false,.bool false,.int .i64 0,.slice none 0 0,.slice none 0 0] 167)).alloc (.cells #[.int .i32 0,.slice none 0 0,.bool false,.string ⟨#[]⟩,.string ⟨#[]⟩,.int .i64 0,.slice none 0 0,.int .i64 0,.slice none 0 0,.bool false,.bool false,.int .i64 0,.slice none 0 0,.slice none 0 0] 167)) w.heap.size 167:=(aq.new w _ _ (0,0)).alloc _;have kR:ai ((w.alloc (.cells #[.int .i32 0,.slice none 0 0,.bool false,.string ⟨#[]⟩,.string ⟨#[]⟩,.int .i64 0,.slice none 0 0,.int .i64 0,.slice none 0 0,.bool false,.bool false,.int .i64 0,.slice none 0 0,.slice none 0 0] 167)).alloc (.cells #[.int .i32 0,.slice none 0 0,.bool false,.string ⟨#[]⟩,.string ⟨#[]⟩,.int .i64 0,.slice none 0 0,.int .i64 0,.slice none 0 0,.bool false,.bool false,.int .i64 0,.slice none 0 0,.slice none 0 0] 167)) w.heap.size [.int .i32 0,.slice none 0 0,.bool false,.string ⟨#[]⟩,.string ⟨#[]⟩,.int .i64 0,.slice none 0 0,.int .i64 0,.slice none 0 0,.bool false,.bool false,.int .i64 0,.slice none 0 0,.slice none 0 0]:=(ai.new w _ _).alloc _;have oa:ae (fun _=>False) w ((w.alloc (.cells #[.int .i32 0,.slice none 0 0,.bool false,.string ⟨#[]⟩,.string ⟨#[]⟩,.int .i64 0,.slice none 0 0,.int .i64 0,.slice none 0 0,.bool false,.bool false,.int .i64 0,.slice none 0 0,.slice none 0 0] 167)).alloc (.cells #[.int .i32 0,.slice none 0 0,.bool false,.string ⟨#[]⟩,.string ⟨#[]⟩,.int .i64 0,.slice none 0 0,.int .i64 0,.slice none 0 0,.bool false,.bool false,.int .i64 0,.slice none 0 0,.slice none 0 0] 167)):=((ae.refl _ w).alloc _).alloc _
 have h0:=(h.alloc (.cells #[.int .i32 0,.slice none 0 0,.bool false,.string ⟨#[]⟩,.string ⟨#[]⟩,.int .i64 0,.slice none 0 0,.int .i64 0,.slice none 0 0,.bool false,.bool false,.int .i64 0,.slice none 0 0,.slice none 0 0] 167)).alloc (.cells #[.int .i32 0,.slice none 0 0,.bool false,.string ⟨#[]⟩,.string ⟨#[]⟩,.int .i64 0,.slice none 0 0,.int .i64 0,.slice none 0 0,.bool false,.bool false,.int .i64 0,.slice none 0 0,.slice none 0 0] 167);have l0:=(hp.alloc (.cells #[.int .i32 0,.slice none 0 0,.bool false,.string ⟨#[]⟩,.string ⟨#[]⟩,.int .i64 0,.slice none 0 0,.int .i64 0,.slice none 0 0,.bool false,.bool false,.int .i64 0,.slice none 0 0,.slice none 0 0] 167)).alloc (.cells #[.int .i32 0,.slice none 0 0,.bool false,.string ⟨#[]⟩,.string ⟨#[]⟩,.int .i64 0,.slice none 0 0,.int .i64 0,.slice none 0 0,.bool false,.bool false,.int .i64 0,.slice none 0 0,.slice none 0 0] 167);have c1:=eS g pp _ i h0 l0 bJ;generalize ((w.alloc (.cells #[.int .i32 0,.slice none 0 0,.bool false,.string ⟨#[]⟩,.string ⟨#[]⟩,.int .i64 0,.slice none 0 0,.int .i64 0,.slice none 0 0,.bool false,.bool false,.int .i64 0,.slice none 0 0,.slice none 0 0] 167)).alloc (.cells #[.int .i32 0,.slice none 0 0,.bool false,.string ⟨#[]⟩,.string ⟨#[]⟩,.int .i64 0,.slice none 0 0,.int .i64 0,.slice none 0 0,.bool false,.bool false,.int .i64 0,.slice none 0 0,.slice none 0 0] 167))=wa at*
 have cR:=h.lt;refine c1.mono ?_;rintro e w1 ⟨rfl,n1,da⟩;have o1:ae (·=g.c) wa w1:=by rw[da];exact(ae.refl _ wa).drewN n1
 have h1:Cur g w1 i:=by rw[da];exact h0.drewN n1
 have l1:=l0.moved o1;have bM:w.heap.size+1≠g.c:=by omega
 have nZ:w.heap.size≠g.c:=by omega
 have m1:=gC.keeps o1 h0.spares bM;have FY:=kR.keeps o1 nZ;have Cw:=tR.keeps o1 nZ;clear da c1 gC kR tR;go_wp2_with fail;refine(hA w1 (w.heap.size+1) (w.heap.size+1) h1 l1 m1 (Nat.le_refl _) (by omega)).mono ?_;rintro e w2 ⟨rfl,m2,h2,o2⟩;have iU:=FY.keeps o2 (by omega);have Jn:=Cw.keeps o2 (by omega);have l2:=l1.keeps o2 (by omega);have q2:=l2.at0;go_wp2_with fail;refine(aH g w2 i1 33 h2 hn).mono ?_;rintro e w3 ⟨rfl,n3,Av⟩;have o3:ae (·=g.c) w2 w3:=by rw[Av];exact(ae.refl _ w2).drewN n3
 have h3:Cur g w3 i1:=by rw[Av];exact h2.drewN n3
 have m3:=m2.keeps o3 h2.spares bM;have cJ:=iU.keeps o3 nZ;have Ls:=Jn.keeps o3 nZ;clear Av;obtain⟨av,jw,kc,cD,hit⟩:=m3.cells;obtain⟨aa,ac,rfl⟩:=ak cD;have k1:=fj (W0:=w3) (.int .i32 0) (.slice aa cg.length ac) (.bool false) (.string ⟨#[]⟩) (.string ⟨#[]⟩) (.int .i64 0) (.slice none 0 0) (.int .i64 0) (.slice none 0 0) (.bool false) (.bool false) (.int .i64 0) (.slice none 0 0) (.slice none 0 0) cJ;have o4:=fL w3 w.heap.size (.int .i32 0) (.slice aa cg.length ac) (.bool false) (.string ⟨#[]⟩) (.string ⟨#[]⟩) (.int .i64 0) (.slice none 0 0) (.int .i64 0) (.slice none 0 0) (.bool false) (.bool false) (.int .i64 0) (.slice none 0 0) (.slice none 0 0);have Gc:Hid _:=k1;have xE:Hid _:=o4;clear k1 o4;have y0:=(kc 0 _ rfl).1;have z0:=(cJ 0 _ rfl).1;have u0:=(cJ 0 _ rfl).2;have y1:=(kc 1 _ rfl).1;have z1:=(cJ 1 _ rfl).1;have u1:=(cJ 1 _ rfl).2;have y2:=(kc 2 _ rfl).1;have z2:=(cJ 2 _ rfl).1;have u2:=(cJ 2 _ rfl).2;have y3:=(kc 3 _ rfl).1;have z3:=(cJ 3 _ rfl).1;have u3:=(cJ 3 _ rfl).2;have y4:=(kc 4 _ rfl).1;have z4:=(cJ 4 _ rfl).1;have u4:=(cJ 4 _ rfl).2;have y5:=(kc 5 _ rfl).1;have z5:=(cJ 5 _ rfl).1;have u5:=(cJ 5 _ rfl).2;have y6:=(kc 6 _ rfl).1;have z6:=(cJ 6 _ rfl).1;have u6:=(cJ 6 _ rfl).2;have y7:=(kc 7 _ rfl).1;have z7:=(cJ 7 _ rfl).1;have u7:=(cJ 7 _ rfl).2;have y8:=(kc 8 _ rfl).1;have z8:=(cJ 8 _ rfl).1;have u8:=(cJ 8 _ rfl).2;have y9:=(kc 9 _ rfl).1;have z9:=(cJ 9 _ rfl).1;have u9:=(cJ 9 _ rfl).2;have tH:=(kc 10 _ rfl).1
 have Qb:=(cJ 10 _ rfl).1;have u10:=(cJ 10 _ rfl).2;have pZ:=(kc 11 _ rfl).1;have Qc:=(cJ 11 _ rfl).1;have u11:=(cJ 11 _ rfl).2;have MW:=(kc 12 _ rfl).1;have z12:=(cJ 12 _ rfl).1;have u12:=(cJ 12 _ rfl).2;have MX:=(kc 13 _ rfl).1;have Qd:=(cJ 13 _ rfl).1;have u13:=(cJ 13 _ rfl).2;go_wp2;refine bodyPost_ret (v:=.tuple #[.agg #[.int .i32 0,.slice aa cg.length ac,.bool false,.string ⟨#[]⟩,.string ⟨#[]⟩,.int .i64 0,.slice none 0 0,.int .i64 0,.slice none 0 0,.bool false,.bool false,.int .i64 0,.slice none 0 0,.slice none 0 0],.pointer none]) (fB rfl rfl Gc.out) rfl ?_;have nR:∀ {b:Nat} {T:TypeId},aq w3 b T→T≠167→¬b=w.heap.size:=fun hb n1 e=>by subst e;exact n1 (hb.one Ls)
 refine⟨_,_,_,_,_,rfl,(HeadAt.deep cD hit false).keeps xE.out ⟨fun b hb=>nR hb (by decide),fun b hb=>nR hb (by decide),fun b hb=>nR hb (by decide),fun b hb=>nR hb (by decide),fun b hb=>nR hb (by decide)⟩,h3.keeps xE.out nZ.symm (fun hn=>nR (h3.tr hn) (by decide)) (nR h3.tp (by decide)),?_⟩;have yt:ae (fun b=>b=g.c∨w.heap.size+1≤b) w w2:=((oa.trans o1 (fun _ e=>e.elim) (fun _ _ e=>e):ae (·=g.c) w w1).trans o2 (fun _ e=>Or.inl e) (fun _ _ e=>e));have tF:ae (fun b=>b=g.c∨w.heap.size≤b) w w3:=yt.trans o3 (fun _ e=>by rcases e with e | e;exact Or.inl e;exact Or.inr (by omega)) (fun _ _ e=>Or.inl e);exact(tF.trans xE.out (fun _ e=>e) (fun b _ e=>Or.inr (by omega))).mono (fun b hb e=>by rcases e with e | e;exact e;omega)
theorem uw (g:CG) (pp i:Nat) (cg:List Adz.Ad) (i1:Nat) (hA:rE g pp i cg i1) (bJ:Adz.atAddress g.L i=true) (hn:Adz.peek g.L i1=33):fZ g pp i {addrs:=cg,neg:=true} (Adz.blanks g.L (i1+1)):=fun w h hp=>by
 have q0:=hp.at0;have Ip:=hp.ne;have eX:pp<w.heap.size:=hp.lt;go_enter Tryz.func100,Tryz.ntmps100;go_wp2_with fail
 have gC:HeadAt ((w.alloc (.cells #[.int .i32 0,.slice none 0 0,.bool false,.string ⟨#[]⟩,.string ⟨#[]⟩,.int .i64 0,.slice none 0 0,.int .i64 0,.slice none 0 0,.bool false,.bool false,.int .i64 0,.slice none 0 0,.slice none 0 0] 167)).alloc (.cells #[.int .i32 0,.slice none 0 0,.bool false,.string ⟨#[]⟩,.string ⟨#[]⟩,.int .i64 0,.slice none 0 0,.int .i64 0,.slice none 0 0,.bool false,.bool false,.int .i64 0,.slice none 0 0,.slice none 0 0] 167)) (w.heap.size+1) (w.heap.size+1) []:=by
  have t:=aq.new (w.alloc (.cells #[.int .i32 0,.slice none 0 0,.bool false,.string ⟨#[]⟩,.string ⟨#[]⟩,.int .i64 0,.slice none 0 0,.int .i64 0,.slice none 0 0,.bool false,.bool false,.int .i64 0,.slice none 0 0,.slice none 0 0] 167)) #[.int .i32 0,.slice none 0 0,.bool false,.string ⟨#[]⟩,.string ⟨#[]⟩,.int .i64 0,.slice none 0 0,.int .i64 0,.slice none 0 0,.bool false,.bool false,.int .i64 0,.slice none 0 0,.slice none 0 0] 167 (0,0);have k:=ai.new (w.alloc (.cells #[.int .i32 0,.slice none 0 0,.bool false,.string ⟨#[]⟩,.string ⟨#[]⟩,.int .i64 0,.slice none 0 0,.int .i64 0,.slice none 0 0,.bool false,.bool false,.int .i64 0,.slice none 0 0,.slice none 0 0] 167)) #[.int .i32 0,.slice none 0 0,.bool false,.string ⟨#[]⟩,.string ⟨#[]⟩,.int .i64 0,.slice none 0 0,.int .i64 0,.slice none 0 0,.bool false,.bool false,.int .i64 0,.slice none 0 0,.slice none 0 0] 167;simp only[World.size_alloc] at t k;exact⟨t,.slice none 0 0,[],k,World.ownsRow_nil _ _ _ _,trivial⟩
 have tR:aq ((w.alloc (.cells #[.int .i32 0,.slice none 0 0,.bool false,.string ⟨#[]⟩,.string ⟨#[]⟩,.int .i64 0,.slice none 0 0,.int .i64 0,.slice none 0 0,.bool false,.bool false,.int .i64 0,.slice none 0 0,.slice none 0 0] 167)).alloc (.cells #[.int .i32 0,.slice none 0 0,.bool false,.string ⟨#[]⟩,.string ⟨#[]⟩,.int .i64 0,.slice none 0 0,.int .i64 0,.slice none 0 0,.bool false,.bool false,.int .i64 0,.slice none 0 0,.slice none 0 0] 167)) w.heap.size 167:=(aq.new w _ _ (0,0)).alloc _;have kR:ai ((w.alloc (.cells #[.int .i32 0,.slice none 0 0,.bool false,.string ⟨#[]⟩,.string ⟨#[]⟩,.int .i64 0,.slice none 0 0,.int .i64 0,.slice none 0 0,.bool false,.bool false,.int .i64 0,.slice none 0 0,.slice none 0 0] 167)).alloc (.cells #[.int .i32 0,.slice none 0 0,.bool false,.string ⟨#[]⟩,.string ⟨#[]⟩,.int .i64 0,.slice none 0 0,.int .i64 0,.slice none 0 0,.bool false,.bool false,.int .i64 0,.slice none 0 0,.slice none 0 0] 167)) w.heap.size [.int .i32 0,.slice none 0 0,.bool false,.string ⟨#[]⟩,.string ⟨#[]⟩,.int .i64 0,.slice none 0 0,.int .i64 0,.slice none 0 0,.bool false,.bool false,.int .i64 0,.slice none 0 0,.slice none 0 0]:=(ai.new w _ _).alloc _;have oa:ae (fun _=>False) w ((w.alloc (.cells #[.int .i32 0,.slice none 0 0,.bool false,.string ⟨#[]⟩,.string ⟨#[]⟩,.int .i64 0,.slice none 0 0,.int .i64 0,.slice none 0 0,.bool false,.bool false,.int .i64 0,.slice none 0 0,.slice none 0 0] 167)).alloc (.cells #[.int .i32 0,.slice none 0 0,.bool false,.string ⟨#[]⟩,.string ⟨#[]⟩,.int .i64 0,.slice none 0 0,.int .i64 0,.slice none 0 0,.bool false,.bool false,.int .i64 0,.slice none 0 0,.slice none 0 0] 167)):=((ae.refl _ w).alloc _).alloc _
 have h0:=(h.alloc (.cells #[.int .i32 0,.slice none 0 0,.bool false,.string ⟨#[]⟩,.string ⟨#[]⟩,.int .i64 0,.slice none 0 0,.int .i64 0,.slice none 0 0,.bool false,.bool false,.int .i64 0,.slice none 0 0,.slice none 0 0] 167)).alloc (.cells #[.int .i32 0,.slice none 0 0,.bool false,.string ⟨#[]⟩,.string ⟨#[]⟩,.int .i64 0,.slice none 0 0,.int .i64 0,.slice none 0 0,.bool false,.bool false,.int .i64 0,.slice none 0 0,.slice none 0 0] 167);have l0:=(hp.alloc (.cells #[.int .i32 0,.slice none 0 0,.bool false,.string ⟨#[]⟩,.string ⟨#[]⟩,.int .i64 0,.slice none 0 0,.int .i64 0,.slice none 0 0,.bool false,.bool false,.int .i64 0,.slice none 0 0,.slice none 0 0] 167)).alloc (.cells #[.int .i32 0,.slice none 0 0,.bool false,.string ⟨#[]⟩,.string ⟨#[]⟩,.int .i64 0,.slice none 0 0,.int .i64 0,.slice none 0 0,.bool false,.bool false,.int .i64 0,.slice none 0 0,.slice none 0 0] 167);have c1:=eS g pp _ i h0 l0 bJ;generalize ((w.alloc (.cells #[.int .i32 0,.slice none 0 0,.bool false,.string ⟨#[]⟩,.string ⟨#[]⟩,.int .i64 0,.slice none 0 0,.int .i64 0,.slice none 0 0,.bool false,.bool false,.int .i64 0,.slice none 0 0,.slice none 0 0] 167)).alloc (.cells #[.int .i32 0,.slice none 0 0,.bool false,.string ⟨#[]⟩,.string ⟨#[]⟩,.int .i64 0,.slice none 0 0,.int .i64 0,.slice none 0 0,.bool false,.bool false,.int .i64 0,.slice none 0 0,.slice none 0 0] 167))=wa at*
 have cR:=h.lt;refine c1.mono ?_;rintro e w1 ⟨rfl,n1,da⟩;have o1:ae (·=g.c) wa w1:=by rw[da];exact(ae.refl _ wa).drewN n1
 have h1:Cur g w1 i:=by rw[da];exact h0.drewN n1
 have l1:=l0.moved o1;have bM:w.heap.size+1≠g.c:=by omega
 have nZ:w.heap.size≠g.c:=by omega
 have m1:=gC.keeps o1 h0.spares bM;have FY:=kR.keeps o1 nZ;have Cw:=tR.keeps o1 nZ;clear da c1 gC kR tR;go_wp2_with fail;refine(hA w1 (w.heap.size+1) (w.heap.size+1) h1 l1 m1 (Nat.le_refl _) (by omega)).mono ?_;rintro e w2 ⟨rfl,m2,h2,o2⟩;have iU:=FY.keeps o2 (by omega);have Jn:=Cw.keeps o2 (by omega);have l2:=l1.keeps o2 (by omega);have q2:=l2.at0;go_wp2_with fail;refine(aC g w2 i1 33 h2 hn (by omega)).mono ?_;rintro e wb ⟨rfl,hb,ob⟩;have mb:=m2.keeps ob h2.spares bM;have Lx:=iU.keeps ob nZ;have LY:=Jn.keeps ob nZ;have lb:=l2.moved ob;obtain⟨av,jw,kb,pq,BF⟩:=mb.cells;have jn:=(kb 2 _ rfl).1;have fn:=(kb 2 _ rfl).2;have oc:=af wb (w.heap.size+1) 2 (.bool true);have Ly:=kb.set 2 (.bool true);have PY:=mb.typ;have nC:∀ {b:Nat} {T:TypeId},aq wb b T→T≠167→¬b=w.heap.size+1:=fun hb n1 e=>by subst e;exact n1 (hb.one PY)
 have uJ:=ag pq oc (fun b hb=>nC (aq.of_row pq hb) (by decide));have GZ:=BF.keeps oc (fun b hb=>nC hb (by decide)) (fun b hb=>nC hb (by decide));have jq:=hb.keeps oc bM.symm (fun hn=>nC (hb.tr hn) (by decide)) (nC hb.tp (by decide));have lc:=lb.keeps oc (by omega);have PA:=Lx.keeps oc (by omega);have PX:=LY.keeps oc (by omega);have qc:=lc.at0;have M3:Hid (ai (wb.setCell ⟨w.heap.size+1,2,none⟩ (.bool true)) (w.heap.size+1) (aA {addrs:=cg,neg:=true} av (.slice none 0 0) (.slice none 0 0) (.slice none 0 0) (.slice none 0 0))):=Ly;clear kb Ly pq BF mb Lx LY;go_wp2_with fail;have PL:ae (fun b=>b=g.c∨w.heap.size+1≤b) w2 (wb.setCell ⟨w.heap.size+1,2,none⟩ (.bool true)):=ob.trans oc (fun _ e=>Or.inl e) (fun _ _ e=>Or.inr (by omega));generalize wb.setCell ⟨w.heap.size+1,2,none⟩ (.bool true)=wc at*
 clear jn fn oc;refine(bO g wc (i1+1) jq).mono ?_;rintro e w3 ⟨rfl,h3,kM⟩;have o3:ae (fun b=>b=g.c∨w.heap.size+1≤b) w2 w3:=PL.trans kM (fun _ e=>e) (fun _ _ e=>Or.inl e);have kc:=M3.out.keeps kM bM;have cD:=ag uJ kM (fun b hb=>(aq.of_row uJ hb).ne jq.tc (by decide));have hit:=GZ.keeps kM jq.spares.item jq.spares.span;have cJ:=PA.keeps kM nZ;have Ls:=PX.keeps kM nZ;obtain⟨aa,ac,rfl⟩:=ak cD;have k1:=fj (W0:=w3) (.int .i32 0) (.slice aa cg.length ac) (.bool true) (.string ⟨#[]⟩) (.string ⟨#[]⟩) (.int .i64 0) (.slice none 0 0) (.int .i64 0) (.slice none 0 0) (.bool false) (.bool false) (.int .i64 0) (.slice none 0 0) (.slice none 0 0) cJ;have o4:=fL w3 w.heap.size (.int .i32 0) (.slice aa cg.length ac) (.bool true) (.string ⟨#[]⟩) (.string ⟨#[]⟩) (.int .i64 0) (.slice none 0 0) (.int .i64 0) (.slice none 0 0) (.bool false) (.bool false) (.int .i64 0) (.slice none 0 0) (.slice none 0 0);have Gc:Hid _:=k1;have xE:Hid _:=o4;clear k1 o4;have y0:=(kc 0 _ rfl).1;have z0:=(cJ 0 _ rfl).1;have u0:=(cJ 0 _ rfl).2;have y1:=(kc 1 _ rfl).1;have z1:=(cJ 1 _ rfl).1;have u1:=(cJ 1 _ rfl).2;have y2:=(kc 2 _ rfl).1;have z2:=(cJ 2 _ rfl).1;have u2:=(cJ 2 _ rfl).2;have y3:=(kc 3 _ rfl).1;have z3:=(cJ 3 _ rfl).1;have u3:=(cJ 3 _ rfl).2;have y4:=(kc 4 _ rfl).1;have z4:=(cJ 4 _ rfl).1;have u4:=(cJ 4 _ rfl).2;have y5:=(kc 5 _ rfl).1;have z5:=(cJ 5 _ rfl).1;have u5:=(cJ 5 _ rfl).2;have y6:=(kc 6 _ rfl).1;have z6:=(cJ 6 _ rfl).1
 have u6:=(cJ 6 _ rfl).2;have y7:=(kc 7 _ rfl).1;have z7:=(cJ 7 _ rfl).1;have u7:=(cJ 7 _ rfl).2;have y8:=(kc 8 _ rfl).1;have z8:=(cJ 8 _ rfl).1;have u8:=(cJ 8 _ rfl).2;have y9:=(kc 9 _ rfl).1;have z9:=(cJ 9 _ rfl).1;have u9:=(cJ 9 _ rfl).2;have tH:=(kc 10 _ rfl).1;have Qb:=(cJ 10 _ rfl).1;have u10:=(cJ 10 _ rfl).2;have pZ:=(kc 11 _ rfl).1;have Qc:=(cJ 11 _ rfl).1;have u11:=(cJ 11 _ rfl).2;have MW:=(kc 12 _ rfl).1;have z12:=(cJ 12 _ rfl).1;have u12:=(cJ 12 _ rfl).2;have MX:=(kc 13 _ rfl).1;have Qd:=(cJ 13 _ rfl).1;have u13:=(cJ 13 _ rfl).2;go_wp2;refine bodyPost_ret (v:=.tuple #[.agg #[.int .i32 0,.slice aa cg.length ac,.bool true,.string ⟨#[]⟩,.string ⟨#[]⟩,.int .i64 0,.slice none 0 0,.int .i64 0,.slice none 0 0,.bool false,.bool false,.int .i64 0,.slice none 0 0,.slice none 0 0],.pointer none]) (fB rfl rfl Gc.out) rfl ?_;have nR:∀ {b:Nat} {T:TypeId},aq w3 b T→T≠167→¬b=w.heap.size:=fun hb n1 e=>by subst e;exact n1 (hb.one Ls)
 refine⟨_,_,_,_,_,rfl,(HeadAt.deep cD hit true).keeps xE.out ⟨fun b hb=>nR hb (by decide),fun b hb=>nR hb (by decide),fun b hb=>nR hb (by decide),fun b hb=>nR hb (by decide),fun b hb=>nR hb (by decide)⟩,h3.keeps xE.out nZ.symm (fun hn=>nR (h3.tr hn) (by decide)) (nR h3.tp (by decide)),?_⟩;have yt:ae (fun b=>b=g.c∨w.heap.size+1≤b) w w2:=((oa.trans o1 (fun _ e=>e.elim) (fun _ _ e=>e):ae (·=g.c) w w1).trans o2 (fun _ e=>Or.inl e) (fun _ _ e=>e));have tF:ae (fun b=>b=g.c∨w.heap.size≤b) w w3:=yt.trans o3 (fun _ e=>by rcases e with e | e;exact Or.inl e;exact Or.inr (by omega)) (fun _ _ e=>by rcases e with e | e;exact Or.inl e;exact Or.inr (by omega));exact(tF.trans xE.out (fun _ e=>e) (fun b _ e=>Or.inr (by omega))).mono (fun b hb e=>by rcases e with e | e;exact e;omega)
theorem uv (g:CG) (pp i:Nat) (bJ:Adz.atAddress g.L i=false) (hn:Adz.peek g.L i=33):fZ g pp i {addrs:= [],neg:=true} (Adz.blanks g.L (i+1)):=fun w h hp=>by
 have q0:=hp.at0;have Ip:=hp.ne;have eX:pp<w.heap.size:=hp.lt;go_enter Tryz.func100,Tryz.ntmps100;go_wp2_with fail
 have gC:HeadAt ((w.alloc (.cells #[.int .i32 0,.slice none 0 0,.bool false,.string ⟨#[]⟩,.string ⟨#[]⟩,.int .i64 0,.slice none 0 0,.int .i64 0,.slice none 0 0,.bool false,.bool false,.int .i64 0,.slice none 0 0,.slice none 0 0] 167)).alloc (.cells #[.int .i32 0,.slice none 0 0,.bool false,.string ⟨#[]⟩,.string ⟨#[]⟩,.int .i64 0,.slice none 0 0,.int .i64 0,.slice none 0 0,.bool false,.bool false,.int .i64 0,.slice none 0 0,.slice none 0 0] 167)) (w.heap.size+1) (w.heap.size+1) []:=by
  have t:=aq.new (w.alloc (.cells #[.int .i32 0,.slice none 0 0,.bool false,.string ⟨#[]⟩,.string ⟨#[]⟩,.int .i64 0,.slice none 0 0,.int .i64 0,.slice none 0 0,.bool false,.bool false,.int .i64 0,.slice none 0 0,.slice none 0 0] 167)) #[.int .i32 0,.slice none 0 0,.bool false,.string ⟨#[]⟩,.string ⟨#[]⟩,.int .i64 0,.slice none 0 0,.int .i64 0,.slice none 0 0,.bool false,.bool false,.int .i64 0,.slice none 0 0,.slice none 0 0] 167 (0,0);have k:=ai.new (w.alloc (.cells #[.int .i32 0,.slice none 0 0,.bool false,.string ⟨#[]⟩,.string ⟨#[]⟩,.int .i64 0,.slice none 0 0,.int .i64 0,.slice none 0 0,.bool false,.bool false,.int .i64 0,.slice none 0 0,.slice none 0 0] 167)) #[.int .i32 0,.slice none 0 0,.bool false,.string ⟨#[]⟩,.string ⟨#[]⟩,.int .i64 0,.slice none 0 0,.int .i64 0,.slice none 0 0,.bool false,.bool false,.int .i64 0,.slice none 0 0,.slice none 0 0] 167;simp only[World.size_alloc] at t k;exact⟨t,.slice none 0 0,[],k,World.ownsRow_nil _ _ _ _,trivial⟩
 have tR:aq ((w.alloc (.cells #[.int .i32 0,.slice none 0 0,.bool false,.string ⟨#[]⟩,.string ⟨#[]⟩,.int .i64 0,.slice none 0 0,.int .i64 0,.slice none 0 0,.bool false,.bool false,.int .i64 0,.slice none 0 0,.slice none 0 0] 167)).alloc (.cells #[.int .i32 0,.slice none 0 0,.bool false,.string ⟨#[]⟩,.string ⟨#[]⟩,.int .i64 0,.slice none 0 0,.int .i64 0,.slice none 0 0,.bool false,.bool false,.int .i64 0,.slice none 0 0,.slice none 0 0] 167)) w.heap.size 167:=(aq.new w _ _ (0,0)).alloc _;have kR:ai ((w.alloc (.cells #[.int .i32 0,.slice none 0 0,.bool false,.string ⟨#[]⟩,.string ⟨#[]⟩,.int .i64 0,.slice none 0 0,.int .i64 0,.slice none 0 0,.bool false,.bool false,.int .i64 0,.slice none 0 0,.slice none 0 0] 167)).alloc (.cells #[.int .i32 0,.slice none 0 0,.bool false,.string ⟨#[]⟩,.string ⟨#[]⟩,.int .i64 0,.slice none 0 0,.int .i64 0,.slice none 0 0,.bool false,.bool false,.int .i64 0,.slice none 0 0,.slice none 0 0] 167)) w.heap.size [.int .i32 0,.slice none 0 0,.bool false,.string ⟨#[]⟩,.string ⟨#[]⟩,.int .i64 0,.slice none 0 0,.int .i64 0,.slice none 0 0,.bool false,.bool false,.int .i64 0,.slice none 0 0,.slice none 0 0]:=(ai.new w _ _).alloc _;have oa:ae (fun _=>False) w ((w.alloc (.cells #[.int .i32 0,.slice none 0 0,.bool false,.string ⟨#[]⟩,.string ⟨#[]⟩,.int .i64 0,.slice none 0 0,.int .i64 0,.slice none 0 0,.bool false,.bool false,.int .i64 0,.slice none 0 0,.slice none 0 0] 167)).alloc (.cells #[.int .i32 0,.slice none 0 0,.bool false,.string ⟨#[]⟩,.string ⟨#[]⟩,.int .i64 0,.slice none 0 0,.int .i64 0,.slice none 0 0,.bool false,.bool false,.int .i64 0,.slice none 0 0,.slice none 0 0] 167)):=((ae.refl _ w).alloc _).alloc _
 have h0:=(h.alloc (.cells #[.int .i32 0,.slice none 0 0,.bool false,.string ⟨#[]⟩,.string ⟨#[]⟩,.int .i64 0,.slice none 0 0,.int .i64 0,.slice none 0 0,.bool false,.bool false,.int .i64 0,.slice none 0 0,.slice none 0 0] 167)).alloc (.cells #[.int .i32 0,.slice none 0 0,.bool false,.string ⟨#[]⟩,.string ⟨#[]⟩,.int .i64 0,.slice none 0 0,.int .i64 0,.slice none 0 0,.bool false,.bool false,.int .i64 0,.slice none 0 0,.slice none 0 0] 167);have l0:=(hp.alloc (.cells #[.int .i32 0,.slice none 0 0,.bool false,.string ⟨#[]⟩,.string ⟨#[]⟩,.int .i64 0,.slice none 0 0,.int .i64 0,.slice none 0 0,.bool false,.bool false,.int .i64 0,.slice none 0 0,.slice none 0 0] 167)).alloc (.cells #[.int .i32 0,.slice none 0 0,.bool false,.string ⟨#[]⟩,.string ⟨#[]⟩,.int .i64 0,.slice none 0 0,.int .i64 0,.slice none 0 0,.bool false,.bool false,.int .i64 0,.slice none 0 0,.slice none 0 0] 167);have c1:=gL g pp _ i h0 l0 bJ;generalize ((w.alloc (.cells #[.int .i32 0,.slice none 0 0,.bool false,.string ⟨#[]⟩,.string ⟨#[]⟩,.int .i64 0,.slice none 0 0,.int .i64 0,.slice none 0 0,.bool false,.bool false,.int .i64 0,.slice none 0 0,.slice none 0 0] 167)).alloc (.cells #[.int .i32 0,.slice none 0 0,.bool false,.string ⟨#[]⟩,.string ⟨#[]⟩,.int .i64 0,.slice none 0 0,.int .i64 0,.slice none 0 0,.bool false,.bool false,.int .i64 0,.slice none 0 0,.slice none 0 0] 167))=wa at*
 have cR:=h.lt;refine c1.mono ?_;rintro e w1 ⟨rfl,n1,da⟩;have o1:ae (·=g.c) wa w1:=by rw[da];exact(ae.refl _ wa).drewN n1
 have h1:Cur g w1 i:=by rw[da];exact h0.drewN n1
 have l1:=l0.moved o1;have bM:w.heap.size+1≠g.c:=by omega
 have nZ:w.heap.size≠g.c:=by omega
 have m1:=gC.keeps o1 h0.spares bM;have FY:=kR.keeps o1 nZ;have Cw:=tR.keeps o1 nZ;clear da c1 gC kR tR;have o2:ae (fun b=>b=g.c∨w.heap.size+1≤b) w1 w1:=ae.refl _ _;have m2:=m1;have h2:=h1;have iU:=FY;have Jn:=Cw;have l2:=l1;have q2:=l1.at0;clear m1 FY Cw;go_wp2_with fail;refine(aC g w1 i 33 h2 hn (by omega)).mono ?_;rintro e wb ⟨rfl,hb,ob⟩;have mb:=m2.keeps ob h2.spares bM;have Lx:=iU.keeps ob nZ;have LY:=Jn.keeps ob nZ;have lb:=l2.moved ob;obtain⟨av,jw,kb,pq,BF⟩:=mb.cells;have jn:=(kb 2 _ rfl).1;have fn:=(kb 2 _ rfl).2;have oc:=af wb (w.heap.size+1) 2 (.bool true);have Ly:=kb.set 2 (.bool true);have PY:=mb.typ;have nC:∀ {b:Nat} {T:TypeId},aq wb b T→T≠167→¬b=w.heap.size+1:=fun hb n1 e=>by subst e;exact n1 (hb.one PY)
 have uJ:=ag pq oc (fun b hb=>nC (aq.of_row pq hb) (by decide));have GZ:=BF.keeps oc (fun b hb=>nC hb (by decide)) (fun b hb=>nC hb (by decide));have jq:=hb.keeps oc bM.symm (fun hn=>nC (hb.tr hn) (by decide)) (nC hb.tp (by decide));have lc:=lb.keeps oc (by omega);have PA:=Lx.keeps oc (by omega);have PX:=LY.keeps oc (by omega);have qc:=lc.at0;have M3:Hid (ai (wb.setCell ⟨w.heap.size+1,2,none⟩ (.bool true)) (w.heap.size+1) (aA {addrs:= [],neg:=true} av (.slice none 0 0) (.slice none 0 0) (.slice none 0 0) (.slice none 0 0))):=Ly;clear kb Ly pq BF mb Lx LY;go_wp2_with fail;have PL:ae (fun b=>b=g.c∨w.heap.size+1≤b) w1 (wb.setCell ⟨w.heap.size+1,2,none⟩ (.bool true)):=ob.trans oc (fun _ e=>Or.inl e) (fun _ _ e=>Or.inr (by omega));generalize wb.setCell ⟨w.heap.size+1,2,none⟩ (.bool true)=wc at*
 clear jn fn oc;refine(bO g wc (i+1) jq).mono ?_;rintro e w3 ⟨rfl,h3,kM⟩;have o3:ae (fun b=>b=g.c∨w.heap.size+1≤b) w1 w3:=PL.trans kM (fun _ e=>e) (fun _ _ e=>Or.inl e);have kc:=M3.out.keeps kM bM;have cD:=ag uJ kM (fun b hb=>(aq.of_row uJ hb).ne jq.tc (by decide));have hit:=GZ.keeps kM jq.spares.item jq.spares.span;have cJ:=PA.keeps kM nZ;have Ls:=PX.keeps kM nZ;obtain⟨aa,ac,rfl⟩:=ak cD;have k1:=fj (W0:=w3) (.int .i32 0) (.slice aa ([]:List Adz.Ad).length ac) (.bool true) (.string ⟨#[]⟩) (.string ⟨#[]⟩) (.int .i64 0) (.slice none 0 0) (.int .i64 0) (.slice none 0 0) (.bool false) (.bool false) (.int .i64 0) (.slice none 0 0) (.slice none 0 0) cJ;have o4:=fL w3 w.heap.size (.int .i32 0) (.slice aa ([]:List Adz.Ad).length ac) (.bool true) (.string ⟨#[]⟩) (.string ⟨#[]⟩) (.int .i64 0) (.slice none 0 0) (.int .i64 0) (.slice none 0 0) (.bool false) (.bool false) (.int .i64 0) (.slice none 0 0) (.slice none 0 0);have Gc:Hid _:=k1;have xE:Hid _:=o4;clear k1 o4;have y0:=(kc 0 _ rfl).1;have z0:=(cJ 0 _ rfl).1;have u0:=(cJ 0 _ rfl).2;have y1:=(kc 1 _ rfl).1;have z1:=(cJ 1 _ rfl).1;have u1:=(cJ 1 _ rfl).2;have y2:=(kc 2 _ rfl).1;have z2:=(cJ 2 _ rfl).1;have u2:=(cJ 2 _ rfl).2;have y3:=(kc 3 _ rfl).1;have z3:=(cJ 3 _ rfl).1;have u3:=(cJ 3 _ rfl).2;have y4:=(kc 4 _ rfl).1;have z4:=(cJ 4 _ rfl).1;have u4:=(cJ 4 _ rfl).2;have y5:=(kc 5 _ rfl).1;have z5:=(cJ 5 _ rfl).1;have u5:=(cJ 5 _ rfl).2;have y6:=(kc 6 _ rfl).1
 have z6:=(cJ 6 _ rfl).1;have u6:=(cJ 6 _ rfl).2;have y7:=(kc 7 _ rfl).1;have z7:=(cJ 7 _ rfl).1;have u7:=(cJ 7 _ rfl).2;have y8:=(kc 8 _ rfl).1;have z8:=(cJ 8 _ rfl).1;have u8:=(cJ 8 _ rfl).2;have y9:=(kc 9 _ rfl).1;have z9:=(cJ 9 _ rfl).1;have u9:=(cJ 9 _ rfl).2;have tH:=(kc 10 _ rfl).1;have Qb:=(cJ 10 _ rfl).1;have u10:=(cJ 10 _ rfl).2;have pZ:=(kc 11 _ rfl).1;have Qc:=(cJ 11 _ rfl).1;have u11:=(cJ 11 _ rfl).2;have MW:=(kc 12 _ rfl).1;have z12:=(cJ 12 _ rfl).1;have u12:=(cJ 12 _ rfl).2;have MX:=(kc 13 _ rfl).1;have Qd:=(cJ 13 _ rfl).1;have u13:=(cJ 13 _ rfl).2;go_wp2;refine bodyPost_ret (v:=.tuple #[.agg #[.int .i32 0,.slice aa ([]:List Adz.Ad).length ac,.bool true,.string ⟨#[]⟩,.string ⟨#[]⟩,.int .i64 0,.slice none 0 0,.int .i64 0,.slice none 0 0,.bool false,.bool false,.int .i64 0,.slice none 0 0,.slice none 0 0],.pointer none]) (fB rfl rfl Gc.out) rfl ?_;have nR:∀ {b:Nat} {T:TypeId},aq w3 b T→T≠167→¬b=w.heap.size:=fun hb n1 e=>by subst e;exact n1 (hb.one Ls)
 refine⟨_,_,_,_,_,rfl,(HeadAt.deep cD hit true).keeps xE.out ⟨fun b hb=>nR hb (by decide),fun b hb=>nR hb (by decide),fun b hb=>nR hb (by decide),fun b hb=>nR hb (by decide),fun b hb=>nR hb (by decide)⟩,h3.keeps xE.out nZ.symm (fun hn=>nR (h3.tr hn) (by decide)) (nR h3.tp (by decide)),?_⟩;have yt:ae (fun b=>b=g.c∨w.heap.size+1≤b) w w1:=((oa.trans o1 (fun _ e=>e.elim) (fun _ _ e=>e):ae (·=g.c) w w1).trans o2 (fun _ e=>Or.inl e) (fun _ _ e=>e));have tF:ae (fun b=>b=g.c∨w.heap.size≤b) w w3:=yt.trans o3 (fun _ e=>by rcases e with e | e;exact Or.inl e;exact Or.inr (by omega)) (fun _ _ e=>by rcases e with e | e;exact Or.inl e;exact Or.inr (by omega));exact(tF.trans xE.out (fun _ e=>e) (fun b _ e=>Or.inr (by omega))).mono (fun b hb e=>by rcases e with e | e;exact e;omega)
theorem oX (g:CG) (pp i:Nat) (c:Adz.Cmd) (i':Nat) (hr:Adz.head g.L g.pl i=.ok (c,i')):fZ g pp i c i':=by
 unfold Adz.head at hr
 cases bJ:Adz.atAddress g.L i with
 | true=>
  rw[bJ] at hr;simp only[if_true] at hr
  cases ha:Adz.addresses g.L g.pl i with
  | error f=>rw [ha] at hr;cases hr
  | ok q=>
   obtain⟨cg,i1⟩:=q;rw[ha] at hr;simp only at hr;have hA:=tS g pp i cg i1 ha;by_cases um:Adz.peek g.L i1=33
   ·rw[if_pos (by simp[um])] at hr
    simp only[Except.ok.injEq,Prod.mk.injEq] at hr;obtain⟨rfl,rfl⟩:=hr;exact uw g pp i cg i1 hA bJ um
   ·rw[if_neg (by simpa using um)] at hr
    simp only[Except.ok.injEq,Prod.mk.injEq] at hr;obtain⟨rfl,rfl⟩:=hr;exact sh g pp i cg i1 hA bJ um
 | false=>
  rw[bJ] at hr;simp only[Bool.false_eq_true,if_false] at hr;by_cases um:Adz.peek g.L i=33
  ·rw[if_pos (by simp[um])] at hr
   simp only[Except.ok.injEq,Prod.mk.injEq] at hr;obtain⟨rfl,rfl⟩:=hr;exact uv g pp i bJ um
  ·rw[if_neg (by simpa using um)] at hr
   simp only[Except.ok.injEq,Prod.mk.injEq] at hr;obtain⟨rfl,rfl⟩:=hr;exact si g pp i bJ um
theorem pJ (g:CG) (pp:Nat) (w:World) (i:Nat) (h:Cur g w i) (hp:Lead g pp w) (f:Adz.Flt) (hr:Adz.number g.L g.pl i=.error f):
 Calls Tryz.prog 194 #[.pointer (some ⟨pp,0,none⟩)] w fun e w'=>∃v,e=.returned (.tuple #[.int .i64 0,v])∧ck w w' v f∧ae (·=g.c) w w':=by
 obtain⟨n,hn⟩:∃n,Adz.numFrom 0 (Adz.digitsOf g.L i)=n:=⟨_,rfl⟩
 have nT:(if (n==0 || decide (9999<n))=true then (.error (4,Adz.place g.pl i):Except Adz.Flt (Int×Nat)) else .ok (n,i+(Adz.digitsOf g.L i).length))=.error f:=by
  rw[←hn];exact hr
 have cl:n=0∨9999<n:=by
  by_cases hc:(n==0 || decide (9999<n))=true
  ·simpa using hc
  ·rw[if_neg hc] at nT;cases nT
 have hf:f=(4,Adz.place g.pl i):=by
  by_cases hc:(n==0 || decide (9999<n))=true
  ·rw[if_pos hc] at nT
   injection nT with nT;exact nT.symm
  ·rw[if_neg hc] at nT;cases nT
 subst hf;have q0:=hp.at0;have HN:Hid (Adz.numFrom 0 (Adz.digitsOf g.L i)=n):=hn;clear hn hr nT;go_enter Tryz.func194,Tryz.ntmps194;go_wp2_with fail;refine(ar g _ i h).mono ?_;rintro e w1 ⟨rfl,n1,rfl⟩;go_wp2_with fail
 go_loopg [5] (g.L.length - i) (fun k v wr=>∃j m,v=.int .i64 m∧0≤m∧m≤10000∧Hid (Cur g wr j)∧Hid (Lead g pp wr)∧j+k=g.L.length∧Hid (Adz.numFrom m (Adz.digitsOf g.L j)=n)∧Hid (ae (·=g.c) w wr))
 case atStart=>exact ⟨i,0,rfl,by omega,by omega,h.drewN _,hp.drewN _,by have:=h.le;omega,HN.out,(ae.refl _ w).drewN _⟩
 case round=>
  obtain⟨j,m,rfl,m0,m1,hc,hl,hk,hN,ho⟩:=hrel;have aU:Cur g wr j:=hc;have fi:Lead g pp wr:=hl;have HK:Hid (j+gk=g.L.length):=hk;have q1:=fi.at0;clear hk hc hl;by_cases hd:Adz.isDigit (Adz.peek g.L j)=true
  ·have aw:j<g.L.length:=Adz.lt_of_digit hd
   have uM:=Adz.digits_step hd;have HD:Hid (Adz.isDigit (Adz.peek g.L j)=true):=hd;have HS:Hid (Adz.digitsOf g.L j=Adz.peek g.L j::Adz.digitsOf g.L (j+1)):=uM;obtain⟨d0,d1⟩:=Adz.digit_range hd;clear hd uM;go_wp2_with fail;refine(ah g wr j aU).mono ?_;rintro e w1 ⟨rfl,n1,rfl⟩;go_wp2_with fail;refine(aE _ _).mono ?_;rintro e w1 ⟨rfl,rfl⟩;rw[HD.out];go_wp2_with fail;refine(ax g _ j (aU.drewN _) aw).mono ?_;rintro e w1 ⟨rfl,aL,aK⟩;go_wp2;go_roundg (gk - 1)
   case measure=>have:=HK.out;omega
   case rel=>
    refine⟨j+1,_,rfl,by omega,by omega,aL,(fi.drewN n1).moved aK,by have:=HK.out;omega,?_,(ae.drewN ho n1).trans aK (fun _ e=>e) (fun _ _ e=>e)⟩;have e1:=Hid.out hN;rw[HS.out] at e1;exact e1
  ·have qu:Adz.isDigit (Adz.peek g.L j)=false:=by simpa using hd
   have HD:Hid (Adz.isDigit (Adz.peek g.L j)=false):=qu;have e1:=Hid.out hN;rw[Adz.digits_stop qu] at e1;have CW:m=n:=e1;subst CW;clear hd qu e1 hN HN;go_wp2_with fail;refine(ah g wr _ aU).mono ?_;rintro e w1 ⟨rfl,WZ,rfl⟩;go_wp2_with fail;refine(aE _ _).mono ?_;rintro e w1 ⟨rfl,rfl⟩;rw[HD.out]
   rcases cl with hz | hz
   ·have b0:(m==0)=true:=by simp[hz]
    go_wp2_with fail;refine(aV 4 _ _).mono ?_;rintro e w5 ⟨rfl,rfl⟩;go_wp2;go_ret2;exact⟨_,rfl,⟨_,rfl,by have:=(Hid.out ho).size;exact this,db.new _ _ _⟩,(ae.drewN ho _).alloc _⟩
   ·have b0:(m==0)=false:=by simp;omega
    have b1:decide (9999<m)=true:=decide_eq_true hz;go_wp2_with fail;refine(aV 4 _ _).mono ?_;rintro e w5 ⟨rfl,rfl⟩;go_wp2;go_ret2;exact⟨_,rfl,⟨_,rfl,by have:=(Hid.out ho).size;exact this,db.new _ _ _⟩,(ae.drewN ho _).alloc _⟩
theorem my (w:World) (r:Int) (v:Value) (hv:∃fb,v=.pointer (some ⟨fb,0,none⟩)):
 Calls Tryz.prog 214 #[.int .i32 r,v] w fun e w'=>e=.returned (.tuple #[.agg #[.int .i64 0,.string ⟨#[]⟩,.int .i64 0],v])∧ae (fun _=>False) w w':=by
 obtain⟨fb,rfl⟩:=hv;go_enter Tryz.func214,Tryz.ntmps214;go_wp2;exact bodyPost_ret (v:=.tuple #[.agg #[.int .i64 0,.string ⟨#[]⟩,.int .i64 0],.pointer (some ⟨fb,0,none⟩)]) (by simp[results,Tryz.results214,go_sem]) rfl ⟨rfl,(ae.refl _ w).alloc _⟩
theorem yV {g:CG}{rd base:Nat}{w:World}{s:Adz.Rd} (h:Rdr g rd base w s) (he:Adz.ended s.items=true):
 Calls Tryz.prog 208 #[.pointer (some ⟨rd,0,none⟩)] w fun e w'=>e=.returned (.bool true)∧∃n,w'=w.drewN n:=by
 obtain⟨iv,gI,i1,i2,i3⟩:=h.it;have dy:=h.cur.small;have hle:=h.cur.le;have gm:=h.small;by_cases hz:s.items.length=0
 ·have:s.items= []:=List.eq_nil_of_length_eq_zero hz
  rw[this] at he;simp[Adz.ended] at he
 ·obtain⟨m,hm⟩:∃m,s.items.length=m+1:=⟨s.items.length - 1,by omega⟩
  rw[hm] at i2;have aw:m<s.items.length:=by omega
  obtain⟨v,_,hc⟩:=eA i3 m aw
  have hk:s.items[m].kind=1:=by
   unfold Adz.ended at he;rw[List.getLast?_eq_getElem?,hm] at he;simpa[aw] using he
  obtain⟨gb,cap,rfl⟩:∃gb cap,iv=.slice (some ⟨gb,0,none⟩) (m+1) cap:=by
   rcases i2.2 with ⟨_,h0⟩ |⟨gb,cap,cur,rfl,_⟩
   ·omega
   ·exact⟨gb,cap,rfl⟩
  have ew:w.cell? ⟨gb,m*4,none⟩=some (.int .i64 1):=by
   rw[i2.cellAt (m*4) (by omega),←hk];have:=hc 0 (by omega);simpa[dL] using this
  have hd:decide ((0:Int)<(m:Int)+1)=true:=decide_eq_true (by omega);have Lb:m≤500:=by omega
  have hw:IntKind.i64.wrap ((m:Int)+1 - 1)=(m:Int):=by rw[IntKind.wrap_i64];omega
  clear h i2 i3 hc he gm hk;go_enter Tryz.func208,Tryz.ntmps208;go_wp2_with fail
  go_quiet (fail)
  go_wp2;go_ret;exact⟨rfl,_,rfl⟩
theorem yJ {g:CG}{rd base:Nat}{w:World}{s:Adz.Rd} (h:Rdr g rd base w s) (h0:s.items≠ []):
 Calls Tryz.prog 209 #[.pointer (some ⟨rd,0,none⟩)] w fun e w'=>∃v,e=.returned v∧ck w w' v (Adz.wrong g.pl s.i)∧ae (fun _=>False) w w':=by
 obtain⟨iv,gI,i1,i2,i3⟩:=h.it;have r0:=h.r0;obtain⟨a,c,zn⟩:=ak i2;subst zn;have hl:s.items.length≠0:=fun e=>h0 (List.eq_nil_of_length_eq_zero e);have hd:decide ((0:Int)<(s.items.length:Int))=true:=decide_eq_true (by omega);have iE:(0:Int)<(s.items.length:Int):=by omega
 clear i2 i3;go_enter Tryz.func209,Tryz.ntmps209;go_wp2_with fail;refine(aX g w s.i h.cur).mono ?_;rintro e w1 ⟨v,rfl,hf,o1⟩;go_wp2;go_ret;exact⟨v,rfl,hf,o1⟩
theorem qG {g:CG}{rd base:Nat}{w:World}{s:Adz.Rd} (h:Rdr g rd base w s) (h9:s.groups=9):
 Calls Tryz.prog 211 #[.pointer (some ⟨rd,0,none⟩)] w fun e w'=>∃v,e=.returned v∧ck w w' v (8,Adz.place g.pl s.i)∧ae (fun _=>False) w w':=by
 have r0:=h.r0;have r2:=h.r2;rw[h9] at r2;go_enter Tryz.func211,Tryz.ntmps211;go_wp2_with fail;refine(ar g w s.i h.cur).mono ?_;rintro e w1 ⟨rfl,n,rfl⟩;go_wp2_with fail;refine(aV 8 _ _).mono ?_;rintro e w2 ⟨rfl,rfl⟩;go_wp2;go_ret;exact⟨_,rfl,⟨_,rfl,Nat.le_refl _,db.new _ _ _⟩,((ae.refl _ w).drewN n).alloc _⟩
theorem oJ {g:CG}{rd base:Nat}{w:World}{s:Adz.Rd} (h:Rdr g rd base w s) (h0:s.opens= []):
 Calls Tryz.prog 212 #[.pointer (some ⟨rd,0,none⟩)] w fun e w'=>∃v,e=.returned v∧ck w w' v (8,Adz.place g.pl s.i)∧ae (fun _=>False) w w':=by
 have r0:=h.r0;obtain⟨ov,o1,o2⟩:=h.op;obtain⟨a,c,rfl⟩:=ak o2;rw[h0] at o1;simp only[List.length_nil] at o1;clear o2;go_enter Tryz.func212,Tryz.ntmps212;go_wp2_with fail;refine(ar g w s.i h.cur).mono ?_;rintro e w1 ⟨rfl,n,rfl⟩;go_wp2_with fail;refine(aV 8 _ _).mono ?_;rintro e w2 ⟨rfl,rfl⟩;go_wp2;go_ret;exact⟨_,rfl,⟨_,rfl,Nat.le_refl _,db.new _ _ _⟩,((ae.refl _ w).drewN n).alloc _⟩
theorem zR {g:CG}{rd base:Nat}{w:World}{s:Adz.Rd} (h:Rdr g rd base w s) (f:Adz.Flt) (hr:Adz.single g.L g.pl s.i=.error f):
 Calls Tryz.prog 213 #[.pointer (some ⟨rd,0,none⟩)] w fun e w'=>∃v,e=.returned v∧ck w w' v f∧ae (·=g.c) w w':=by
 have r0:=h.r0;have HR:Hid (Adz.single g.L g.pl s.i=.error f):=hr;clear hr;go_enter Tryz.func213,Tryz.ntmps213;go_wp2_with fail;refine(xw g rd w s.i h.cur h.r0 h.ne f HR.out).mono ?_;rintro e w1 ⟨v,rfl,⟨fb,rfl,eW,hf⟩,o1⟩;go_wp2;go_ret;exact⟨_,rfl,⟨fb,rfl,eW,hf.keeps ((ae.refl (fun _=>False) w1).alloc _) id⟩,o1.alloc _⟩
theorem B7 {g:CG}{rd base:Nat}{w:World}{s:Adz.Rd} (h:Rdr g rd base w s) (f:Adz.Flt) (hr:Adz.item g.L g.pl s=.error f):
 Calls Tryz.prog 195 #[.pointer (some ⟨rd,0,none⟩)] w fun e w'=>∃v,e=.returned v∧ck w w' v f∧ae (·=g.c) w w':=by
 have r0:=h.r0;unfold Adz.item at hr;by_cases he:Adz.ended s.items=true
 ·simp only[he,if_true,Except.error.injEq] at hr
  subst hr;go_enter Tryz.func195,Tryz.ntmps195;go_wp2_with fail;refine(yV h he).mono ?_;rintro e w1 ⟨rfl,n,rfl⟩;go_wp2_with fail;refine(aX g _ s.i (h.cur.drewN n)).mono ?_;rintro e w1 ⟨v,rfl,hf,o1⟩;go_wp2;go_ret;exact⟨v,rfl,hf.back (Nat.le_refl _),((ae.refl (·=g.c) w).drewN n).trans o1 (fun _ e=>e) (fun _ _ e=>e.elim)⟩
 ·have GR:Adz.ended s.items=false:=by simpa using he
  simp only[GR,Bool.false_eq_true,if_false] at hr;have HE:Hid (Adz.ended s.items=false):=GR;clear he GR;have Mt:=dY h HE.out;have cP:=fun n=>ah g (w.drewN n) s.i (h.cur.drewN n);by_cases c1:Adz.peek g.L s.i=94
  ·simp only[c1,beq_self_eq_true,if_true] at hr
   by_cases hi:s.items= []
   ·simp[hi] at hr
   ·have My:s.items.isEmpty=false:=by simpa using hi
    rw[My] at hr;simp only[Bool.false_eq_true,if_false,Except.error.injEq] at hr;subst hr;go_enter Tryz.func195,Tryz.ntmps195;go_wp2_with fail;refine Mt.mono ?_;rintro e w1 ⟨rfl,n,rfl⟩;go_wp2_with fail;refine(cP n).mono ?_;rintro e w1 ⟨rfl,n2,rfl⟩;rw[c1];go_wp2_with fail;refine(yJ (h.drewN _) hi).mono ?_;rintro e w2 ⟨v,rfl,hf,o2⟩;go_wp2;go_ret;exact⟨v,rfl,hf.back (Nat.le_refl _),((ae.refl (·=g.c) w).drewN _).trans o2 (fun _ e=>e) (fun _ _ e=>e.elim)⟩
  ·have b1:(Adz.peek g.L s.i==94)=false:=by simpa using c1
   by_cases c2:Adz.peek g.L s.i=36
   ·simp[c2] at hr
   ·have b2:(Adz.peek g.L s.i==36)=false:=by simpa using c2
    by_cases c3:Adz.peek g.L s.i=40
    ·simp only[c3,beq_self_eq_true,if_true,show((40:Int)==94)=false from rfl,show((40:Int)==36)=false from rfl,Bool.false_eq_true,if_false] at hr
     by_cases h9:s.groups=9
     ·simp only[h9,beq_self_eq_true,if_true,Except.error.injEq] at hr
      subst hr;clear b1 b2;go_enter Tryz.func195,Tryz.ntmps195;go_wp2_with fail;refine Mt.mono ?_;rintro e w1 ⟨rfl,n,rfl⟩;go_wp2_with fail;refine(cP n).mono ?_;rintro e w1 ⟨rfl,n2,rfl⟩;rw[c3];go_wp2_with fail;refine(qG (h.drewN _) h9).mono ?_;rintro e w2 ⟨v,rfl,hf,o2⟩;go_wp2;go_ret;exact⟨v,rfl,hf.back (Nat.le_refl _),((ae.refl (·=g.c) w).drewN _).trans o2 (fun _ e=>e) (fun _ _ e=>e.elim)⟩
     ·have b9:(s.groups==9)=false:=by simpa using h9
      rw[b9] at hr;simp at hr
    ·have b3:(Adz.peek g.L s.i==40)=false:=by simpa using c3
     by_cases c4:Adz.peek g.L s.i=41
     ·simp only[c4,beq_self_eq_true,if_true,show((41:Int)==94)=false from rfl,show((41:Int)==36)=false from rfl,show((41:Int)==40)=false from rfl,Bool.false_eq_true,if_false] at hr
      cases hg:s.opens.getLast? with
      | some x=>rw [hg] at hr;simp at hr
      | none=>
       rw[hg] at hr;simp only[Except.error.injEq] at hr;subst hr;have ho:s.opens= []:=List.getLast?_eq_none_iff.1 hg;clear b1 b2 b3 hg;go_enter Tryz.func195,Tryz.ntmps195;go_wp2_with fail;refine Mt.mono ?_;rintro e w1 ⟨rfl,n,rfl⟩;go_wp2_with fail;refine(cP n).mono ?_;rintro e w1 ⟨rfl,n2,rfl⟩;rw[c4];go_wp2_with fail;refine(oJ (h.drewN _) ho).mono ?_;rintro e w2 ⟨v,rfl,hf,o2⟩;go_wp2;go_ret;exact⟨v,rfl,hf.back (Nat.le_refl _),((ae.refl (·=g.c) w).drewN _).trans o2 (fun _ e=>e) (fun _ _ e=>e.elim)⟩
     ·have b4:(Adz.peek g.L s.i==41)=false:=by simpa using c4
      rw[b1,b2,b3,b4] at hr;simp only[Bool.false_eq_true,if_false] at hr
      cases hs:Adz.single g.L g.pl s.i with
      | ok q=>rw [hs] at hr;cases hr
      | error f'=>
       rw[hs] at hr;simp only[Except.error.injEq] at hr;subst hr;have HS:Hid _:=hs;clear hs;generalize Adz.peek g.L s.i=pk at*
       go_enter Tryz.func195,Tryz.ntmps195;go_wp2_with fail;refine Mt.mono ?_;rintro e w1 ⟨rfl,n,rfl⟩;go_wp2_with fail;refine(cP n).mono ?_;rintro e w1 ⟨rfl,n2,rfl⟩;go_wp2_with fail;refine(zR (h.drewN _) f' HS.out).mono ?_;rintro e w2 ⟨v,rfl,hf,o2⟩;go_wp2;go_ret;exact⟨v,rfl,hf.back (Nat.le_refl _),((ae.refl (·=g.c) w).drewN _).trans o2 (fun _ e=>e) (fun _ _ e=>e)⟩
end
end Go.Proofs.YtbiobhghnldckaaGreatDoor
