/- Proved: what is wrong with a command is told. Conditions: the parser lies in memory as 'Par' says, no name stands twice among the labels, no more blocks are open than may be. -/
import Derived.Test.YtbiobhghnldckaaGreatDoorS28
namespace Go.Proofs.YtbiobhghnldckaaGreatDoor
set_option linter.unusedVariables false
set_option maxRecDepth 100000
set_option maxHeartbeats 6400000
section
open Go.RowKit
attribute [local go_sem ↓] Go.wp_at_zero Go.wp_at_succ
theorem rM {g:CG}{pp base:Nat}{w:World}{s:Adz.Ps} (h:Par g pp base w s) (f:Adz.Flt) (hr:Adz.head g.L g.pl s.i=.error f):
 Calls Tryz.prog 77 #[.pointer (some ⟨pp,0,none⟩)] w fun e w'=>∃v,e=.returned v∧ck w w' v f∧ae (fun b=>b=g.c∨b=pp∨base≤b+1) w w':=by
 have HR:Hid _:=hr;clear hr;have jV:=h.few;have dy:=h.cur.small;have q0:=h.lead.at0;have cR:=h.cur.lt;obtain⟨i0,dZ,fQ,eJ,eF⟩:=info_parts ju;go_enter Tryz.func77,Tryz.ntmps77;go_wp2_with fail;refine(Bu g pp w s.i h.cur h.lead f HR.out).mono ?_;rintro e w1 ⟨v,rfl,⟨fb,rfl,eW,hf⟩,bq⟩;go_wp2;go_ret;have oz:∀o:Obj,ae (fun b=>b=g.c∨b=pp∨base≤b+1) w (w1.alloc o):=fun o=>(bq.mono (fun _ _ e=>Or.inl e)).alloc o;exact⟨_,rfl,⟨fb,rfl,eW,by first | exact hf | exact hf.keeps ((ae.refl (fun _=>False) w1).alloc _) id⟩,by first | exact bq.mono (fun _ _ e=>Or.inl e) | exact oz _⟩
theorem rO {g:CG}{pp base:Nat}{w:World}{s:Adz.Ps} (h:Par g pp base w s) (c0:Adz.Cmd) (i1:Nat) (hH:fZ g pp s.i c0 i1) (Dt:s.i≤i1) (xW:c0.addrs.length≤1000) (OV:s.opens.length≤500) (f:Adz.Flt) (hr:Adz.what g.L g.pl s c0 i1=.error f):
 Calls Tryz.prog 77 #[.pointer (some ⟨pp,0,none⟩)] w fun e w'=>∃v,e=.returned v∧ck w w' v f∧ae (fun b=>b=g.c∨b=pp∨base≤b+1) w w':=by
 have HR:Hid _:=hr;clear hr;have jV:=h.few;have dy:=h.cur.small;have q0:=h.lead.at0;have cR:=h.cur.lt;obtain⟨i0,dZ,fQ,eJ,eF⟩:=info_parts ju;go_enter Tryz.func77,Tryz.ntmps77;go_wp2_with fail;refine(hH w h.cur h.lead).mono ?_;rintro e w1 ⟨Ma,FX,om,Mg,MR,rfl,xJ,cC,bq⟩;obtain⟨⟨nG,nJ,nH,rfl⟩,⟨mu,nX,mv,rfl⟩,⟨n8,og,oe,rfl⟩,⟨nL,nN,nM,rfl⟩,⟨ot,ox,ow,rfl⟩⟩:=cH xJ;have h1:=h.moved cC bq Dt;have q1:=h1.lead.at0;have DX:pp<w1.heap.size:=h1.lead.lt;go_wp2_with fail;have ek:=h1.moved (cC.alloc (.cells #[.int .i32 c0.what,.slice nG nJ nH,.bool c0.neg,.string ⟨c0.text.toArray⟩,.string ⟨c0.name.toArray⟩,.int .i64 c0.goal,.slice mu nX mv,.int .i64 c0.pat.groups,.slice n8 og oe,.bool c0.all,.bool c0.print,.int .i64 c0.nth,.slice nL nN nM,.slice ot ox ow] 167)) ((ae.refl _ w1).alloc _) (Nat.le_refl _);have kc:CmdAt (w1.alloc (.cells #[.int .i32 c0.what,.slice nG nJ nH,.bool c0.neg,.string ⟨c0.text.toArray⟩,.string ⟨c0.name.toArray⟩,.int .i64 c0.goal,.slice mu nX mv,.int .i64 c0.pat.groups,.slice n8 og oe,.bool c0.all,.bool c0.print,.int .i64 c0.nth,.slice nL nN nM,.slice ot ox ow] 167)) w1.heap.size c0:=⟨aq.new _ _ _ _,_,_,_,_,_,ai.new w1 _ _,xJ.keeps ((ae.refl (fun _=>False) w1).alloc _) ⟨fun _ _=>id,fun _ _=>id,fun _ _=>id,fun _ _=>id,fun _ _=>id⟩⟩;have oa:ae (·=g.c) w (w1.alloc (.cells #[.int .i32 c0.what,.slice nG nJ nH,.bool c0.neg,.string ⟨c0.text.toArray⟩,.string ⟨c0.name.toArray⟩,.int .i64 c0.goal,.slice mu nX mv,.int .i64 c0.pat.groups,.slice n8 og oe,.bool c0.all,.bool c0.print,.int .i64 c0.nth,.slice nL nN nM,.slice ot ox ow] 167)):=bq.alloc _
 have dr:w.heap.size≤w1.heap.size:=bq.size;generalize iR:w1.heap.size=cb at*
 generalize w1.alloc (.cells #[.int .i32 c0.what,.slice nG nJ nH,.bool c0.neg,.string ⟨c0.text.toArray⟩,.string ⟨c0.name.toArray⟩,.int .i64 c0.goal,.slice mu nX mv,.int .i64 c0.pat.groups,.slice n8 og oe,.bool c0.all,.bool c0.print,.int .i64 c0.nth,.slice nL nN nM,.slice ot ox ow] 167)=w2 at*
 refine(ar g w2 i1 ek.cur).mono ?_;rintro e w3 ⟨rfl,n3,rfl⟩;have q2:=ek.lead.at0;have h3:=ek.moved (ek.cur.drewN n3) ((ae.refl _ w2).drewN n3) (Nat.le_refl _);have zG:=kc.keeps ((ae.refl (·=g.c) w2).drewN n3) ek.cur.spares (kc.typ.ne ek.cur.tc (by decide));go_wp2_with fail;refine(CD g pp base cb (w2.drewN n3) {s with i:=i1} h3 c0 zG xW OV f HR.out).mono ?_;rintro e w4 ⟨v,rfl,⟨fb,rfl,eW,hf⟩,dg⟩;have eF:=oa.size;have GS:w2.heap.size≤fb:=eW;have o4:ae (fun b=>b=g.c∨b=pp∨base≤b+1) w w4:=(oa.drewN n3).trans dg (fun _ e=>Or.inl e) (fun _ _ e=>e.elim);go_wp2;go_ret;exact⟨_,rfl,⟨fb,rfl,by omega,hf⟩,o4⟩
theorem rL {g:CG}{pp base:Nat}{w:World}{s:Adz.Ps} (h:Par g pp base w s) (c0:Adz.Cmd) (i1:Nat) (hH:fZ g pp s.i c0 i1) (Dt:s.i≤i1) (hW:jI g pp base {s with i:=i1} c0) (k:Int) (hk:Adz.behindKind (Adz.peek g.L i1)=some k) (f:Adz.Flt) (hr:Adz.behind g.L g.pl s {c0 with what:=Adz.peek g.L i1} (Adz.place g.pl i1) (i1+1)=.error f):
 Calls Tryz.prog 77 #[.pointer (some ⟨pp,0,none⟩)] w fun e w'=>∃v,e=.returned v∧ck w w' v f∧ae (fun b=>b=g.c∨b=pp∨base≤b+1) w w':=by
 have HR:Hid _:=hr;have Jz:Hid _:=hk;clear hr hk;have jV:=h.few;have dy:=h.cur.small;have q0:=h.lead.at0;have cR:=h.cur.lt;obtain⟨i0,dZ,fQ,eJ,eF⟩:=info_parts ju;go_enter Tryz.func77,Tryz.ntmps77;go_wp2_with fail;refine(hH w h.cur h.lead).mono ?_;rintro e w1 ⟨Ma,FX,om,Mg,MR,rfl,xJ,cC,bq⟩;obtain⟨⟨nG,nJ,nH,rfl⟩,⟨mu,nX,mv,rfl⟩,⟨n8,og,oe,rfl⟩,⟨nL,nN,nM,rfl⟩,⟨ot,ox,ow,rfl⟩⟩:=cH xJ;have h1:=h.moved cC bq Dt;have q1:=h1.lead.at0;have DX:pp<w1.heap.size:=h1.lead.lt;go_wp2_with fail;have ek:=h1.moved (cC.alloc (.cells #[.int .i32 c0.what,.slice nG nJ nH,.bool c0.neg,.string ⟨c0.text.toArray⟩,.string ⟨c0.name.toArray⟩,.int .i64 c0.goal,.slice mu nX mv,.int .i64 c0.pat.groups,.slice n8 og oe,.bool c0.all,.bool c0.print,.int .i64 c0.nth,.slice nL nN nM,.slice ot ox ow] 167)) ((ae.refl _ w1).alloc _) (Nat.le_refl _);have kc:CmdAt (w1.alloc (.cells #[.int .i32 c0.what,.slice nG nJ nH,.bool c0.neg,.string ⟨c0.text.toArray⟩,.string ⟨c0.name.toArray⟩,.int .i64 c0.goal,.slice mu nX mv,.int .i64 c0.pat.groups,.slice n8 og oe,.bool c0.all,.bool c0.print,.int .i64 c0.nth,.slice nL nN nM,.slice ot ox ow] 167)) w1.heap.size c0:=⟨aq.new _ _ _ _,_,_,_,_,_,ai.new w1 _ _,xJ.keeps ((ae.refl (fun _=>False) w1).alloc _) ⟨fun _ _=>id,fun _ _=>id,fun _ _=>id,fun _ _=>id,fun _ _=>id⟩⟩;have oa:ae (·=g.c) w (w1.alloc (.cells #[.int .i32 c0.what,.slice nG nJ nH,.bool c0.neg,.string ⟨c0.text.toArray⟩,.string ⟨c0.name.toArray⟩,.int .i64 c0.goal,.slice mu nX mv,.int .i64 c0.pat.groups,.slice n8 og oe,.bool c0.all,.bool c0.print,.int .i64 c0.nth,.slice nL nN nM,.slice ot ox ow] 167)):=bq.alloc _
 have dr:w.heap.size≤w1.heap.size:=bq.size;generalize iR:w1.heap.size=cb at*
 generalize w1.alloc (.cells #[.int .i32 c0.what,.slice nG nJ nH,.bool c0.neg,.string ⟨c0.text.toArray⟩,.string ⟨c0.name.toArray⟩,.int .i64 c0.goal,.slice mu nX mv,.int .i64 c0.pat.groups,.slice n8 og oe,.bool c0.all,.bool c0.print,.int .i64 c0.nth,.slice nL nN nM,.slice ot ox ow] 167)=w2 at*
 refine(ar g w2 i1 ek.cur).mono ?_;rintro e w3 ⟨rfl,n3,rfl⟩;have q2:=ek.lead.at0;have h3:=ek.moved (ek.cur.drewN n3) ((ae.refl _ w2).drewN n3) (Nat.le_refl _);have zG:=kc.keeps ((ae.refl (·=g.c) w2).drewN n3) ek.cur.spares (kc.typ.ne ek.cur.tc (by decide));go_wp2_with fail;refine(hW _ cb h3 zG).mono ?_;rintro e w4 ⟨rfl,HY,eu,dg⟩;have bM:cb≠g.c:=kc.typ.ne ek.cur.tc (by decide);have gH:pp≠cb:=h3.lead.typ.ne zG.typ (by decide);have o4:ae (·=g.c) w w4:=(oa.drewN n3).trans dg (fun _ e=>e) (fun b hb e=>by rcases e with e | e;exact e;omega);go_wp2_with fail;have MH:=o4.size;refine(wm h o4 eu (by omega) _ HY dr k Jz.out _ f HR.out).mono ?_;rintro e w5 ⟨v,rfl,⟨fb,rfl,eW,hf⟩,o5⟩;have VG:ae (fun b=>b=g.c∨b=pp∨base≤b+1) w w5:=(o4.trans o5 (fun _ e=>Or.inl e) (fun _ _ e=>e):ae (fun b=>b=g.c∨b=cb) w w5).mono (fun b hb e=>by rcases e with e | e;exact Or.inl e;omega);go_wp2;go_ret;exact⟨_,rfl,⟨fb,rfl,by omega,hf⟩,VG⟩
theorem rN {g:CG}{pp base:Nat}{w:World}{s:Adz.Ps} (h:Par g pp base w s) (c0:Adz.Cmd) (i1:Nat) (hH:fZ g pp s.i c0 i1) (Dt:s.i≤i1) (hW:jI g pp base {s with i:=i1} c0)
 (s3:Adz.Ps) (c:Adz.Cmd) (hB:tJ g pp i1 s s3 {c0 with what:=Adz.peek g.L i1} c) (zp:s3.cmds.length<s3.i) (f:Adz.Flt) (ht:Adz.tail g.L g.pl s3.i=.error f) (mr:c.what≠123):
 Calls Tryz.prog 77 #[.pointer (some ⟨pp,0,none⟩)] w fun e w'=>∃v,e=.returned v∧ck w w' v f∧ae (fun b=>b=g.c∨b=pp∨base≤b+1) w w':=by
 have HT:Hid _:=ht;clear ht;have jV:=h.few;have dy:=h.cur.small;have q0:=h.lead.at0;have cR:=h.cur.lt;obtain⟨i0,dZ,fQ,eJ,eF⟩:=info_parts ju;go_enter Tryz.func77,Tryz.ntmps77;go_wp2_with fail;refine(hH w h.cur h.lead).mono ?_;rintro e w1 ⟨Ma,FX,om,Mg,MR,rfl,xJ,cC,bq⟩;obtain⟨⟨nG,nJ,nH,rfl⟩,⟨mu,nX,mv,rfl⟩,⟨n8,og,oe,rfl⟩,⟨nL,nN,nM,rfl⟩,⟨ot,ox,ow,rfl⟩⟩:=cH xJ;have h1:=h.moved cC bq Dt;have q1:=h1.lead.at0;have DX:pp<w1.heap.size:=h1.lead.lt;go_wp2_with fail;have ek:=h1.moved (cC.alloc (.cells #[.int .i32 c0.what,.slice nG nJ nH,.bool c0.neg,.string ⟨c0.text.toArray⟩,.string ⟨c0.name.toArray⟩,.int .i64 c0.goal,.slice mu nX mv,.int .i64 c0.pat.groups,.slice n8 og oe,.bool c0.all,.bool c0.print,.int .i64 c0.nth,.slice nL nN nM,.slice ot ox ow] 167)) ((ae.refl _ w1).alloc _) (Nat.le_refl _);have kc:CmdAt (w1.alloc (.cells #[.int .i32 c0.what,.slice nG nJ nH,.bool c0.neg,.string ⟨c0.text.toArray⟩,.string ⟨c0.name.toArray⟩,.int .i64 c0.goal,.slice mu nX mv,.int .i64 c0.pat.groups,.slice n8 og oe,.bool c0.all,.bool c0.print,.int .i64 c0.nth,.slice nL nN nM,.slice ot ox ow] 167)) w1.heap.size c0:=⟨aq.new _ _ _ _,_,_,_,_,_,ai.new w1 _ _,xJ.keeps ((ae.refl (fun _=>False) w1).alloc _) ⟨fun _ _=>id,fun _ _=>id,fun _ _=>id,fun _ _=>id,fun _ _=>id⟩⟩;have oa:ae (·=g.c) w (w1.alloc (.cells #[.int .i32 c0.what,.slice nG nJ nH,.bool c0.neg,.string ⟨c0.text.toArray⟩,.string ⟨c0.name.toArray⟩,.int .i64 c0.goal,.slice mu nX mv,.int .i64 c0.pat.groups,.slice n8 og oe,.bool c0.all,.bool c0.print,.int .i64 c0.nth,.slice nL nN nM,.slice ot ox ow] 167)):=bq.alloc _
 have dr:w.heap.size≤w1.heap.size:=bq.size;generalize iR:w1.heap.size=cb at*
 generalize w1.alloc (.cells #[.int .i32 c0.what,.slice nG nJ nH,.bool c0.neg,.string ⟨c0.text.toArray⟩,.string ⟨c0.name.toArray⟩,.int .i64 c0.goal,.slice mu nX mv,.int .i64 c0.pat.groups,.slice n8 og oe,.bool c0.all,.bool c0.print,.int .i64 c0.nth,.slice nL nN nM,.slice ot ox ow] 167)=w2 at*
 refine(ar g w2 i1 ek.cur).mono ?_;rintro e w3 ⟨rfl,n3,rfl⟩;have q2:=ek.lead.at0;have h3:=ek.moved (ek.cur.drewN n3) ((ae.refl _ w2).drewN n3) (Nat.le_refl _);have zG:=kc.keeps ((ae.refl (·=g.c) w2).drewN n3) ek.cur.spares (kc.typ.ne ek.cur.tc (by decide));go_wp2_with fail;refine(hW _ cb h3 zG).mono ?_;rintro e w4 ⟨rfl,HY,eu,dg⟩;have bM:cb≠g.c:=kc.typ.ne ek.cur.tc (by decide);have gH:pp≠cb:=h3.lead.typ.ne zG.typ (by decide);have o4:ae (·=g.c) w w4:=(oa.drewN n3).trans dg (fun _ e=>e) (fun b hb e=>by rcases e with e | e;exact e;omega);go_wp2_with fail;refine(hB base w w4 cb h o4 eu (by omega) HY dr).mono ?_;rintro e w5 ⟨rfl,B9,h5,uH,o5⟩;obtain⟨qv,xs,c1,c2,c3⟩:=h5.cmds;obtain⟨av,iv,rv,fv,tv,kk,dd⟩:=B9.deep;obtain⟨⟨aa,an,ac,rfl⟩,⟨ia,FT,ic,rfl⟩,⟨ra,rn,rc,rfl⟩,⟨fa,fn,fc,rfl⟩,⟨ta,tn,tc,rfl⟩⟩:=cH dd;have k0:=(kk 0 _ rfl).1;have k1:=(kk 1 _ rfl).1;have k2:=(kk 2 _ rfl).1;have k3:=(kk 3 _ rfl).1;have k4:=(kk 4 _ rfl).1;have k5:=(kk 5 _ rfl).1;have k6:=(kk 6 _ rfl).1;have k7:=(kk 7 _ rfl).1;have k8:=(kk 8 _ rfl).1;have k9:=(kk 9 _ rfl).1;have RU:=(kk 10 _ rfl).1;have RW:=(kk 11 _ rfl).1;have B8:=(kk 12 _ rfl).1;have Jh:=(kk 13 _ rfl).1;have lr:pp<w5.heap.size:=h5.lead.lt;have JZ:=h5.f2;have aJ:qv.ownBlock≠some pp:=aG c2 h5.lead.typ (by decide);have CR:=h5.bs;have KR:=h5.cur.le;have Fw:=h5.few;have q5:=h5.lead.at0;have p7:∀o:Obj,(w5.alloc o).cell? ⟨pp,2,none⟩=some qv:=fun o=>by rw[World.cell?_alloc_past _ _ _ lr];exact c1
 have p6:∀o:Obj,(w5.alloc o).frozen? ⟨pp,2,none⟩=false:=fun o=>by rw[World.frozen?_alloc_past _ _ _ lr];exact JZ
 have bw:(c.what==123)=false:=by simpa using mr
 have GQ:qv.ownBlock≠some cb:=fun e=>by
  obtain⟨So,MU,e1,e2,_⟩:=h.cmds;have e3:=uH.trans e1;rw[c1] at e3
  cases e3
  have:=(e2.lt cb e).2;omega
 clear mr q0 q1 q2 uH;go_wp2_with fail
 go_region_law
  ((refine step_append_lies _ (by rfl) _ _ _ (by rfl) base 167 i0 _ 14 200 Tryz.underlying99 dZ fQ eJ eF rfl (by omega) qv s3.cmds.length xs (by rfl) ((c2.alloc _).drew)
     ⟨w5.heap.size,0,none⟩ 1 1 [.int .i32 c.what,.slice aa an ac,.bool c.neg,.string ⟨c.text.toArray⟩,.string ⟨c.name.toArray⟩,.int .i64 c.goal,.slice ia FT ic,.int .i64 c.pat.groups,.slice ra rn rc,.bool c.all,.bool c.print,.int .i64 c.nth,.slice fa fn fc,.slice ta tn tc] (by rfl) (by rfl) (World.news_of_block (cs:= #[.int .i32 c.what,.slice aa an ac,.bool c.neg,.string ⟨c.text.toArray⟩,.string ⟨c.name.toArray⟩,.int .i64 c.goal,.slice ia FT ic,.int .i64 c.pat.groups,.slice ra rn rc,.bool c.all,.bool c.print,.int .i64 c.nth,.slice fa fn fc,.slice ta tn tc]) (t:=167) (fr:=(0,0)) (heap_alloc_new w5 _)) (by simp[Value.oneCell'])
     (by omega) (by unfold maxLen;omega) (by omega) (by simp;omega) (w5.heap.size+1) (by simp) ?_;intro g1 cap w6 br aI bJ eG;have kc:=(aI.cell_far ⟨pp,2,none⟩ (by simp;omega) (Ne.symm aJ)).trans (p7 _);have kf:=(aI.frozen_far ⟨pp,2,none⟩ (by simp;omega) (Ne.symm aJ)).trans (p6 _)))
 all_goals
  have hv:(Value.slice (some ⟨g1,0,none⟩) (s3.cmds.length+1) cap).ownBlock≠some pp:=by
   rcases bJ with h | h
   ·intro e
    simp[Value.ownBlock] at e;exact aJ (by rw[h,e])
   ·intro e
    simp[Value.ownBlock] at e;omega
  obtain⟨u1,u2,u3,u4⟩:=bg (((ae.refl _ w5).alloc _).drew) aI kc br hv lr aJ;have h6:=h5.more c1 c2 c3 dd u1 u2 u3 u4 zp
  have LH:¬(cb=pp∨qv.ownBlock=some cb):=by
   rintro(e | e)
   ·exact gH e.symm
   ·exact GQ e
  have RT:=u3.keeps k0 LH;have q6:=h6.lead.at0;go_wp2_with fail
  have o6:ae (fun b=>b=g.c∨b=pp∨base≤b+1) w _:=o5.trans u3 (fun _ e=>e) (fun b hb e=>by
   rcases e with e | e
   ·exact Or.inr (Or.inl e)
   ·have:=(c2.lt b e).1
    exact Or.inr (Or.inr (by omega)))
  refine(Cx g pp _ s3.i h6.cur h6.lead f HT.out).mono ?_;rintro e w8 ⟨v,rfl,hf,zx⟩;go_wp2;go_ret;exact⟨v,rfl,hf.back o6.size,o6.trans zx (fun _ e=>e) (fun _ _ e=>Or.inl e)⟩
theorem ub {g:CG}{pp base:Nat}{w:World}{s:Adz.Ps} (ct:g.L.length≤g.rcap) (h:Par g pp base w s) (gV:PsOk s) (f:Adz.Flt) (hr:Adz.command g.L g.pl s=.error f):
 Calls Tryz.prog 77 #[.pointer (some ⟨pp,0,none⟩)] w fun e w'=>∃v,e=.returned v∧ck w w' v f∧ae (fun b=>b=g.c∨b=pp∨base≤b+1) w w':=by
 unfold Adz.command at hr
 cases hh:Adz.head g.L g.pl s.i with
 | error f'=>
  rw[hh] at hr;simp only[Except.error.injEq] at hr;subst hr;exact rM h f' hh
 | ok q=>
 obtain⟨c0,i1⟩:=q;rw[hh] at hr;simp only at hr;have IX:=oY hh;have hH:=oX g pp s.i c0 i1 hh
 cases hw:Adz.what g.L g.pl s c0 i1 with
 | error f'=>
  rw[hw] at hr;simp only[Except.error.injEq] at hr;subst hr;exact rO h c0 i1 hH IX.1 (by omega) (by have:=gV.few;omega) f' hw
 | ok q=>
 obtain⟨c1,i2⟩:=q;rw[hw] at hr;simp only at hr;have hW:jI g pp base {s with i:=i1} c0:=rD gV hw;obtain⟨k,hk,_,_,h1,rfl,rfl⟩:=ie hw
 cases hb:Adz.behind g.L g.pl s {c0 with what:=Adz.peek g.L i1} (Adz.place g.pl i1) (i1+1) with
 | error f'=>
  rw[hb] at hr;simp only[Except.error.injEq] at hr;subst hr;exact rL h c0 i1 hH IX.1 hW k hk f' hb
 | ok q=>
 obtain⟨c,os,ls,i3⟩:=q;rw[hb] at hr;simp only at hr;obtain⟨hB,BD,DR,Oo,RF⟩:=tX g pp i1 i3 s _ c ct gV.labs gV.few (by omega) k hk os ls hb;have jV:=h.few;by_cases bU:c.what=123
 ·rw[if_pos (by simp[bU])] at hr
  cases hr
 ·rw[if_neg (by simpa using bU)] at hr
  cases ht:Adz.tail g.L g.pl i3 with
  | error f'=>
   rw[ht] at hr;simp only[Except.error.injEq] at hr;subst hr;exact rN h c0 i1 hH IX.1 hW {s with i:=i3,opens:=os,labs:=ls} c hB (by show s.cmds.length<i3;omega) f' ht bU
  | ok i4=>rw [ht] at hr;cases hr
theorem oj {w:World}{B g c N S:Nat}{T:TypeId}{xs:List Value} (h:w.ownsRow B T S (.slice (some ⟨g,0,none⟩) N c) N xs) (j:Nat):w.frozen? ⟨g,j,none⟩=false:=by
 rcases h.2 with ⟨e,h0⟩ |⟨g',cap,cur,hv,_,hg,ct,_,dr,fH⟩
 ·cases e
 ·injection hv with e1 e2 e3
  injection e1 with e1;injection e1 with e1;subst e1;unfold World.frozen?;simp[hg]
theorem dX {w:World} (f:Nat) (hf:f<14):∀ {cs:List Adz.Cmd}{xs:List Value},di w cs xs→∀j (hj:j<cs.length),∃av iv rv fv tv,xs[j*14+f]? =(aA cs[j] av iv rv fv tv)[f]?
 | [],[],_,j,hj=>by simp at hj
 | c::cs,x0::x1::x2::x3::x4::x5::x6::x7::x8::x9::ke::kg::jG::jH::xs,h,0,_=>by
  obtain⟨⟨av,iv,rv,fv,tv,e,d⟩,r⟩:=h;refine⟨av,iv,rv,fv,tv,?_⟩;show _=(aA c av iv rv fv tv)[f]?;rw[←e];have:∀f,f<14→([x0,x1,x2,x3,x4,x5,x6,x7,x8,x9,ke,kg,jG,jH]++xs)[f]? = [x0,x1,x2,x3,x4,x5,x6,x7,x8,x9,ke,kg,jG,jH][f]? :=fun f hf=>List.getElem?_append_left (by simpa using hf);rw[Nat.zero_mul,Nat.zero_add];exact this f hf
 | c::cs,x0::x1::x2::x3::x4::x5::x6::x7::x8::x9::ke::kg::jG::jH::xs,h,j+1,hj=>by
  obtain⟨av,iv,rv,fv,tv,ih⟩:=dX f hf h.2 j (by simpa using hj);refine⟨av,iv,rv,fv,tv,?_⟩;have e:(j+1)*14+f=j*14+f+1+1+1+1+1+1+1+1+1+1+1+1+1+1:=by omega
  rw[e];simpa using ih
theorem Par.goaled {g:CG}{pp base:Nat}{w:World}{s:Adz.Ps} (h:Par g pp base w s) {qb qc:Nat} (hq:w.cell? ⟨pp,2,none⟩=some (.slice (some ⟨qb,0,none⟩) s.cmds.length qc)) (k:Nat) (hk:k<s.cmds.length) (v:Int):
 Par g pp base (w.setCell ⟨qb,k*14+5,none⟩ (.int .i64 v)) {s with cmds:=s.cmds.set k {s.cmds[k] with goal:=v}}∧ae (fun b=>base≤b) w (w.setCell ⟨qb,k*14+5,none⟩ (.int .i64 v))∧qb≠pp:=by
 obtain⟨mb,m1,m2⟩:=h.map;obtain⟨qv,xs,c1,c2,c3⟩:=h.cmds;obtain⟨ov,o1,o2⟩:=h.op;obtain⟨lb,l0,l1,l2⟩:=h.lab
 obtain rfl:qv=.slice (some ⟨qb,0,none⟩) s.cmds.length qc:=by
  rw[hq] at c1;injection c1 with c1;exact c1.symm
 have tq:aq w qb 167:=aq.of_row c2 rfl;have hb:=(c2.lt qb rfl).1;have o:=af w qb (k*14+5) (.int .i64 v);have key:∀ {b:Nat} {T:TypeId},aq w b T→T≠167→¬b=qb:=fun t n e=>t.ne tq n e;have n0:=key h.lead.typ (by decide);have sp:Spares w (·=qb):=aS tq (by decide);have mk:∀ {m:Nat} {es:Array MapEntry} {n:Nat},w.heap[m]? =some (.map es n)→¬m=qb:=fun hm e=>dO tq hm e
 refine⟨⟨h.cur.keeps o (key h.cur.tc (by decide)) (fun hn=>key (h.cur.tr hn) (by decide)) (key h.cur.tp (by decide)),h.lead.keeps o n0,⟨mb,o.keeps m1 n0,aN m2 o (mk m2)⟩,
  ⟨_,xs.set (k*14+5) (.int .i64 v),o.keeps hq n0,by rw[List.length_set];exact Cs c2 _ (by omega) _,l8 v (c3.keeps o sp) k hk⟩,⟨ov,o.keeps o1 n0,ag o2 o (fun b sd=>key (aq.of_row o2 sd) (by decide))⟩,
  ⟨lb,l0,o.keeps l1 n0,aN l2 o (mk l2)⟩,o.keepsFrozen c1 h.f2 n0,o.keepsFrozen o1 h.f3 n0,Nat.le_trans h.bs o.size,h.pb,by rw[List.length_set];exact h.few⟩,o.mono (fun b _ e=>by subst e;exact hb),fun e=>n0 e.symm⟩
theorem yR {g:CG}{pp base:Nat}{w:World}{s:Adz.Ps} (h:Par g pp base w s) (aw:s.i<g.L.length) (k:Nat) (os:List Int) (Lb:os.length≤500) (ho:s.opens=os++ [(k:Int)]) (hk:k<s.cmds.length):
 Calls Tryz.prog 76 #[.pointer (some ⟨pp,0,none⟩)] w fun e w'=>e=.returned (.pointer none)∧Par g pp base w' {s with i:=s.i+1,opens:=os,cmds:=s.cmds.set k {s.cmds[k] with goal:=(s.cmds.length:Int)}}∧ae (fun b=>b=g.c∨b=pp∨base≤b+1) w w':=by
 have q0:=h.lead.at0;obtain⟨ov,p1,p2⟩:=h.op;obtain⟨oa,oc,rfl⟩:=ak p2;rw[ho] at p1;have tA:(((os.length:Int)+1)==0)=false:=by simp;omega
 have eX:=h.lead.lt;have eP:=ax g w s.i h.cur aw;go_enter Tryz.func76,Tryz.ntmps76;simp only[List.length_append,List.length_singleton] at p1;go_wp2_with fail;refine eP.mono ?_;clear eP;rintro e w1 ⟨rfl,cC,bq⟩;have h1:=h.moved cC bq (by omega);clear p1 p2 q0;have q0:=h1.lead.at0;obtain⟨ov,p1,p2⟩:=h1.op;obtain⟨oa,oc,rfl⟩:=ak p2;have e1:({s with i:=s.i+1}:Adz.Ps).opens=os++ [(k:Int)]:=ho;rw[e1] at p1 p2
 obtain⟨ob,rfl⟩:∃ob,oa=some ⟨ob,0,none⟩:=by
  rcases p2.2 with ⟨e,h0⟩ |⟨gb,cap,cur,e,_⟩
  ·simp at h0
  ·injection e with e1;exact⟨gb,e1⟩
 have Sn:w1.cell? ⟨ob,os.length,none⟩=some (.int .i64 k):=by
  rw[p2.cellAt os.length (by simp)];simp
 have UW:os.length+1≤oc:=by
  rcases p2.2 with ⟨e,h0⟩ |⟨gb,cap,cur,e,_,_,hc,_⟩
  ·simp at h0
  ·injection e with e1 e2 e3;subst e3;simpa using hc
 obtain⟨qv,xs,c1,c2,c3⟩:=h1.cmds;obtain⟨qa,qc,rfl⟩:=ak c2
 obtain⟨qb,rfl⟩:∃qb,qa=some ⟨qb,0,none⟩:=by
  rcases c2.2 with ⟨e,h0⟩ |⟨gb,cap,cur,e,_⟩
  ·have:s.cmds.length=0:=h0
   omega
  ·injection e with e1;exact⟨gb,e1⟩
 simp only[List.length_append,List.length_singleton] at p1 c1;obtain⟨CQ,o2,I9⟩:=h1.goaled c1 k hk (s.cmds.length:Int);have cR:=h1.few;have hle:=h1.cur.le;have dy:=h1.cur.small;have M4:Hid _:=CQ
 have fC:w1.cell? ⟨qb,k*14+5,none⟩=some (.int .i64 (s.cmds[k]).goal):=by
  rw[c2.cellAt (k*14+5) (show k*14+5<s.cmds.length*14 by omega)];obtain⟨_,_,_,_,_,e⟩:=dX 5 (by omega) c3 k hk;exact e
 have Bx:=oj c2 (k*14+5);simp only at cR hle;have dk:(k:Int)<(s.cmds.length:Int):=by omega
 have Qn:Hid _:=o2;have P2:Hid _:=p2;have f3:=h1.f3;have HO:Hid _:=ho;clear CQ o2 p2 c2 c3 e1 ho;go_wp2_with fail
 go_region
 have Fl:Par g pp base (w1.setCell ⟨qb,k*14+5,none⟩ (.int .i64 (s.cmds.length:Int))).drew {s with i:=s.i+1,cmds:=s.cmds.set k {s.cmds[k] with goal:=(s.cmds.length:Int)}}:=M4.out.moved (M4.out.cur.drewN 1) ((ae.refl _ _).drewN 1) (Nat.le_refl _);have o3:ae (fun b=>b=g.c∨base≤b) w (w1.setCell ⟨qb,k*14+5,none⟩ (.int .i64 (s.cmds.length:Int))).drew:=(bq.trans Qn.out (fun _ e=>Or.inl e) (fun _ _ e=>Or.inr e):ae (fun b=>b=g.c∨base≤b) w _).drew;clear M4 Qn P2 p1 Sn c1 fC Bx f3 q0 I9 h1 cC bq;generalize (w1.setCell ⟨qb,k*14+5,none⟩ (.int .i64 (s.cmds.length:Int))).drew=w3 at*
 have q0:=Fl.lead.at0;have f3:=Fl.f3;obtain⟨ov,p1,p2⟩:=Fl.op;obtain⟨oa,oc,rfl⟩:=ak p2;have e1:({s with i:=s.i+1,cmds:=s.cmds.set k {s.cmds[k] with goal:=(s.cmds.length:Int)}}:Adz.Ps).opens=os++ [(k:Int)]:=HO.out;rw[e1] at p1 p2
 obtain⟨ob,rfl⟩:∃ob,oa=some ⟨ob,0,none⟩:=by
  rcases p2.2 with ⟨e,h0⟩ |⟨gb,cap,cur,e,_⟩
  ·simp at h0
  ·injection e with e1;exact⟨gb,e1⟩
 have RE:=(sX p2 (Nat.le_refl _)).2;have DV:¬ob=pp:=fun e=>(aq.of_row p2 rfl).ne Fl.lead.typ (by decide) e;have P2:Hid _:=p2
 have ct:os.length+1≤oc:=by
  rcases p2.2 with ⟨e,h0⟩ |⟨gb,cap,cur,e,_,_,hc,_⟩
  ·simp at h0
  ·injection e with e1 e2 e3;subst e3;simpa using hc
 simp only[List.length_append,List.length_singleton] at p1;clear p2 RE;go_wp2;have Az:=af w3 pp 3 (.slice (some ⟨ob,0,none⟩) os.length oc)
 have cz:w3.ownsRow base 3 1 (.slice (some ⟨ob,0,none⟩) ({s with i:=s.i+1,cmds:=s.cmds.set k {s.cmds[k] with goal:=(s.cmds.length:Int)}}:Adz.Ps).opens.length oc) ({s with i:=s.i+1,cmds:=s.cmds.set k {s.cmds[k] with goal:=(s.cmds.length:Int)}}:Adz.Ps).opens.length (({s with i:=s.i+1,cmds:=s.cmds.set k {s.cmds[k] with goal:=(s.cmds.length:Int)}}:Adz.Ps).opens.map (Value.int .i64)):=by
  rw[e1];exact P2.out
 have q2:(w3.setCell ⟨pp,3,none⟩ (.slice (some ⟨ob,0,none⟩) os.length oc)).ownsRow base 3 1 (.slice (some ⟨ob,0,none⟩) os.length oc) os.length (os.map (Value.int .i64)):=by
  have:=sX P2.out (M:=os.length) (by simp);rw[List.map_append,List.take_left' (by simp)] at this
  exact ag this Az (fun b hb e=>by
   simp[Value.ownBlock] at hb;omega)
 have T5:=Fl.opens' (os:=os) cz (World.cell?_setCell_same _ _ _ p1) q2 (Az.mono (fun _ _ e=>Or.inl e)) (Field.setCell w3 pp 3 _);go_ret;refine⟨rfl,T5,?_⟩
 exact o3.trans Az (fun b e=>by
  rcases e with e | e
  ·exact Or.inl e
  ·exact Or.inr (Or.inr (by omega))) (fun _ _ e=>Or.inr (Or.inl e))
theorem wJ (g:CG) (pp:Nat) (s:Adz.Ps) (hr:Adz.peek g.L s.i=125) (k:Nat) (os:List Int) (Lb:os.length≤500) (ho:s.opens=os++ [(k:Int)]) (hk:k<s.cmds.length):xB g pp s {s with i:=s.i+1,opens:=os,cmds:=s.cmds.set k {s.cmds[k] with goal:=(s.cmds.length:Int)}}:=by
 have aw:s.i<g.L.length:=Adz.lt_of_peek (by omega);refine⟨by omega,fun base w hp=> ?_⟩;have q0:=hp.lead.at0;have HR:Hid (Adz.peek g.L s.i=125):=hr;have cR:=fun n=>yR (hp.moved (hp.cur.drewN n) ((ae.refl (·=g.c) w).drewN n) (Nat.le_refl _)) aw k os Lb ho hk;have HB:Hid (Adz.isBlank 125=false):=show Adz.isBlank 125=false by decide
 clear hr ho;go_enter Tryz.func52,Tryz.ntmps52;go_wp2_with fail;refine(ah g w s.i hp.cur).mono ?_;rintro e w1 ⟨rfl,n,rfl⟩;rw[HR.out];go_wp2_with fail;refine(bL _ _).mono ?_;rintro e w1 ⟨rfl,rfl⟩;rw[HB.out];go_wp2_with fail;refine(cR n).mono ?_;rintro e w2 ⟨rfl,h2,o2⟩;have o1:ae (·=g.c) w (w.drewN n):=(ae.refl _ w).drewN n;go_wp2;go_ret;exact⟨rfl,h2,o1.trans o2 (fun _ e=>Or.inl e) (fun _ _ e=>e)⟩
theorem yQ {g:CG}{pp base:Nat}{w:World}{s:Adz.Ps} (h:Par g pp base w s) (ho:s.opens= []):
 Calls Tryz.prog 76 #[.pointer (some ⟨pp,0,none⟩)] w fun e w'=>∃v,e=.returned v∧ck w w' v (Adz.wrong g.pl s.i)∧ae (fun _=>False) w w':=by
 have q0:=h.lead.at0;obtain⟨ov,p1,p2⟩:=h.op;obtain⟨oa,oc,rfl⟩:=ak p2;rw[ho] at p1;simp only[List.length_nil] at p1;have eX:=h.lead.lt;have qf:=aX g w s.i h.cur;clear p2 ho;go_enter Tryz.func76,Tryz.ntmps76;go_wp2_with fail;refine qf.mono ?_;rintro e w3 ⟨v,rfl,hf,o3⟩;go_wp2;go_ret;exact⟨v,rfl,hf,o3⟩
def vT (g:CG) (pp:Nat) (s:Adz.Ps) (f:Adz.Flt):Prop:=Adz.peek g.L s.i≠ -1∧
 ∀(base:Nat) (w:World),Par g pp base w s→Calls Tryz.prog 52 #[.pointer (some ⟨pp,0,none⟩)] w fun e w'=>∃v,e=.returned v∧ck w w' v f∧ae (fun b=>b=g.c∨b=pp∨base≤b+1) w w'
theorem wH (g:CG) (pp:Nat) (s:Adz.Ps) (hr:Adz.peek g.L s.i=125) (ho:s.opens= []):vT g pp s (Adz.wrong g.pl s.i):=by
 refine⟨by omega,fun base w hp=> ?_⟩;have q0:=hp.lead.at0;have HR:Hid (Adz.peek g.L s.i=125):=hr;have cR:=fun n=>yQ (hp.moved (hp.cur.drewN n) ((ae.refl (·=g.c) w).drewN n) (Nat.le_refl _)) ho;have HB:Hid (Adz.isBlank 125=false):=show Adz.isBlank 125=false by decide
 clear hr ho;go_enter Tryz.func52,Tryz.ntmps52;go_wp2_with fail;refine(ah g w s.i hp.cur).mono ?_;rintro e w1 ⟨rfl,n,rfl⟩;rw[HR.out];go_wp2_with fail;refine(bL _ _).mono ?_;rintro e w1 ⟨rfl,rfl⟩;rw[HB.out];go_wp2_with fail;refine(cR n).mono ?_;rintro e w2 ⟨v,rfl,hf,o2⟩;have o1:ae (·=g.c) w (w.drewN n):=(ae.refl _ w).drewN n;go_wp2;go_ret;exact⟨v,rfl,hf.back (Nat.le_refl _),o1.trans o2 (fun _ e=>Or.inl e) (fun _ _ e=>e.elim)⟩
theorem A3 (g:CG) (pp:Nat) (s:Adz.Ps) (f:Adz.Flt) (r:Int) (hr:Adz.peek g.L s.i=r) (hb:Adz.isBlank r=false) (dQ:r≠10) (Du:r≠59) (fu:r≠125) (hm:r≠ -1)
 (GP:∀base w,Par g pp base w s→Calls Tryz.prog 77 #[.pointer (some ⟨pp,0,none⟩)] w fun e w'=>∃v,e=.returned v∧ck w w' v f∧ae (fun b=>b=g.c∨b=pp∨base≤b+1) w w'):vT g pp s f:=by
 refine⟨by omega,fun base w hp=> ?_⟩;have q0:=hp.lead.at0;have HR:Hid (Adz.peek g.L s.i=r):=hr;have HB:Hid (Adz.isBlank r=false):=hb;have b1:(r==10)=false:=by simpa using dQ
 have b2:(r==59)=false:=by simpa using Du
 have b3:(r==125)=false:=by simpa using fu
 clear hr hb;go_enter Tryz.func52,Tryz.ntmps52;go_wp2_with fail;refine(ah g w s.i hp.cur).mono ?_;rintro e w1 ⟨rfl,n,rfl⟩;rw[HR.out];go_wp2_with fail;refine(bL _ _).mono ?_;rintro e w1 ⟨rfl,rfl⟩;rw[HB.out];go_wp2_with fail;have o1:ae (·=g.c) w (w.drewN n):=(ae.refl _ w).drewN n;refine(GP base _ (hp.moved (hp.cur.drewN n) o1 (Nat.le_refl _))).mono ?_;rintro e w2 ⟨v,rfl,hf,o2⟩;go_wp2;go_ret;exact⟨v,rfl,hf.back (Nat.le_refl _),o1.trans o2 (fun _ e=>Or.inl e) (fun _ _ e=>e)⟩
theorem mK (v:Int):∀ {cs:List Adz.Cmd}{k:Nat} (hk:k<cs.length),Adz.setGoal cs k v=cs.set k {cs[k] with goal:=v}
 | [],k,hk=>by simp at hk
 | c::cs,0,_=>rfl
 | c::cs,k+1,hk=>by
  have ih:=mK v (cs:=cs) (k:=k) (by simpa using hk);unfold Adz.setGoal at ih ⊢;rw[List.modify_succ_cons,List.set_cons_succ,ih]
  rfl
theorem xQ (g:CG) (pp:Nat) (s s1:Adz.Ps) (ct:g.L.length≤g.rcap) (gV:PsOk s) (hm:Adz.peek g.L s.i≠ -1) (hr:Adz.gapOrCommand g.L g.pl s=.ok s1):xB g pp s s1∧PsOk s1∧s.i<s1.i∨(∀base w,¬Par g pp base w s):=by
 by_cases hex:∃base w,Par g pp base w s
 case neg=>exact Or.inr (fun base w h=>hex ⟨base,w,h⟩)
 left;obtain⟨JQ,w0,T4⟩:=hex;unfold Adz.gapOrCommand at hr;simp only at hr;obtain⟨r,cP⟩:∃r,Adz.peek g.L s.i=r:=⟨_,rfl⟩;rw[cP] at hr hm;by_cases h1:Adz.isBlank r=true∨(Adz.isBlank r=false∧(r=10∨r=59))
 ·have hc:(Adz.isBlank r || r==10 || r==59)=true:=by
   rcases h1 with e |⟨_,e | e⟩ <;> simp[e]
  rw[if_pos hc] at hr;simp only[Except.ok.injEq] at hr;subst hr;exact⟨A5 g pp s r cP h1,⟨gV.labs,gV.few,gV.opens⟩,Nat.lt_succ_self _⟩
 ·have hb:Adz.isBlank r=false:=by
   cases hb:Adz.isBlank r with
   | true=>exact absurd (Or.inl hb) h1
   | false=>rfl
  have dQ:r≠10:=fun e=>h1 (Or.inr ⟨hb,Or.inl e⟩);have Du:r≠59:=fun e=>h1 (Or.inr ⟨hb,Or.inr e⟩);rw[if_neg (by simp[hb,dQ,Du])] at hr;by_cases fu:r=125
  ·rw[if_pos (by simp[fu])] at hr
   cases hl:s.opens.getLast? with
   | none=>rw [hl] at hr;cases hr
   | some k=>
    rw[hl] at hr;simp only[Except.ok.injEq] at hr;subst hr;have aJ:s.opens≠ []:=fun e=>by rw[e] at hl;cases hl
    have iD:s.opens=s.opens.dropLast++ [k]:=by
     have h2:=List.dropLast_concat_getLast aJ
     have h3:s.opens.getLast aJ=k:=by
      rw[List.getLast?_eq_some_getLast aJ] at hl;injection hl
     rw[h3] at h2;exact h2.symm
    have hk:=gV.opens k (by rw[iD];simp);have oZ:((k.toNat:Nat):Int)=k:=Int.toNat_of_nonneg hk.1;have RA:k.toNat<s.cmds.length:=by omega
    have Rt:=gV.few;have Uq:s.opens.dropLast.length≤5:=by rw[List.length_dropLast];omega
    rw[mK _ RA];refine⟨wJ g pp s (by rw[cP];exact fu) k.toNat s.opens.dropLast (by omega) (by rw[oZ];exact iD) RA,⟨gV.labs,Uq,fun x hx=> ?_⟩,Nat.lt_succ_self _⟩;have:=gV.opens x (by rw[iD];exact List.mem_append_left _ hx);simpa using this
  ·rw[if_neg (by simpa using fu)] at hr
   have Rp:=ma (pp:=pp) (base:=JQ) (w:=w0) ct T4 gV hr;exact⟨A4 g pp s s1 r cP hb dQ Du fu hm (fun base w hp=>(ma ct hp gV hr).1),Rp.2.1,Rp.2.2⟩
theorem Ds (g:CG) (pp:Nat) (s:Adz.Ps) (f:Adz.Flt) (ct:g.L.length≤g.rcap) (gV:PsOk s) (hm:Adz.peek g.L s.i≠ -1) (hr:Adz.gapOrCommand g.L g.pl s=.error f):vT g pp s f:=by
 unfold Adz.gapOrCommand at hr;simp only at hr;obtain⟨r,cP⟩:∃r,Adz.peek g.L s.i=r:=⟨_,rfl⟩;rw[cP] at hr hm;by_cases h1:Adz.isBlank r=true∨(Adz.isBlank r=false∧(r=10∨r=59))
 ·have hc:(Adz.isBlank r || r==10 || r==59)=true:=by
   rcases h1 with e |⟨_,e | e⟩ <;> simp[e]
  rw[if_pos hc] at hr
  cases hr
 ·have hb:Adz.isBlank r=false:=by
   cases hb:Adz.isBlank r with
   | true=>exact absurd (Or.inl hb) h1
   | false=>rfl
  have dQ:r≠10:=fun e=>h1 (Or.inr ⟨hb,Or.inl e⟩);have Du:r≠59:=fun e=>h1 (Or.inr ⟨hb,Or.inr e⟩);rw[if_neg (by simp[hb,dQ,Du])] at hr;by_cases fu:r=125
  ·rw[if_pos (by simp[fu])] at hr
   cases hl:s.opens.getLast? with
   | none=>
    rw[hl] at hr;simp only[Except.error.injEq] at hr;subst hr;exact wH g pp s (by rw[cP];exact fu) (List.getLast?_eq_none_iff.1 hl)
   | some k=>rw [hl] at hr;cases hr
  ·rw[if_neg (by simpa using fu)] at hr
   exact A3 g pp s f r cP hb dQ Du fu hm (fun base w hp=>ub ct hp gV f hr)
theorem iJ:∀(labs:List Adz.Lab) (n:Nat) (e:MapEntry),e∈aj n labs→∃k x,labs[k]? =some x∧e=bI x (n+k)
 | [],n,e,h=>by simp[aj] at h
 | y::labs,n,e,h=>by
  simp only[aj,List.mem_cons] at h
  rcases h with h | h
  ·exact⟨0,y,rfl,h⟩
  ·obtain⟨k,x,h1,h2⟩:=iJ labs (n+1) e h
   exact⟨k+1,x,by simpa using h1,by rw[h2,show n+1+k=n+(k+1) by omega]⟩
theorem ks:∀(labs:List Adz.Lab) (n k:Nat) (x:Adz.Lab),labs[k]? =some x→(aj n labs).find? (fun e=>e.born==n+k)=some (bI x (n+k))
 | [],n,k,x,h=>by simp at h
 | y::labs,n,0,x,h=>by
  simp at h;subst h;simp[aj,bI]
 | y::labs,n,k+1,x,h=>by
  have ih:=ks labs (n+1) k x (by simpa using h);have e:n+1+k=n+(k+1):=by omega
  rw[e] at ih;simp only[aj,List.find?_cons];have:((bI y n).born==n+(k+1))=false:=by simp[bI]
  rw[this];exact ih
theorem Cf (w:World) (ib lb:Nat) (labs:List Adz.Lab) (seen:Array Nat) (hr:w.heap[ib]? =some (.mapIter (some lb) labs.length seen labs.length)) (hb:dv w lb labs):
 ((leftOf (aj 0 labs).toArray seen).size=0∧(Instr.next (.pointer (some ⟨ib,0,none⟩)) false 0).run Tryz.prog w=.ok (.tuple #[.bool false]) w)∨
 ∃k x w',labs[k]? =some x∧(leftOf (aj 0 labs).toArray (seen.push k)).size<(leftOf (aj 0 labs).toArray seen).size∧(Instr.next (.pointer (some ⟨ib,0,none⟩)) false 0).run Tryz.prog w=.ok (.tuple #[.bool true,.string ⟨x.name.toArray⟩,.agg #[.int .i64 x.set,.int .i64 x.asked]]) w'∧w'.heap[ib]? =some (.mapIter (some lb) labs.length (seen.push k) labs.length)∧ae (·=ib) w w':=by
 have hold:∀e∈(aj 0 labs).toArray.toList,e.born<labs.length:=fun e he=>by
  obtain⟨k,x,h1,rfl⟩:=iJ labs 0 e (by simpa using he);have:=(List.getElem?_eq_some_iff.1 h1).1;simpa[bI] using this
 rcases run_next_at (P:=Tryz.prog) w 0 ib lb labs.length labs.length seen (aj 0 labs).toArray labs.length hr hb hold (Nat.le_refl _) with h |⟨e,he,w1,da,h⟩
 ·exact Or.inl h
 ·right
  have D1:=left_shrinks _ _ e he;obtain⟨k,x,h1,rfl⟩:=iJ labs 0 e (by simpa using (mem_left he).1);rw[Nat.zero_add] at h D1;have Ms:(bI x k).born=k:=rfl;rw[Ms] at h D1;have aw:=(Array.getElem?_eq_some_iff.1 hr).1
  rcases da with rfl | rfl
  ·refine⟨k,x,_,h1,D1,h,?_,rfl,rfl,rfl,by simp[Go.ChangeMaps.setBlock],fun k hk hs=> ?_⟩
   ·show(w1.heap.setIfInBounds ib _)[ib]? =_
    rw[Array.getElem?_setIfInBounds_self_of_lt aw]
   ·show(w1.heap.setIfInBounds ib _)[k]? =_
    rw[Array.getElem?_setIfInBounds,if_neg (fun e=>hs e.symm)]
  ·refine⟨k,x,_,h1,D1,h,?_,(((ae.refl (·=ib) w).drew).os),(((ae.refl (·=ib) w).drew).tape),(((ae.refl (·=ib) w).drew).output),by show w.heap.size≤(w.heap.setIfInBounds ib _).size;simp,fun k hk hs=> ?_⟩
   ·show(w.heap.setIfInBounds ib _)[ib]? =_
    rw[Array.getElem?_setIfInBounds_self_of_lt aw]
   ·show(w.heap.setIfInBounds ib _)[k]? =_
    rw[Array.getElem?_setIfInBounds,if_neg (fun e=>hs e.symm)]
theorem yW (w:World) (ib lb:Nat) (labs:List Adz.Lab) (seen:Array Nat) (k:Nat) (x:Adz.Lab) (hk:labs[k]? =some x) (hr:w.heap[ib]? =some (.mapIter (some lb) labs.length (seen.push k) labs.length)) (hb:dv w lb labs):(Instr.entry (.pointer (some ⟨ib,0,none⟩))).run Tryz.prog w=.ok (.tuple #[.string ⟨x.name.toArray⟩,.agg #[.int .i64 x.set,.int .i64 x.asked]]) w:=by
 have sd:w.heap[lb]? =some (.map (aj 0 labs).toArray labs.length):=hb
 have hf:(aj 0 labs).toArray.find? (fun e=>e.born==k)=some (bI x k):=by
  have:=ks labs 0 k x hk;rw[Nat.zero_add] at this;simpa using this
 have h1:(getObj ib).run Tryz.prog w=.ok (.mapIter (some lb) labs.length (seen.push k) labs.length) w:=by simp[getObj,Sem.run,hr]
 have h2:(getObj lb).run Tryz.prog w=.ok (.map (aj 0 labs).toArray labs.length) w:=MapKept.run_getObj_map sd;have Ul:(seen.push k).back? =some k:=by simp
 simp only[Instr.entry,Sem.run_bind,h1,h2,Result.andThen,Ul,hf,bne_self_eq_false,Bool.false_eq_true,if_false]
 rfl
def ig (labs:List Adz.Lab) (P:Nat→Prop) (m:Int):Prop:=
 (m= -1∧∀k x,P k→labs[k]? =some x→x.set≠ -1)∨((∃k x,P k∧labs[k]? =some x∧x.set= -1∧x.asked=m)∧∀k x,P k→labs[k]? =some x→x.set= -1→m≤x.asked)
theorem ig.one {labs:List Adz.Lab}{P:Nat→Prop}{m m':Int} (ss:∀x∈labs,x.set= -1→0≤x.asked) (h:ig labs P m) (h':ig labs P m'):m=m':=by
 rcases h with ⟨rfl,h⟩ |⟨⟨k,x,h1,h2,h3,h4⟩,h⟩
 ·rcases h' with ⟨rfl,_⟩ |⟨⟨k,x,h1,h2,h3,_⟩,_⟩
  ·rfl
  ·exact absurd h3 (h k x h1 h2)
 ·rcases h' with ⟨rfl,h'⟩ |⟨⟨k',x',g1,g2,g3,g4⟩,h'⟩
  ·exact absurd h3 (h' k x h1 h2)
  ·have a:=h k' x' g1 g2 g3
   have b:=h' k x h1 h2 h3;omega
theorem ig.more {labs:List Adz.Lab}{P Q:Nat→Prop}{m:Int}{k:Nat}{x:Adz.Lab} (ss:∀x∈labs,x.set= -1→0≤x.asked) (h:ig labs P m) (hk:labs[k]? =some x) (hQ:∀j,Q j↔(P j∨j=k)):ig labs Q (if x.set= -1∧(m= -1∨x.asked<m) then x.asked else m):=by
 have Vk:=List.mem_of_getElem? hk;by_cases hx:x.set= -1
 ·have WM:=ss x Vk hx
  rcases h with ⟨rfl,h⟩ |⟨⟨k0,x0,h1,h2,h3,h4⟩,h⟩
  ·rw[if_pos ⟨hx,Or.inl rfl⟩]
   refine Or.inr ⟨⟨k,x,(hQ k).2 (Or.inr rfl),hk,hx,rfl⟩,fun j y hj hy hs=> ?_⟩
   rcases(hQ j).1 hj with hj | rfl
   ·exact absurd hs (h j y hj hy)
   ·rw[hk] at hy;injection hy with hy;subst hy;exact Int.le_refl _
  ·have uE:=ss x0 (List.mem_of_getElem? h2) h3
   by_cases aw:x.asked<m
   ·rw[if_pos ⟨hx,Or.inr aw⟩]
    refine Or.inr ⟨⟨k,x,(hQ k).2 (Or.inr rfl),hk,hx,rfl⟩,fun j y hj hy hs=> ?_⟩
    rcases(hQ j).1 hj with hj | rfl
    ·have:=h j y hj hy hs;omega
    ·rw[hk] at hy;injection hy with hy;subst hy;exact Int.le_refl _
   ·rw[if_neg (by rintro⟨_,e | e⟩ <;> omega)]
    refine Or.inr ⟨⟨k0,x0,(hQ k0).2 (Or.inl h1),h2,h3,h4⟩,fun j y hj hy hs=> ?_⟩
    rcases(hQ j).1 hj with hj | rfl
    ·exact h j y hj hy hs
    ·rw[hk] at hy;injection hy with hy;subst hy;omega
 ·rw[if_neg (fun e=>hx e.1)]
  rcases h with ⟨rfl,h⟩ |⟨⟨k0,x0,h1,h2,h3,h4⟩,h⟩
  ·refine Or.inl ⟨rfl,fun j y hj hy=> ?_⟩
   rcases(hQ j).1 hj with hj | rfl
   ·exact h j y hj hy
   ·rw[hk] at hy;injection hy with hy;subst hy;exact hx
  ·refine Or.inr ⟨⟨k0,x0,(hQ k0).2 (Or.inl h1),h2,h3,h4⟩,fun j y hj hy hs=> ?_⟩
   rcases(hQ j).1 hj with hj | rfl
   ·exact h j y hj hy hs
   ·rw[hk] at hy;injection hy with hy;subst hy;exact absurd hs hx
theorem qF (labs:List Adz.Lab) (ss:∀x∈labs,x.set= -1→0≤x.asked):ig labs (fun _=>True) (Adz.missing labs):=by
 have key:∀(rest done:List Adz.Lab) (m:Int),labs=done++rest→ig labs (fun k=>k<done.length) m→ig labs (fun k=>k<done.length+rest.length) (rest.foldl (fun first u=>if u.set== -1 && (first== -1 || decide (u.asked<first)) then u.asked else first) m):=by
  intro rest
  induction rest with
  | nil=>intro done m _ h;exact h
  | cons x rest ih=>
   intro done m he h;rw[List.foldl_cons];have hk:labs[done.length]? =some x:=by rw[he];simp
   have h2:=h.more (Q:=fun k=>k<(done++ [x]).length) ss hk (fun j=>by simp;omega)
   have e:(if (x.set== -1 && (m== -1 || decide (x.asked<m)))=true then x.asked else m)=(if x.set= -1∧(m= -1∨x.asked<m) then x.asked else m):=by
    congr 1;simp
   rw[e];have h3:=ih (done++ [x]) _ (by rw[he];simp) h2;have e2:(done++ [x]).length+rest.length=done.length+(x::rest).length:=by simp;omega
   rw[e2] at h3;exact h3
 have h:=key labs [] (-1) rfl (Or.inl ⟨rfl,fun k x hk=>absurd hk (Nat.not_lt_zero _)⟩);unfold Adz.missing
 rcases h with ⟨h1,h2⟩ |⟨⟨k,x,h1,h2,h3,h4⟩,h5⟩
 ·exact Or.inl ⟨h1,fun k x _ hx=>h2 k x (by have:=(List.getElem?_eq_some_iff.1 hx).1;simpa using this) hx⟩
 ·exact Or.inr ⟨⟨k,x,trivial,h2,h3,h4⟩,fun k x _ hx=>h5 k x (by have:=(List.getElem?_eq_some_iff.1 hx).1;simpa using this) hx⟩
theorem mA {g:CG}{pp base:Nat}{w:World}{s:Adz.Ps} (h:Par g pp base w s) (ss:∀x∈s.labs,x.set= -1→0≤x.asked):
 Calls Tryz.prog 79 #[.pointer (some ⟨pp,0,none⟩)] w fun e w'=>(Adz.missing s.labs= -1∧e=.returned (.pointer none)∨Adz.missing s.labs≠ -1∧∃v,e=.returned v∧ck w w' v (7,Adz.missing s.labs))∧ae (fun _=>False) w w':=by
 obtain⟨lb,l0,l1,l2⟩:=h.lab;have hl:dv w lb s.labs:=l2;have vQ:=qF s.labs ss;generalize Adz.missing s.labs=M at*
 generalize s.labs=labs at*
 have SJ:Hid _:=vQ;have JF:Hid _:=ss;clear vQ ss
 have Hk:(Instr.range 117 (.map (some lb))).run Tryz.prog w=.ok (.pointer (some ⟨w.heap.size,0,none⟩)) (w.alloc (.mapIter (some lb) labs.length #[] labs.length)):=by
  rw[run_range_map w _ _ _ lb (aj 0 labs).toArray labs.length Tryz.underlying117 l2]
 have oa:ae (fun _=>False) w (w.alloc (.mapIter (some lb) labs.length #[] labs.length)):=(ae.refl _ w).alloc _;have hit:(w.alloc (.mapIter (some lb) labs.length #[] labs.length)).heap[w.heap.size]? =some (.mapIter (some lb) labs.length #[] labs.length):=heap_alloc_new w _;have DP:dv (w.alloc (.mapIter (some lb) labs.length #[] labs.length)) lb labs:=aN hl oa id;go_enter Tryz.func79,Tryz.ntmps79;go_wp2_with fail;obtain⟨ib,Rw⟩:∃ib,w.heap.size=ib:=⟨_,rfl⟩;rw[Rw] at hit ⊢
 have Hb:lb≠ib:=fun e=>by
  have:=(Array.getElem?_eq_some_iff.1 l2).1;omega
 generalize w.alloc (.mapIter (some lb) labs.length #[] labs.length)=wI at*
 clear Hk
 go_loopg [3] (leftOf (aj 0 labs).toArray #[]).size (fun k v wr=>∃m:Int,v=.int .i64 m∧Hid (∃seen:Array Nat,k=(leftOf (aj 0 labs).toArray seen).size∧wr.heap[ib]? =some (.mapIter (some lb) labs.length seen labs.length)∧ig labs (fun j=>seen.contains j=true) m)∧Hid (dv wr lb labs∧ae (fun _=>False) w wr))
 case atStart=>exact ⟨-1,rfl,⟨#[],rfl,hit,Or.inl ⟨rfl,fun k x hk=>by simp at hk⟩⟩,⟨DP,oa⟩⟩
 case round=>
  obtain⟨m,rfl,hS,H⟩:=hrel;obtain⟨seen,hk,hI,hL⟩:=hS.out
  rcases Cf wr ib lb labs seen hI H.out.1 with ⟨h0,eP⟩ |⟨k,x,w',OK,D1,eP,NQ,oN⟩
  ·have lB:ig labs (fun _=>True) m:=by
    have ha:=all_seen _ _ h0
    have hc:∀k x,labs[k]? =some x→seen.contains k=true:=fun k x hx=>by
     have:=ha (bI x k) (by
      have:=List.mem_of_getElem? (jS labs 0 k x hx);rw[Nat.zero_add] at this;simpa using this)
     exact this
    rcases hL with ⟨h1,h2⟩ |⟨⟨k,x,_,h2,h3,h4⟩,h5⟩
    ·exact Or.inl ⟨h1,fun k x _ hx=>h2 k x (hc k x hx) hx⟩
    ·exact Or.inr ⟨⟨k,x,trivial,h2,h3,h4⟩,fun k x _ hx=>h5 k x (hc k x hx) hx⟩
   have hm:=ig.one JF.out lB SJ.out;subst hm;have HH:Hid _:=H;clear hS hk hI hL h0 lB;by_cases gz:m= -1
   ·subst gz
    go_wp2;go_ret;exact⟨rfl,H.out.2⟩
   ·have bm:(m== -1)=false:=by simpa using gz
    go_wp2_with fail;refine(aV 7 _ _).mono ?_;rintro e w5 ⟨rfl,rfl⟩;go_wp2;go_ret;exact⟨Or.inr ⟨gz,_,rfl,⟨_,rfl,H.out.2.size,db.new _ _ _⟩⟩,H.out.2.alloc _⟩
  ·have sd:=aN H.out.1 oN Hb
   have Rr:=yW w' ib lb labs seen k x OK NQ sd;have Q4:=hL.more (Q:=fun j=>(seen.push k).contains j=true) JF.out OK (fun j=>by rw[contains_push];simp);have HE:Hid _:=Q4;have SC:Hid _:=NQ;have L6:Hid _:=D1;have HK:Hid _:=hk;have tL:Hid _:=oN;have V1:Hid _:=sd;clear hS hk hI hL Q4 NQ D1 oN sd OK
   have fin:∀o:Obj,Hid ((w'.alloc o).heap[ib]? =some (.mapIter (some lb) labs.length (seen.push k) labs.length))∧Hid (dv (w'.alloc o) lb labs∧ae (fun _=>False) w (w'.alloc o)):=fun o=>by
    have h1:=SC.out;have o1:ae (·=ib) wr (w'.alloc o):=tL.out.alloc _;exact⟨(Below.heap_alloc _ _ _ (Array.getElem?_eq_some_iff.1 h1).1).trans h1,aN H.out.1 o1 Hb,H.out.2.trans o1 (fun _ e=>e) (fun b hb e=>by omega)⟩
   by_cases hx:x.set= -1
   ·have bx:(x.set== -1)=true:=by simp[hx]
    by_cases gz:m= -1
    ·have bm:(m== -1)=true:=by simp[gz]
     have vO:(if x.set= -1∧(m= -1∨x.asked<m) then x.asked else m)=x.asked:=if_pos ⟨hx,Or.inl gz⟩;rw[vO] at HE;clear vO hx gz;go_wp2;go_roundg (leftOf (aj 0 labs).toArray (seen.push k)).size
     case measure=>rw [HK.out];exact L6.out
     case rel=>exact ⟨_,rfl,⟨seen.push k,rfl,(fin _).1.out,HE.out⟩,(fin _).2⟩
    ·have bm:(m== -1)=false:=by simpa using gz
     by_cases aw:x.asked<m
     ·have vO:(if x.set= -1∧(m= -1∨x.asked<m) then x.asked else m)=x.asked:=if_pos ⟨hx,Or.inr aw⟩
      rw[vO] at HE;clear vO hx gz;go_wp2;go_roundg (leftOf (aj 0 labs).toArray (seen.push k)).size
      case measure=>rw [HK.out];exact L6.out
      case rel=>exact ⟨_,rfl,⟨seen.push k,rfl,(fin _).1.out,HE.out⟩,(fin _).2⟩
     ·have vO:(if x.set= -1∧(m= -1∨x.asked<m) then x.asked else m)=m:=if_neg (by rintro⟨_,e | e⟩;exact gz e;exact aw e)
      rw[vO] at HE;clear vO hx gz;go_wp2;go_roundg (leftOf (aj 0 labs).toArray (seen.push k)).size
      case measure=>rw [HK.out];exact L6.out
      case rel=>exact ⟨_,rfl,⟨seen.push k,rfl,(fin _).1.out,HE.out⟩,(fin _).2⟩
   ·have bx:(x.set== -1)=false:=by simpa using hx
    have vO:(if x.set= -1∧(m= -1∨x.asked<m) then x.asked else m)=m:=if_neg (fun e=>hx e.1);rw[vO] at HE;clear vO hx;go_wp2;go_roundg (leftOf (aj 0 labs).toArray (seen.push k)).size
    case measure=>rw [HK.out];exact L6.out
    case rel=>exact ⟨_,rfl,⟨seen.push k,rfl,(fin _).1.out,HE.out⟩,(fin _).2⟩
theorem yX (w:World) (a b:Int):(Instr.field 176 (.agg #[.int .i64 a,.int .i64 b]) 0).run Tryz.prog w=.ok (.int .i64 a) w:=by
 obtain⟨i,hi,fQ,eJ,eF⟩:=info_parts eY;simp[Instr.field,run_underlying Tryz.underlying176,part,asAgg,Sem.run_bind,Result.andThen]
end
end Go.Proofs.YtbiobhghnldckaaGreatDoor
