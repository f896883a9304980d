/- Proved: a piece of a pattern is read, where it may stand. Conditions: the reader lies in memory as 'Rdr' says. -/
import Derived.Test.YtbiobhghnldckaaGreatDoorS2
import Derived.WalkSmall
namespace Go.Proofs.YtbiobhghnldckaaGreatDoor
set_option linter.unusedVariables false
set_option maxRecDepth 100000
set_option maxHeartbeats 6400000
section
open Go.RowKit
attribute [local go_sem ↓] Go.wp_at_zero Go.wp_at_succ
theorem Af (g:CG) (rd:Nat) (w:World) (i:Nat) (h:Cur g w i) (r0:w.cell? ⟨rd,0,none⟩=some (.pointer (some ⟨g.c,0,none⟩))) (aJ:rd≠g.c)
 (x:Adz.Item) (i':Nat) (hr:Adz.single g.L g.pl i=.ok (x,i')):
 Calls Tryz.prog 225 #[.pointer (some ⟨rd,0,none⟩)] w fun e w'=>∃sa sc,e=.returned (.tuple #[.agg #[.int .i64 x.kind,.int .i64 x.group,.slice sa x.spans.length sc,.int .i64 x.times],.pointer none])∧
  cQ w' (.slice sa x.spans.length sc) x.spans∧Cur g w' i'∧ae (·=g.c) w w':=by
 unfold Adz.single at hr;have cR:=h.lt;have lr:=World.block_lt_of_cell? w _ r0;have bW:w.heap.size≠g.c:=by omega
 by_cases h1:Adz.peek g.L i=46
 ·simp[h1] at hr
  obtain⟨rfl,rfl⟩:=hr;go_enter Tryz.func225,Tryz.ntmps225;go_wp2_with fail;refine(ah g _ i (h.alloc _)).mono ?_;rintro e w1 ⟨rfl,n,rfl⟩;rw[h1];go_wp2_with fail;refine(ax g _ i ((h.alloc _).drewN _) (Adz.lt_of_peek (by omega))).mono ?_;rintro e w1 ⟨rfl,hc,ho⟩;have hk:ai w1 w.heap.size [.int .i64 0,.int .i64 0,.slice none 0 0,.int .i64 0]:=((ai.new w _ _).drewN n).keeps ho bW;have k0:=hk 0 _ rfl;have k1:=hk 1 _ rfl;have k2:=hk 2 _ rfl;have k3:=hk 3 _ rfl;clear hk;go_wp2;have o4:=eR w1 w.heap.size (.int .i64 4) (.int .i64 0) (.slice none 0 0) (.int .i64 0);refine bodyPost_ret (v:=.tuple #[.agg #[.int .i64 4,.int .i64 0,.slice none 0 0,.int .i64 0],.pointer none]) (by simp[results,Tryz.results225,go_sem,k0,k1,k2,k3]) rfl ⟨none,0,rfl,mO _,?_,?_⟩
  ·exact hc.keeps o4 (Ne.symm bW) (fun hn e=>by have:=(h.tr hn).lt;omega) (fun e=>by have:=h.tp.lt;omega)
  ·exact(((ae.refl (·=g.c) w).alloc _).drewN n |>.trans ho (fun _ e=>e) (fun _ _ e=>e)).trans o4 (fun _ e=>e) (fun x hx e=>by omega)
 ·have b1:(Adz.peek g.L i==46)=false:=by simp[h1]
  rw[b1] at hr;by_cases h2:Adz.peek g.L i=91
  ·have nT:Adz.setOf g.L g.pl (i+1)=.ok (x,i'):=by simpa[h2] using hr
   have HS:Hid _:=nT;clear hr nT b1;go_enter Tryz.func225,Tryz.ntmps225;go_wp2_with fail;refine(ah g _ i (h.alloc _)).mono ?_;rintro e w1 ⟨rfl,n,rfl⟩;rw[h2];go_wp2_with fail;refine(ax g _ i ((h.alloc _).drewN _) (Adz.lt_of_peek (by omega))).mono ?_;rintro e w1 ⟨rfl,hc,ho⟩;have mj:ai w1 w.heap.size [.int .i64 0,.int .i64 0,.slice none 0 0,.int .i64 0]:=((ai.new w _ _).drewN n).keeps ho bW;have r1:w1.cell? ⟨rd,0,none⟩=some (.pointer (some ⟨g.c,0,none⟩)):=ho.keeps (by simp[World.cell?_alloc_past _ _ _ lr,r0]) aJ;have FZ:ae (·=g.c) w w1:=(((ae.refl (·=g.c) w).alloc _).drewN n).trans ho (fun _ e=>e) (fun _ _ e=>e);have Pm:aq w1 w.heap.size 270:=(((aq.new w #[.int .i64 0,.int .i64 0,.slice none 0 0,.int .i64 0] 270 _)).keeps ((ae.refl (fun _=>False) _).drewN n) id).keeps ho bW;go_wp2_with fail;refine(yz g rd w1 (i+1) hc r1 aJ _ HS.out).mono ?_;rintro e w2 ⟨⟨sa,sc,rfl,Pd,aL⟩,o2⟩;have fP:=mj.keeps o2 bW;have k0:=fP 0 _ rfl;have k1:=fP 1 _ rfl;have k2:=fP 2 _ rfl;have k3:=fP 3 _ rfl;have Pp:=Pm.keeps o2 bW;have qH:ae (·=g.c) w w2:=FZ.trans o2 (fun _ e=>e) (fun _ _ e=>e);clear mj fP r0 r1 ho o2;go_wp2;have o4:=eR w2 w.heap.size (.int .i64 x.kind) (.int .i64 x.group) (.slice sa x.spans.length sc) (.int .i64 x.times);refine bodyPost_ret (v:=.tuple #[.agg #[.int .i64 x.kind,.int .i64 x.group,.slice sa x.spans.length sc,.int .i64 x.times],.pointer none]) (by simp[results,Tryz.results225,go_sem,k0,k1,k2,k3]) rfl ⟨sa,sc,rfl,Pd.keeps o4 (fun b hb e=>by subst e;exact absurd (hb.one Pp) (by decide)),Cur.off ⟨_,h⟩ aL o4,qH.trans o4 (fun _ e=>e) (fun x hx e=>by omega)⟩
  ·have b2:(Adz.peek g.L i==91)=false:=by simp[h2]
   rw[b2] at hr;simp only[Bool.false_eq_true,if_false] at hr
   cases qt:Adz.character g.L g.pl Adz.notAPiece i with
   | error f=>rw [qt] at hr;cases hr
   | ok q=>
    obtain⟨c,i1⟩:=q;rw[qt] at hr;simp only[Except.ok.injEq,Prod.mk.injEq] at hr;obtain⟨rfl,rfl⟩:=hr;have HB:Hid ((Adz.peek g.L i==46)=false∧(Adz.peek g.L i==91)=false):=⟨b1,b2⟩;have HC:Hid (Adz.character g.L g.pl Adz.notAPiece i=.ok (c,i1)):=qt;clear qt;go_enter Tryz.func225,Tryz.ntmps225;go_wp2_with fail;refine(ah g _ i (h.alloc _)).mono ?_;rintro e w1 ⟨rfl,n,rfl⟩;go_wp2_with fail;refine(cY g rd _ i _ _ jK ((h.alloc _).drewN _) ?_ aJ c i1 HC.out).mono ?_
    ·simp[World.cell?_alloc_past _ _ _ lr,r0]
    rintro e w1 ⟨rfl,hc,ho⟩;have hk:ai w1 w.heap.size [.int .i64 0,.int .i64 0,.slice none 0 0,.int .i64 0]:=((ai.new w _ _).drewN n).keeps ho bW;have k0:=hk 0 _ rfl;have k1:=hk 1 _ rfl;have k2:=hk 2 _ rfl;have k3:=hk 3 _ rfl;clear hk;have aw:w.heap.size<w1.heap.size:=by have:=ho.size;simp at this;omega
    go_wp2;have o4:=eR w1 w.heap.size (.int .i64 5) (.int .i64 0) (.slice (some ⟨w1.heap.size,0,none⟩) 1 1) (.int .i64 0);have mn:=Ac w1 w.heap.size (.int .i64 5) (.int .i64 0) (.slice (some ⟨w1.heap.size,0,none⟩) 1 1) (.int .i64 0);refine bodyPost_ret (v:=.tuple #[.agg #[.int .i64 5,.int .i64 0,.slice (some ⟨w1.heap.size,0,none⟩) 1 1,.int .i64 0],.pointer none]) (by simp[results,Tryz.results225,go_sem,k0,k1,k2,k3,aw]) rfl ?_
    change ∃sa sc,_∧cQ ((set4 w1 w.heap.size (.int .i64 5) (.int .i64 0) (.slice (some ⟨w1.heap.size,0,none⟩) 1 1) (.int .i64 0)).alloc (.cells #[.int .i32 c,.int .i32 c] 284)) _ _∧Cur g ((set4 w1 w.heap.size (.int .i64 5) (.int .i64 0) (.slice (some ⟨w1.heap.size,0,none⟩) 1 1) (.int .i64 0)).alloc (.cells #[.int .i32 c,.int .i32 c] 284)) _∧ae (·=g.c) w ((set4 w1 w.heap.size (.int .i64 5) (.int .i64 0) (.slice (some ⟨w1.heap.size,0,none⟩) 1 1) (.int .i64 0)).alloc (.cells #[.int .i32 c,.int .i32 c] 284))
    generalize set4 w1 w.heap.size (.int .i64 5) (.int .i64 0) (.slice (some ⟨w1.heap.size,0,none⟩) 1 1) (.int .i64 0)=w4 at*
    refine⟨_,1,rfl,⟨_,1,rfl,fun _=>⟨w1.heap.size,rfl,?_,?_⟩⟩,?_,?_⟩
    ·rw[←mn];exact aq.new w4 _ _ _
    ·intro j hj
     have BG:j=0:=by simpa using hj
     subst BG;rw[←mn];exact⟨(ai.new w4 #[.int .i32 c,.int .i32 c] 284).at 0 _ rfl,(ai.new w4 #[.int .i32 c,.int .i32 c] 284).at 1 _ rfl⟩
    ·exact(hc.keeps o4 (Ne.symm bW) (fun hn e=>by have:=(h.tr hn).lt;omega) (fun e=>by have:=h.tp.lt;omega)).alloc _
    ·exact((((ae.refl (·=g.c) w).alloc _).drewN n |>.trans ho (fun _ e=>e) (fun _ _ e=>e)).trans o4 (fun _ e=>e) (fun x hx e=>by omega)).alloc _
theorem xw (g:CG) (rd:Nat) (w:World) (i:Nat) (h:Cur g w i) (r0:w.cell? ⟨rd,0,none⟩=some (.pointer (some ⟨g.c,0,none⟩))) (aJ:rd≠g.c)
 (f:Adz.Flt) (hr:Adz.single g.L g.pl i=.error f):
 Calls Tryz.prog 225 #[.pointer (some ⟨rd,0,none⟩)] w fun e w'=>∃v,e=.returned (.tuple #[.agg #[.int .i64 0,.int .i64 0,.slice none 0 0,.int .i64 0],v])∧ck w w' v f∧ae (·=g.c) w w':=by
 unfold Adz.single at hr;have cR:=h.lt;have lr:rd<w.heap.size:=World.block_lt_of_cell? w _ r0;have bW:w.heap.size≠g.c:=by omega
 by_cases h1:Adz.peek g.L i=46
 ·simp[h1] at hr
 ·have b1:(Adz.peek g.L i==46)=false:=by simp[h1]
  rw[b1] at hr;by_cases h2:Adz.peek g.L i=91
  ·have nT:Adz.setOf g.L g.pl (i+1)=.error f:=by simpa[h2] using hr
   have HS:Hid _:=nT;clear hr nT b1;go_enter Tryz.func225,Tryz.ntmps225;go_wp2_with fail;refine(ah g _ i (h.alloc _)).mono ?_;rintro e w1 ⟨rfl,n,rfl⟩;rw[h2];go_wp2_with fail;refine(ax g _ i ((h.alloc _).drewN _) (Adz.lt_of_peek (by omega))).mono ?_;rintro e w1 ⟨rfl,hc,ho⟩;have mj:ai w1 w.heap.size [.int .i64 0,.int .i64 0,.slice none 0 0,.int .i64 0]:=((ai.new w _ _).drewN n).keeps ho bW;have r1:w1.cell? ⟨rd,0,none⟩=some (.pointer (some ⟨g.c,0,none⟩)):=ho.keeps (by simp[World.cell?_alloc_past _ _ _ lr,r0]) aJ;have FZ:ae (·=g.c) w w1:=(((ae.refl (·=g.c) w).alloc _).drewN n).trans ho (fun _ e=>e) (fun _ _ e=>e);have eG:w.heap.size<w1.heap.size:=by have:=ho.size;simp at this;omega
   go_wp2_with fail;refine(yz g rd w1 (i+1) hc r1 aJ _ HS.out).mono ?_;rintro e w2 ⟨⟨v,rfl,⟨fb,rfl,eW,hf⟩⟩,o2⟩;have fP:=mj.keeps o2 bW;have k0:=fP 0 _ rfl;have k1:=fP 1 _ rfl;have k2:=fP 2 _ rfl;have k3:=fP 3 _ rfl;have qH:ae (·=g.c) w w2:=FZ.trans o2 (fun _ e=>e) (fun _ _ e=>e);clear mj fP r0 r1 ho o2;go_wp2;have o4:=eR w2 w.heap.size (.int .i64 0) (.int .i64 0) (.slice none 0 0) (.int .i64 0);refine bodyPost_ret (v:=.tuple #[.agg #[.int .i64 0,.int .i64 0,.slice none 0 0,.int .i64 0],.pointer (some ⟨fb,0,none⟩)]) (by simp[results,Tryz.results225,go_sem,k0,k1,k2,k3]) rfl ⟨_,rfl,⟨fb,rfl,by omega,hf.keeps o4 (by omega)⟩,qH.trans o4 (fun _ e=>e) (fun x hx e=>by omega)⟩
  ·have b2:(Adz.peek g.L i==91)=false:=by simp[h2]
   rw[b2] at hr;simp only[Bool.false_eq_true,if_false] at hr
   cases qt:Adz.character g.L g.pl Adz.notAPiece i with
   | ok q=>rw [qt] at hr;cases hr
   | error f'=>
    rw[qt] at hr;simp only[Except.error.injEq] at hr;subst hr;have HB:Hid ((Adz.peek g.L i==46)=false∧(Adz.peek g.L i==91)=false):=⟨b1,b2⟩;have HC:Hid _:=qt;clear qt;go_enter Tryz.func225,Tryz.ntmps225;go_wp2_with fail;refine(ah g _ i (h.alloc _)).mono ?_;rintro e w1 ⟨rfl,n,rfl⟩;go_wp2_with fail;refine(gh g rd _ i _ _ jK ((h.alloc _).drewN _) (by simp[World.cell?_alloc_past _ _ _ lr,r0]) aJ f' HC.out).mono ?_;rintro e w2 ⟨v,rfl,⟨fb,rfl,eW,hf⟩,o2⟩;have hk:ai w2 w.heap.size [.int .i64 0,.int .i64 0,.slice none 0 0,.int .i64 0]:=((ai.new w _ _).drewN n).keeps o2 bW;have k0:=hk 0 _ rfl;have k1:=hk 1 _ rfl;have k2:=hk 2 _ rfl;have k3:=hk 3 _ rfl;have qH:ae (·=g.c) w w2:=(((ae.refl (·=g.c) w).alloc _).drewN n).trans o2 (fun _ e=>e) (fun _ _ e=>e);simp at eW;clear hk o2;go_wp2;have o4:=eR w2 w.heap.size (.int .i64 0) (.int .i64 0) (.slice none 0 0) (.int .i64 0);refine bodyPost_ret (v:=.tuple #[.agg #[.int .i64 0,.int .i64 0,.slice none 0 0,.int .i64 0],.pointer (some ⟨fb,0,none⟩)]) (by simp[results,Tryz.results225,go_sem,k0,k1,k2,k3]) rfl ⟨_,rfl,⟨fb,rfl,by omega,hf.keeps o4 (by omega)⟩,qH.trans o4 (fun _ e=>e) (fun x hx e=>by omega)⟩
theorem yH {g:CG}{base:Nat}{w w':World} (o:ae (·=g.c) w w'):ae (SR g base) w w':=o.mono (fun _ _ e=>Or.inl e)
theorem cG {g:CG}{base:Nat}{a b c:World} (o:ae (SR g base) a b) (o':ae (SR g base) b c):ae (SR g base) a c:=o.trans o' (fun _ e=>e) (fun _ _ e=>e)
theorem Rdr.ne {g:CG}{rd base:Nat}{w:World}{s:Adz.Rd} (h:Rdr g rd base w s):rd≠g.c:=h.trd.ne h.cur.tc (by decide)
theorem Rdr.alloc {g:CG}{rd base:Nat}{w:World}{s:Adz.Rd} (h:Rdr g rd base w s) (o:Obj):Rdr g rd base (w.alloc o) s:=
 h.moved (h.cur.alloc o) ((ae.refl _ w).alloc o) (Nat.le_refl _)
theorem Rdr.aside {g:CG}{rd base:Nat}{w w':World}{s:Adz.Rd} (h:Rdr g rd base w s) {b:Nat} (o:ae (·=b) w w') (hb:∀iv,w.cell? ⟨rd,1,none⟩=some iv→iv.ownBlock≠some b) (ht:aq w b 270):Rdr g rd base w' s:=by
 obtain⟨iv,gI,i1,i2,i3⟩:=h.it;obtain⟨ov,o1,o2⟩:=h.op;have n0:¬rd=b:=h.trd.ne ht (by decide)
 refine⟨h.cur.keeps o (h.cur.tc.ne ht (by decide)) (fun hn=>(h.cur.tr hn).ne ht (by decide)) (h.cur.tp.ne ht (by decide)),o.keeps h.r0 n0,⟨iv,gI,o.keeps i1 n0,ag i2 o (fun c hc e=> ?_),i3.keeps o (fun c hc e=>hc.ne ht (by decide) e)⟩,o.keeps h.r2 n0,⟨ov,o.keeps o1 n0,ag o2 o (fun c hc e=>(aq.of_row o2 hc).ne ht (by decide) e)⟩,
  o.keepsFrozen i1 h.f1 n0,o.keepsFrozen h.r2 h.f2 n0,o.keepsFrozen o1 h.f3 n0,h.trd.keeps o n0,h.pb,Nat.le_trans h.bs o.size,h.rb,h.small,h.opens,h.groups⟩
 subst e;exact hb iv i1 hc
theorem Cp {g:CG}{rd base:Nat}{w:World}{s:Adz.Rd} (h:Rdr g rd base w s) (x:Adz.Item) (i1:Nat) (hr:Adz.single g.L g.pl s.i=.ok (x,i1)):
 Calls Tryz.prog 213 #[.pointer (some ⟨rd,0,none⟩)] w fun e w'=>e=.returned (.pointer none)∧
  Rdr g rd base w' {s with i:=(Adz.times g.L i1).2,items:=s.items++ [{x with times:=(Adz.times g.L i1).1}]}∧ae (SR g base) w w':=by
 have aw:=Adz.single_lt hr;have hle:=Adz.times_le g.L i1;have dy:=h.small;have r0:=h.r0;have HR:Hid (Adz.single g.L g.pl s.i=.ok (x,i1)):=hr;clear hr;go_enter Tryz.func213,Tryz.ntmps213;go_wp2_with fail;refine(Af g rd w s.i h.cur h.r0 h.ne x i1 HR.out).mono ?_;rintro e w1 ⟨sa,sc,rfl,iD,hc,ho⟩;have h1:=h.moved hc ho (by omega);have r1:=h1.r0;have lr:=World.block_lt_of_cell? w1 _ r1;go_wp2_with fail;have ek:=h1.alloc (.cells #[.int .i64 x.kind,.int .i64 x.group,.slice sa x.spans.length sc,.int .i64 x.times] 270);refine(vC g rd _ i1 ek.cur ek.r0 h.ne).mono ?_;rintro e w2 ⟨rfl,aL,aK⟩;have h2:=ek.moved aL aK hle;have r2:=h2.r0;have cR:=h1.cur.lt;have sq:w1.heap.size≠g.c:=by omega
 have hk:ai w2 w1.heap.size [.int .i64 x.kind,.int .i64 x.group,.slice sa x.spans.length sc,.int .i64 x.times]:=(ai.new w1 _ _).keeps aK sq;have nU:aq w2 w1.heap.size 270:=(aq.new w1 _ _ _).keeps aK sq
 have cD:∀iv,w2.cell? ⟨rd,1,none⟩=some iv→iv.ownBlock≠some w1.heap.size:=by
  intro iv zn e;obtain⟨WQ,VQ,j1,j2,_⟩:=h1.it;have:=aK.keeps ((World.cell?_alloc_past _ _ _ lr).trans j1) h.ne;rw[this] at zn
  cases zn
  exact absurd (j2.lt _ e).2 (Nat.lt_irrefl _)
 have k0:=hk 0 _ rfl;have k1:=hk 1 _ rfl;have k2:=hk 2 _ rfl;have k3:=hk 3 _ rfl;clear hk;have UR:rd≠w1.heap.size:=by omega
 go_wp2_with fail;have o3:ae (·=w1.heap.size) w2 (w2.setCell ⟨w1.heap.size,3,none⟩ (.int .i64 (Adz.times g.L i1).1)):=ae.setCell (S:=(·=w1.heap.size)) (p:=⟨w1.heap.size,3,none⟩) (ae.refl _ w2) (fun _=>rfl) _;have h3:=h2.aside o3 cD nU;have Pc:∀b,aq w1 b 284→¬(b=g.c):=fun b hb e=>hb.ne h1.cur.tc (by decide) e;have Pa:cQ w2 (.slice sa x.spans.length sc) x.spans:=iD.keeps ((((ae.refl (·=g.c) w1).alloc _)).trans aK (fun _ e=>e) (fun _ _ e=>e)) Pc;have Pb:=Pa.keeps o3 (fun b hb e=>hb.ne nU (by decide) e);refine(h3.add {x with times:=(Adz.times g.L i1).1} sa sc Pb (by simp;omega)).mono ?_;rintro e w4 ⟨rfl,h4,o4⟩;go_wp2;go_ret;refine⟨rfl,h4,?_⟩;have oa:ae (SR g base) w w2:=(yH ho).trans ((((ae.refl (SR g base) w1).alloc _)).trans (yH aK) (fun _ e=>e) (fun _ _ e=>e)) (fun _ e=>e) (fun _ _ e=>e);exact cG (oa.trans o3 (fun _ e=>e) (fun b hb e=>by have:=ho.size;omega)) o4
theorem Rdr.add0 {g:CG}{rd base:Nat}{w:World}{s:Adz.Rd} (h:Rdr g rd base w s) (k gr:Int) (hl:s.items.length<s.i):
 Calls Tryz.prog 210 #[.pointer (some ⟨rd,0,none⟩),.agg #[.int .i64 k,.int .i64 gr,.slice none 0 0,.int .i64 0]] w fun e w'=>
  e=.returned (.tuple #[])∧Rdr g rd base w' {s with items:=s.items++ [⟨k,gr,[],0⟩]}∧ae (SR g base) w w':=
 h.add ⟨k,gr,[],0⟩ none 0 (mO w) hl
theorem AO {g:CG}{rd base:Nat}{w:World}{s:Adz.Rd} (h:Rdr g rd base w s) (h0:s.items= []) (hp:s.i<g.L.length):
 Calls Tryz.prog 209 #[.pointer (some ⟨rd,0,none⟩)] w fun e w'=>e=.returned (.pointer none)∧
  Rdr g rd base w' {s with i:=s.i+1,items:=s.items++ [⟨0,0,[],0⟩]}∧ae (SR g base) w w':=by
 obtain⟨iv,gI,i1,i2,i3⟩:=h.it;have r0:=h.r0
 obtain⟨a,c,zn⟩:∃a c,iv=.slice a 0 c:=by
  rcases i2.2 with ⟨rfl,_⟩ |⟨gb,cap,cur,rfl,_⟩
  ·exact⟨none,0,rfl⟩
  ·exact⟨some ⟨gb,0,none⟩,cap,by simp[h0]⟩
 subst zn;have dy:=h.small;clear i2 i3;go_enter Tryz.func209,Tryz.ntmps209;go_wp2_with fail;refine(ax g w s.i h.cur hp).mono ?_;rintro e w1 ⟨rfl,hc,ho⟩;have h1:=h.moved hc ho (by omega);go_wp2_with fail;refine(h1.add0 0 0 (by simp;omega)).mono ?_;rintro e w2 ⟨rfl,h2,o2⟩;go_wp2;go_ret;exact⟨rfl,h2,cG (yH ho) o2⟩
theorem Rdr.setGroups {g:CG}{rd base:Nat}{w:World}{s:Adz.Rd} (h:Rdr g rd base w s) (n:Int) (h0:0≤n) (h9:n≤9):
 Rdr g rd base (w.setCell ⟨rd,2,none⟩ (.int .i64 n)) {s with groups:=n}∧ae (SR g base) w (w.setCell ⟨rd,2,none⟩ (.int .i64 n)):=by
 obtain⟨iv,gI,i1,i2,i3⟩:=h.it;obtain⟨ov,o1,o2⟩:=h.op;have f:=Field.setCell w rd 2 (.int .i64 n);have o:ae (·=rd) w (w.setCell ⟨rd,2,none⟩ (.int .i64 n)):=ae.setCell (S:=(·=rd)) (p:=⟨rd,2,none⟩) (ae.refl _ w) (fun _=>rfl) _
 refine⟨⟨h.cur.keeps o (Ne.symm h.ne) (fun hn=>(h.cur.tr hn).ne h.trd (by decide)) (h.cur.tp.ne h.trd (by decide)),(f.others 0 (by decide)).trans h.r0,⟨iv,gI,(f.others 1 (by decide)).trans i1,ag i2 o (fun b hb e=>(aq.of_row i2 hb).ne h.trd (by decide) e),i3.keeps o (fun b hb e=>hb.ne h.trd (by decide) e)⟩,World.cell?_setCell_same _ _ _ h.r2,
  ⟨ov,(f.others 3 (by decide)).trans o1,ag o2 o (fun b hb e=>(aq.of_row o2 hb).ne h.trd (by decide) e)⟩,(f.frozen 1).trans h.f1,(f.frozen 2).trans h.f2,(f.frozen 3).trans h.f3,f.typ _ h.trd,h.pb,Nat.le_trans h.bs o.size,h.rb,h.small,h.opens,⟨h0,h9⟩⟩,o.mono (fun b _ e=>Or.inr (e ▸ h.rb))⟩
theorem Rdr.setOpens {g:CG}{rd base:Nat}{w w':World}{s:Adz.Rd} (h:Rdr g rd base w s) {ov v':Value} (os:List Int) (ho:w.cell? ⟨rd,3,none⟩=some ov)
 (q1:w'.cell? ⟨rd,3,none⟩=some v') (q2:w'.ownsRow base 3 1 v' os.length (os.map (Value.int .i64))) (q3:ae (fun b=>b=rd∨ov.ownBlock=some b) w w') (q4:Field rd 3 w w') (hl:os.length≤s.i):
 Rdr g rd base w' {s with opens:=os}∧ae (SR g base) w w':=by
 obtain⟨iv,gI,i1,i2,i3⟩:=h.it;obtain⟨W6,o1,o2⟩:=h.op;rw[ho] at o1
 cases o1
 have nc:¬(g.c=rd∨ov.ownBlock=some g.c):=by
  rintro(e | e)
  ·exact h.ne e.symm
  ·exact aG o2 h.cur.tc (by decide) e
 have nr:g.L.length≠0→¬(g.rb=rd∨ov.ownBlock=some g.rb):=by
  rintro hn (e | e)
  ·exact h.trd.ne (h.cur.tr hn) (by decide) e.symm
  ·exact aG o2 (h.cur.tr hn) (by decide) e
 have np:¬(g.pb=rd∨ov.ownBlock=some g.pb):=by
  rintro(e | e)
  ·exact h.trd.ne h.cur.tp (by decide) e.symm
  ·have:=(o2.lt _ e).1
   have:=h.pb;omega
 refine⟨⟨h.cur.keeps q3 nc nr np,(q4.others 0 (by decide)).trans h.r0,⟨iv,gI,(q4.others 1 (by decide)).trans i1,ag i2 q3 (fun b hb=> ?_),i3.keeps q3 (fun b hb=> ?_)⟩,(q4.others 2 (by decide)).trans h.r2,⟨v',q1,q2⟩,
  (q4.frozen 1).trans h.f1,(q4.frozen 2).trans h.f2,(q4.frozen 3).trans h.f3,q4.typ _ h.trd,h.pb,Nat.le_trans h.bs q3.size,h.rb,h.small,hl,h.groups⟩,q3.mono (fun b _=> ?_)⟩
 ·rintro(e | e)
  ·exact(aq.of_row i2 hb).ne h.trd (by decide) e
  ·exact aG o2 (aq.of_row i2 hb) (by decide) e
 ·rintro(e | e)
  ·exact hb.ne h.trd (by decide) e
  ·exact aG o2 hb (by decide) e
 ·rintro(e | e)
  ·exact Or.inr (e ▸ h.rb)
  ·exact Or.inr (o2.lt b e).1
theorem sM {g:CG}{rd base:Nat}{w:World}{s:Adz.Rd} (h:Rdr g rd base w s) (h0:s.groups≠9) (hp:s.i<g.L.length):
 Calls Tryz.prog 211 #[.pointer (some ⟨rd,0,none⟩)] w fun e w'=>e=.returned (.pointer none)∧
  Rdr g rd base w' {i:=s.i+1,items:=s.items++ [⟨2,s.groups+1,[],0⟩],groups:=s.groups+1,opens:=s.opens++ [s.groups+1]}∧ae (SR g base) w w':=by
 have r0:=h.r0;have r2:=h.r2;have zk:=h.groups;have hb:(s.groups==9)=false:=by simpa using h0
 have dy:=h.small;have OW:=h.opens;have dm:=h.cur.small;obtain⟨i0,dZ,fQ,eJ,eF⟩:=info_parts eY;go_enter Tryz.func211,Tryz.ntmps211;go_wp2_with fail;refine(ax g w s.i h.cur hp).mono ?_;rintro e w1 ⟨rfl,hc,ho⟩;have h1:=h.moved hc ho (by omega);have f2:=h1.f2;have f3:=h1.f3;have r1:=h1.r2;have Sq:=h1.r0;obtain⟨h2,PN⟩:=h1.setGroups (s.groups+1) (by omega) (by omega);go_wp2_with fail;generalize w1.setCell ⟨rd,2,none⟩ (.int .i64 (s.groups+1))=w2 at*
 obtain⟨ov,o1,o2⟩:=h2.op;have lr:rd<w2.heap.size:=World.block_lt_of_cell? w2 _ o1;have Mf:=h2.f3;have Xd:=h2.r2;have aJ:ov.ownBlock≠some rd:=aG o2 h2.trd (by decide);have CR:=h2.bs;have p7:∀o:Obj,(w2.alloc o).cell? ⟨rd,3,none⟩=some ov:=fun o=>by rw[World.cell?_alloc_past _ _ _ lr];exact o1
 have p6:∀o:Obj,(w2.alloc o).frozen? ⟨rd,3,none⟩=false:=fun o=>by rw[World.frozen?_alloc_past _ _ _ lr];exact Mf
 clear f2 f3 r1 Sq
 go_region_law
  ((refine step_append_lies _ (by rfl) _ _ _ (by rfl) base 3 i0 _ 1 8 Tryz.underlying35 dZ fQ eJ eF rfl (by omega) ov s.opens.length (s.opens.map (Value.int .i64)) (by rfl) ((o2.alloc _).drew)
     ⟨w2.heap.size,0,none⟩ 1 1 [.int .i64 (s.groups+1)] (by rfl) (by rfl) (World.news_of_block (cs:= #[.int .i64 (s.groups+1)]) (t:=3) (fr:=(0,0)) (heap_alloc_new w2 _)) (by simp[Value.oneCell'])
     (by omega) (by unfold maxLen;omega) (by omega) (by simp;omega) (w2.heap.size+1) (by simp) ?_;intro g1 cap w3 br aI bJ aw;have kc:=(aI.cell_far ⟨rd,3,none⟩ (by simp;omega) (Ne.symm aJ)).trans (p7 _);have kf:=(aI.frozen_far ⟨rd,3,none⟩ (by simp;omega) (Ne.symm aJ)).trans (p6 _)))
 all_goals
  have hv:(Value.slice (some ⟨g1,0,none⟩) (s.opens.length+1) cap).ownBlock≠some rd:=by
   rcases bJ with h | h
   ·intro e
    simp[Value.ownBlock] at e;exact aJ (by rw[h,e])
   ·intro e
    simp[Value.ownBlock] at e;omega
  obtain⟨q1,q2,q3,q4⟩:=bg (((ae.refl _ w2).alloc _).drew) aI kc br hv lr aJ;obtain⟨h3,o3⟩:=h2.setOpens (s.opens++ [s.groups+1]) o1 q1 (by simpa using q2) q3 q4 (by simp;omega);have Xe:=h3.r2;go_wp2_with fail;refine(h3.add0 2 (s.groups+1) (by simp;omega)).mono ?_;rintro e w4 ⟨rfl,h4,o4⟩;go_wp2;go_ret;exact⟨rfl,h4,cG (cG (cG (yH ho) PN) o3) o4⟩
theorem qm {g:CG}{rd base:Nat}{w:World}{s:Adz.Rd} (h:Rdr g rd base w s) (gl:Int) (os:List Int) (h0:s.opens=os++ [gl]) (hp:s.i<g.L.length):
 Calls Tryz.prog 212 #[.pointer (some ⟨rd,0,none⟩)] w fun e w'=>e=.returned (.pointer none)∧
  Rdr g rd base w' {s with i:=s.i+1,items:=s.items++ [⟨3,gl,[],0⟩],opens:=os}∧ae (SR g base) w w':=by
 have r0:=h.r0;have dy:=h.small;have OW:=h.opens;have dm:=h.cur.small;have cR:=h.cur.le;obtain⟨ov,o1,o2⟩:=h.op;rw[h0] at o2 OW;simp only[List.length_append,List.length_singleton,List.map_append,List.map_cons,List.map_nil] at o2 OW;have Lb:os.length≤500:=by omega
 obtain⟨ob,cap,rfl⟩:∃ob cap,ov=.slice (some ⟨ob,0,none⟩) (os.length+1) cap:=by
  rcases o2.2 with ⟨_,h0⟩ |⟨gb,cap,cur,rfl,_⟩
  ·omega
  ·exact⟨gb,cap,rfl⟩
 have hb:(((os.length:Int)+1)==0)=false:=by simp;omega
 go_enter Tryz.func212,Tryz.ntmps212;go_wp2_with fail;refine(ax g w s.i h.cur hp).mono ?_;rintro e w1 ⟨rfl,hc,ho⟩;have h1:=h.moved hc ho (by omega);have Sq:=h1.r0;have Ci:=ho.keeps o1 h.ne;have Et:=ag o2 ho (fun b hb e=>(aq.of_row o2 hb).ne h.cur.tc (by decide) e)
 have ct:os.length+1≤cap:=by
  rcases Et.2 with ⟨q,_⟩ |⟨gb,Nx,cur,q,_,_,hn,_⟩
  ·cases q
  ·cases q;exact hn
 have KZ:w1.cell? ⟨ob,os.length,none⟩=some (.int .i64 gl):=by
  rw[Et.cellAt os.length (by omega)];simp
 go_wp2_with fail;refine(h1.add0 3 gl (by simp;omega)).mono ?_;rintro e w2 ⟨rfl,h2,PN⟩;obtain⟨VK,p1,p2⟩:=h2.op;simp only[h0,List.length_append,List.length_singleton,List.map_append,List.map_cons,List.map_nil] at p2
 obtain⟨Si,aT,uN⟩:∃ob cap,VK=.slice (some ⟨ob,0,none⟩) (os.length+1) cap:=by
  rcases p2.2 with ⟨_,h0⟩ |⟨gb,cap,cur,q,_⟩
  ·omega
  ·exact⟨gb,cap,q⟩
 rw[uN] at p1 p2
 have Ro:os.length+1≤aT:=by
  rcases p2.2 with ⟨q,_⟩ |⟨gb,Nx,cur,q,_,_,hn,_⟩
  ·cases q
  ·cases q;exact hn
 have p3:=ownsRow_pop (by simp) p2;have f3:=h2.f3;have TQ:=Field.setCell w2 rd 3 (.slice (some ⟨Si,0,none⟩) os.length aT);have o3:ae (·=rd) w2 (w2.setCell ⟨rd,3,none⟩ (.slice (some ⟨Si,0,none⟩) os.length aT)):=ae.setCell (S:=(·=rd)) (p:=⟨rd,3,none⟩) (ae.refl _ w2) (fun _=>rfl) _;obtain⟨h3,VI⟩:=h2.setOpens os p1 (World.cell?_setCell_same _ _ _ p1) (by simpa using ag p3 o3 (fun b hb e=>(aq.of_row p3 hb).ne h2.trd (by decide) e)) (o3.mono (fun _ _ e=>Or.inl e)) TQ (by simp;omega);clear o1 o2 Ci Et KZ;go_wp2;go_ret;exact⟨rfl,h3,cG (cG (yH ho) PN) VI⟩
theorem yh {g:CG}{rd base:Nat}{w:World}{s s':Adz.Rd} (h:Rdr g rd base w s) (hr:Adz.item g.L g.pl s=.ok s'):
 Calls Tryz.prog 195 #[.pointer (some ⟨rd,0,none⟩)] w fun e w'=>e=.returned (.pointer none)∧Rdr g rd base w' s'∧ae (SR g base) w w':=by
 have r0:=h.r0;unfold Adz.item at hr;by_cases he:Adz.ended s.items=true
 ·simp[he] at hr
 ·have GR:Adz.ended s.items=false:=by simpa using he
  simp only[GR,Bool.false_eq_true,if_false] at hr;have HE:Hid (Adz.ended s.items=false):=GR;clear he GR;by_cases c1:Adz.peek g.L s.i=94
  ·simp only[c1,beq_self_eq_true,if_true] at hr
   by_cases hi:s.items= []
   ·simp only[hi,List.isEmpty_nil,if_true,Except.ok.injEq] at hr
    have hp:s.i<g.L.length:=Adz.lt_of_peek (by omega);go_enter Tryz.func195,Tryz.ntmps195;go_wp2_with fail;refine(dY h HE.out).mono ?_;rintro e w1 ⟨rfl,n,rfl⟩;go_wp2_with fail;refine(ah g _ s.i (h.cur.drewN _)).mono ?_;rintro e w1 ⟨rfl,n2,rfl⟩;rw[c1];go_wp2_with fail;refine(AO (h.drewN _) hi hp).mono ?_;rintro e w2 ⟨rfl,h2,o2⟩;rw[hi] at h2;rw[hr] at h2;go_wp2;go_ret;exact⟨rfl,h2,cG ((ae.refl _ w).drewN _) o2⟩
   ·simp[hi] at hr
  ·have b1:(Adz.peek g.L s.i==94)=false:=by simpa using c1
   by_cases c2:Adz.peek g.L s.i=36
   ·simp only[c2,beq_self_eq_true,if_true,show((36:Int)==94)=false from rfl,Bool.false_eq_true,if_false,Except.ok.injEq] at hr
    have hp:s.i<g.L.length:=Adz.lt_of_peek (by omega);have dy:=h.small;clear b1;go_enter Tryz.func195,Tryz.ntmps195;go_wp2_with fail;refine(dY h HE.out).mono ?_;rintro e w1 ⟨rfl,n,rfl⟩;go_wp2_with fail;refine(ah g _ s.i (h.cur.drewN _)).mono ?_;rintro e w1 ⟨rfl,n2,rfl⟩;rw[c2];go_wp2_with fail;refine(ax g _ s.i (h.cur.drewN _) hp).mono ?_;rintro e w2 ⟨rfl,hc,ho⟩;have h2:=(h.drewN (n+n2)).moved hc ho (by omega);have r2:=h2.r0;go_wp2_with fail;refine(h2.add0 1 0 (by simp;omega)).mono ?_;rintro e w3 ⟨rfl,h3,o3⟩;go_wp2;go_ret;exact⟨rfl,hr ▸ h3,cG (((ae.refl (SR g base) w).drewN _).trans (yH ho) (fun _ e=>e) (fun _ _ e=>e)) o3⟩
   ·have b2:(Adz.peek g.L s.i==36)=false:=by simpa using c2
    by_cases c3:Adz.peek g.L s.i=40
    ·simp only[c3,beq_self_eq_true,if_true,show((40:Int)==94)=false from rfl,show((40:Int)==36)=false from rfl,Bool.false_eq_true,if_false] at hr
     by_cases h9:s.groups=9
     ·simp[h9] at hr
     ·have b9:(s.groups==9)=false:=by simpa using h9
      simp only[b9,Bool.false_eq_true,if_false,Except.ok.injEq] at hr;have hp:s.i<g.L.length:=Adz.lt_of_peek (by omega);clear b1 b2 b9;go_enter Tryz.func195,Tryz.ntmps195;go_wp2_with fail;refine(dY h HE.out).mono ?_;rintro e w1 ⟨rfl,n,rfl⟩;go_wp2_with fail;refine(ah g _ s.i (h.cur.drewN _)).mono ?_;rintro e w1 ⟨rfl,n2,rfl⟩;rw[c3];go_wp2_with fail;refine(sM (h.drewN _) h9 hp).mono ?_;rintro e w2 ⟨rfl,h2,o2⟩;go_wp2;go_ret;exact⟨rfl,hr ▸ h2,cG ((ae.refl _ w).drewN _) o2⟩
    ·have b3:(Adz.peek g.L s.i==40)=false:=by simpa using c3
     by_cases c4:Adz.peek g.L s.i=41
     ·simp only[c4,beq_self_eq_true,if_true,show((41:Int)==94)=false from rfl,show((41:Int)==36)=false from rfl,show((41:Int)==40)=false from rfl,Bool.false_eq_true,if_false] at hr
      cases hl:s.opens.getLast? with
      | none=>rw [hl] at hr;cases hr
      | some gl=>
       rw[hl] at hr;simp only[Except.ok.injEq] at hr
       have h0:s.opens=s.opens.dropLast++ [gl]:=by
        obtain⟨ys,hy⟩:=List.getLast?_eq_some_iff.1 hl;rw[hy];simp
       have H0:Hid (s.opens=s.opens.dropLast++ [gl]):=h0;have hp:s.i<g.L.length:=Adz.lt_of_peek (by omega);clear b1 b2 b3 h0 hl;go_enter Tryz.func195,Tryz.ntmps195;go_wp2_with fail;refine(dY h HE.out).mono ?_;rintro e w1 ⟨rfl,n,rfl⟩;go_wp2_with fail;refine(ah g _ s.i (h.cur.drewN _)).mono ?_;rintro e w1 ⟨rfl,n2,rfl⟩;rw[c4];go_wp2_with fail;refine(qm (h.drewN _) gl s.opens.dropLast H0.out hp).mono ?_;rintro e w2 ⟨rfl,h2,o2⟩;go_wp2;go_ret;exact⟨rfl,hr ▸ h2,cG ((ae.refl _ w).drewN _) o2⟩
     ·have b4:(Adz.peek g.L s.i==41)=false:=by simpa using c4
      simp only[b1,b2,b3,b4,Bool.false_eq_true,if_false] at hr
      cases hs:Adz.single g.L g.pl s.i with
      | error f=>rw [hs] at hr;cases hr
      | ok q=>
       obtain⟨x,i1⟩:=q;rw[hs] at hr;simp only[Except.ok.injEq] at hr;have HS:Hid (Adz.single g.L g.pl s.i=.ok (x,i1)):=hs;clear hs;go_enter Tryz.func195,Tryz.ntmps195;go_wp2_with fail;refine(dY h HE.out).mono ?_;rintro e w1 ⟨rfl,n,rfl⟩;go_wp2_with fail;refine(ah g _ s.i (h.cur.drewN _)).mono ?_;rintro e w1 ⟨rfl,n2,rfl⟩;go_wp2_with fail;refine(Cp (h.drewN _) x i1 HS.out).mono ?_;rintro e w2 ⟨rfl,h2,o2⟩;go_wp2;go_ret;exact⟨rfl,hr ▸ h2,cG ((ae.refl _ w).drewN _) o2⟩
def bN (w:World) (iv:Value) (xs:List Adz.Item):Prop:=∃gI,w.ownsRow 0 270 4 iv xs.length (cN xs gI)∧fR w xs gI
theorem jf {w:World}{base Fa:Nat}{e:TypeId}{size:Nat}{v:Value}{n:Nat}{xs:List Value} (h:w.ownsRow base e size v n xs) (hb:Fa≤base):w.ownsRow Fa e size v n xs:=by
 refine⟨h.1,?_⟩
 rcases h.2 with hn |⟨g,cap,cur,rfl,hg,rest⟩
 ·exact .inl hn
 ·exact .inr ⟨g,cap,cur,rfl,Nat.le_trans hb hg,rest⟩
theorem bN.keeps {S:Nat→Prop}{w w':World}{iv:Value}{xs:List Adz.Item} (h:bN w iv xs) (o:ae S w w') (h1:∀b,aq w b 270→¬S b) (h2:∀b,aq w b 284→¬S b):bN w' iv xs:=by
 obtain⟨gI,i2,i3⟩:=h;exact⟨gI,ag i2 o (fun b hb=>h1 b (aq.of_row i2 hb)),i3.keeps o h2⟩
theorem Rdr.start {g:CG}{wa:World}{i:Nat} (h:Cur g wa i):
 Rdr g wa.heap.size wa.heap.size (wa.alloc (.cells #[.pointer (some ⟨g.c,0,none⟩),.slice none 0 0,.int .i64 0,.slice none 0 0] 249)) ⟨i,[],0,[]⟩:=by
 have hk:=ai.new wa #[.pointer (some ⟨g.c,0,none⟩),.slice none 0 0,.int .i64 0,.slice none 0 0] 249
 exact⟨h.alloc _,(hk 0 _ rfl).1,⟨.slice none 0 0,[],(hk 1 _ rfl).1,World.ownsRow_nil _ _ _ _,trivial⟩,(hk 2 _ rfl).1,⟨.slice none 0 0,(hk 3 _ rfl).1,World.ownsRow_nil _ _ _ _⟩,(hk 1 _ rfl).2,(hk 2 _ rfl).2,(hk 3 _ rfl).2,
  aq.new _ _ _ _,h.tp.lt,by simp,Nat.le_refl _,by simp,by simp,by simp⟩
theorem gX (g:CG) (w:World) (i:Nat) (h:Cur g w i) (p:Adz.Pat) (i':Nat) (hr:Adz.patRead g.L g.pl i=.ok (p,i')):
 Calls Tryz.prog 174 #[.pointer (some ⟨g.c,0,none⟩)] w fun e w'=>∃iv,e=.returned (.tuple #[.agg #[iv,.int .i64 p.groups],.pointer none])∧bN w' iv p.items∧Cur g w' i'∧ae (·=g.c) w w':=by
 unfold Adz.patRead at hr
 cases hit:Adz.items g.L g.pl (g.L.length+1) ⟨i,[],0,[]⟩ with
 | error f=>rw [hit] at hr;cases hr
 | ok sE=>
  rw[hit] at hr;simp only at hr;by_cases hn:sE.items.length>30
  ·simp[hn] at hr
  ·rw[if_neg hn] at hr
   by_cases ho:sE.opens.length>0
   ·simp[ho] at hr
   ·rw[if_neg ho] at hr
    simp only[Except.ok.injEq,Prod.mk.injEq] at hr;obtain⟨rfl,rfl⟩:=hr;have HI:Hid (Adz.items g.L g.pl (g.L.length+1) ⟨i,[],0,[]⟩=.ok sE):=hit;clear hit;have cR:=h.lt;have hle:=h.le;have eX:=h.tp.lt;have dy:=h.small;go_enter Tryz.func174,Tryz.ntmps174;go_wp2_with fail;refine(ar g _ i (h.alloc _)).mono ?_;rintro e w1 ⟨rfl,n,rfl⟩;go_wp2_with fail
    have h0:Rdr g (w.heap.size+1) (w.heap.size+1) (((w.alloc (.cells #[.slice none 0 0,.int .i64 0] 160)).drewN n).alloc (.cells #[.pointer (some ⟨g.c,0,none⟩),.slice none 0 0,.int .i64 0,.slice none 0 0] 249)) ⟨i,[],0,[]⟩:=by
     have:=Rdr.start ((h.alloc (.cells #[.slice none 0 0,.int .i64 0] 160)).drewN n);simpa using this
    have G5:ai (((w.alloc (.cells #[.slice none 0 0,.int .i64 0] 160)).drewN n).alloc (.cells #[.pointer (some ⟨g.c,0,none⟩),.slice none 0 0,.int .i64 0,.slice none 0 0] 249)) w.heap.size [.slice none 0 0,.int .i64 0]:=((ai.new w _ _).drewN n).alloc _;have Ss:aq (((w.alloc (.cells #[.slice none 0 0,.int .i64 0] 160)).drewN n).alloc (.cells #[.pointer (some ⟨g.c,0,none⟩),.slice none 0 0,.int .i64 0,.slice none 0 0] 249)) w.heap.size 160:=((aq.new w _ _ _).drewN n).alloc _;have oo:ae (fun _=>False) w (((w.alloc (.cells #[.slice none 0 0,.int .i64 0] 160)).drewN n).alloc (.cells #[.pointer (some ⟨g.c,0,none⟩),.slice none 0 0,.int .i64 0,.slice none 0 0] 249)):=(((ae.refl _ w).alloc _).drewN n).alloc _;generalize (((w.alloc (.cells #[.slice none 0 0,.int .i64 0] 160)).drewN n).alloc (.cells #[.pointer (some ⟨g.c,0,none⟩),.slice none 0 0,.int .i64 0,.slice none 0 0] 249))=w0 at*
    go_loopg [] (g.L.length - i) (fun k wr=>∃s m,Hid (Rdr g (w.heap.size+1) (w.heap.size+1) wr s)∧s.i+k=g.L.length∧Hid (g.L.length<m+s.i∧Adz.items g.L g.pl m s=.ok sE)∧Hid (ae (SR g (w.heap.size+1)) w0 wr))
    case atStart=>exact ⟨_,g.L.length+1,h0,by simp;omega,⟨by simp;omega,HI.out⟩,ae.refl _ _⟩
    case round=>
     obtain⟨s,m,hR,hk,hI,hO⟩:=hrel;obtain⟨hm,hit⟩:=hI.out;have rZ:Rdr g (w.heap.size+1) (w.heap.size+1) wr s:=hR;have bQ:ae (SR g (w.heap.size+1)) w0 wr:=hO;have fq:=rZ.cur.le;clear hR hO hI
     cases m with
     | zero=>omega
     | succ m=>
      unfold Adz.items at hit;by_cases bK:Adz.peek g.L s.i=47
      ·simp only[bK,beq_self_eq_true,if_true,Except.ok.injEq] at hit
       subst hit;have aw:s.i<g.L.length:=Adz.lt_of_peek (by omega);clear hk hm;go_wp2_with fail;refine(ah g wr s.i rZ.cur).mono ?_;rintro e w1 ⟨rfl,n1,rfl⟩;rw[bK];go_wp2_with fail;refine(ax g _ s.i (rZ.cur.drewN n1) aw).mono ?_;rintro e w1 ⟨rfl,cC,bq⟩;have h1:=(rZ.drewN n1).moved cC bq (by omega);have VP:=h1.r2;obtain⟨iv,gI,j1,j2,j3⟩:=h1.it;obtain⟨ov,p1,p2⟩:=h1.op;obtain⟨ia,ic,zn⟩:=ak j2;obtain⟨oa,oc,MC⟩:=ak p2;rw[zn] at j1 j2;rw[MC] at p1 p2;simp only at j1 p1 j2 p2 VP;have Rx:s.items.length≤30:=by omega
       have BP:s.opens.length=0:=by omega
       rw[BP] at p1
       have Kk:¬SR g (w.heap.size+1) w.heap.size:=by
        rintro(e | e)
        ·omega
        ·omega
       have mj:ai w1 w.heap.size [.slice none 0 0,.int .i64 0]:=(((G5.keeps bQ Kk).drewN n1).keeps bq (by omega));have k0:=mj 0 _ rfl;have k1:=mj 1 _ rfl;have eG:w.heap.size+1<w1.heap.size:=h1.trd.lt;have Cw:aq w1 w.heap.size 160:=((Ss.keeps bQ Kk).drewN n1).keeps bq (by omega);clear mj;go_wp2_with fail;clear hn ho HI
       go_region
       all_goals
        go_wp2
        have oW:ae (·=w.heap.size) w1 ((w1.setCell ⟨w.heap.size,0,none⟩ (.slice ia s.items.length ic)).setCell ⟨w.heap.size,1,none⟩ (.int .i64 s.groups)).drew:=
         (ae.setCell (S:=(·=w.heap.size)) (p:=⟨w.heap.size,1,none⟩) (ae.setCell (S:=(·=w.heap.size)) (p:=⟨w.heap.size,0,none⟩) (ae.refl _ w1) (fun _=>rfl) _) (fun _=>rfl) _).drew
        refine bodyPost_ret (v:=.tuple #[.agg #[.slice ia s.items.length ic,.int .i64 s.groups],.pointer none]) (by simp[results,Tryz.results174,go_sem,k0,k1]) rfl ⟨_,rfl,⟨gI,ag (jf j2 (Nat.zero_le _)) oW (fun b hb e=> ?_),j3.keeps oW (fun b hb e=> ?_)⟩,cC.keeps oW (by omega) (fun hq e=> ?_) (fun e=> ?_),?_⟩
        ·exact(aq.of_row j2 hb).ne Cw (by decide) e
        ·exact hb.ne Cw (by decide) e
        ·have:=(h.tr hq).lt;omega
        ·omega
        ·have c1:ae (·=g.c) w wr:=oo.trans bQ (fun _ e=>e.elim) (fun b hb e=>by rcases e with e | e;exact e;omega)
         exact((c1.drewN n1).trans bq (fun _ e=>e) (fun _ _ e=>e)).trans oW (fun _ e=>e) (fun b hb e=>by omega)
      ·have fs:(Adz.peek g.L s.i==47)=false:=by simpa using bK
       have Ik:(Adz.peek g.L s.i !=47)=true:=by simpa[bne] using bK
       rw[fs] at hit;simp only[Bool.false_eq_true,if_false] at hit
       cases zm:Adz.item g.L g.pl s with
       | error f=>rw [zm] at hit;cases hit
       | ok s1=>
        rw[zm] at hit;simp only at hit;have HS:Hid (Adz.item g.L g.pl s=.ok s1):=zm;have HT:Hid (Adz.items g.L g.pl m s1=.ok sE):=hit;have aw:=Adz.item_lt zm;have HK:Hid (s.i+gk=g.L.length):=hk;clear zm hit hk fs;go_wp2_with fail;refine(ah g wr s.i rZ.cur).mono ?_;rintro e w1 ⟨rfl,n1,rfl⟩;go_wp2_with fail;refine(yh (rZ.drewN n1) HS.out).mono ?_;rintro e w1 ⟨rfl,h1,o1⟩;go_wp2;go_roundg (g.L.length - s1.i)
        case measure=>have:=HK.out;have:=h1.cur.le;omega
        case rel=>exact ⟨s1,m,h1,by have:=h1.cur.le;omega,⟨by omega,HT.out⟩,cG (ae.drewN bQ n1) o1⟩
end
section
open Go.RowKit
def fg (k v:Int) (n:Nat):MapEntry:= {key:=.int .i32 k,val:=.int .i64 v,born:=n}
def aF:Nat→List (Int×Int)→List MapEntry
 | _,[]=> []
 | n,(k,v)::l=>fg k v n::aF (n+1) l
theorem oO (r:Int):∀(l:List (Int×Int)) (n i:Nat),∃j,Instr.findNow (.int .i32) (.int .i32 r) (aF n l) i=some ((l.find? (fun p=>r==p.1)).map (fun p=>(j,Value.int .i64 p.2)))
 | [],n,i=>⟨0,rfl⟩
 | (k,v)::l,n,i=>by
  by_cases h:r=k
  ·subst h
   exact⟨i,by simp[aF,fg,Instr.findNow,Instr.sameNow]⟩
  ·obtain⟨j,hj⟩:=oO r l (n+1) (i+1)
   have hb:(r==k)=false:=by simpa using h
   exact⟨j,by simp[aF,fg,Instr.findNow,Instr.sameNow,hb,hj]⟩
def iF (w:World) (mb:Nat):Prop:=w.heap[mb]? =some (.map (aF 0 Adz.behTable).toArray 22)
theorem qk (w:World) (b:Bool) (r:Int) (n:Nat):(Instr.checkKey b (n+1) 21 (.int .i32 r)).run Tryz.prog w=.ok () w:=by
 simp[Instr.checkKey,run_underlying Tryz.underlying21]
theorem gN (w:World) (b:Bool) (r:Int):(Instr.checkKey b 10000 21 (.int .i32 r)).run Tryz.prog w=.ok () w:=qk w b r 9999
theorem iO (w:World) (r:Int) (es:List MapEntry) (x:Option (Nat×Value)) (h:Instr.findNow (.int .i32) (.int .i32 r) es 0=some x):(Instr.findKey 21 (.int .i32 r) es).run Tryz.prog w=.ok x w:=by
 simp[Instr.findKey,run_underlying Tryz.underlying21,h]
theorem eU (w:World) (mb:Nat) (r:Int) (h:iF w mb):
 (Instr.lookup 115 (.map (some mb)) (.int .i32 r) true).run Tryz.prog w=.ok (.tuple #[.int .i64 ((Adz.behindKind r).getD 0),.bool (Adz.behindKind r).isSome]) w:=by
 obtain⟨j,hj⟩:=oO r Adz.behTable 0 0;unfold iF at h;have hf:=iO w r (aF 0 Adz.behTable).toArray.toList _ hj;simp only[Instr.lookup,Sem.run_bind,run_underlying Tryz.underlying115,MapKept.run_getObj_map h,gN,Result.andThen,Sem.run_pure,hf,Adz.behindKind]
 cases Adz.behTable.find? (fun p=>r==p.1) with
 | none=>simp [Tryz.zeroValue145]
 | some p=>simp
theorem bj (w:World) (mb:Nat) (r:Int) (h:iF w mb):
 (Instr.lookup 115 (.map (some mb)) (.int .i32 r) false).run Tryz.prog w=.ok (.int .i64 ((Adz.behindKind r).getD 0)) w:=by
 obtain⟨j,hj⟩:=oO r Adz.behTable 0 0;unfold iF at h;have hf:=iO w r (aF 0 Adz.behTable).toArray.toList _ hj;simp only[Instr.lookup,Sem.run_bind,run_underlying Tryz.underlying115,MapKept.run_getObj_map h,gN,Result.andThen,Sem.run_pure,hf,Adz.behindKind]
 cases Adz.behTable.find? (fun p=>r==p.1) with
 | none=>simp [Tryz.zeroValue145]
 | some p=>simp
def aD (i:Nat):Array MapEntry:=(aF 0 (Adz.behTable.take i)).toArray
theorem cE (w:World) (es Fg:Array MapEntry) (n:Nat) (k v:Int) (h:Instr.findNow (.int .i32) (.int .i32 k) es.toList 0=some none) (he:Fg=es.push (fg k v n)):
 (Instr.mapUpdate 115 (.map (some w.heap.size)) (.int .i32 k) (.int .i64 v)).run Tryz.prog (w.alloc (.map es n))=.ok () (w.alloc (.map Fg (n+1))):=by
 have hb:(w.alloc (.map es n)).heap[w.heap.size]? =some (.map es n):=heap_alloc_new w _;have hf:=iO (w.alloc (.map es n)) k es.toList _ h;simp only[Instr.mapUpdate,Sem.run_bind,run_underlying Tryz.underlying115,MapKept.run_getObj_map hb,gN,Result.andThen,hf];rw[MapKept.run_setObj_map _ hb];subst he
 have e:(w.alloc (.map es n)).heap.setIfInBounds w.heap.size (.map (es.push (fg k v n)) (n+1))=(w.alloc (.map (es.push (fg k v n)) (n+1))).heap:=by
  show(w.heap.push _).setIfInBounds w.heap.size _=w.heap.push _;apply Array.ext_getElem?;intro i;rw[Array.getElem?_setIfInBounds,Array.getElem?_push,Array.getElem?_push];by_cases hi:w.heap.size=i
  ·simp[hi]
  ·rw[if_neg hi,if_neg (fun e=>hi e.symm),if_neg (fun e=>hi e.symm)]
 exact congrArg (Result.ok ()) (by
  show({w.alloc (.map es n) with heap:=_}:World)=w.alloc _;rw[show ((w.alloc (.map es n)).heap.setIfInBounds w.heap.size (.map (es.push {key:=.int .i32 k,val:=.int .i64 v,born:=n}) (n+1)))=(w.alloc (.map (es.push (fg k v n)) (n+1))).heap from e]
  rfl)
theorem jL (w:World):Calls Tryz.prog 50 #[] w fun e w'=>e=.returned (.map (some w.heap.size))∧w'=w.alloc (.map (aF 0 Adz.behTable).toArray 22):=by
 have mY:= @run_makeMap Tryz.prog;have u0:=cE w #[] (aD 1) 0 123 1 (by rfl) (by rfl);have u1:=cE w (aD 1) (aD 2) 1 61 0 (by rfl) (by rfl);have u2:=cE w (aD 2) (aD 3) 2 100 0 (by rfl) (by rfl);have u3:=cE w (aD 3) (aD 4) 3 68 0 (by rfl) (by rfl);have u4:=cE w (aD 4) (aD 5) 4 103 0 (by rfl) (by rfl);have u5:=cE w (aD 5) (aD 6) 5 71 0 (by rfl) (by rfl);have u6:=cE w (aD 6) (aD 7) 6 104 0 (by rfl) (by rfl);have u7:=cE w (aD 7) (aD 8) 7 72 0 (by rfl) (by rfl);have u8:=cE w (aD 8) (aD 9) 8 110 0 (by rfl) (by rfl);have u9:=cE w (aD 9) (aD 10) 9 78 0 (by rfl) (by rfl);have u10:=cE w (aD 10) (aD 11) 10 112 0 (by rfl) (by rfl);have u11:=cE w (aD 11) (aD 12) 11 80 0 (by rfl) (by rfl);have u12:=cE w (aD 12) (aD 13) 12 113 0 (by rfl) (by rfl);have u13:=cE w (aD 13) (aD 14) 13 120 0 (by rfl) (by rfl);have u14:=cE w (aD 14) (aD 15) 14 97 2 (by rfl) (by rfl);have u15:=cE w (aD 15) (aD 16) 15 99 2 (by rfl) (by rfl);have u16:=cE w (aD 16) (aD 17) 16 105 2 (by rfl) (by rfl);have u17:=cE w (aD 17) (aD 18) 17 58 3 (by rfl) (by rfl);have u18:=cE w (aD 18) (aD 19) 18 98 4 (by rfl) (by rfl);have u19:=cE w (aD 19) (aD 20) 19 116 4 (by rfl) (by rfl);have u20:=cE w (aD 20) (aD 21) 20 115 5 (by rfl) (by rfl);have u21:=cE w (aD 21) (aD 22) 21 121 6 (by rfl) (by rfl)
 go_enter Tryz.func50,Tryz.ntmps50;go_wp2;go_ret;exact⟨rfl,rfl⟩
end
section
open Go.RowKit
attribute [local go_sem ↓] Go.wp_at_zero Go.wp_at_succ
structure Lead (g:CG) (pp:Nat) (w:World):Prop where
 at0:w.cell? ⟨pp,0,none⟩=some (.pointer (some ⟨g.c,0,none⟩))
 ne:pp≠g.c
 typ:aq w pp 119
theorem Lead.keeps {g:CG}{pp:Nat}{S:Nat→Prop}{w w':World} (h:Lead g pp w) (o:ae S w w') (hs:¬S pp):Lead g pp w':=⟨o.keeps h.at0 hs,h.ne,h.typ.keeps o hs⟩
theorem Lead.moved {g:CG}{pp:Nat}{w w':World} (h:Lead g pp w) (o:ae (·=g.c) w w'):Lead g pp w':=h.keeps o h.ne
theorem Lead.drewN {g:CG}{pp:Nat}{w:World} (h:Lead g pp w) (n:Nat):Lead g pp (w.drewN n):=h.moved ((ae.refl _ w).drewN n)
theorem Lead.alloc {g:CG}{pp:Nat}{w:World} (h:Lead g pp w) (o:Obj):Lead g pp (w.alloc o):=h.moved ((ae.refl _ w).alloc o)
theorem Lead.lt {g:CG}{pp:Nat}{w:World} (h:Lead g pp w):pp<w.heap.size:=World.block_lt_of_cell? w _ h.at0
theorem lN (g:CG) (pp:Nat) (w:World) (i:Nat) (h:Cur g w i) (hp:Lead g pp w) (n:Int) (i':Nat) (hr:Adz.number g.L g.pl i=.ok (n,i')):
 Calls Tryz.prog 194 #[.pointer (some ⟨pp,0,none⟩)] w fun e w'=>e=.returned (.tuple #[.int .i64 n,.pointer none])∧Cur g w' i'∧ae (·=g.c) w w':=by
 obtain⟨hn,h0,h1,hi⟩:=Adz.number_parts hr;have q0:=hp.at0;have b0:(n==0)=false:=by simpa using h0
 have b1:decide (9999<n)=false:=decide_eq_false (by omega);have HN:Hid (Adz.numFrom 0 (Adz.digitsOf g.L i)=n):=hn;have HI:Hid (i'=i+(Adz.digitsOf g.L i).length):=hi;clear hn hi;go_enter Tryz.func194,Tryz.ntmps194;go_wp2_with fail;refine(ar g _ i h).mono ?_;rintro e w1 ⟨rfl,n1,rfl⟩;go_wp2_with fail
 go_loopg [5] (g.L.length - i) (fun k v wr=>∃j m,v=.int .i64 m∧0≤m∧m≤10000∧Hid (Cur g wr j)∧Hid (Lead g pp wr)∧j+k=g.L.length∧Hid (Adz.numFrom m (Adz.digitsOf g.L j)=n∧i'=j+(Adz.digitsOf g.L j).length)∧Hid (ae (·=g.c) w wr))
 case atStart=>exact ⟨i,0,rfl,by omega,by omega,h.drewN _,hp.drewN _,by have:=h.le;omega,⟨HN.out,HI.out⟩,(ae.refl _ w).drewN _⟩
 case round=>
  obtain⟨j,m,rfl,m0,m1,hc,hl,hk,hN,ho⟩:=hrel;have aU:Cur g wr j:=hc;have fi:Lead g pp wr:=hl;have HK:Hid (j+gk=g.L.length):=hk;have q1:=fi.at0;clear hk hc hl;by_cases hd:Adz.isDigit (Adz.peek g.L j)=true
  ·have aw:j<g.L.length:=Adz.lt_of_digit hd
   have uM:=Adz.digits_step hd;have HD:Hid (Adz.isDigit (Adz.peek g.L j)=true):=hd;have HS:Hid (Adz.digitsOf g.L j=Adz.peek g.L j::Adz.digitsOf g.L (j+1)):=uM;obtain⟨d0,d1⟩:=Adz.digit_range hd;clear hd uM;go_wp2_with fail;refine(ah g wr j aU).mono ?_;rintro e w1 ⟨rfl,n1,rfl⟩;go_wp2_with fail;refine(aE _ _).mono ?_;rintro e w1 ⟨rfl,rfl⟩;rw[HD.out];go_wp2_with fail;refine(ax g _ j (aU.drewN _) aw).mono ?_;rintro e w1 ⟨rfl,aL,aK⟩;go_wp2;go_roundg (gk - 1)
   case measure=>have:=HK.out;omega
   case rel=>
    refine⟨j+1,_,rfl,by omega,by omega,aL,(fi.drewN n1).moved aK,by have:=HK.out;omega,?_,(ae.drewN ho n1).trans aK (fun _ e=>e) (fun _ _ e=>e)⟩;obtain⟨e1,e2⟩:=Hid.out hN;rw[HS.out] at e1 e2;exact⟨e1,by rw[e2];simp;omega⟩
  ·have qu:Adz.isDigit (Adz.peek g.L j)=false:=by simpa using hd
   have HD:Hid (Adz.isDigit (Adz.peek g.L j)=false):=qu;obtain⟨e1,e2⟩:=Hid.out hN;rw[Adz.digits_stop qu] at e1 e2;have CW:m=n:=e1;have IY:i'=j:=by simpa using e2
   subst CW;subst IY;clear hd qu e1 e2 hN HN HI hr;go_wp2_with fail;refine(ah g wr _ aU).mono ?_;rintro e w1 ⟨rfl,n1,rfl⟩;go_wp2_with fail;refine(aE _ _).mono ?_;rintro e w1 ⟨rfl,rfl⟩;rw[HD.out];go_wp2;go_ret2;exact⟨rfl,aU.drewN _,ae.drewN ho _⟩
def bB (p:Adz.Part):List Value:= [.int .i64 p.kind,.string ⟨p.text.toArray⟩,.int .i64 p.group]
theorem pU (r:Int):(⟨(Adz.utf8 r).toArray⟩:ByteArray)=Utf8.encode r:=by simp[Adz.utf8]
theorem gv (w:World) (r:Int):
 Calls Tryz.prog 214 #[.int .i32 r,.pointer none] w fun e w'=>e=.returned (.tuple #[.agg #[.int .i64 0,.string (Utf8.encode r),.int .i64 0],.pointer none])∧ae (fun _=>False) w w':=by
 go_enter Tryz.func214,Tryz.ntmps214;go_wp2;exact bodyPost_ret (v:=.tuple #[.agg #[.int .i64 0,.string (Utf8.encode r),.int .i64 0],.pointer none]) (by simp[results,Tryz.results214,go_sem]) rfl ⟨rfl,(ae.refl _ w).alloc _⟩
end
end Go.Proofs.YtbiobhghnldckaaGreatDoor
