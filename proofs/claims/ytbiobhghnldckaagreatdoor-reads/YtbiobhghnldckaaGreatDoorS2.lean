/- Proved: what the reader of patterns makes, item by item, where all may stand. Conditions: the reader lies in memory as 'Rdr' says. -/
import Derived.Test.YtbiobhghnldckaaGreatDoorS1
namespace Go.Proofs.YtbiobhghnldckaaGreatDoor
set_option linter.unusedVariables false
set_option maxRecDepth 100000
set_option maxHeartbeats 6400000
section
open Go.RowKit
attribute [local go_sem ↓] Go.wp_at_zero Go.wp_at_succ
def dL (x:Adz.Item) (sv:Value):List Value:= [.int .i64 x.kind,.int .i64 x.group,sv,.int .i64 x.times]
def cN:List Adz.Item→List Value→List Value
 | x::xs,v::vs=>dL x v++cN xs vs
 | _,_=> []
def cQ (w:World) (sv:Value) (sp:List (Int×Int)):Prop:=
 ∃a cap,sv=.slice a sp.length cap∧(sp≠ []→∃b,a=some ⟨b,0,none⟩∧aq w b 284∧
  ∀j,j<sp.length→w.cell? ⟨b,2*j,none⟩=some (.int .i32 (sp.getD j (0,0)).1)∧w.cell? ⟨b,2*j+1,none⟩=some (.int .i32 (sp.getD j (0,0)).2))
def fR (w:World):List Adz.Item→List Value→Prop
 | [],[]=>True
 | x::xs,v::vs=>cQ w v x.spans∧fR w xs vs
 | _,_=>False
theorem cQ.keeps {S:Nat→Prop}{w w':World}{sv:Value}{sp:List (Int×Int)} (h:cQ w sv sp) (o:ae S w w') (hs:∀b,aq w b 284→¬S b):cQ w' sv sp:=by
 obtain⟨a,cap,rfl,h⟩:=h;refine⟨a,cap,rfl,fun aJ=> ?_⟩;obtain⟨b,rfl,ht,hc⟩:=h aJ;exact⟨b,rfl,ht.keeps o (hs b ht),fun j hj=>⟨o.keeps (hc j hj).1 (hs b ht),o.keeps (hc j hj).2 (hs b ht)⟩⟩
theorem fR.keeps {S:Nat→Prop}{w w':World} (o:ae S w w') (hs:∀b,aq w b 284→¬S b):∀ {xs:List Adz.Item}{vs:List Value},fR w xs vs→fR w' xs vs
 | [],[],_=>trivial
 | x::xs,v::vs,h=>⟨h.1.keeps o hs,fR.keeps o hs h.2⟩
 | [],_::_,h=>h.elim
 | _::_,[],h=>h.elim
theorem fR.snoc {w:World}{x:Adz.Item}{v:Value} (hx:cQ w v x.spans):∀ {xs:List Adz.Item}{vs:List Value},fR w xs vs→fR w (xs++ [x]) (vs++ [v])
 | [],[],_=>⟨hx,trivial⟩
 | y::xs,u::vs,h=>⟨h.1,fR.snoc hx h.2⟩
 | [],_::_,h=>h.elim
 | _::_,[],h=>h.elim
theorem iy {w:World} (x:Adz.Item) (v:Value):∀ {xs:List Adz.Item}{vs:List Value},fR w xs vs→cN (xs++ [x]) (vs++ [v])=cN xs vs++dL x v
 | [],[],_=>by simp[cN]
 | y::xs,u::vs,h=>by
  have:=iy x v h.2;simp[cN,this]
 | [],_::_,h=>h.elim
 | _::_,[],h=>h.elim
structure Rdr (g:CG) (rd base:Nat) (w:World) (s:Adz.Rd):Prop where
 cur:Cur g w s.i
 r0:w.cell? ⟨rd,0,none⟩=some (.pointer (some ⟨g.c,0,none⟩))
 it:∃iv gI,w.cell? ⟨rd,1,none⟩=some iv∧w.ownsRow base 270 4 iv s.items.length (cN s.items gI)∧fR w s.items gI
 r2:w.cell? ⟨rd,2,none⟩=some (.int .i64 s.groups)
 op:∃ov,w.cell? ⟨rd,3,none⟩=some ov∧w.ownsRow base 3 1 ov s.opens.length (s.opens.map (Value.int .i64))
 f1:w.frozen? ⟨rd,1,none⟩=false
 f2:w.frozen? ⟨rd,2,none⟩=false
 f3:w.frozen? ⟨rd,3,none⟩=false
 trd:aq w rd 249
 pb:g.pb<base
 bs:base≤w.heap.size
 rb:base≤rd
 small:s.items.length≤s.i
 opens:s.opens.length≤s.i
 groups:0≤s.groups∧s.groups≤9
def SR (g:CG) (base:Nat):Nat→Prop:=fun b=>b=g.c∨base≤b
theorem Rdr.moved {g:CG}{rd base:Nat}{w w':World}{s:Adz.Rd} (h:Rdr g rd base w s) {i:Nat} (hc:Cur g w' i) (o:ae (·=g.c) w w') (hi:s.i≤i):Rdr g rd base w' {s with i:=i}:=by
 obtain⟨iv,gI,i1,i2,i3⟩:=h.it;obtain⟨ov,o1,o2⟩:=h.op;have n0:¬rd=g.c:=h.trd.ne h.cur.tc (by decide)
 refine⟨hc,o.keeps h.r0 n0,⟨iv,gI,o.keeps i1 n0,ag i2 o (fun b hb e=> ?_),i3.keeps o (fun b hb e=> ?_)⟩,o.keeps h.r2 n0,⟨ov,o.keeps o1 n0,ag o2 o (fun b hb e=> ?_)⟩,
  o.keepsFrozen i1 h.f1 n0,o.keepsFrozen h.r2 h.f2 n0,o.keepsFrozen o1 h.f3 n0,h.trd.keeps o n0,h.pb,Nat.le_trans h.bs o.size,h.rb,Nat.le_trans h.small hi,Nat.le_trans h.opens hi,h.groups⟩
 ·exact(aq.of_row i2 hb).ne h.cur.tc (by decide) e
 ·exact hb.ne h.cur.tc (by decide) e
 ·exact(aq.of_row o2 hb).ne h.cur.tc (by decide) e
theorem Rdr.drewN {g:CG}{rd base:Nat}{w:World}{s:Adz.Rd} (h:Rdr g rd base w s) (n:Nat):Rdr g rd base (w.drewN n) s:=
 h.moved (h.cur.drewN n) ((ae.refl _ w).drewN n) (Nat.le_refl _)
theorem Rdr.add {g:CG}{rd base:Nat}{w:World}{s:Adz.Rd} (h:Rdr g rd base w s) (x:Adz.Item) (sa:Option Addr) (sc:Nat) (hx:cQ w (.slice sa x.spans.length sc) x.spans) (hl:s.items.length<s.i):
 Calls Tryz.prog 210 #[.pointer (some ⟨rd,0,none⟩),.agg #[.int .i64 x.kind,.int .i64 x.group,.slice sa x.spans.length sc,.int .i64 x.times]] w fun e w'=>
  e=.returned (.tuple #[])∧Rdr g rd base w' {s with items:=s.items++ [x]}∧ae (SR g base) w w':=by
 obtain⟨iv,gI,i1,i2,i3⟩:=h.it;obtain⟨ov,o1,o2⟩:=h.op;have dy:=h.cur.small;have hle:=h.cur.le;have aJ:iv.ownBlock≠some rd:=aG i2 h.trd (by decide);have hc:=h.cur.tc;refine(yI rd base iv s.items.length _ x.kind x.group x.times sa x.spans.length sc w i1 h.f1 i2 h.bs (by omega) aJ).mono ?_;rintro e w' ⟨rfl,g',cap,q1,q2,q3,q4⟩
 have nc:¬(g.c=rd∨iv.ownBlock=some g.c):=by
  rintro(e | e)
  ·exact h.trd.ne h.cur.tc (by decide) e.symm
  ·exact aG i2 h.cur.tc (by decide) e
 have nr:g.L.length≠0→¬(g.rb=rd∨iv.ownBlock=some g.rb):=by
  rintro hn (e | e)
  ·exact h.trd.ne (h.cur.tr hn) (by decide) e.symm
  ·exact aG i2 (h.cur.tr hn) (by decide) e
 have np:¬(g.pb=rd∨iv.ownBlock=some g.pb):=by
  rintro(e | e)
  ·exact h.trd.ne h.cur.tp (by decide) e.symm
  ·exact aG i2 h.cur.tp (by decide) e
 refine⟨rfl,⟨?_,(q4.others 0 (by decide)).trans h.r0,⟨_,gI++ [.slice sa x.spans.length sc],q1,?_,?_⟩,(q4.others 2 (by decide)).trans h.r2,⟨ov,(q4.others 3 (by decide)).trans o1,?_⟩,
  (q4.frozen 1).trans h.f1,(q4.frozen 2).trans h.f2,(q4.frozen 3).trans h.f3,q4.typ _ h.trd,h.pb,Nat.le_trans h.bs q3.size,h.rb,?_,h.opens,h.groups⟩,?_⟩
 ·exact h.cur.keeps q3 nc nr np
 ·rw[iy x _ i3,List.length_append]
  exact q2
 ·have hS:∀b,aq w b 284→¬(b=rd∨iv.ownBlock=some b):=by
   rintro b hb (e | e)
   ·exact hb.ne h.trd (by decide) e
   ·exact aG i2 hb (by decide) e
  exact fR.snoc (hx.keeps q3 hS) (i3.keeps q3 hS)
 ·refine ag o2 q3 (fun b hb=> ?_)
  rintro(e | e)
  ·exact(aq.of_row o2 hb).ne h.trd (by decide) e
  ·exact aG i2 (aq.of_row o2 hb) (by decide) e
 ·simp;omega
 ·refine q3.mono (fun b _=> ?_)
  rintro(e | e)
  ·exact Or.inr (e ▸ h.rb)
  ·exact Or.inr (i2.lt b e).1
theorem mO (w:World):cQ w (.slice none 0 0) []:=⟨none,0,rfl,fun h=>absurd rfl h⟩
theorem eA {w:World}:∀ {xs:List Adz.Item}{vs:List Value},fR w xs vs→∀k (hk:k<xs.length),∃v,cQ w v (xs[k]).spans∧∀o,o<4→(cN xs vs)[k*4+o]? =(dL (xs[k]) v)[o]?
 | [],[],_,k,hk=>by simp at hk
 | x::xs,v::vs,h,0,_=>⟨v,h.1,fun o ho=>by
  simp only[cN,Nat.zero_mul,Nat.zero_add,List.getElem_cons_zero];rw[List.getElem?_append_left (by simp[dL];omega)]⟩
 | x::xs,v::vs,h,k+1,hk=>by
  obtain⟨u,hu,hc⟩:=eA h.2 k (by simpa using hk);refine⟨u,by simpa using hu,fun o ho=> ?_⟩;simp only[cN,List.getElem_cons_succ];rw[List.getElem?_append_right (by simp[dL];omega)];rw[←hc o ho];congr 1;simp[dL];omega
 | [],_::_,h,_,_=>h.elim
 | _::_,[],h,_,_=>h.elim
theorem dY {g:CG}{rd base:Nat}{w:World}{s:Adz.Rd} (h:Rdr g rd base w s) (he:Adz.ended s.items=false):
 Calls Tryz.prog 208 #[.pointer (some ⟨rd,0,none⟩)] w fun e w'=>e=.returned (.bool false)∧∃n,w'=w.drewN n:=by
 obtain⟨iv,gI,i1,i2,i3⟩:=h.it;have dy:=h.cur.small;have hle:=h.cur.le;have gm:=h.small;by_cases hz:s.items.length=0
 ·have h1:∃a c,w.cell? ⟨rd,1,none⟩=some (.slice a 0 c):=by
   rcases i2.2 with ⟨rfl,h0⟩ |⟨gb,cap,cur,rfl,_⟩
   ·exact⟨none,0,i1⟩
   ·exact⟨_,cap,by rw[i1,hz]⟩
  obtain⟨a,c,h1⟩:=h1;clear h i1 i2 i3;go_enter Tryz.func208,Tryz.ntmps208;go_wp2_with fail
  go_quiet (fail)
  go_wp2;go_ret;exact⟨rfl,_,rfl⟩
 ·obtain⟨m,hm⟩:∃m,s.items.length=m+1:=⟨s.items.length - 1,by omega⟩
  rw[hm] at i2;have aw:m<s.items.length:=by omega
  obtain⟨v,_,hc⟩:=eA i3 m aw
  have hk:s.items[m].kind≠1:=by
   intro e;unfold Adz.ended at he;rw[List.getLast?_eq_getElem?,hm] at he;simp[aw,e] at he
  obtain⟨gb,cap,rfl⟩:∃gb cap,iv=.slice (some ⟨gb,0,none⟩) (m+1) cap:=by
   rcases i2.2 with ⟨_,h0⟩ |⟨gb,cap,cur,rfl,_⟩
   ·omega
   ·exact⟨gb,cap,rfl⟩
  have ew:w.cell? ⟨gb,m*4,none⟩=some (.int .i64 s.items[m].kind):=by
   rw[i2.cellAt (m*4) (by omega)];have:=hc 0 (by omega);simpa[dL] using this
  have hb:((s.items[m].kind:Int)==1)=false:=by simpa using hk
  have hd:decide ((0:Int)<(m:Int)+1)=true:=decide_eq_true (by omega);have Lb:m≤500:=by omega
  have hw:IntKind.i64.wrap ((m:Int)+1 - 1)=(m:Int):=by rw[IntKind.wrap_i64];omega
  generalize s.items[m].kind=kd at*
  clear h i2 i3 hc he gm;go_enter Tryz.func208,Tryz.ntmps208;go_wp2_with fail
  go_quiet (fail)
  go_wp2;go_ret;exact⟨rfl,_,rfl⟩
theorem jJ:Asc ⟨#[92,46,91,93,40,41,42,43,63,94,36,47,45]⟩ Adz.escapable:=⟨by decide,by decide,by decide⟩
theorem jK:Asc ⟨#[92,46,91,40,41,42,43,63,94,36,47]⟩ Adz.notAPiece:=⟨by decide,by decide,by decide⟩
theorem cY (g:CG) (rd:Nat) (w:World) (i:Nat) (st:ByteArray) (but:List Int) (hs:Asc st but) (h:Cur g w i) (r0:w.cell? ⟨rd,0,none⟩=some (.pointer (some ⟨g.c,0,none⟩))) (aJ:rd≠g.c)
 (r:Int) (i':Nat) (hr:Adz.character g.L g.pl but i=.ok (r,i')):
 Calls Tryz.prog 232 #[.pointer (some ⟨rd,0,none⟩),.string st] w fun e w'=>e=.returned (.tuple #[.int .i32 r,.pointer none])∧Cur g w' i'∧ae (·=g.c) w w':=by
 unfold Adz.character at hr;by_cases hb:Adz.peek g.L i=92
 ·simp[hb] at hr
  go_enter Tryz.func232,Tryz.ntmps232;go_wp2_with fail;refine(aC g w i 92 h hb (by omega)).mono ?_;rintro e w1 ⟨rfl,hc,ho⟩;have r1:=ho.keeps r0 aJ;go_wp2_with fail;refine(gP g w1 (i+1) _ _ jJ hc r i' hr).mono ?_;rintro e w2 ⟨rfl,aL,aK⟩;go_wp2;go_ret2;exact⟨rfl,aL,ho.trans aK (fun _ e=>e) (fun _ _ e=>e)⟩
 ·have GL:(Adz.peek g.L i==92)=false:=by simp[hb]
  rw[GL] at hr;simp only[Bool.false_eq_true,if_false] at hr;clear GL;go_enter Tryz.func232,Tryz.ntmps232;go_wp2_with fail;refine(aH g w i 92 h hb).mono ?_;rintro e w1 ⟨rfl,n,rfl⟩;go_wp2_with fail;refine(pM g _ i _ _ hs (h.drewN _) r i' hr).mono ?_;rintro e w2 ⟨rfl,aL,aK⟩;go_wp2;go_ret2;exact⟨rfl,aL,((ae.refl _ w).drewN _).trans aK (fun _ e=>e) (fun _ _ e=>e)⟩
theorem vC (g:CG) (rd:Nat) (w:World) (i:Nat) (h:Cur g w i) (r0:w.cell? ⟨rd,0,none⟩=some (.pointer (some ⟨g.c,0,none⟩))) (aJ:rd≠g.c):
 Calls Tryz.prog 226 #[.pointer (some ⟨rd,0,none⟩)] w fun e w'=>e=.returned (.int .i64 (Adz.times g.L i).1)∧Cur g w' (Adz.times g.L i).2∧ae (·=g.c) w w':=by
 unfold Adz.times;by_cases h1:Adz.peek g.L i=42
 ·simp only[h1,beq_self_eq_true,if_true]
  go_enter Tryz.func226,Tryz.ntmps226;go_wp2_with fail;refine(aC g w i 42 h h1 (by omega)).mono ?_;rintro e w1 ⟨rfl,hc,ho⟩;go_wp2;go_ret;exact⟨rfl,hc,ho⟩
 ·have b1:(Adz.peek g.L i==42)=false:=by simp[h1]
  by_cases h2:Adz.peek g.L i=43
  ·simp only[h2,beq_self_eq_true,if_true,show((43:Int)==42)=false from rfl,Bool.false_eq_true,if_false]
   clear b1;go_enter Tryz.func226,Tryz.ntmps226;go_wp2_with fail;refine(aH g w i 42 h h1).mono ?_;rintro e w1 ⟨rfl,n,rfl⟩;go_wp2_with fail;refine(aC g _ i 43 (h.drewN _) h2 (by omega)).mono ?_;rintro e w1 ⟨rfl,hc,ho⟩;go_wp2;go_ret;exact⟨rfl,hc,((ae.refl _ w).drewN _).trans ho (fun _ e=>e) (fun _ _ e=>e)⟩
  ·have b2:(Adz.peek g.L i==43)=false:=by simp[h2]
   by_cases h3:Adz.peek g.L i=63
   ·simp only[h3,beq_self_eq_true,if_true,show((63:Int)==42)=false from rfl,show((63:Int)==43)=false from rfl,Bool.false_eq_true,if_false]
    clear b1 b2;go_enter Tryz.func226,Tryz.ntmps226;go_wp2_with fail;refine(aH g w i 42 h h1).mono ?_;rintro e w1 ⟨rfl,n,rfl⟩;go_wp2_with fail;refine(aH g _ i 43 (h.drewN _) h2).mono ?_;rintro e w1 ⟨rfl,n,rfl⟩;go_wp2_with fail;refine(aC g _ i 63 (h.drewN _) h3 (by omega)).mono ?_;rintro e w1 ⟨rfl,hc,ho⟩;go_wp2;go_ret;exact⟨rfl,hc,((ae.refl _ w).drewN _).trans ho (fun _ e=>e) (fun _ _ e=>e)⟩
   ·have b3:(Adz.peek g.L i==63)=false:=by simp[h3]
    simp only[b1,b2,b3,Bool.false_eq_true,if_false];clear b1 b2 b3;go_enter Tryz.func226,Tryz.ntmps226;go_wp2_with fail;refine(aH g w i 42 h h1).mono ?_;rintro e w1 ⟨rfl,n,rfl⟩;go_wp2_with fail;refine(aH g _ i 43 (h.drewN _) h2).mono ?_;rintro e w1 ⟨rfl,n,rfl⟩;go_wp2_with fail;refine(aH g _ i 63 (h.drewN _) h3).mono ?_;rintro e w1 ⟨rfl,n,rfl⟩;go_wp2;go_ret;exact⟨rfl,h.drewN _,(ae.refl _ w).drewN _⟩
theorem ai.set {w:World}{b:Nat}{l:List Value} (h:ai w b l) (j:Nat) (v:Value):ai (w.setCell ⟨b,j,none⟩ v) b (l.set j v):=by
 have f:=Field.setCell w b j v;intro i u hu;refine⟨?_,?_⟩
 ·by_cases e:i=j
  ·subst e
   rw[List.getElem?_set_self'] at hu
   cases hl:l[i]? with
   | none=>rw [hl] at hu;simp at hu
   | some x=>
    rw[hl] at hu;simp at hu;subst hu;exact World.cell?_setCell_same _ _ _ (h i x hl).1
  ·rw[List.getElem?_set_ne (Ne.symm e)] at hu
   rw[f.others i e];exact(h i u hu).1
 ·rw[f.frozen i]
  by_cases e:i=j
  ·subst e
   cases hl:l[i]? with
   | none=>rw [List.getElem?_set_self',hl] at hu;simp at hu
   | some x=>exact (h i x hl).2
  ·rw[List.getElem?_set_ne (Ne.symm e)] at hu
   exact(h i u hu).2
theorem af (w:World) (b j:Nat) (v:Value):ae (·=b) w (w.setCell ⟨b,j,none⟩ v):=ae.setCell (S:=(·=b)) (p:=⟨b,j,none⟩) (ae.refl _ w) (fun _=>rfl) _
def db (w:World) (fb:Nat) (f:Adz.Flt):Prop:=w.cell? ⟨fb,0,none⟩=some (.int .i64 f.1)∧w.cell? ⟨fb,1,none⟩=some (.int .i64 f.2)
theorem db.keeps {S:Nat→Prop}{w w':World}{fb:Nat}{f:Adz.Flt} (h:db w fb f) (o:ae S w w') (hs:¬S fb):db w' fb f:=⟨o.keeps h.1 hs,o.keeps h.2 hs⟩
theorem db.new (w:World) (a b:Int):db (w.alloc (.cells #[.int .i64 a,.int .i64 b] 73)) w.heap.size (a,b):=
 ⟨(ai.new w #[.int .i64 a,.int .i64 b] 73 0 _ rfl).1,(ai.new w #[.int .i64 a,.int .i64 b] 73 1 _ rfl).1⟩
def ck (w w':World) (v:Value) (f:Adz.Flt):Prop:=∃fb,v=.pointer (some ⟨fb,0,none⟩)∧w.heap.size≤fb∧db w' fb f
theorem ck.back {a b c:World}{v:Value}{f:Adz.Flt} (h:ck b c v f) (hs:a.heap.size≤b.heap.size):ck a c v f:=by
 obtain⟨fb,e,h1,h2⟩:=h;exact⟨fb,e,by omega,h2⟩
theorem aX (g:CG) (w:World) (i:Nat) (h:Cur g w i):
 Calls Tryz.prog 78 #[.pointer (some ⟨g.c,0,none⟩)] w fun e w'=>∃v,e=.returned v∧ck w w' v (Adz.wrong g.pl i)∧ae (fun _=>False) w w':=by
 go_enter Tryz.func78,Tryz.ntmps78;go_wp2_with fail;refine(ar g w i h).mono ?_;rintro e w1 ⟨rfl,n,rfl⟩;go_wp2_with fail;refine(aV 3 _ _).mono ?_;rintro e w2 ⟨rfl,rfl⟩;go_wp2;go_ret;exact⟨_,rfl,⟨_,rfl,Nat.le_refl _,db.new _ _ _⟩,((ae.refl _ w).drewN n).alloc _⟩
theorem iM (g:CG) (w:World) (i:Nat) (s:ByteArray) (may:List Int) (hs:Asc s may) (h:Cur g w i) (f:Adz.Flt) (hr:Adz.escaped g.L g.pl may i=.error f):
 Calls Tryz.prog 216 #[.pointer (some ⟨g.c,0,none⟩),.string s] w fun e w'=>∃v,e=.returned (.tuple #[.int .i32 0,v])∧ck w w' v f∧ae (fun _=>False) w w':=by
 unfold Adz.escaped at hr;by_cases hn:Adz.peek g.L i=110
 ·simp[hn] at hr
 ·have hb:(Adz.peek g.L i==110)=false:=by simp[hn]
  rw[hb] at hr;by_cases hm:may.contains (Adz.peek g.L i)=true
  ·rw[hm] at hr
   simp at hr
  ·simp only[Bool.not_eq_true] at hm
   rw[hm] at hr;simp at hr;subst hr
   have hv:Adz.peek g.L i= -1∨(0≤Adz.peek g.L i∧Adz.peek g.L i≤1114111∧Lib.validRune (Adz.peek g.L i)=true):=by
    by_cases hl:i<g.L.length
    ·exact Or.inr (h.runes i hl)
    ·exact Or.inl ((i6 h).2 (by omega))
   have HM:Hid (may.contains (Adz.peek g.L i)=false):=hm;have Om:=fun u=>cZ s may (Adz.peek g.L i) u hs.eq hs.asc hs.len hv;clear hm hb hv;go_enter Tryz.func216,Tryz.ntmps216;go_wp2_with fail;refine(aH g w i 110 h hn).mono ?_;rintro e w' ⟨rfl,n,rfl⟩;go_wp2_with fail;refine(ah g _ i (h.drewN n)).mono ?_;rintro e w' ⟨rfl,n2,rfl⟩;go_wp2_with fail;refine(Om _).mono ?_;rintro e w3 ⟨rfl,o3⟩;rw[HM.out];have h3:=(h.drewN (n+n2)).keeps o3 id (fun _=>id) id;have kM:ae (fun _=>False) w w3:=((ae.refl (fun _=>False) w).drewN (n+n2)).trans o3 (fun _ e=>e) (fun _ _ e=>e);go_wp2_with fail;refine(aX g w3 i h3).mono ?_;rintro e w4 ⟨v,rfl,hf,o4⟩;go_wp2;go_ret2;exact⟨v,rfl,hf.back kM.size,kM.trans o4 (fun _ e=>e) (fun _ _ e=>e)⟩
theorem lR (g:CG) (w:World) (i:Nat) (s:ByteArray) (but:List Int) (hs:Asc s but) (h:Cur g w i) (f:Adz.Flt) (hr:Adz.plain g.L g.pl but i=.error f):
 Calls Tryz.prog 215 #[.pointer (some ⟨g.c,0,none⟩),.string s] w fun e w'=>∃v,e=.returned (.tuple #[.int .i32 0,v])∧ck w w' v f∧ae (fun _=>False) w w':=by
 unfold Adz.plain at hr
 by_cases cl:(Adz.peek g.L i== -1 || Adz.peek g.L i==10 || but.contains (Adz.peek g.L i))=true
 ·rw[if_pos cl] at hr
  injection hr with hr;subst hr;by_cases b1:Adz.peek g.L i= -1
  ·go_enter Tryz.func215,Tryz.ntmps215
   go_wp2_with fail;refine(ah g w i h).mono ?_;rintro e w' ⟨rfl,n,rfl⟩;rw[b1];go_wp2_with fail;refine(aX g _ i (h.drewN n)).mono ?_;rintro e w4 ⟨v,rfl,hf,o4⟩;go_wp2;go_ret2;exact⟨v,rfl,hf.back (Nat.le_refl _),((ae.refl (fun _=>False) w).drewN n).trans o4 (fun _ e=>e) (fun _ _ e=>e)⟩
  ·by_cases b2:Adz.peek g.L i=10
   ·go_enter Tryz.func215,Tryz.ntmps215
    go_wp2_with fail;refine(ah g w i h).mono ?_;rintro e w' ⟨rfl,n,rfl⟩;rw[b2];go_wp2_with fail;refine(aX g _ i (h.drewN n)).mono ?_;rintro e w4 ⟨v,rfl,hf,o4⟩;go_wp2;go_ret2;exact⟨v,rfl,hf.back (Nat.le_refl _),((ae.refl (fun _=>False) w).drewN n).trans o4 (fun _ e=>e) (fun _ _ e=>e)⟩
   ·have c1:(Adz.peek g.L i== -1)=false:=by simpa using b1
    have c2:(Adz.peek g.L i==10)=false:=by simpa using b2
    rw[c1,c2] at cl;simp only[Bool.false_or] at cl;have hl:i<g.L.length:=Adz.lt_of_peek b1;have HM:Hid (but.contains (Adz.peek g.L i)=true):=cl;have Om:=fun u=>cZ s but (Adz.peek g.L i) u hs.eq hs.asc hs.len (Or.inr (h.runes i hl));clear cl;go_enter Tryz.func215,Tryz.ntmps215;go_wp2_with fail;refine(ah g w i h).mono ?_;rintro e w' ⟨rfl,n,rfl⟩;go_wp2_with fail;refine(Om _).mono ?_;rintro e w3 ⟨rfl,o3⟩;rw[HM.out];have h3:=(h.drewN n).keeps o3 id (fun _=>id) id;have kM:ae (fun _=>False) w w3:=((ae.refl (fun _=>False) w).drewN n).trans o3 (fun _ e=>e) (fun _ _ e=>e);go_wp2_with fail;refine(aX g w3 i h3).mono ?_;rintro e w4 ⟨v,rfl,hf,o4⟩;go_wp2;go_ret2;exact⟨v,rfl,hf.back kM.size,kM.trans o4 (fun _ e=>e) (fun _ _ e=>e)⟩
 ·rw[if_neg cl] at hr
  cases hr
theorem gh (g:CG) (rd:Nat) (w:World) (i:Nat) (st:ByteArray) (but:List Int) (hs:Asc st but) (h:Cur g w i) (r0:w.cell? ⟨rd,0,none⟩=some (.pointer (some ⟨g.c,0,none⟩))) (aJ:rd≠g.c)
 (f:Adz.Flt) (hr:Adz.character g.L g.pl but i=.error f):
 Calls Tryz.prog 232 #[.pointer (some ⟨rd,0,none⟩),.string st] w fun e w'=>∃v,e=.returned (.tuple #[.int .i32 0,v])∧ck w w' v f∧ae (·=g.c) w w':=by
 unfold Adz.character at hr;by_cases hb:Adz.peek g.L i=92
 ·simp[hb] at hr
  go_enter Tryz.func232,Tryz.ntmps232;go_wp2_with fail;refine(aC g w i 92 h hb (by omega)).mono ?_;rintro e w1 ⟨rfl,hc,ho⟩;have r1:=ho.keeps r0 aJ;go_wp2_with fail;refine(iM g w1 (i+1) _ _ jJ hc f hr).mono ?_;rintro e w2 ⟨v,rfl,hf,aK⟩;go_wp2;go_ret2;exact⟨v,rfl,hf.back ho.size,ho.trans aK (fun _ e=>e) (fun _ _ e=>e.elim)⟩
 ·have GL:(Adz.peek g.L i==92)=false:=by simp[hb]
  rw[GL] at hr;simp only[Bool.false_eq_true,if_false] at hr;clear GL;go_enter Tryz.func232,Tryz.ntmps232;go_wp2_with fail;refine(aH g w i 92 h hb).mono ?_;rintro e w1 ⟨rfl,n,rfl⟩;go_wp2_with fail;refine(lR g _ i _ _ hs (h.drewN _) f hr).mono ?_;rintro e w2 ⟨v,rfl,hf,aK⟩;go_wp2;go_ret2;exact⟨v,rfl,hf.back (Nat.le_refl _),((ae.refl (·=g.c) w).drewN _).trans aK (fun _ e=>e) (fun _ _ e=>e.elim)⟩
theorem cd:Asc ⟨#[92,93,94,45,91,47]⟩ Adz.notAMember:=⟨by decide,by decide,by decide⟩
theorem fk (w:World) (R:Nat) (a b:Value):ae (·=R) w ((w.setCell ⟨R,0,none⟩ a).setCell ⟨R,1,none⟩ b):=
 ae.setCell (S:=(·=R)) (p:=⟨R,1,none⟩) (ae.setCell (S:=(·=R)) (p:=⟨R,0,none⟩) (ae.refl _ w) (fun _=>rfl) _) (fun _=>rfl) _
theorem Cur.off {g:CG}{w0 w w':World}{i:Nat} (h0:∃j,Cur g w0 j) (h:Cur g w i) (o:ae (·=w0.heap.size) w w'):Cur g w' i:=by
 obtain⟨j,h0⟩:=h0;exact h.keeps o (fun e=>by have:=h0.lt;omega) (fun hn e=>by have:=(h0.tr hn).lt;omega) (fun e=>by have:=h0.tp.lt;omega)
theorem zK (g:CG) (rd:Nat) (w:World) (i:Nat) (h:Cur g w i) (r0:w.cell? ⟨rd,0,none⟩=some (.pointer (some ⟨g.c,0,none⟩))) (aJ:rd≠g.c)
 (a b:Int) (i':Nat) (hr:Adz.member g.L g.pl i=.ok ((a,b),i')):
 Calls Tryz.prog 236 #[.pointer (some ⟨rd,0,none⟩)] w fun e w'=>e=.returned (.tuple #[.agg #[.int .i32 a,.int .i32 b],.pointer none])∧Cur g w' i'∧ae (·=g.c) w w':=by
 unfold Adz.member at hr;have cR:=h.lt;have lr:=World.block_lt_of_cell? w _ r0;have bW:w.heap.size≠g.c:=by omega
 cases qt:Adz.character g.L g.pl Adz.notAMember i with
 | error f=>rw [qt] at hr;cases hr
 | ok q=>
  obtain⟨c,i1⟩:=q;rw[qt] at hr;simp only at hr;have HC:Hid (Adz.character g.L g.pl Adz.notAMember i=.ok (c,i1)):=qt;clear qt;by_cases nO:Adz.peek g.L i1=45
  ·have AM:(Adz.peek g.L i1==45)=true:=by simp[nO]
   rw[AM] at hr;simp only[if_true] at hr
   cases ky:Adz.character g.L g.pl Adz.notAMember (i1+1) with
   | error f=>rw [ky] at hr;cases hr
   | ok q2=>
    obtain⟨d,i2⟩:=q2;rw[ky] at hr;simp only at hr;by_cases aw:d<c
    ·rw[if_pos aw] at hr;cases hr
    ·rw[if_neg aw] at hr
     simp only[Except.ok.injEq,Prod.mk.injEq] at hr;obtain⟨⟨rfl,rfl⟩,rfl⟩:=hr;have Ga:Hid (Adz.character g.L g.pl Adz.notAMember (i1+1)=.ok (d,i2)):=ky;clear ky AM;go_enter Tryz.func236,Tryz.ntmps236;go_wp2_with fail;refine(ar g _ i (h.alloc _)).mono ?_;rintro e w1 ⟨rfl,n1,rfl⟩;go_wp2_with fail;refine(cY g rd _ i _ _ cd ((h.alloc _).drewN n1) (by simp[World.cell?_alloc_past _ _ _ lr,r0]) aJ c i1 HC.out).mono ?_;rintro e w2 ⟨rfl,aL,o2⟩;have r2:w2.cell? ⟨rd,0,none⟩=some (.pointer (some ⟨g.c,0,none⟩)):=o2.keeps (by simp[World.cell?_alloc_past _ _ _ lr,r0]) aJ;have fP:ai w2 w.heap.size [.int .i32 0,.int .i32 0]:=((ai.new w _ _).drewN n1).keeps o2 bW;have qH:ae (·=g.c) w w2:=(((ae.refl (·=g.c) w).alloc _).drewN n1).trans o2 (fun _ e=>e) (fun _ _ e=>e);go_wp2_with fail;refine(aC g w2 i1 45 aL nO (by omega)).mono ?_;rintro e w3 ⟨rfl,dJ,o3⟩;have r3:=o3.keeps r2 aJ;have qd:=fP.keeps o3 bW;have Da:ae (·=g.c) w w3:=qH.trans o3 (fun _ e=>e) (fun _ _ e=>e);go_wp2_with fail;refine(cY g rd _ (i1+1) _ _ cd dJ r3 aJ d i2 Ga.out).mono ?_;rintro e w4 ⟨rfl,eu,o4⟩;have sm:=qd.keeps o4 bW;have k0:=sm 0 _ rfl;have k1:=sm 1 _ rfl;have Ex:ae (·=g.c) w w4:=Da.trans o4 (fun _ e=>e) (fun _ _ e=>e);clear fP qd sm o2 o3 o4 r0 r2 r3 qH Da;go_wp2;have o5:=fk w4 w.heap.size (.int .i32 c) (.int .i32 d);refine bodyPost_ret (v:=.tuple #[.agg #[.int .i32 c,.int .i32 d],.pointer none]) (by simp[results,Tryz.results236,go_sem,k0,k1]) rfl ⟨rfl,Cur.off ⟨_,h⟩ eu o5,?_⟩
     exact Ex.trans o5 (fun _ e=>e) (fun b hb e=>by omega)
  ·have AM:(Adz.peek g.L i1==45)=false:=by simpa using nO
   rw[AM] at hr;simp only[Bool.false_eq_true,if_false,Except.ok.injEq,Prod.mk.injEq] at hr;obtain⟨⟨rfl,rfl⟩,rfl⟩:=hr;clear AM;go_enter Tryz.func236,Tryz.ntmps236;go_wp2_with fail;refine(ar g _ i (h.alloc _)).mono ?_;rintro e w1 ⟨rfl,n1,rfl⟩;go_wp2_with fail;refine(cY g rd _ i _ _ cd ((h.alloc _).drewN n1) (by simp[World.cell?_alloc_past _ _ _ lr,r0]) aJ c i1 HC.out).mono ?_;rintro e w2 ⟨rfl,aL,o2⟩;have r2:w2.cell? ⟨rd,0,none⟩=some (.pointer (some ⟨g.c,0,none⟩)):=o2.keeps (by simp[World.cell?_alloc_past _ _ _ lr,r0]) aJ;have fP:ai w2 w.heap.size [.int .i32 0,.int .i32 0]:=((ai.new w _ _).drewN n1).keeps o2 bW;have qH:ae (·=g.c) w w2:=(((ae.refl (·=g.c) w).alloc _).drewN n1).trans o2 (fun _ e=>e) (fun _ _ e=>e);go_wp2_with fail;refine(aH g w2 i1 45 aL nO).mono ?_;rintro e w3 ⟨rfl,n3,rfl⟩;have k0:=(fP.drewN n3) 0 _ rfl;have k1:=(fP.drewN n3) 1 _ rfl;have Da:=qH.drewN n3;have dJ:=aL.drewN n3;clear fP o2 r0 r2 qH aL;generalize w2.drewN n3=w4 at*
   go_wp2;have o5:=fk w4 w.heap.size (.int .i32 c) (.int .i32 c);refine bodyPost_ret (v:=.tuple #[.agg #[.int .i32 c,.int .i32 c],.pointer none]) (by simp[results,Tryz.results236,go_sem,k0,k1]) rfl ⟨rfl,Cur.off ⟨_,h⟩ dJ o5,?_⟩;exact Da.trans o5 (fun _ e=>e) (fun b hb e=>by omega)
theorem xh (g:CG) (rd:Nat) (w:World) (i:Nat) (h:Cur g w i) (r0:w.cell? ⟨rd,0,none⟩=some (.pointer (some ⟨g.c,0,none⟩))) (aJ:rd≠g.c)
 (f:Adz.Flt) (hr:Adz.member g.L g.pl i=.error f):
 Calls Tryz.prog 236 #[.pointer (some ⟨rd,0,none⟩)] w fun e w'=>∃v,e=.returned (.tuple #[.agg #[.int .i32 0,.int .i32 0],v])∧ck w w' v f∧ae (·=g.c) w w':=by
 unfold Adz.member at hr;have cR:=h.lt;have lr:=World.block_lt_of_cell? w _ r0;have bW:w.heap.size≠g.c:=by omega
 cases qt:Adz.character g.L g.pl Adz.notAMember i with
 | error f'=>
  rw[qt] at hr;simp only[Except.error.injEq] at hr;subst hr;have HC:Hid (Adz.character g.L g.pl Adz.notAMember i=.error f'):=qt;clear qt;go_enter Tryz.func236,Tryz.ntmps236;go_wp2_with fail;refine(ar g _ i (h.alloc _)).mono ?_;rintro e w1 ⟨rfl,n1,rfl⟩;go_wp2_with fail;refine(gh g rd _ i _ _ cd ((h.alloc _).drewN n1) (by simp[World.cell?_alloc_past _ _ _ lr,r0]) aJ f' HC.out).mono ?_;rintro e w2 ⟨v,rfl,⟨fb,rfl,eW,hf⟩,o2⟩;have fP:ai w2 w.heap.size [.int .i32 0,.int .i32 0]:=((ai.new w _ _).drewN n1).keeps o2 bW;have k0:=fP 0 _ rfl;have k1:=fP 1 _ rfl;have qH:ae (·=g.c) w w2:=(((ae.refl (·=g.c) w).alloc _).drewN n1).trans o2 (fun _ e=>e) (fun _ _ e=>e);simp at eW;clear fP o2;go_wp2;have o5:=fk w2 w.heap.size (.int .i32 0) (.int .i32 0);refine bodyPost_ret (v:=.tuple #[.agg #[.int .i32 0,.int .i32 0],.pointer (some ⟨fb,0,none⟩)]) (by simp[results,Tryz.results236,go_sem,k0,k1]) rfl ⟨_,rfl,⟨fb,rfl,by omega,hf.keeps o5 (by omega)⟩,?_⟩;exact qH.trans o5 (fun _ e=>e) (fun b hb e=>by omega)
 | ok q=>
  obtain⟨c,i1⟩:=q;rw[qt] at hr;simp only at hr;have HC:Hid (Adz.character g.L g.pl Adz.notAMember i=.ok (c,i1)):=qt;clear qt;by_cases nO:Adz.peek g.L i1=45
  ·have AM:(Adz.peek g.L i1==45)=true:=by simp[nO]
   rw[AM] at hr;simp only[if_true] at hr
   cases ky:Adz.character g.L g.pl Adz.notAMember (i1+1) with
   | error f'=>
    rw[ky] at hr;simp only[Except.error.injEq] at hr;subst hr;have Ga:Hid (Adz.character g.L g.pl Adz.notAMember (i1+1)=.error f'):=ky;clear ky AM;go_enter Tryz.func236,Tryz.ntmps236;go_wp2_with fail;refine(ar g _ i (h.alloc _)).mono ?_;rintro e w1 ⟨rfl,n1,rfl⟩;go_wp2_with fail;refine(cY g rd _ i _ _ cd ((h.alloc _).drewN n1) (by simp[World.cell?_alloc_past _ _ _ lr,r0]) aJ c i1 HC.out).mono ?_;rintro e w2 ⟨rfl,aL,o2⟩;have r2:w2.cell? ⟨rd,0,none⟩=some (.pointer (some ⟨g.c,0,none⟩)):=o2.keeps (by simp[World.cell?_alloc_past _ _ _ lr,r0]) aJ;have fP:ai w2 w.heap.size [.int .i32 0,.int .i32 0]:=((ai.new w _ _).drewN n1).keeps o2 bW;have qH:ae (·=g.c) w w2:=(((ae.refl (·=g.c) w).alloc _).drewN n1).trans o2 (fun _ e=>e) (fun _ _ e=>e);go_wp2_with fail;refine(aC g w2 i1 45 aL nO (by omega)).mono ?_;rintro e w3 ⟨rfl,dJ,o3⟩;have r3:=o3.keeps r2 aJ;have qd:=fP.keeps o3 bW;have Da:ae (·=g.c) w w3:=qH.trans o3 (fun _ e=>e) (fun _ _ e=>e);go_wp2_with fail;refine(gh g rd _ (i1+1) _ _ cd dJ r3 aJ f' Ga.out).mono ?_;rintro e w4 ⟨v,rfl,⟨fb,rfl,eW,hf⟩,o4⟩;have sm:=qd.keeps o4 bW;have k0:=sm 0 _ rfl;have k1:=sm 1 _ rfl;have Ex:ae (·=g.c) w w4:=Da.trans o4 (fun _ e=>e) (fun _ _ e=>e);have G7:w.heap.size<w3.heap.size:=by have:=o2.size;have:=o3.size;simp at*;omega
    clear fP qd sm o2 o3 o4 r0 r2 r3 qH Da;go_wp2;have o5:=fk w4 w.heap.size (.int .i32 0) (.int .i32 0);refine bodyPost_ret (v:=.tuple #[.agg #[.int .i32 0,.int .i32 0],.pointer (some ⟨fb,0,none⟩)]) (by simp[results,Tryz.results236,go_sem,k0,k1]) rfl ⟨_,rfl,⟨fb,rfl,by omega,hf.keeps o5 (by omega)⟩,?_⟩;exact Ex.trans o5 (fun _ e=>e) (fun b hb e=>by omega)
   | ok q2=>
    obtain⟨d,i2⟩:=q2;rw[ky] at hr;simp only at hr;by_cases aw:d<c
    ·rw[if_pos aw] at hr
     simp only[Except.error.injEq] at hr;subst hr;have Ga:Hid (Adz.character g.L g.pl Adz.notAMember (i1+1)=.ok (d,i2)):=ky;clear ky AM;go_enter Tryz.func236,Tryz.ntmps236;go_wp2_with fail;refine(ar g _ i (h.alloc _)).mono ?_;rintro e w1 ⟨rfl,n1,rfl⟩;go_wp2_with fail;refine(cY g rd _ i _ _ cd ((h.alloc _).drewN n1) (by simp[World.cell?_alloc_past _ _ _ lr,r0]) aJ c i1 HC.out).mono ?_;rintro e w2 ⟨rfl,aL,o2⟩;have r2:w2.cell? ⟨rd,0,none⟩=some (.pointer (some ⟨g.c,0,none⟩)):=o2.keeps (by simp[World.cell?_alloc_past _ _ _ lr,r0]) aJ;have fP:ai w2 w.heap.size [.int .i32 0,.int .i32 0]:=((ai.new w _ _).drewN n1).keeps o2 bW;have qH:ae (·=g.c) w w2:=(((ae.refl (·=g.c) w).alloc _).drewN n1).trans o2 (fun _ e=>e) (fun _ _ e=>e);go_wp2_with fail;refine(aC g w2 i1 45 aL nO (by omega)).mono ?_;rintro e w3 ⟨rfl,dJ,o3⟩;have r3:=o3.keeps r2 aJ;have qd:=fP.keeps o3 bW;have Da:ae (·=g.c) w w3:=qH.trans o3 (fun _ e=>e) (fun _ _ e=>e);go_wp2_with fail;refine(cY g rd _ (i1+1) _ _ cd dJ r3 aJ d i2 Ga.out).mono ?_;rintro e w4 ⟨rfl,eu,o4⟩;have sm:=qd.keeps o4 bW;have k0:=sm 0 _ rfl;have k1:=sm 1 _ rfl;have Ex:ae (·=g.c) w w4:=Da.trans o4 (fun _ e=>e) (fun _ _ e=>e);have zu:w.heap.size<w4.heap.size:=by have:=o2.size;have:=o3.size;have:=o4.size;simp at*;omega
     clear fP qd sm o2 o3 o4 r0 r2 r3 qH Da;go_wp2_with fail;refine(aV 4 _ _).mono ?_;rintro e w5 ⟨rfl,rfl⟩;have k0:(w4.alloc (.cells #[.int .i64 4,.int .i64 (Adz.place g.pl i)] 73)).cell? ⟨w.heap.size,0,none⟩=some (.int .i32 0)∧(w4.alloc (.cells #[.int .i64 4,.int .i64 (Adz.place g.pl i)] 73)).frozen? ⟨w.heap.size,0,none⟩=false:=⟨by rw[World.cell?_alloc_past _ _ _ zu];exact k0.1,by rw[World.frozen?_alloc_past _ _ _ zu];exact k0.2⟩;have k1:(w4.alloc (.cells #[.int .i64 4,.int .i64 (Adz.place g.pl i)] 73)).cell? ⟨w.heap.size,1,none⟩=some (.int .i32 0)∧(w4.alloc (.cells #[.int .i64 4,.int .i64 (Adz.place g.pl i)] 73)).frozen? ⟨w.heap.size,1,none⟩=false:=⟨by rw[World.cell?_alloc_past _ _ _ zu];exact k1.1,by rw[World.frozen?_alloc_past _ _ _ zu];exact k1.2⟩;have hf:=db.new w4 4 (Adz.place g.pl i);have tG:ae (·=g.c) w (w4.alloc (.cells #[.int .i64 4,.int .i64 (Adz.place g.pl i)] 73)):=Ex.alloc _;generalize w4.alloc (.cells #[.int .i64 4,.int .i64 (Adz.place g.pl i)] 73)=w5 at*
     go_wp2;have o5:=fk w5 w.heap.size (.int .i32 0) (.int .i32 0);refine bodyPost_ret (v:=.tuple #[.agg #[.int .i32 0,.int .i32 0],.pointer (some ⟨w4.heap.size,0,none⟩)]) (by simp[results,Tryz.results236,go_sem,k0,k1]) rfl ⟨_,rfl,⟨w4.heap.size,rfl,by omega,hf.keeps o5 (by omega)⟩,?_⟩;exact tG.trans o5 (fun _ e=>e) (fun b hb e=>by omega)
    ·rw[if_neg aw] at hr
     cases hr
  ·have AM:(Adz.peek g.L i1==45)=false:=by simpa using nO
   rw[AM] at hr;simp at hr
theorem B6:(Tryz.prog.info? 284).map (fun i=>(i.zero,i.size,i.bytes))=some (some (.agg #[.int .i32 0,.int .i32 0]),2,8):=by kernel_rfl
def dh (sp:List (Int×Int)):List Value:=sp.flatMap fun p=> [.int .i32 p.1,.int .i32 p.2]
theorem pT (sp:List (Int×Int)) (a b:Int):dh (sp++ [(a,b)])=dh sp++ [.int .i32 a,.int .i32 b]:=by simp[dh]
theorem rK {w w':World}{b:Nat}{x0 x1 x2 x3 y:Value} (h:ai w b [x0,x1,x2,x3]) (f:Field b 2 w w') (c:w'.cell? ⟨b,2,none⟩=some y):ai w' b [x0,x1,y,x3]:=by
 intro j v hv
 have hj:j<4:=by
  have:=(List.getElem?_eq_some_iff.1 hv).1;simpa using this
 have Bx:w'.frozen? ⟨b,j,none⟩=false:=by
  rw[f.frozen j]
  match j,hj with
  | 0,_=>exact (h 0 _ rfl).2
  | 1,_=>exact (h 1 _ rfl).2
  | 2,_=>exact (h 2 _ rfl).2
  | 3,_=>exact (h 3 _ rfl).2
 refine⟨?_,Bx⟩
 match j,hj,hv with
 | 0,_,hv=>rw [f.others 0 (by decide)];simp at hv;subst hv;exact(h 0 _ rfl).1
 | 1,_,hv=>rw [f.others 1 (by decide)];simp at hv;subst hv;exact(h 1 _ rfl).1
 | 2,_,hv=>simp at hv;subst hv;exact c
 | 3,_,hv=>rw [f.others 3 (by decide)];simp at hv;subst hv;exact(h 3 _ rfl).1
theorem kV:∀(sp:List (Int×Int)) (j:Nat),j<sp.length→(dh sp)[2*j]? =some (.int .i32 (sp.getD j (0,0)).1)∧(dh sp)[2*j+1]? =some (.int .i32 (sp.getD j (0,0)).2)
 | [],j,h=>by simp at h
 | p::sp,0,_=>⟨rfl,rfl⟩
 | p::sp,j+1,h=>by
  have ih:=kV sp j (by simpa using h);have e:2*(j+1)=2*j+1+1:=by omega
  rw[e];show(([Value.int .i32 p.1,.int .i32 p.2]++dh sp)[2*j+1+1]? =_∧([Value.int .i32 p.1,.int .i32 p.2]++dh sp)[2*j+1+1+1]? =_);simpa using ih
theorem vy {w:World}{B:Nat}{sa:Option Addr}{sc:Nat}{sp:List (Int×Int)} (h:w.ownsRow B 284 2 (.slice sa sp.length sc) sp.length (dh sp)):cQ w (.slice sa sp.length sc) sp:=by
 refine⟨sa,sc,rfl,fun aJ=> ?_⟩;have hl:sp.length≠0:=fun e=>aJ (List.eq_nil_of_length_eq_zero e)
 obtain⟨b,rfl⟩:∃b,sa=some ⟨b,0,none⟩:=by
  rcases h.2 with ⟨e,h0⟩ |⟨gb,cap,cur,e,_⟩
  ·exact absurd h0 hl
  ·injection e with e1;exact⟨gb,e1⟩
 refine⟨b,rfl,aq.of_row h rfl,fun j hj=> ?_⟩;have:=kV sp j hj;exact⟨(h.cellAt (2*j) (by omega)).trans this.1,(h.cellAt (2*j+1) (by omega)).trans this.2⟩
def Gi (g:CG) (w:World):Except Adz.Flt (Adz.Item×Nat)→Ending→World→Prop
 | .ok (x,i'),e,w'=>∃sa sc,e=.returned (.tuple #[.agg #[.int .i64 x.kind,.int .i64 x.group,.slice sa x.spans.length sc,.int .i64 x.times],.pointer none])∧cQ w' (.slice sa x.spans.length sc) x.spans∧Cur g w' i'
 | .error f,e,w'=>∃v,e=.returned (.tuple #[.agg #[.int .i64 0,.int .i64 0,.slice none 0 0,.int .i64 0],v])∧ck w w' v f
structure SetSt (g:CG) (rd:Nat) (w:World) (k:Int) (wr:World) (sp:List (Int×Int)) (j:Nat):Prop where
 cur:Cur g wr j
 r0:wr.cell? ⟨rd,0,none⟩=some (.pointer (some ⟨g.c,0,none⟩))
 res:ai wr w.heap.size [.int .i64 0,.int .i64 0,.slice none 0 0,.int .i64 0]
 it:∃sv,ai wr (w.heap.size+1) [.int .i64 k,.int .i64 0,sv,.int .i64 0]∧wr.ownsRow (w.heap.size+2) 284 2 sv sp.length (dh sp)
 ty:aq wr (w.heap.size+1) 270
 ty0:aq wr w.heap.size 270
 o:ae (fun b=>b=g.c∨w.heap.size≤b) w wr
theorem SetSt.moved {g:CG}{rd:Nat}{w:World}{k:Int}{wr w':World}{sp:List (Int×Int)}{j j':Nat} (h:SetSt g rd w k wr sp j) (cR:g.c<w.heap.size) (aJ:rd≠g.c) (hc:Cur g w' j') (o:ae (·=g.c) wr w'):SetSt g rd w k w' sp j':=by
 obtain⟨sv,h1,h2⟩:=h.it
 exact⟨hc,o.keeps h.r0 aJ,h.res.keeps o (by omega),⟨sv,h1.keeps o (by omega),ag h2 o (fun b hb e=>by
  have:=(h2.lt b hb).1;omega)⟩,h.ty.keeps o (by omega),h.ty0.keeps o (by omega),h.o.trans o (fun _ e=>e) (fun _ _ e=>Or.inl e)⟩
theorem SetSt.quiet {g:CG}{rd:Nat}{w:World}{k:Int}{wr w':World}{sp:List (Int×Int)}{j:Nat} (h:SetSt g rd w k wr sp j) (cR:g.c<w.heap.size) (aJ:rd≠g.c) (o:ae (fun _=>False) wr w'):SetSt g rd w k w' sp j:=
 h.moved cR aJ (h.cur.keeps o id (fun _=>id) id) (o.mono (fun _ _ e=>e.elim))
theorem yz (g:CG) (rd:Nat) (w:World) (i:Nat) (h:Cur g w i) (r0:w.cell? ⟨rd,0,none⟩=some (.pointer (some ⟨g.c,0,none⟩))) (aJ:rd≠g.c)
 (R:Except Adz.Flt (Adz.Item×Nat)) (hR:Adz.setOf g.L g.pl i=R):
 Calls Tryz.prog 231 #[.pointer (some ⟨rd,0,none⟩)] w fun e w'=>Gi g w R e w'∧ae (·=g.c) w w':=by
 have cR:=h.lt;have lr:rd<w.heap.size:=World.block_lt_of_cell? w _ r0;have hle:=h.le;have dy:=h.small;obtain⟨s0,uK,Ai,Aj,Ak⟩:=info_parts B6
 have zC:SetSt g rd w 5 ((w.alloc (.cells #[.int .i64 0,.int .i64 0,.slice none 0 0,.int .i64 0] 270)).alloc (.cells #[.int .i64 5,.int .i64 0,.slice none 0 0,.int .i64 0] 270)) [] i:=by
  have c2:=ai.new (w.alloc (.cells #[.int .i64 0,.int .i64 0,.slice none 0 0,.int .i64 0] 270)) #[.int .i64 5,.int .i64 0,.slice none 0 0,.int .i64 0] 270;have t2:=aq.new (w.alloc (.cells #[.int .i64 0,.int .i64 0,.slice none 0 0,.int .i64 0] 270)) #[.int .i64 5,.int .i64 0,.slice none 0 0,.int .i64 0] 270;have hz:(w.alloc (.cells #[.int .i64 0,.int .i64 0,.slice none 0 0,.int .i64 0] 270)).heap.size=w.heap.size+1:=by simp
  rw[hz] at c2 t2;exact⟨(h.alloc _).alloc _,by rw[World.cell?_alloc_past _ _ _ (by simp;omega),World.cell?_alloc_past _ _ _ lr];exact r0,(ai.new w #[.int .i64 0,.int .i64 0,.slice none 0 0,.int .i64 0] 270).alloc _,⟨_,c2,World.ownsRow_nil _ _ _ _⟩,t2 _,(aq.new w #[.int .i64 0,.int .i64 0,.slice none 0 0,.int .i64 0] 270 _).alloc _,(((ae.refl _ w).alloc _).alloc _)⟩
 have HR:Hid (Adz.members g.L g.pl (g.L.length+1) [] (if Adz.peek g.L i==94 then i+1 else i)=Adz.members g.L g.pl (g.L.length+1) [] (if Adz.peek g.L i==94 then i+1 else i)):=rfl
 obtain⟨kd,i1,bZ,Bv⟩:∃(kd:Int) (i1:Nat),(kd=(if Adz.peek g.L i==94 then 6 else 5)∧i1=(if Adz.peek g.L i==94 then i+1 else i))∧R=(match Adz.members g.L g.pl (g.L.length+1) [] i1 with
  | .error f=> .error f
  | .ok (sp,i2)=> .ok (⟨kd,0,sp,0⟩,i2)):=⟨_,_,⟨rfl,rfl⟩,by rw[←hR];rfl⟩
 obtain⟨M,hM⟩:∃M,Adz.members g.L g.pl (g.L.length+1) [] i1=M:=⟨_,rfl⟩;rw[hM] at Bv;have HM:Hid _:=hM;clear hM;have HF:Hid _:=Bv;clear hR HR Bv;go_enter Tryz.func231,Tryz.ntmps231;go_wp2_with fail;by_cases lu:Adz.peek g.L i=94
 all_goals first
  | (have IJ:(Adz.peek g.L i==94)=true:=by simp[lu]
     rw[IJ] at bZ;obtain⟨mj,fP⟩:=bZ;refine(aC g _ i 94 zC.cur lu (by omega)).mono ?_;rintro e w1 ⟨rfl,cC,o1⟩;have h1:=zC.moved cR aJ cC o1;obtain⟨sv,uA,uB⟩:=h1.it;have k0:=uA 0 _ rfl;have o6:=ae.setCell (S:=(·=w.heap.size+1)) (p:=⟨w.heap.size+1,0,none⟩) (ae.refl _ w1) (fun _=>rfl) (.int .i64 6);have h6:SetSt g rd w 6 (w1.setCell ⟨w.heap.size+1,0,none⟩ (.int .i64 6)) [] (i+1):=⟨h1.cur.keeps o6 (by omega) (fun hn e=>by have:=(h.tr hn).lt;omega) (fun e=>by have:=h.tp.lt;omega),o6.keeps h1.r0 (by show ¬rd=w.heap.size+1;omega),h1.res.keeps o6 (by omega),⟨_,uA.set 0 (.int .i64 6),ag uB o6 (fun b hb e=>by have:=(uB.lt b hb).1;omega)⟩,h1.ty.setCell _ _,h1.ty0.setCell _ _,h1.o.trans o6 (fun _ e=>e) (fun b hb e=>Or.inr (by omega))⟩;have H6:Hid _:=h6;clear uA uB zC h6;go_wp2_with fail;have xd:SetSt g rd w kd (w1.setCell ⟨w.heap.size+1,0,none⟩ (.int .i64 6)) [] i1:=by rw[mj,fP];exact H6.out
     clear H6 h1 k0 mj cC o6;have OE:i≤i1:=by rw[fP];simp
     clear fP;generalize w1.setCell ⟨w.heap.size+1,0,none⟩ (.int .i64 6)=w1 at*)
  | (have IJ:(Adz.peek g.L i==94)=false:=by simpa using lu
     rw[IJ] at bZ;obtain⟨mj,fP⟩:=bZ;refine(aH g _ i 94 zC.cur lu).mono ?_;rintro e w1 ⟨rfl,n1,da⟩;have h1:=zC.quiet cR aJ ((ae.refl _ _).drewN n1);rw[←da] at h1;clear da;have e1:kd=5:=by rw[mj];rfl
     have e2:i1=i:=by rw[fP];rfl
     rw[←e1,←e2] at h1;have OE:i≤i1:=by omega
     have xd:=h1;clear zC mj fP e1 e2 h1;go_wp2_with fail)
 all_goals
  have Fz:=h;clear h r0 lu IJ
  go_loopg [] (g.L.length+1) (fun k wr=>∃(j m:Nat) (sp:List (Int×Int)),Hid (SetSt g rd w kd wr sp j)∧Hid (g.L.length<m+j∧j≤g.L.length∧g.L.length+1≤j+k∧sp.length≤j∧Adz.members g.L g.pl m sp j=M))
  case atStart=>exact ⟨i1,g.L.length+1,[],xd,⟨by omega,xd.cur.le,by omega,by simp,HM.out⟩⟩
  case round=>
   obtain⟨j,m,sp,HS,HI⟩:=hrel;have hS:=HS.out;obtain⟨hm,mi,jt,Vc,au⟩:=HI.out;obtain⟨m,rfl⟩:∃m',m=m'+1:=⟨m - 1,by omega⟩;unfold Adz.members at au;obtain⟨sv,Aw,Ax⟩:=hS.it;obtain⟨sa,sc,rfl⟩:=ak Ax;have k2:=Aw 2 _ rfl;have r0:=hS.r0;clear HS HI xd;have jX:=hS.res;have q0:=jX 0 _ rfl;have q1:=jX 1 _ rfl;have q2:=jX 2 _ rfl;have q3:=jX 3 _ rfl;have La:w.heap.size+1<wr.heap.size:=hS.ty.lt
   by_cases iu:(sp.isEmpty || Adz.peek g.L j !=93)=true
   ·rw[if_pos iu] at au
    clear q0 q1 q2 q3 jX;by_cases iD:sp= []
    all_goals first
     | (have b0:((sp.length:Int)==0)=true:=by rw[iD];rfl
        clear iD iu;obtain⟨wq,ri⟩:∃wq,wq=wr:=⟨_,rfl⟩;have Fp:SetSt g rd w kd wq sp j:=by rw[ri];exact hS
        go_wp2_with fail;rw[←ri];clear ri hS k2 Aw Ax r0 b0)
     | (have KY:sp.length≠0:=fun e=>iD (List.eq_nil_of_length_eq_zero e)
        have b0:((sp.length:Int)==0)=false:=beq_eq_false_iff_ne.2 (by omega)
        have Mc:(Adz.peek g.L j !=93)=true:=by
         cases My:sp.isEmpty with
         | true=>exact absurd (List.isEmpty_iff.1 My) iD
         | false=>rw [My] at iu;simpa using iu
        have HB:Hid _:=Mc;have cP:=ah g wr j hS.cur;clear iD iu Mc KY;generalize Adz.peek g.L j=pk at*
        have Mc:=HB.out;go_wp2_with fail;refine cP.mono ?_;rintro e wq ⟨rfl,n2,ri⟩;have Fp:SetSt g rd w kd wq sp j:=by rw[ri];exact hS.quiet cR aJ ((ae.refl _ wr).drewN n2)
        clear ri;go_wp2_with fail;clear hS k2 Aw Ax r0 b0 Mc HB cP)
    all_goals
     have hS:=Fp;have r0:=hS.r0;have jX:=hS.res;have La:w.heap.size+1<wq.heap.size:=hS.ty.lt;clear Fp
     cases gz:Adz.member g.L g.pl j with
     | error f=>
      rw[gz] at au;simp only at au;have T6:R=.error f:=by rw[HF.out,←au]
      subst T6;refine(xh g rd wq j hS.cur r0 aJ f gz).mono ?_;rintro e w2 ⟨v,rfl,⟨fb,rfl,eW,hf⟩,o2⟩;have q0:=(jX.keeps o2 (by omega)) 0 _ rfl;have q1:=(jX.keeps o2 (by omega)) 1 _ rfl;have q2:=(jX.keeps o2 (by omega)) 2 _ rfl;have q3:=(jX.keeps o2 (by omega)) 3 _ rfl;have UK:w.heap.size+1<w2.heap.size:=by have:=o2.size;omega
      have OQ:w.heap.size<w2.heap.size:=by omega
      clear au;go_wp2;have o4:=eR w2 w.heap.size (.int .i64 0) (.int .i64 0) (.slice none 0 0) (.int .i64 0);have o5:ae (·=w.heap.size) w2 ((set4 w2 w.heap.size (.int .i64 0) (.int .i64 0) (.slice none 0 0) (.int .i64 0)).alloc (.cells #[.int .i32 0,.int .i32 0] 284)):=o4.alloc _;refine bodyPost_ret (v:=.tuple #[.agg #[.int .i64 0,.int .i64 0,.slice none 0 0,.int .i64 0],.pointer (some ⟨fb,0,none⟩)]) (by simp[results,Tryz.results231,go_sem,q0,q1,q2,q3,OQ]) rfl ⟨⟨_,rfl,⟨fb,rfl,by omega,hf.keeps o5 (by omega)⟩⟩,?_⟩;exact((hS.o.trans o2 (fun _ e=>e) (fun _ _ e=>Or.inl e):ae (fun b=>b=g.c∨w.heap.size≤b) w w2).trans o5 (fun _ e=>e) (fun b hb e=>Or.inr (by omega)):ae (fun b=>b=g.c∨w.heap.size≤b) w _).mono (fun b hb e=>by rcases e with e | e;exact e;omega)
     | ok q=>
      obtain⟨⟨a,b⟩,j1⟩:=q;rw[gz] at au;simp only at au;have CU:=Adz.member_lt gz;have bG:Hid _:=au;refine(zK g rd wq j hS.cur r0 aJ a b j1 gz).mono ?_;rintro e w2 ⟨rfl,aL,o2⟩;have h2:=hS.moved cR aJ aL o2;clear au gz jX hS r0 La o2;obtain⟨sv,Aw,Ax⟩:=h2.it;obtain⟨sa,sc,rfl⟩:=ak Ax;have k2:=Aw 2 _ rfl;have RX:=k2.1;have Vu:=k2.2;have La:w.heap.size+1<w2.heap.size:=h2.ty.lt;have OG:=aL.le;have bu:(Value.slice sa sp.length sc).ownBlock≠some (w.heap.size+1):=aG Ax h2.ty (by decide);have BX:(w2.alloc (.cells #[.int .i32 a,.int .i32 b] 284)).heap.size=w2.heap.size+1:=by simp
      have oa:ae (fun _=>False) w2 (w2.alloc (.cells #[.int .i32 a,.int .i32 b] 284)):=(ae.refl _ w2).alloc _;have h3:=h2.quiet cR aJ oa;have GO:=oa.keeps RX id;have Oz:=oa.keepsFrozen RX Vu id;have Vq:=ag Ax oa (fun _ _=>id);go_wp2_with (at_builtin;refine wpList_append_lies _ (by rfl) _ _ _ (by rfl) (w.heap.size+2) 284 s0 _ 2 8 Tryz.underlying267 uK Ai Aj Ak rfl (by omega) (.slice sa sp.length sc) sp.length (dh sp) (by rfl) (Vq.alloc _) ⟨w2.heap.size+1,0,none⟩ 1 1 [.int .i32 a,.int .i32 b] (by rfl) (by rfl) (World.news_of_block (cs:= #[.int .i32 a,.int .i32 b]) (t:=284) (fr:=(0,0)) (by rw[←BX];exact heap_alloc_new _ _)) (by simp[Value.oneCell']) (by omega) (by unfold maxLen;omega) (by omega) (by simp;omega) (w2.heap.size+2) (by simp) ?_;intro g2 aT w4 ay ao bH dM;have gq:=(ao.cell_far ⟨w.heap.size+1,2,none⟩ (by simp;omega) (Ne.symm bu)).trans ((World.cell?_alloc_past _ _ _ (by simp;omega)).trans GO);have sA:=(ao.frozen_far ⟨w.heap.size+1,2,none⟩ (by simp;omega) (Ne.symm bu)).trans ((World.frozen?_alloc_past _ _ _ (by simp;omega)).trans Oz))
      have hv:(Value.slice (some ⟨g2,0,none⟩) (sp.length+1) aT).ownBlock≠some (w.heap.size+1):=by
       rcases bH with h | h
       ·intro e
        simp[Value.ownBlock] at e;exact bu (by rw[h,e])
       ·intro e
        simp[Value.ownBlock] at e;omega
      obtain⟨u1,u2,u3,u4⟩:=bg (((ae.refl _ w2).alloc _).alloc _) ao gq ay hv La bu
      have lC:∀b,(b=w.heap.size+1∨(Value.slice sa sp.length sc).ownBlock=some b)→w.heap.size+1≤b:=fun b e=>by
       rcases e with e | e
       ·omega
       ·have:=(Ax.lt b e).1;omega
      go_roundg (g.L.length+1 - j1)
      case measure=>omega
      case rel=>
       refine⟨j1,m,sp++ [(a,b)],⟨aL.keeps u3 (fun e=>by have:=lC _ e;omega) (fun hn e=>by have:=lC _ e;have:=(Fz.tr hn).lt;omega) (fun e=>by have:=lC _ e;have:=Fz.tp.lt;omega),u3.keeps h2.r0 (fun e=>by have:=lC _ e;simp at this;omega),h2.res.keeps u3 (fun e=>by have:=lC _ e;omega),⟨_,rK Aw u4 u1,?_⟩,u4.typ _ h2.ty,h2.ty0.keeps u3 (fun e=>by have:=lC _ e;omega),h2.o.trans u3 (fun _ e=>e) (fun b hb e=>Or.inr (by have:=lC _ e;omega))⟩,⟨by omega,OG,by omega,by simp;omega,bG.out⟩⟩;rw[List.length_append,pT];exact u2
   ·rw[if_neg iu] at au
    simp only[Bool.not_eq_true,Bool.or_eq_false_iff] at iu;obtain⟨cC,Kv⟩:=iu;have Dv:Adz.peek g.L j=93:=by simpa using Kv
    have Lf:sp≠ []:=fun e=>by rw[e] at cC;simp at cC
    have KY:sp.length≠0:=fun e=>Lf (List.eq_nil_of_length_eq_zero e);have b0:((sp.length:Int)==0)=false:=beq_eq_false_iff_ne.2 (by omega);have T8:R=.ok (⟨kd,0,sp,0⟩,j+1):=by rw[HF.out,←au]
    subst T8;have aw:j<g.L.length:=Adz.lt_of_peek (by omega);have cP:=ah g wr j hS.cur;rw[Dv] at cP;clear au cC Kv;go_wp2_with fail;refine cP.mono ?_;rintro e wq ⟨rfl,n2,ri⟩;have Fp:SetSt g rd w kd wq sp j:=by rw[ri];exact hS.quiet cR aJ ((ae.refl _ wr).drewN n2)
    have VO:=Fp.r0;clear ri cP;go_wp2_with fail;refine(ax g wq j Fp.cur aw).mono ?_;rintro e w2 ⟨rfl,aL,o2⟩;have h2:=Fp.moved cR aJ aL o2;clear hS Fp Aw Ax k2 q0 q1 q2 q3 jX r0 VO La;obtain⟨sv,Aw,Ax⟩:=h2.it;obtain⟨sa,sc,rfl⟩:=ak Ax;have k0:=Aw 0 _ rfl;have k1:=Aw 1 _ rfl;have k2:=Aw 2 _ rfl;have k3:=Aw 3 _ rfl;have q0:=h2.res 0 _ rfl;have q1:=h2.res 1 _ rfl;have q2:=h2.res 2 _ rfl;have q3:=h2.res 3 _ rfl;go_wp2;have o4:=eR w2 w.heap.size (.int .i64 kd) (.int .i64 0) (.slice sa sp.length sc) (.int .i64 0);refine bodyPost_ret (v:=.tuple #[.agg #[.int .i64 kd,.int .i64 0,.slice sa sp.length sc,.int .i64 0],.pointer none]) (by simp[results,Tryz.results231,go_sem,q0,q1,q2,q3]) rfl ⟨⟨sa,sc,rfl,(vy Ax).keeps o4 ?_,Cur.off ⟨_,Fz⟩ aL o4⟩,?_⟩
    ·intro b hb e
     subst e;exact absurd (hb.one h2.ty0) (by decide)
    ·exact((h2.o.trans o4 (fun _ e=>e) (fun b hb e=>Or.inr (by omega)):ae (fun b=>b=g.c∨w.heap.size≤b) w _)).mono (fun b hb e=>by rcases e with e | e;exact e;omega)
end
end Go.Proofs.YtbiobhghnldckaaGreatDoor
