/- Proved: a part of a replacement is read, where it may stand. Conditions: the cursor lies in memory as 'Cur' says, and the parser leads to it. -/
import Derived.Test.YtbiobhghnldckaaGreatDoorS3
namespace Go.Proofs.YtbiobhghnldckaaGreatDoor
set_option linter.unusedVariables false
set_option maxRecDepth 100000
set_option maxHeartbeats 6400000
section
open Go.RowKit
attribute [local go_sem ↓] Go.wp_at_zero Go.wp_at_succ
def set3 (w:World) (b:Nat) (v0 v1 v2:Value):World:=((w.setCell ⟨b,0,none⟩ v0).setCell ⟨b,1,none⟩ v1).setCell ⟨b,2,none⟩ v2
theorem jy (w:World) (b:Nat) (v0 v1 v2:Value):ae (·=b) w (set3 w b v0 v1 v2):=
 ae.setCell (S:=(·=b)) (p:=⟨b,2,none⟩) (ae.setCell (S:=(·=b)) (p:=⟨b,1,none⟩) (ae.setCell (S:=(·=b)) (p:=⟨b,0,none⟩) (ae.refl _ w) (fun _=>rfl) _) (fun _=>rfl) _) (fun _=>rfl) _
theorem iG:Asc ⟨#[47,92,38]⟩ Adz.replSpecial:=⟨by decide,by decide,by decide⟩
theorem iZ {g:CG}{w w1:World}{i0 i':Nat} (h:Cur g w i0) (hc:Cur g w1 i') (o:ae (·=g.c) w w1) (v0 v1 v2:Value) (aw:w.heap.size<w1.heap.size):
 Cur g (set3 w1 w.heap.size v0 v1 v2) i'∧ae (·=g.c) w (set3 w1 w.heap.size v0 v1 v2):=by
 have o3:=jy w1 w.heap.size v0 v1 v2;have cR:=h.lt;refine⟨hc.keeps o3 (by omega) (fun hn e=>by have:=(h.tr hn).lt;omega) (fun e=>by have:=h.tp.lt;omega),o.trans o3 (fun _ e=>e) (fun x hx e=>by omega)⟩
theorem yw (g:CG) (pp:Nat) (w:World) (i:Nat) (h:Cur g w i) (hp:Lead g pp w) (gr:Int) (p:Adz.Part) (i':Nat) (hr:Adz.part g.L g.pl gr i=.ok (p,i')):
 Calls Tryz.prog 196 #[.pointer (some ⟨pp,0,none⟩),.int .i64 gr] w fun e w'=>e=.returned (.tuple #[.agg #[.int .i64 p.kind,.string ⟨p.text.toArray⟩,.int .i64 p.group],.pointer none])∧Cur g w' i'∧ae (·=g.c) w w':=by
 unfold Adz.part at hr;have cR:=h.lt;have q0:=hp.at0;have eX:pp<w.heap.size:=hp.lt;have bW:w.heap.size≠g.c:=by omega
 have oa:∀o:Obj,ae (·=g.c) w (w.alloc o):=fun o=>(ae.refl _ w).alloc o;have Jl:∀o:Obj,(w.alloc o).cell? ⟨pp,0,none⟩=some (.pointer (some ⟨g.c,0,none⟩)):=fun o=>(World.cell?_alloc_past _ _ _ eX).trans q0;by_cases c1:Adz.peek g.L i=38
 ·simp only[c1,beq_self_eq_true,if_true,Except.ok.injEq,Prod.mk.injEq] at hr
  obtain⟨rfl,rfl⟩:=hr;go_enter Tryz.func196,Tryz.ntmps196;go_wp2_with fail;refine(ar g _ i (h.alloc _)).mono ?_;rintro e w1 ⟨rfl,n1,rfl⟩;go_wp2_with fail;refine(aC g _ i 38 ((h.alloc _).drewN _) c1 (by omega)).mono ?_;rintro e w2 ⟨rfl,hc,ho⟩;have hk:ai w2 w.heap.size [.int .i64 0,.string ⟨#[]⟩,.int .i64 0]:=((ai.new w _ _).drewN n1).keeps ho bW;have k0:=hk 0 _ rfl;have k1:=hk 1 _ rfl;have k2:=hk 2 _ rfl;clear hk;have aw:w.heap.size<w2.heap.size:=by have:=ho.size;simp at this;omega
  go_wp2;obtain⟨c,o⟩:=iZ h hc (((oa _).drewN n1).trans ho (fun _ e=>e) (fun _ _ e=>e)) (.int .i64 1) (.string ⟨#[]⟩) (.int .i64 0) aw;exact bodyPost_ret (v:=.tuple #[.agg #[.int .i64 1,.string ⟨#[]⟩,.int .i64 0],.pointer none]) (by simp[results,Tryz.results196,go_sem,k0,k1,k2]) rfl ⟨rfl,c,o⟩
 ·have b1:(Adz.peek g.L i==38)=false:=by simpa using c1
  rw[b1] at hr;simp only[Bool.false_eq_true,if_false] at hr;clear b1;by_cases c2:Adz.peek g.L i=92
  ·have b2:(Adz.peek g.L i !=92)=false:=by simp[c2]
   rw[b2] at hr;simp only[Bool.false_eq_true,if_false] at hr;clear b2
   by_cases c3:(Adz.peek g.L (i+1)==48 || !Adz.isDigit (Adz.peek g.L (i+1)))=true
   ·rw[if_pos c3] at hr
    cases kz:Adz.escaped g.L g.pl Adz.replSpecial (i+1) with
    | error f=>rw [kz] at hr;cases hr
    | ok q=>
     obtain⟨r,i2⟩:=q;rw[kz] at hr;simp only[Adz.literal,Except.ok.injEq,Prod.mk.injEq] at hr;obtain⟨rfl,rfl⟩:=hr;have HE:Hid (Adz.escaped g.L g.pl Adz.replSpecial (i+1)=.ok (r,i2)):=kz;clear kz;by_cases c4:Adz.peek g.L (i+1)=48
     ·clear c3
      go_enter Tryz.func196,Tryz.ntmps196;go_wp2_with fail;refine(ar g _ i (h.alloc _)).mono ?_;rintro e w1 ⟨rfl,n1,rfl⟩;go_wp2_with fail;refine(aH g _ i 38 ((h.alloc _).drewN _) c1).mono ?_;rintro e w1 ⟨rfl,n2,rfl⟩;go_wp2_with fail;refine(aC g _ i 92 ((h.alloc _).drewN _) c2 (by omega)).mono ?_;rintro e w2 ⟨rfl,hc,ho⟩;have q2:=ho.keeps (Jl _) hp.ne;go_wp2_with fail;refine(ah g w2 (i+1) hc).mono ?_;rintro e w1 ⟨rfl,n3,rfl⟩;rw[c4];go_wp2_with fail;refine(gP g _ (i+1) _ _ iG (hc.drewN _) r i2 HE.out).mono ?_;rintro e w3 ⟨rfl,dJ,uF⟩;go_wp2_with fail;refine(gv _ r).mono ?_;rintro e w4 ⟨rfl,dg⟩;have sJ:ae (·=g.c) w2 w4:=(((ae.refl (·=g.c) w2).drewN _).trans uF (fun _ e=>e) (fun _ _ e=>e)).trans dg (fun _ e=>e) (fun _ _ e=>e.elim);have eu:=dJ.keeps dg id (fun _=>id) id;have hk:ai w4 w.heap.size [.int .i64 0,.string ⟨#[]⟩,.int .i64 0]:=(((ai.new w _ _).drewN (n1+n2)).keeps ho bW).keeps sJ bW;have k0:=hk 0 _ rfl;have k1:=hk 1 _ rfl;have k2:=hk 2 _ rfl;clear hk;have aw:w.heap.size<w4.heap.size:=by have:=ho.size;have:=sJ.size;simp at*;omega
      go_wp2;obtain⟨c,o⟩:=iZ h eu ((((oa _).drewN (n1+n2)).trans ho (fun _ e=>e) (fun _ _ e=>e)).trans sJ (fun _ e=>e) (fun _ _ e=>e)) (.int .i64 0) (.string (Utf8.encode r)) (.int .i64 0) aw;rw[pU];exact bodyPost_ret (v:=.tuple #[.agg #[.int .i64 0,.string (Utf8.encode r),.int .i64 0],.pointer none]) (by simp[results,Tryz.results196,go_sem,k0,k1,k2]) rfl ⟨rfl,c,o⟩
     ·have gA:Adz.isDigit (Adz.peek g.L (i+1))=false:=by simpa[c4] using c3
      have HD:Hid (Adz.isDigit (Adz.peek g.L (i+1))=false):=gA;have b4:(Adz.peek g.L (i+1)==48)=false:=by simpa using c4
      clear c3 gA;go_enter Tryz.func196,Tryz.ntmps196;go_wp2_with fail;refine(ar g _ i (h.alloc _)).mono ?_;rintro e w1 ⟨rfl,n1,rfl⟩;go_wp2_with fail;refine(aH g _ i 38 ((h.alloc _).drewN _) c1).mono ?_;rintro e w1 ⟨rfl,n2,rfl⟩;go_wp2_with fail;refine(aC g _ i 92 ((h.alloc _).drewN _) c2 (by omega)).mono ?_;rintro e w2 ⟨rfl,hc,ho⟩;have q2:=ho.keeps (Jl _) hp.ne;go_wp2_with fail;refine(ah g w2 (i+1) hc).mono ?_;rintro e w1 ⟨rfl,n3,rfl⟩;go_wp2_with fail;refine(aE _ _).mono ?_;rintro e w1 ⟨rfl,rfl⟩;rw[HD.out];go_wp2_with fail;refine(gP g _ (i+1) _ _ iG (hc.drewN _) r i2 HE.out).mono ?_;rintro e w3 ⟨rfl,dJ,uF⟩;go_wp2_with fail;refine(gv _ r).mono ?_;rintro e w4 ⟨rfl,dg⟩;have sJ:ae (·=g.c) w2 w4:=(((ae.refl (·=g.c) w2).drewN _).trans uF (fun _ e=>e) (fun _ _ e=>e)).trans dg (fun _ e=>e) (fun _ _ e=>e.elim);have eu:=dJ.keeps dg id (fun _=>id) id;have hk:ai w4 w.heap.size [.int .i64 0,.string ⟨#[]⟩,.int .i64 0]:=(((ai.new w _ _).drewN (n1+n2)).keeps ho bW).keeps sJ bW;have k0:=hk 0 _ rfl;have k1:=hk 1 _ rfl;have k2:=hk 2 _ rfl;clear hk;have aw:w.heap.size<w4.heap.size:=by have:=ho.size;have:=sJ.size;simp at*;omega
      go_wp2;obtain⟨c,o⟩:=iZ h eu ((((oa _).drewN (n1+n2)).trans ho (fun _ e=>e) (fun _ _ e=>e)).trans sJ (fun _ e=>e) (fun _ _ e=>e)) (.int .i64 0) (.string (Utf8.encode r)) (.int .i64 0) aw;rw[pU];exact bodyPost_ret (v:=.tuple #[.agg #[.int .i64 0,.string (Utf8.encode r),.int .i64 0],.pointer none]) (by simp[results,Tryz.results196,go_sem,k0,k1,k2]) rfl ⟨rfl,c,o⟩
   ·rw[if_neg c3] at hr
    simp only[Bool.not_eq_true,Bool.or_eq_false_iff,Bool.not_eq_false'] at c3;obtain⟨b4,du⟩:=c3;by_cases c5:Adz.peek g.L (i+1) - 48>gr
    ·simp[c5] at hr
    ·rw[if_neg c5] at hr
     simp only[Except.ok.injEq,Prod.mk.injEq] at hr;obtain⟨rfl,rfl⟩:=hr;have HD:Hid (Adz.isDigit (Adz.peek g.L (i+1))=true):=du;have eG:i+1<g.L.length:=Adz.lt_of_digit du;obtain⟨d0,d1⟩:=Adz.digit_range du;clear du;go_enter Tryz.func196,Tryz.ntmps196;go_wp2_with fail;refine(ar g _ i (h.alloc _)).mono ?_;rintro e w1 ⟨rfl,n1,rfl⟩;go_wp2_with fail;refine(aH g _ i 38 ((h.alloc _).drewN _) c1).mono ?_;rintro e w1 ⟨rfl,n2,rfl⟩;go_wp2_with fail;refine(aC g _ i 92 ((h.alloc _).drewN _) c2 (by omega)).mono ?_;rintro e w2 ⟨rfl,hc,ho⟩;have q2:=ho.keeps (Jl _) hp.ne;go_wp2_with fail;refine(ah g w2 (i+1) hc).mono ?_;rintro e w1 ⟨rfl,n3,rfl⟩;go_wp2_with fail;refine(aE _ _).mono ?_;rintro e w1 ⟨rfl,rfl⟩;rw[HD.out];go_wp2_with fail;refine(ax g _ (i+1) (hc.drewN _) eG).mono ?_;rintro e w4 ⟨rfl,eu,dg⟩;have sJ:ae (·=g.c) w2 w4:=((ae.refl (·=g.c) w2).drewN _).trans dg (fun _ e=>e) (fun _ _ e=>e);have hk:ai w4 w.heap.size [.int .i64 0,.string ⟨#[]⟩,.int .i64 0]:=(((ai.new w _ _).drewN (n1+n2)).keeps ho bW).keeps sJ bW;have k0:=hk 0 _ rfl;have k1:=hk 1 _ rfl;have k2:=hk 2 _ rfl;clear hk;have aw:w.heap.size<w4.heap.size:=by have:=ho.size;have:=sJ.size;simp at*;omega
     go_wp2;obtain⟨c,o⟩:=iZ h eu ((((oa _).drewN (n1+n2)).trans ho (fun _ e=>e) (fun _ _ e=>e)).trans sJ (fun _ e=>e) (fun _ _ e=>e)) (.int .i64 2) (.string ⟨#[]⟩) (.int .i64 (Adz.peek g.L (i+1) - 48)) aw;exact bodyPost_ret (v:=.tuple #[.agg #[.int .i64 2,.string ⟨#[]⟩,.int .i64 (Adz.peek g.L (i+1) - 48)],.pointer none]) (by simp[results,Tryz.results196,go_sem,k0,k1,k2]) rfl ⟨rfl,c,o⟩
  ·have b2:(Adz.peek g.L i !=92)=true:=by simpa[bne] using c2
   rw[b2] at hr;simp only[if_true] at hr
   cases kz:Adz.plain g.L g.pl Adz.replSpecial i with
   | error f=>rw [kz] at hr;cases hr
   | ok q=>
    obtain⟨r,i2⟩:=q;rw[kz] at hr;simp only[Adz.literal,Except.ok.injEq,Prod.mk.injEq] at hr;obtain⟨rfl,rfl⟩:=hr;have HE:Hid (Adz.plain g.L g.pl Adz.replSpecial i=.ok (r,i2)):=kz;clear kz b2;go_enter Tryz.func196,Tryz.ntmps196;go_wp2_with fail;refine(ar g _ i (h.alloc _)).mono ?_;rintro e w1 ⟨rfl,n1,rfl⟩;go_wp2_with fail;refine(aH g _ i 38 ((h.alloc _).drewN _) c1).mono ?_;rintro e w1 ⟨rfl,n2,rfl⟩;go_wp2_with fail;refine(aH g _ i 92 ((h.alloc _).drewN _) c2).mono ?_;rintro e w1 ⟨rfl,n3,rfl⟩;go_wp2_with fail;refine(pM g _ i _ _ iG ((h.alloc _).drewN _) r i2 HE.out).mono ?_;rintro e w3 ⟨rfl,dJ,uF⟩;go_wp2_with fail;refine(gv _ r).mono ?_;rintro e w4 ⟨rfl,dg⟩;have eu:=dJ.keeps dg id (fun _=>id) id;have Iq:ae (·=g.c) ((w.alloc (.cells #[.int .i64 0,.string ⟨#[]⟩,.int .i64 0] 240)).drewN (n1+n2+n3)) w4:=uF.trans dg (fun _ e=>e) (fun _ _ e=>e.elim);have hk:ai w4 w.heap.size [.int .i64 0,.string ⟨#[]⟩,.int .i64 0]:=((ai.new w _ _).drewN (n1+n2+n3)).keeps Iq bW;have k0:=hk 0 _ rfl;have k1:=hk 1 _ rfl;have k2:=hk 2 _ rfl;clear hk;have aw:w.heap.size<w4.heap.size:=by have:=Iq.size;simp at this;omega
    go_wp2;obtain⟨c,o⟩:=iZ h eu (((oa _).drewN (n1+n2+n3)).trans Iq (fun _ e=>e) (fun _ _ e=>e)) (.int .i64 0) (.string (Utf8.encode r)) (.int .i64 0) aw;rw[pU];exact bodyPost_ret (v:=.tuple #[.agg #[.int .i64 0,.string (Utf8.encode r),.int .i64 0],.pointer none]) (by simp[results,Tryz.results196,go_sem,k0,k1,k2]) rfl ⟨rfl,c,o⟩
end
section
open Go.RowKit
theorem uP:(Tryz.prog.info? 240).map (fun i=>(i.zero,i.size,i.bytes))=some (some (.agg #[.int .i64 0,.string ⟨#[]⟩,.int .i64 0]),3,32):=by kernel_rfl
def dH (w:World) (rv:Value) (ps:List Adz.Part):Prop:=w.ownsRow 0 240 3 rv ps.length (ps.flatMap bB)
theorem dH.keeps {S:Nat→Prop}{w w':World}{rv:Value}{ps:List Adz.Part} (h:dH w rv ps) (o:ae S w w') (hs:∀b,aq w b 240→¬S b):dH w' rv ps:=
 ag h o (fun b hb=>hs b (aq.of_row h hb))
theorem je (g:CG) (pp:Nat) (w:World) (i:Nat) (h:Cur g w i) (hp:Lead g pp w) (gr:Int) (ps:List Adz.Part) (i':Nat) (hr:Adz.replacement g.L g.pl gr (g.L.length+1) [] i=.ok (ps,i')):
 Calls Tryz.prog 175 #[.pointer (some ⟨pp,0,none⟩),.int .i64 gr] w fun e w'=>∃rv,e=.returned (.tuple #[rv,.pointer none])∧dH w' rv ps∧Cur g w' i'∧ae (·=g.c) w w':=by
 have HR:Hid (Adz.replacement g.L g.pl gr (g.L.length+1) [] i=.ok (ps,i')):=hr;clear hr;have eN:=h.le;have dy:=h.small;have cR:=h.lt;obtain⟨i0,dZ,fQ,eJ,eF⟩:=info_parts uP;go_enter Tryz.func175,Tryz.ntmps175;go_wp2_with fail
 go_loopg [6] (g.L.length - i) (fun k v wr=>∃j qs m ra rc,v=.slice ra qs.length rc∧Hid (Cur g wr j)∧Hid (Lead g pp wr)∧Hid (wr.ownsRow w.heap.size 240 3 (.slice ra qs.length rc) qs.length (qs.flatMap bB))∧j+k=g.L.length∧Hid (g.L.length<m+j∧qs.length≤j∧Adz.replacement g.L g.pl gr m qs j=.ok (ps,i'))∧Hid (ae (fun b=>b=g.c∨w.heap.size≤b) w wr))
 case atStart=>exact ⟨i,[],g.L.length+1,none,0,rfl,h,hp,World.ownsRow_nil _ _ _ _,by omega,⟨by omega,by simp,HR.out⟩,ae.refl _ _⟩
 case round=>
  obtain⟨j,qs,m,ra,rc,rfl,hc,hl,hw,hk,hI,hO⟩:=hrel;obtain⟨hm,jW,hit⟩:=hI.out;have aU:Cur g wr j:=hc;have fi:Lead g pp wr:=hl;have bQ:ae (fun b=>b=g.c∨w.heap.size≤b) w wr:=hO;have HK:Hid (j+gk=g.L.length):=hk;have q1:=fi.at0;clear hk hc hl hI hO
  cases m with
  | zero=>have:=aU.le;omega
  | succ m=>
   unfold Adz.replacement at hit;by_cases bK:Adz.peek g.L j=47
   ·simp only[bK,beq_self_eq_true,if_true,Except.ok.injEq,Prod.mk.injEq] at hit
    obtain⟨rfl,rfl⟩:=hit;go_wp2_with fail;refine(aC g wr j 47 aU bK (by omega)).mono ?_;rintro e w1 ⟨rfl,cC,bq⟩;go_wp2;go_ret2;refine⟨_,rfl,jf (ag (Hid.out hw) bq (fun b hb e=>(aq.of_row (Hid.out hw) hb).ne aU.tc (by decide) e)) (Nat.zero_le _),cC,?_⟩;exact(bQ.trans bq (fun _ e=>e) (fun _ _ e=>Or.inl e):ae (fun b=>b=g.c∨w.heap.size≤b) w w1).mono (fun b hb e=>by rcases e with e | e;exact e;omega)
   ·have fs:(Adz.peek g.L j==47)=false:=by simpa using bK
    rw[fs] at hit;simp only[Bool.false_eq_true,if_false] at hit
    cases jD:Adz.part g.L g.pl gr j with
    | error f=>rw [jD] at hit;cases hit
    | ok q=>
     obtain⟨p,j1⟩:=q;rw[jD] at hit;simp only at hit;have HP:Hid (Adz.part g.L g.pl gr j=.ok (p,j1)):=jD;have HT:Hid (Adz.replacement g.L g.pl gr m (qs++ [p]) j1=.ok (ps,i')):=hit;have aw:=Adz.part_lt jD;have mi:=aU.le;clear jD hit fs;go_wp2_with fail;refine(aH g wr j 47 aU bK).mono ?_;rintro e w1 ⟨rfl,n1,rfl⟩;go_wp2_with fail;refine(yw g pp _ j (aU.drewN n1) (fi.drewN n1) gr p j1 HP.out).mono ?_;rintro e w2 ⟨rfl,aL,aK⟩;have o2:ae (·=g.c) wr w2:=((ae.refl (·=g.c) wr).drewN n1).trans aK (fun _ e=>e) (fun _ _ e=>e);have eH:=ag (Hid.out hw) o2 (fun b hb e=>(aq.of_row (Hid.out hw) hb).ne aU.tc (by decide) e);have CU:=aL.le;have dr:w.heap.size≤w2.heap.size:=Nat.le_trans bQ.size o2.size
     have ur:∀o1 o2:Obj,((w2.alloc o1).alloc o2).heap[w2.heap.size+1]? =some o2:=fun o1 o2=>by
      have:=heap_alloc_new (w2.alloc o1) o2;simpa using this
     go_wp2_with (at_builtin;refine wpList_append_lies _ (by rfl) _ _ _ (by rfl) w.heap.size 240 i0 _ 3 32 Tryz.underlying161 dZ fQ eJ eF rfl (by omega) (.slice ra qs.length rc) qs.length (qs.flatMap bB) (by rfl) ((eH.alloc _).alloc _) ⟨w2.heap.size+1,0,none⟩ 1 1 [.int .i64 p.kind,.string ⟨p.text.toArray⟩,.int .i64 p.group] (by rfl) (by rfl) (World.news_of_block (cs:= #[.int .i64 p.kind,.string ⟨p.text.toArray⟩,.int .i64 p.group]) (t:=240) (fr:=(0,0)) (ur _ _)) (by simp[Value.oneCell']) (by omega) (by unfold maxLen;omega) (by omega) (by simp;omega) (w2.heap.size+2) (by simp) ?_;intro g1 cap w3 br aI bJ eG);go_roundg (g.L.length - j1)
     case measure=>have:=HK.out;omega
     case rel=>
      have o3:ae (fun b=>(Value.slice ra qs.length rc).ownBlock=some b) w2 w3:=((((ae.refl (fun b=>(Value.slice ra qs.length rc).ownBlock=some b) w2).alloc _).alloc _)).trans (ae.of_grown aI) (fun _ e=>e) (fun _ _ e=>e);refine⟨j1,qs++ [p],m,some ⟨g1,0,none⟩,cap,by simp,?_,?_,?_,by omega,⟨by omega,by simp;omega,HT.out⟩,?_⟩
      ·exact aL.keeps o3 (aG eH aL.tc (by decide)) (fun hn=>aG eH (aL.tr hn) (by decide)) (aG eH aL.tp (by decide))
      ·have fy:Lead g pp w2:=fi.moved o2
       exact fy.keeps o3 (aG eH fy.typ (by decide))
      ·have:(qs++ [p]).flatMap bB=qs.flatMap bB++ [.int .i64 p.kind,.string ⟨p.text.toArray⟩,.int .i64 p.group]:=by simp[bB]
       rw[this,List.length_append];exact br
      ·exact(bQ.trans o2 (fun _ e=>e) (fun _ _ e=>Or.inl e):ae (fun b=>b=g.c∨w.heap.size≤b) w w2).trans o3 (fun _ e=>e) (fun b hb e=>Or.inr (eH.lt b e).1)
structure Keep (cb:Nat) (P:Nat→Prop) (w w':World):Prop where
 cells:∀o,¬P o→w'.cell? ⟨cb,o,none⟩=w.cell? ⟨cb,o,none⟩
 frozen:∀o,w'.frozen? ⟨cb,o,none⟩=w.frozen? ⟨cb,o,none⟩
 typ:∀T,aq w cb T→aq w' cb T
theorem Keep.refl (cb:Nat) (P:Nat→Prop) (w:World):Keep cb P w w:=⟨fun _ _=>rfl,fun _=>rfl,fun _ h=>h⟩
theorem Keep.trans {cb:Nat}{P:Nat→Prop}{a b c:World} (h:Keep cb P a b) (k:Keep cb P b c):Keep cb P a c:=
 ⟨fun o ho=>(k.cells o ho).trans (h.cells o ho),fun o=>(k.frozen o).trans (h.frozen o),fun T t=>k.typ T (h.typ T t)⟩
theorem Keep.of_only {cb:Nat}{P S:Nat→Prop}{a b:World} (h:ae S a b) (hs:¬S cb) (hl:cb<a.heap.size):Keep cb P a b:=
 ⟨fun o _=>h.cell (p:=⟨cb,o,none⟩) hl hs,fun o=>h.frozen (p:=⟨cb,o,none⟩) hl hs,fun _ t=>t.keeps h hs⟩
theorem Keep.setCell {cb:Nat}{P:Nat→Prop} (w:World) (fo:Nat) (v:Value) (hp:P fo):Keep cb P w (w.setCell ⟨cb,fo,none⟩ v):=
 have f:=Field.setCell w cb fo v
 ⟨fun o ho=>f.others o (fun e=>ho (e ▸ hp)),f.frozen,f.typ⟩
structure FlagCells (w:World) (cb:Nat) (c:Adz.Cmd):Prop where
 a:w.cell? ⟨cb,9,none⟩=some (.bool c.all)
 p:w.cell? ⟨cb,10,none⟩=some (.bool c.print)
 n:w.cell? ⟨cb,11,none⟩=some (.int .i64 c.nth)
 fa:w.frozen? ⟨cb,9,none⟩=false
 fp:w.frozen? ⟨cb,10,none⟩=false
 fn:w.frozen? ⟨cb,11,none⟩=false
 typ:aq w cb 167
theorem FlagCells.keeps {S:Nat→Prop}{w w':World}{cb:Nat}{c:Adz.Cmd} (h:FlagCells w cb c) (o:ae S w w') (hs:¬S cb):FlagCells w' cb c:=
 ⟨o.keeps h.a hs,o.keeps h.p hs,o.keeps h.n hs,o.keepsFrozen h.a h.fa hs,o.keepsFrozen h.p h.fp hs,o.keepsFrozen h.n h.fn hs,h.typ.keeps o hs⟩
def gp (o:Nat):Prop:=o=9∨o=10∨o=11
theorem A0 (g:CG) (pp cb:Nat) (w:World) (i:Nat) (h:Cur g w i) (hp:Lead g pp w) (c:Adz.Cmd) (hf:FlagCells w cb c) (c':Adz.Cmd) (i':Nat) (hr:Adz.flags g.L g.pl (g.L.length+1) c i=.ok (c',i')):
 Calls Tryz.prog 176 #[.pointer (some ⟨pp,0,none⟩),.pointer (some ⟨cb,6,none⟩)] w fun e w'=>e=.returned (.pointer none)∧FlagCells w' cb c'∧Cur g w' i'∧ae (fun b=>b=g.c∨b=cb) w w'∧Keep cb gp w w':=by
 have HR:Hid (Adz.flags g.L g.pl (g.L.length+1) c i=.ok (c',i')):=hr;clear hr;have eN:=h.le;have bM:cb≠g.c:=hf.typ.ne h.tc (by decide);go_enter Tryz.func176,Tryz.ntmps176;go_wp2_with fail
 go_loopg [] (g.L.length - i) (fun k wr=>∃j d m,Hid (Cur g wr j)∧Hid (Lead g pp wr)∧Hid (FlagCells wr cb d)∧j+k=g.L.length∧Hid (g.L.length<m+j∧Adz.flags g.L g.pl m d j=.ok (c',i'))∧Hid (ae (fun b=>b=g.c∨b=cb) w wr∧Keep cb gp w wr))
 case atStart=>exact ⟨i,c,g.L.length+1,h,hp,hf,by omega,⟨by omega,HR.out⟩,ae.refl _ _,Keep.refl _ _ _⟩
 case round=>
  obtain⟨j,d,m,hc,hl,hd,hk,hI,hO⟩:=hrel;obtain⟨hm,hit⟩:=hI.out;have aU:Cur g wr j:=hc;have fi:Lead g pp wr:=hl;have iE:FlagCells wr cb d:=hd;obtain⟨bQ,fE⟩:=hO.out;have HK:Hid (j+gk=g.L.length):=hk;have q1:=fi.at0;have mi:=aU.le;have ca:=iE.a;have cp:=iE.p;have cn:=iE.n;have fa:=iE.fa;have fp:=iE.fp;have fn:=iE.fn;have gH:pp≠cb:=fi.typ.ne iE.typ (by decide);clear hk hc hl hI hO hd
  cases m with
  | zero=>omega
  | succ m=>
   unfold Adz.flags at hit;simp only at hit;by_cases c1:(Adz.peek g.L j==103 && !d.all)=true
   ·rw[if_pos c1] at hit
    simp only[Bool.and_eq_true,beq_iff_eq,Bool.not_eq_true'] at c1;obtain⟨e1,e2⟩:=c1;have aw:j<g.L.length:=Adz.lt_of_peek (by omega);have HT:Hid (Adz.flags g.L g.pl m {d with all:=true} (j+1)=.ok (c',i')):=hit;clear hit;rw[e2] at ca;go_wp2_with fail;refine(ah g wr j aU).mono ?_;rintro e w1 ⟨rfl,n1,rfl⟩;rw[e1];go_wp2_with fail;refine(ax g _ j (aU.drewN n1) aw).mono ?_;rintro e w2 ⟨rfl,aL,aK⟩;have o2:ae (·=g.c) wr w2:=((ae.refl (·=g.c) wr).drewN n1).trans aK (fun _ e=>e) (fun _ _ e=>e);have d2:=iE.keeps o2 bM;have TD:=d2.a;have TN:=d2.fa;go_wp2;go_roundg (g.L.length - (j+1))
    case measure=>have:=HK.out;omega
    case rel=>
     have o3:ae (·=cb) w2 (w2.setCell ⟨cb,9,none⟩ (.bool true)):=ae.setCell (S:=(·=cb)) (p:=⟨cb,9,none⟩) (ae.refl _ w2) (fun _=>rfl) _;have k3:=Keep.setCell (cb:=cb) (P:=gp) w2 9 (.bool true) (Or.inl rfl);have f3:=Field.setCell w2 cb 9 (.bool true);refine⟨j+1,{d with all:=true},m,aL.keeps o3 (Ne.symm bM) (fun hn=>(aL.tr hn).ne d2.typ (by decide)) (aL.tp.ne d2.typ (by decide)),(fi.moved o2).keeps o3 gH,?_,by omega,⟨by omega,HT.out⟩,?_,?_⟩
     ·exact⟨World.cell?_setCell_same _ _ _ d2.a,(f3.others 10 (by decide)).trans d2.p,(f3.others 11 (by decide)).trans d2.n,(f3.frozen 9).trans d2.fa,(f3.frozen 10).trans d2.fp,(f3.frozen 11).trans d2.fn,f3.typ _ d2.typ⟩
     ·exact(bQ.trans o2 (fun _ e=>e) (fun _ _ e=>Or.inl e):ae (fun b=>b=g.c∨b=cb) w w2).trans o3 (fun _ e=>e) (fun _ _ e=>Or.inr e)
     ·exact(fE.trans (Keep.of_only o2 bM iE.typ.lt)).trans k3
   ·rw[if_neg c1] at hit
    by_cases e1:Adz.peek g.L j=103
    ·have ea:d.all=true:=by simpa[e1] using c1
     simp[e1,Adz.isDigit] at hit;obtain⟨rfl,rfl⟩:=hit;have HD:Hid (Adz.isDigit 103=false):=show Adz.isDigit 103=false by decide
     rw[ea] at ca;clear c1;go_wp2_with fail;refine(ah g wr j aU).mono ?_;rintro e w1 ⟨rfl,n1,rfl⟩;rw[e1];go_wp2_with fail;refine(aE _ _).mono ?_;rintro e w1 ⟨rfl,rfl⟩;rw[HD.out];go_wp2;go_ret;exact⟨rfl,iE.keeps ((ae.refl (·=g.c) wr).drewN _) bM,aU.drewN _,bQ.drewN _,fE.trans (Keep.of_only ((ae.refl (·=g.c) wr).drewN _) bM iE.typ.lt)⟩
    ·have b1:(Adz.peek g.L j==103)=false:=by simpa using e1
     by_cases e2:Adz.peek g.L j=112
     ·by_cases ep:d.print=true
      ·simp[e2,ep,Adz.isDigit] at hit
       obtain⟨rfl,rfl⟩:=hit;have HD:Hid (Adz.isDigit 112=false):=show Adz.isDigit 112=false by decide
       rw[ep] at cp;clear c1 b1;go_wp2_with fail;refine(ah g wr j aU).mono ?_;rintro e w1 ⟨rfl,n1,rfl⟩;rw[e2];go_wp2_with fail;refine(aE _ _).mono ?_;rintro e w1 ⟨rfl,rfl⟩;rw[HD.out];go_wp2;go_ret;exact⟨rfl,iE.keeps ((ae.refl (·=g.c) wr).drewN _) bM,aU.drewN _,bQ.drewN _,fE.trans (Keep.of_only ((ae.refl (·=g.c) wr).drewN _) bM iE.typ.lt)⟩
      ·have JY:d.print=false:=by simpa using ep
       simp only[e2,JY,beq_self_eq_true,Bool.not_false,Bool.and_self,if_true] at hit;have aw:j<g.L.length:=Adz.lt_of_peek (by omega);have HT:Hid (Adz.flags g.L g.pl m {d with print:=true} (j+1)=.ok (c',i')):=hit;rw[JY] at cp;clear hit c1 b1 ep;go_wp2_with fail;refine(ah g wr j aU).mono ?_;rintro e w1 ⟨rfl,n1,rfl⟩;rw[e2];go_wp2_with fail;refine(ax g _ j (aU.drewN n1) aw).mono ?_;rintro e w2 ⟨rfl,aL,aK⟩;have o2:ae (·=g.c) wr w2:=((ae.refl (·=g.c) wr).drewN n1).trans aK (fun _ e=>e) (fun _ _ e=>e);have d2:=iE.keeps o2 bM;have NA:=d2.p;have TT:=d2.fp;go_wp2;go_roundg (g.L.length - (j+1))
       case measure=>have:=HK.out;omega
       case rel=>
        have o3:ae (·=cb) w2 (w2.setCell ⟨cb,10,none⟩ (.bool true)):=ae.setCell (S:=(·=cb)) (p:=⟨cb,10,none⟩) (ae.refl _ w2) (fun _=>rfl) _;have k3:=Keep.setCell (cb:=cb) (P:=gp) w2 10 (.bool true) (Or.inr (Or.inl rfl));have f3:=Field.setCell w2 cb 10 (.bool true);refine⟨j+1,{d with print:=true},m,aL.keeps o3 (Ne.symm bM) (fun hn=>(aL.tr hn).ne d2.typ (by decide)) (aL.tp.ne d2.typ (by decide)),(fi.moved o2).keeps o3 gH,?_,by omega,⟨by omega,HT.out⟩,?_,?_⟩
        ·exact⟨(f3.others 9 (by decide)).trans d2.a,World.cell?_setCell_same _ _ _ d2.p,(f3.others 11 (by decide)).trans d2.n,(f3.frozen 9).trans d2.fa,(f3.frozen 10).trans d2.fp,(f3.frozen 11).trans d2.fn,f3.typ _ d2.typ⟩
        ·exact(bQ.trans o2 (fun _ e=>e) (fun _ _ e=>Or.inl e):ae (fun b=>b=g.c∨b=cb) w w2).trans o3 (fun _ e=>e) (fun _ _ e=>Or.inr e)
        ·exact(fE.trans (Keep.of_only o2 bM iE.typ.lt)).trans k3
     ·have b2:(Adz.peek g.L j==112)=false:=by simpa using e2
      by_cases e3:Adz.isDigit (Adz.peek g.L j)=true
      ·have HD:Hid (Adz.isDigit (Adz.peek g.L j)=true):=e3
       by_cases en:d.nth=0
       ·simp only[b2,e3,en,beq_self_eq_true,Bool.and_self,if_true,Bool.false_and,Bool.false_eq_true,if_false] at hit
        cases lF:Adz.number g.L g.pl j with
        | error f=>rw [lF] at hit;cases hit
        | ok q=>
         obtain⟨k,j1⟩:=q;rw[lF] at hit;simp only at hit;have aw:=Adz.number_lt lF e3;have HN:Hid (Adz.number g.L g.pl j=.ok (k,j1)):=lF;have HT:Hid (Adz.flags g.L g.pl m {d with nth:=k} j1=.ok (c',i')):=hit;rw[en] at cn;clear hit c1 lF e3;go_wp2_with fail;refine(ah g wr j aU).mono ?_;rintro e w1 ⟨rfl,n1,rfl⟩;go_wp2_with fail;refine(aE _ _).mono ?_;rintro e w1 ⟨rfl,rfl⟩;rw[HD.out];go_wp2_with fail;refine(lN g pp _ j (aU.drewN n1) (fi.drewN n1) k j1 HN.out).mono ?_;rintro e w2 ⟨rfl,aL,aK⟩;have o2:ae (·=g.c) wr w2:=((ae.refl (·=g.c) wr).drewN n1).trans aK (fun _ e=>e) (fun _ _ e=>e);have d2:=iE.keeps o2 bM;have TE:=d2.n;have TS:=d2.fn;have CU:=aL.le;go_wp2;go_roundg (g.L.length - j1)
         case measure=>have:=HK.out;omega
         case rel=>
          have o3:ae (·=cb) w2 (w2.setCell ⟨cb,11,none⟩ (.int .i64 k)):=ae.setCell (S:=(·=cb)) (p:=⟨cb,11,none⟩) (ae.refl _ w2) (fun _=>rfl) _;have k3:=Keep.setCell (cb:=cb) (P:=gp) w2 11 (.int .i64 k) (Or.inr (Or.inr rfl));have f3:=Field.setCell w2 cb 11 (.int .i64 k);refine⟨j1,{d with nth:=k},m,aL.keeps o3 (Ne.symm bM) (fun hn=>(aL.tr hn).ne d2.typ (by decide)) (aL.tp.ne d2.typ (by decide)),(fi.moved o2).keeps o3 gH,?_,by omega,⟨by omega,HT.out⟩,?_,?_⟩
          ·exact⟨(f3.others 9 (by decide)).trans d2.a,(f3.others 10 (by decide)).trans d2.p,World.cell?_setCell_same _ _ _ d2.n,(f3.frozen 9).trans d2.fa,(f3.frozen 10).trans d2.fp,(f3.frozen 11).trans d2.fn,f3.typ _ d2.typ⟩
          ·exact(bQ.trans o2 (fun _ e=>e) (fun _ _ e=>Or.inl e):ae (fun b=>b=g.c∨b=cb) w w2).trans o3 (fun _ e=>e) (fun _ _ e=>Or.inr e)
          ·exact(fE.trans (Keep.of_only o2 bM iE.typ.lt)).trans k3
       ·have bn:(d.nth==0)=false:=by simpa using en
        simp only[b2,bn,Bool.and_false,Bool.false_and,Bool.false_eq_true,if_false,Except.ok.injEq,Prod.mk.injEq] at hit;obtain⟨rfl,rfl⟩:=hit;clear c1 e3;go_wp2_with fail;refine(ah g wr j aU).mono ?_;rintro e w1 ⟨rfl,n1,rfl⟩;go_wp2_with fail;refine(aE _ _).mono ?_;rintro e w1 ⟨rfl,rfl⟩;rw[HD.out];go_wp2;go_ret;exact⟨rfl,iE.keeps ((ae.refl (·=g.c) wr).drewN _) bM,aU.drewN _,bQ.drewN _,fE.trans (Keep.of_only ((ae.refl (·=g.c) wr).drewN _) bM iE.typ.lt)⟩
      ·have IK:Adz.isDigit (Adz.peek g.L j)=false:=by simpa using e3
       have HD:Hid (Adz.isDigit (Adz.peek g.L j)=false):=IK;simp only[b2,IK,Bool.false_and,Bool.false_eq_true,if_false,Except.ok.injEq,Prod.mk.injEq] at hit;obtain⟨rfl,rfl⟩:=hit;clear c1 e3 IK;go_wp2_with fail;refine(ah g wr j aU).mono ?_;rintro e w1 ⟨rfl,n1,rfl⟩;go_wp2_with fail;refine(aE _ _).mono ?_;rintro e w1 ⟨rfl,rfl⟩;rw[HD.out];go_wp2;go_ret;exact⟨rfl,iE.keeps ((ae.refl (·=g.c) wr).drewN _) bM,aU.drewN _,bQ.drewN _,fE.trans (Keep.of_only ((ae.refl (·=g.c) wr).drewN _) bM iE.typ.lt)⟩
def cX (w:World) (v:Value) (l:List Int):Prop:=w.ownsRow 0 21 1 v l.length (l.map (Value.int .i32))
theorem cX.keeps {S:Nat→Prop}{w w':World}{v:Value}{l:List Int} (h:cX w v l) (o:ae S w w') (hs:∀b,aq w b 21→¬S b):cX w' v l:=
 ag h o (fun b hb=>hs b (aq.of_row h hb))
def nI (a:Adz.Ad) (iv:Value):List Value:= [.int .i64 a.kind,.int .i64 a.number,iv,.int .i64 a.pat.groups]
def cA:List Adz.Ad→List Value→List Value
 | x::xs,v::vs=>nI x v++cA xs vs
 | _,_=> []
def cF (w:World):List Adz.Ad→List Value→Prop
 | [],[]=>True
 | x::xs,v::vs=>bN w v x.pat.items∧cF w xs vs
 | _,_=>False
theorem cF.keeps {S:Nat→Prop}{w w':World} (o:ae S w w') (h1:∀b,aq w b 270→¬S b) (h2:∀b,aq w b 284→¬S b):∀ {xs:List Adz.Ad}{vs:List Value},cF w xs vs→cF w' xs vs
 | [],[],_=>trivial
 | x::xs,v::vs,h=>⟨h.1.keeps o h1 h2,cF.keeps o h1 h2 h.2⟩
 | [],_::_,h=>h.elim
 | _::_,[],h=>h.elim
def nD (w:World) (av:Value) (l:List Adz.Ad):Prop:=∃jw,w.ownsRow 0 186 4 av l.length (cA l jw)∧cF w l jw
structure Spares (w:World) (S:Nat→Prop):Prop where
 addr:∀b,aq w b 186→¬S b
 item:∀b,aq w b 270→¬S b
 span:∀b,aq w b 284→¬S b
 part:∀b,aq w b 240→¬S b
 rune:∀b,aq w b 21→¬S b
theorem nD.keeps {S:Nat→Prop}{w w':World}{av:Value}{l:List Adz.Ad} (h:nD w av l) (o:ae S w w') (s:Spares w S):nD w' av l:=by
 obtain⟨jw,h1,h2⟩:=h;exact⟨jw,ag h1 o (fun b hb=>s.addr b (aq.of_row h1 hb)),h2.keeps o s.item s.span⟩
def aA (c:Adz.Cmd) (av iv rv fv tv:Value):List Value:=
 [.int .i32 c.what,av,.bool c.neg,.string ⟨c.text.toArray⟩,.string ⟨c.name.toArray⟩,.int .i64 c.goal,iv,.int .i64 c.pat.groups,rv,.bool c.all,.bool c.print,.int .i64 c.nth,fv,tv]
structure Deep (w:World) (c:Adz.Cmd) (av iv rv fv tv:Value):Prop where
 a:nD w av c.addrs
 i:bN w iv c.pat.items
 r:dH w rv c.repl
 f:cX w fv c.old
 t:cX w tv c.new
theorem Deep.keeps {S:Nat→Prop}{w w':World}{c:Adz.Cmd}{av iv rv fv tv:Value} (h:Deep w c av iv rv fv tv) (o:ae S w w') (s:Spares w S):Deep w' c av iv rv fv tv:=
 ⟨h.a.keeps o s,h.i.keeps o s.item s.span,h.r.keeps o s.part,h.f.keeps o s.rune,h.t.keeps o s.rune⟩
structure CmdAt (w:World) (cb:Nat) (c:Adz.Cmd):Prop where
 typ:aq w cb 167
 deep:∃av iv rv fv tv,ai w cb (aA c av iv rv fv tv)∧Deep w c av iv rv fv tv
theorem aS {w:World}{b:Nat}{T:TypeId} (t:aq w b T) (h:T≠186∧T≠270∧T≠284∧T≠240∧T≠21):Spares w (·=b):=
 ⟨fun c hc e=>h.1 (t.one (e ▸ hc)),fun c hc e=>h.2.1 (t.one (e ▸ hc)),fun c hc e=>h.2.2.1 (t.one (e ▸ hc)),fun c hc e=>h.2.2.2.1 (t.one (e ▸ hc)),fun c hc e=>h.2.2.2.2 (t.one (e ▸ hc))⟩
theorem Spares.or {w:World}{S T:Nat→Prop} (h:Spares w S) (k:Spares w T):Spares w (fun b=>S b∨T b):=
 ⟨fun c hc=>not_or.2 ⟨h.addr c hc,k.addr c hc⟩,fun c hc=>not_or.2 ⟨h.item c hc,k.item c hc⟩,fun c hc=>not_or.2 ⟨h.span c hc,k.span c hc⟩,fun c hc=>not_or.2 ⟨h.part c hc,k.part c hc⟩,fun c hc=>not_or.2 ⟨h.rune c hc,k.rune c hc⟩⟩
theorem Cur.spares {g:CG}{w:World}{i:Nat} (h:Cur g w i):Spares w (·=g.c):=aS h.tc (by decide)
theorem CmdAt.keeps {S:Nat→Prop}{w w':World}{cb:Nat}{c:Adz.Cmd} (h:CmdAt w cb c) (o:ae S w w') (s:Spares w S) (hs:¬S cb):CmdAt w' cb c:=by
 obtain⟨av,iv,rv,fv,tv,h1,h2⟩:=h.deep;exact⟨h.typ.keeps o hs,av,iv,rv,fv,tv,h1.keeps o hs,h2.keeps o s⟩
theorem aW {b:Nat}{u v w:World} (h:ae (·=b) u v) (k:ae (·=b) v w):ae (·=b) u w:=h.trans k (fun _ e=>e) (fun _ _ e=>e)
theorem Cur.aside {g:CG}{w w':World}{i cb:Nat} (h:Cur g w i) (o:ae (·=cb) w w') (t:aq w cb 167):Cur g w' i:=
 h.keeps o (h.tc.ne t (by decide)) (fun hn=>(h.tr hn).ne t (by decide)) (h.tp.ne t (by decide))
theorem aq.set {w:World}{b:Nat}{T:TypeId} (h:aq w b T) {p:Addr}{v:Value}:aq (w.setCell p v) b T:=h.setCell p v
theorem nA (g:CG) (pp cb:Nat) (w:World) (i:Nat) (h:Cur g w i) (hp:Lead g pp w) (c:Adz.Cmd) (hc:CmdAt w cb c) (c':Adz.Cmd) (i':Nat) (hr:Adz.substitution g.L g.pl c i=.ok (c',i')):
 Calls Tryz.prog 150 #[.pointer (some ⟨pp,0,none⟩),.pointer (some ⟨cb,0,none⟩)] w fun e w'=>e=.returned (.pointer none)∧CmdAt w' cb c'∧Cur g w' i'∧ae (fun b=>b=g.c∨b=cb) w w':=by
 unfold Adz.substitution at hr;by_cases bK:Adz.peek g.L i=47
 ·have fs:(Adz.peek g.L i !=47)=false:=by simp[bK]
  rw[fs] at hr;simp only[Bool.false_eq_true,if_false] at hr
  cases tE:Adz.patRead g.L g.pl (i+1) with
  | error f=>rw [tE] at hr;cases hr
  | ok q=>
   obtain⟨p,i1⟩:=q;rw[tE] at hr;simp only at hr
   cases ye:Adz.replacement g.L g.pl p.groups (g.L.length+1) [] i1 with
   | error f=>rw [ye] at hr;cases hr
   | ok q=>
    obtain⟨r,i2⟩:=q;rw[ye] at hr;simp only at hr;have HP:Hid (Adz.patRead g.L g.pl (i+1)=.ok (p,i1)):=tE;have JJ:Hid (Adz.replacement g.L g.pl p.groups (g.L.length+1) [] i1=.ok (r,i2)):=ye;have HF:Hid (Adz.flags g.L g.pl (g.L.length+1) {c with pat:=p,repl:=r} i2=.ok (c',i')):=hr;have q0:=hp.at0;have bM:cb≠g.c:=hc.typ.ne h.tc (by decide);have gH:pp≠cb:=hp.typ.ne hc.typ (by decide);clear tE ye hr fs;go_enter Tryz.func150,Tryz.ntmps150;go_wp2_with fail;refine(aC g w i 47 h bK (by omega)).mono ?_;rintro e w1 ⟨rfl,cC,bq⟩;have l1:=hp.moved bq;have q1:=l1.at0;have m1:=hc.keeps bq h.spares bM;go_wp2_with fail;refine(gX g w1 (i+1) cC p i1 HP.out).mono ?_;rintro e w2 ⟨iv,rfl,hit,aL,aK⟩;obtain⟨gI,uC,BE⟩:=hit;obtain⟨ia,ic,rfl⟩:=ak uC;have l2:=l1.moved aK;have q2:=l2.at0;have m2:=m1.keeps aK cC.spares bM;obtain⟨av,FX,om,fv,tv,k2,d2⟩:=m2.deep;have k6:=k2 6 _ rfl;have k7:=k2 7 _ rfl;go_wp2_with fail;have o3:ae (·=cb) w2 ((w2.setCell ⟨cb,6,none⟩ (.slice ia p.items.length ic)).setCell ⟨cb,7,none⟩ (.int .i64 p.groups)):=aW (af _ _ _ _) (af _ _ _ _);have rB:Spares w2 (·=cb):=aS m2.typ (by decide);have k3:ai ((w2.setCell ⟨cb,6,none⟩ (.slice ia p.items.length ic)).setCell ⟨cb,7,none⟩ (.int .i64 p.groups)) cb (aA {c with pat:=p} av (.slice ia p.items.length ic) om fv tv):=(k2.set 6 _).set 7 _;have t3:aq ((w2.setCell ⟨cb,6,none⟩ (.slice ia p.items.length ic)).setCell ⟨cb,7,none⟩ (.int .i64 p.groups)) cb 167:=m2.typ.set.set
    have dJ:=aL.aside o3 m2.typ;have l3:=l2.keeps o3 gH;have d3:=d2.keeps o3 rB;have i3:bN ((w2.setCell ⟨cb,6,none⟩ (.slice ia p.items.length ic)).setCell ⟨cb,7,none⟩ (.int .i64 p.groups)) (.slice ia p.items.length ic) p.items:=bN.keeps ⟨gI,uC,BE⟩ o3 rB.item rB.span;generalize (w2.setCell ⟨cb,6,none⟩ (.slice ia p.items.length ic)).setCell ⟨cb,7,none⟩ (.int .i64 p.groups)=w3 at*
    clear k6 k7 k2 d2;refine(je g pp w3 i1 dJ l3 p.groups r i2 JJ.out).mono ?_;rintro e w4 ⟨rv,rfl,sw,eu,dg⟩;obtain⟨ra,rc,rfl⟩:=ak sw;have l4:=l3.moved dg;have t4:=t3.keeps dg bM;have k4:=k3.keeps dg bM;have d4:=d3.keeps dg dJ.spares;have i4:=i3.keeps dg dJ.spares.item dJ.spares.span;have k8:=k4 8 _ rfl;go_wp2_with fail;have o5:ae (·=cb) w4 (w4.setCell ⟨cb,8,none⟩ (.slice ra r.length rc)):=af _ _ _ _;have vx:Spares w4 (·=cb):=aS t4 (by decide);have k5:ai (w4.setCell ⟨cb,8,none⟩ (.slice ra r.length rc)) cb (aA {c with pat:=p,repl:=r} av (.slice ia p.items.length ic) (.slice ra r.length rc) fv tv):=k4.set 8 _;have t5:aq (w4.setCell ⟨cb,8,none⟩ (.slice ra r.length rc)) cb 167:=t4.set;have jO:=eu.aside o5 t4;have l5:=l4.keeps o5 gH;have d5:=d4.keeps o5 vx;have i5:=i4.keeps o5 vx.item vx.span;have r5:dH (w4.setCell ⟨cb,8,none⟩ (.slice ra r.length rc)) (.slice ra r.length rc) r:=dH.keeps sw o5 vx.part;generalize w4.setCell ⟨cb,8,none⟩ (.slice ra r.length rc)=w5 at*
    have f5:FlagCells w5 cb {c with pat:=p,repl:=r}:=⟨(k5 9 _ rfl).1,(k5 10 _ rfl).1,(k5 11 _ rfl).1,(k5 9 _ rfl).2,(k5 10 _ rfl).2,(k5 11 _ rfl).2,t5⟩;refine(A0 g pp cb w5 i2 jO l5 _ f5 c' i' HF.out).mono ?_;rintro e w6 ⟨rfl,f6,p8,o6,LA⟩;go_wp2;go_ret;have kF:=Adz.flags_same HF.out;have MO:Spares w5 (fun b=>b=g.c∨b=cb):=jO.spares.or (aS t5 (by decide));have d6:=d5.keeps o6 MO;refine⟨rfl,⟨f6.typ,av,.slice ia p.items.length ic,.slice ra r.length rc,fv,tv,?_,?_⟩,p8,?_⟩
    ·have fw:aA c' av (.slice ia p.items.length ic) (.slice ra r.length rc) fv tv=(((aA {c with pat:=p,repl:=r} av (.slice ia p.items.length ic) (.slice ra r.length rc) fv tv).set 9 (.bool c'.all)).set 10 (.bool c'.print)).set 11 (.int .i64 c'.nth):=by
      rw[kF]
      rfl
     intro j v hv;rw[fw] at hv;by_cases Hy:j=11
     ·subst Hy
      rw[List.getElem?_set_self (by simp[aA])] at hv
      cases hv
      exact⟨f6.n,f6.fn⟩
     ·rw[List.getElem?_set_ne (Ne.symm Hy)] at hv
      by_cases Hx:j=10
      ·subst Hx
       rw[List.getElem?_set_self (by simp[aA])] at hv
       cases hv
       exact⟨f6.p,f6.fp⟩
      ·rw[List.getElem?_set_ne (Ne.symm Hx)] at hv
       by_cases j9:j=9
       ·subst j9
        rw[List.getElem?_set_self (by simp[aA])] at hv
        cases hv
        exact⟨f6.a,f6.fa⟩
       ·rw[List.getElem?_set_ne (Ne.symm j9)] at hv
        have nf:¬gp j:=by rintro(e | e | e);exact j9 e;exact Hx e;exact Hy e
        exact⟨(LA.cells j nf).trans (k5 j v hv).1,(LA.frozen j).trans (k5 j v hv).2⟩
    ·rw[kF]
     exact⟨d6.a,i5.keeps o6 MO.item MO.span,r5.keeps o6 MO.part,d6.f,d6.t⟩
    ·have oa:ae (·=g.c) w w2:=bq.trans aK (fun _ e=>e) (fun _ _ e=>e)
     have ob:ae (fun b=>b=g.c∨b=cb) w w3:=oa.trans o3 (fun _ e=>Or.inl e) (fun _ _ e=>Or.inr e);have oc:ae (fun b=>b=g.c∨b=cb) w w4:=ob.trans dg (fun _ e=>e) (fun _ _ e=>Or.inl e);have od:ae (fun b=>b=g.c∨b=cb) w w5:=oc.trans o5 (fun _ e=>e) (fun _ _ e=>Or.inr e);exact od.trans o6 (fun _ e=>e) (fun _ _ e=>e)
 ·simp[bK] at hr
end
end Go.Proofs.YtbiobhghnldckaaGreatDoor
