/- Proved: adzeref's behind: a jump, a label. Conditions: the Scan, its labels and jumps and the command lie in memory as 'SFl' and 'CmB' say. -/
import Derived.Test.YtbiobhghnldckaaGreatDoorS19
namespace Go.Proofs.YtbiobhghnldckaaGreatDoor
set_option linter.unusedVariables false
set_option maxRecDepth 100000
set_option maxHeartbeats 6400000
section
open Go.RowKit
attribute [local go_sem ↓] Go.wp_at_zero Go.wp_at_succ
theorem uO:(Tryz.prog.info? 88).map (fun i=>(i.zero,i.size,i.bytes))=some (some (.pointer none),1,8):=by kernel_rfl
theorem B4:(Tryz.prog.info? 35).map (fun i=>(i.zero,i.size,i.bytes))=some (some (.slice none 0 0),1,24):=by kernel_rfl
theorem ff.sg {g g':SG} (h:Sg g g') {v:Value}{nm:List Int} (k:ff g v nm):ff g' v nm:=by
 unfold ff at*
 rw[h.lb,h.L];exact k
theorem SFl.jump {g:SG}{w w4:World}{B cb:Nat}{r:Rf.RS} (h:SFl g w B cb r) {what:Int}{at_:Nat}{tx:Value}{a p:Bool}{n:Int}{nm:List Int} (hc:CmB w cb what at_ tx a p n) (uu:B≤cb) (fq:ff g tx nm) (bJ:at_≤g.L.length)
 {ja:Option Addr} {jc:Nat} {qj:List Nat} (ej:g.jv=.slice ja r.jumps.length jc) (q2:∀(i:Nat) (j:List Int×Nat),r.jumps[i]? =some j→∃AS what tx a p n,qj[i]? =some AS∧AS<cb∧CmB w AS what j.2 tx a p n∧ff g tx j.1∧j.2≤g.L.length) (hlen:qj.length=r.jumps.length)
 (oA:ae (fun b=>(Value.slice ja r.jumps.length jc).ownBlock=some b) w w4) {g2 aT:Nat} (cz:w4.ownsRow B 88 1 (.slice (some ⟨g2,0,none⟩) (r.jumps.length+1) aT) (r.jumps.length+1) ((qj.map fun b=> .pointer (some ⟨b,0,none⟩))++ [.pointer (some ⟨cb,0,none⟩)])):
 SFl {g with jv:=.slice (some ⟨g2,0,none⟩) (r.jumps.length+1) aT} (w4.setCell ⟨g.x,7,none⟩ (.slice (some ⟨g2,0,none⟩) (r.jumps.length+1) aT)) B (cb+1) {r with jumps:=r.jumps++ [(nm,at_)]}:=by
 have hx:=h.hx;have hb:∀b,(Value.slice ja r.jumps.length jc).ownBlock=some b→B≤b∧aq w b 88:=fun b e=>h.jvge b (by rw[ej];exact e);have oS:=af w4 g.x 7 (.slice (some ⟨g2,0,none⟩) (r.jumps.length+1) aT);have k:∀b T,aq w b T→T≠88→¬(Value.slice ja r.jumps.length jc).ownBlock=some b:=fun b T t hn e=>hn (t.one (hb b e).2);have h4:Scn g w4 r.s:=h.scn.keeps oA (k _ _ h.scn.typ (by decide)) (fun e1 e=>by have:=(hb _ e).1;have:=h.hl e1;omega) (fun e=>by have:=(hb _ e).1;have:=h.hp;omega);obtain⟨la,pc,c1,c2⟩:=h4.cells;refine⟨⟨h4.typ.set,⟨la,pc,c1.set 7 _,c2⟩,fun j hj=>oS.keeps (h4.runes j hj) (h4.nl (fun e=>by rw[e] at hj;simp at hj)),fun j hj=>oS.keeps (h4.places j hj) h4.np,h4.nl,h4.np,h4.le,h4.small,h4.good,h4.cap,h4.cap0⟩,?_,?_,h.hx,h.hl,h.hp,Nat.le_trans h.bs (Nat.le_trans oA.size oS.size)⟩
 ·obtain⟨MI,VA,vs,e,x1,x2⟩:=h.lab
  exact⟨MI,VA,vs,e,ag (ag x1 oA (fun b dt=>k _ _ (aq.of_row x1 dt) (by decide))) oS (fun b dt e=>by have:=(x1.lt b dt).1;omega),fun i PH hi=>by
   obtain⟨v,y1,y2⟩:=x2 i PH hi;exact⟨v,y1,y2.sg ⟨rfl,rfl,rfl,rfl,rfl,rfl⟩⟩⟩
 ·refine⟨some ⟨g2,0,none⟩,aT,qj++ [cb],by rw[List.length_append];rfl,?_,fun i j hj=> ?_⟩
  ·rw[List.length_append,List.map_append]
   exact ag cz oS (fun b dt e=>by have:=(cz.lt b dt).1;omega)
  ·have kc:∀c',aq w c' 87→∀ {what at_ tx a p n},CmB w c' what at_ tx a p n→CmB (w4.setCell ⟨g.x,7,none⟩ (.slice (some ⟨g2,0,none⟩) (r.jumps.length+1) aT)) c' what at_ tx a p n:=fun c' t what at_ tx a p n hh=>(hh.keeps oA (k _ _ t (by decide))).keeps oS (fun e=>by subst e;exact absurd (t.one h.scn.typ) (by decide))
   rw[List.getElem?_append] at hj;by_cases hi:i<r.jumps.length
   ·rw[if_pos hi] at hj
    obtain⟨AS,what',tx',a',p',n',y1,y2,y3,y4⟩:=q2 i j hj;exact⟨AS,what',tx',a',p',n',by rw[List.getElem?_append_left (by omega)];exact y1,by omega,kc _ y3.typ y3,y4.1.sg ⟨rfl,rfl,rfl,rfl,rfl,rfl⟩,y4.2⟩
   ·rw[if_neg hi] at hj
    have dZ:i - r.jumps.length=0:=by
     by_cases e:i - r.jumps.length=0
     ·exact e
     ·rw[List.getElem?_eq_none (by simp;omega)] at hj;cases hj
    rw[dZ] at hj;injection hj with hj;subst hj;exact⟨cb,what,tx,a,p,n,by rw[List.getElem?_append_right (by omega),hlen,dZ];rfl,Nat.lt_succ_self _,kc _ hc.typ hc,fq.sg ⟨rfl,rfl,rfl,rfl,rfl,rfl⟩,bJ⟩
theorem SFl.label {g:SG}{w w4:World}{B M:Nat}{r:Rf.RS} (h:SFl g w B M r) {tx:Value}{nm:List Int} (fq:ff g tx nm)
 {la:Option Addr} {lc:Nat} {vs:List Value} (el:g.lv=.slice la r.labs.length lc) (q2:∀(i:Nat) (nm:List Int),r.labs[i]? =some nm→∃v:Value,vs[i]? =some v∧ff g v nm) (hlen:vs.length=r.labs.length)
 (oA:ae (fun b=>(Value.slice la r.labs.length lc).ownBlock=some b) w w4) {g2 aT:Nat} (cz:w4.ownsRow B 35 1 (.slice (some ⟨g2,0,none⟩) (r.labs.length+1) aT) (r.labs.length+1) (vs++ [tx])):
 SFl {g with lv:=.slice (some ⟨g2,0,none⟩) (r.labs.length+1) aT} (w4.setCell ⟨g.x,6,none⟩ (.slice (some ⟨g2,0,none⟩) (r.labs.length+1) aT)) B M {r with labs:=r.labs++ [nm]}:=by
 have hx:=h.hx;have hb:∀b,(Value.slice la r.labs.length lc).ownBlock=some b→B≤b∧aq w b 35:=fun b e=>h.lvge b (by rw[el];exact e);have oS:=af w4 g.x 6 (.slice (some ⟨g2,0,none⟩) (r.labs.length+1) aT);have k:∀b T,aq w b T→T≠35→¬(Value.slice la r.labs.length lc).ownBlock=some b:=fun b T t hn e=>hn (t.one (hb b e).2);have h4:Scn g w4 r.s:=h.scn.keeps oA (k _ _ h.scn.typ (by decide)) (fun e1 e=>by have:=(hb _ e).1;have:=h.hl e1;omega) (fun e=>by have:=(hb _ e).1;have:=h.hp;omega);obtain⟨Vz,pc,c1,c2⟩:=h4.cells;refine⟨⟨h4.typ.set,⟨Vz,pc,c1.set 6 _,c2⟩,fun j hj=>oS.keeps (h4.runes j hj) (h4.nl (fun e=>by rw[e] at hj;simp at hj)),fun j hj=>oS.keeps (h4.places j hj) h4.np,h4.nl,h4.np,h4.le,h4.small,h4.good,h4.cap,h4.cap0⟩,?_,?_,h.hx,h.hl,h.hp,Nat.le_trans h.bs (Nat.le_trans oA.size oS.size)⟩
 ·refine⟨some ⟨g2,0,none⟩,aT,vs++ [tx],by rw[List.length_append];rfl,?_,fun i j hj=> ?_⟩
  ·rw[List.length_append]
   exact ag cz oS (fun b dt e=>by have:=(cz.lt b dt).1;omega)
  ·rw[List.getElem?_append] at hj
   by_cases hi:i<r.labs.length
   ·rw[if_pos hi] at hj
    obtain⟨v,y1,y2⟩:=q2 i j hj;exact⟨v,by rw[List.getElem?_append_left (by omega)];exact y1,y2.sg ⟨rfl,rfl,rfl,rfl,rfl,rfl⟩⟩
   ·rw[if_neg hi] at hj
    have dZ:i - r.labs.length=0:=by
     by_cases e:i - r.labs.length=0
     ·exact e
     ·rw[List.getElem?_eq_none (by simp;omega)] at hj;cases hj
    rw[dZ] at hj;injection hj with hj;subst hj;exact⟨tx,by rw[List.getElem?_append_right (by omega),hlen,dZ];rfl,fq.sg ⟨rfl,rfl,rfl,rfl,rfl,rfl⟩⟩
 ·obtain⟨ja,jc,qj,e,x1,x2⟩:=h.jmp
  refine⟨ja,jc,qj,e,ag (ag x1 oA (fun b dt=>k _ _ (aq.of_row x1 dt) (by decide))) oS (fun b dt e=>by have:=(x1.lt b dt).1;omega),fun i j hj=> ?_⟩;obtain⟨AS,what',tx',a',p',n',y1,y2,y3,y4⟩:=x2 i j hj;exact⟨AS,what',tx',a',p',n',y1,y2,(y3.keeps oA (k _ _ y3.typ (by decide))).keeps oS (fun e=>by subst e;exact absurd (y3.typ.one h.scn.typ) (by decide)),y4.1.sg ⟨rfl,rfl,rfl,rfl,rfl,rfl⟩,y4.2⟩
def An:Array Value:= #[.int .u8 0,.int .i64 0,.slice none 0 0,.int .i64 0,.int .u8 0,.int .i64 0,.slice none 0 0,.int .i64 0,.bool false,.int .i64 0,.int .i64 0,.slice none 0 0,.slice none 0 0,.int .i64 0,.slice none 0 0,.bool false,.bool false,.int .i64 0,.slice none 0 0,.slice none 0 0,.slice none 0 0,.int .i64 0]
theorem CmB.new (w:World):CmB (w.alloc (.cells An 87)) w.heap.size 0 0 (.slice none 0 0) false false 0:=
 ⟨aq.new _ _ _ _,⟨An.toList,rfl,ai.new w An _,rfl,rfl,rfl,rfl,rfl,rfl⟩⟩
structure Hs (g:SG) (w wr:World) (B cb:Nat) (r:Rf.RS) (s:SS) (ka:Int):Prop where
 sf:SFl g wr B cb {r with s:=s}
 cm:CmB wr cb 0 0 (.slice none 0 0) false false 0
 k0:wr.cell? ⟨cb,0,none⟩=some (.int .u8 ka)
 o:ae (·=g.x) w wr
 lt:w.heap.size≤cb
theorem Hs.moved {g:SG}{w wr w':World}{B cb:Nat}{r:Rf.RS}{s s':SS}{ka:Int} (h:Hs g w wr B cb r s ka) (hs:Scn g w' s') (o:ae (·=g.x) wr w'):Hs g w w' B cb r s' ka:=by
 have hx:cb≠g.x:=fun e=>absurd (h.cm.typ.one (by rw[e];exact h.sf.scn.typ)) (by decide);exact⟨h.sf.moved hs o,h.cm.keeps o hx,o.keeps h.k0 hx,aW h.o o,h.lt⟩
theorem Hs.stored {g:SG}{w wr:World}{B cb:Nat}{r:Rf.RS}{s:SS}{ka:Int} (h:Hs g w wr B cb r s ka) (hB:B≤cb) (j:Nat) (v:Value) (hj:j≠0∧j≠9∧j≠10∧j≠11∧j≠15∧j≠16∧j≠17):Hs g w (wr.setCell ⟨cb,j,none⟩ v) B cb r s ka:=by
 obtain⟨j0,j9,Hx,Hy,D7,Py,Pz⟩:=hj;have hx:cb≠g.x:=by have:=h.sf.hx;omega
 have hl:g.L≠ []→cb≠g.lb:=fun e=>by have:=h.sf.hl e;omega
 have hp:cb≠g.pb:=by have:=h.sf.hp;omega
 have hs:Scn g (wr.setCell ⟨cb,j,none⟩ v) s:=h.sf.scn.cmdSet hx hl hp (ae.refl _ _) j v;refine⟨h.sf.moved2 hs h.cm.typ ((af wr cb j v).mono (fun _ _ e=>Or.inr e)),h.cm.set j v (by rw[if_neg j9]) (by rw[if_neg Hx]) (by rw[if_neg Hy]) (by rw[if_neg D7]) (by rw[if_neg Py]) (by rw[if_neg Pz]),?_,h.o.trans (af _ _ _ _) (fun _ e=>e) (fun b hb e=>by have:=h.lt;omega),h.lt⟩;rw[World.cell?_setCell_other _ _ _ _ (by simp)];exact h.k0
theorem Hs.store0 {g:SG}{w wr:World}{B cb:Nat}{r:Rf.RS}{s:SS}{ka:Int} (h:Hs g w wr B cb r s ka) (hB:B≤cb) (k:Int):Hs g w (wr.setCell ⟨cb,0,none⟩ (.int .u8 k)) B cb r s k:=by
 have hx:cb≠g.x:=by have:=h.sf.hx;omega
 have hl:g.L≠ []→cb≠g.lb:=fun e=>by have:=h.sf.hl e;omega
 have hp:cb≠g.pb:=by have:=h.sf.hp;omega
 have hs:Scn g (wr.setCell ⟨cb,0,none⟩ (.int .u8 k)) s:=h.sf.scn.cmdSet hx hl hp (ae.refl _ _) 0 _;exact⟨h.sf.moved2 hs h.cm.typ ((af wr cb 0 _).mono (fun _ _ e=>Or.inr e)),h.cm.set 0 _ rfl rfl rfl rfl rfl rfl,World.cell?_setCell_same _ _ _ h.k0,h.o.trans (af _ _ _ _) (fun _ e=>e) (fun b hb e=>by have:=h.lt;omega),h.lt⟩
theorem Hs.new {g:SG}{w:World}{B:Nat}{r:Rf.RS} (h:SFl g w B w.heap.size r):Hs g w (w.alloc (.cells An 87)) B w.heap.size r r.s 0:=by
 have o:ae (fun _=>False) w (w.alloc (.cells An 87)):=(ae.refl _ w).alloc _;exact⟨h.keeps r.s (h.scn.keeps o id (fun _=>id) id) o (fun _ _=>id) (fun _ _=>id) (fun _ _ _=>id),CmB.new w,(ai.new w An _ 0 _ rfl).1,o.mono (fun _ _ e=>e.elim),Nat.le_refl _⟩
end
section
namespace Rf
theorem eI (pl:List Int) (s:SS) (x:Int) (a:Nat):(no pl s x a).count=s.count:=by unfold no;split <;> rfl
theorem Cg (pl:List Int) (s:SS) (x:Int) (a:Nat) (hx:x≠0):Mon s (no pl s x a):=fun e=>absurd e (cK _ _ _ _ hx)
theorem skip_c (L:List Int) (s:SS) (g:Bool):(skip L s g).count=s.count:=by unfold skip;split <;> rfl
theorem skip_mon (L:List Int) (s:SS) (g:Bool):Mon s (skip L s g):=by
 unfold skip;split
 ·rename_i h;exact fun e=>⟨h,Nat.le_add_right _ _⟩
 ·exact Mon.refl s
theorem fI (L pl:List Int) (s:SS):(next L pl s).2.count=s.count:=by
 unfold next;split
 ·exact eI _ _ _ _
 ·rfl
theorem tu (L:List Int) (s:SS) (c:Int):(take L s c).2.count=s.count:=by unfold take;split <;> rfl
theorem uZ (L pl:List Int) (s:SS):(number L pl s).2.count=s.count:=by
 unfold number;split
 ·simp only
  split
  ·exact eI _ _ _ _
  ·rfl
 ·rfl
theorem Ce (L pl:List Int) (s:SS):(name L pl s).count=s.count:=by
 unfold name;split
 ·exact eI _ _ _ _
 ·rfl
theorem uX (L pl:List Int) (s:SS):Mon s (name L pl s):=by
 unfold name;split
 ·exact fun e=>absurd e (cK _ _ _ _ (by decide))
 ·exact fun e=>⟨e,Nat.le_add_right _ _⟩
theorem lk (L pl may:List Int) (s:SS):(escaped L pl may s).2.count=s.count:=by
 unfold escaped;split
 ·exact fI _ _ _
 ·simp only
  split
  ·exact fI _ _ _
  ·rw[eI];exact fI _ _ _
theorem n7 (L pl but:List Int) (s:SS):(plain L pl but s).2.count=s.count:=by
 unfold plain;split
 ·rw[lk];exact fI _ _ _
 ·simp only
  split
  ·rw[eI];exact fI _ _ _
  ·exact fI _ _ _
theorem CA (L pl:List Int) (lo:Int×SS):(upto L pl lo).2.count=lo.2.count:=by
 unfold upto;split
 ·rw[n7];exact tu _ _ _
 ·exact tu _ _ _
theorem Cd (L pl:List Int) (s:SS):(member L pl s).count=s.count:=by
 unfold member;split
 ·rw[eI,CA];exact n7 _ _ _ _
 ·rw[CA];exact n7 _ _ _ _
theorem rl (L pl:List Int):∀(n:Nat) (b:Bool) (s:SS),(members L pl n b s).count=s.count
 | 0,b,s=>rfl
 | n+1,b,s=>by
  unfold members;split
  ·split
   ·rfl
   ·rw[rl L pl n true _];exact Cd _ _ _
  ·rfl
theorem vv (L pl:List Int) (s:SS):(single L pl s).count=s.count:=by
 unfold single;split
 ·rfl
 ·split
  ·rw[rl,tu]
  ·exact n7 _ _ _ _
theorem Ey (L pl:List Int) (s:SS):(piece L pl s).count=s.count:=by
 unfold piece many;split
 ·exact vv _ _ _
 ·exact vv _ _ _
theorem Ez (L pl:List Int) (first:Nat) (t:PS):(pstep L pl first t).s.count=t.s.count:=by
 unfold pstep;split
 ·rfl
 split
 ·simp only;split
  ·exact eI _ _ _ _
  ·rfl
 split
 ·split
  ·exact eI _ _ _ _
  ·rfl
 split
 ·simp only;split
  ·rfl
  ·exact eI _ _ _ _
 exact Ey _ _ _
theorem Iu (pl:List Int) (first:Nat) (t:PS):(pend pl first t).count=t.s.count:=by
 unfold pend;simp only
 have h1:(if 30<t.n then no pl {t.s with i:=t.s.i+1} 4 first else {t.s with i:=t.s.i+1}).count=t.s.count:=by
  split
  ·exact eI _ _ _ _
  ·rfl
 split
 ·rw[eI];exact h1
 ·exact h1
theorem Co (pl:List Int) (first:Nat) (t:PS):Mon t.s (pend pl first t):=by
 unfold pend;simp only
 have h1:Mon t.s (if 30<t.n then no pl {t.s with i:=t.s.i+1} 4 first else {t.s with i:=t.s.i+1}):=by
  split
  ·exact fun e=>absurd e (cK _ _ _ _ (by decide))
  ·exact fun e=>⟨e,Nat.le_succ _⟩
 split
 ·exact fun e=>absurd e (cK _ _ _ _ (by decide))
 ·exact h1
theorem pL (L pl:List Int) (first:Nat):∀(n:Nat) (t:PS),(pattern L pl first n t).s.count=t.s.count∧Mon t.s (pattern L pl first n t).s
 | 0,t=>⟨rfl,Mon.refl _⟩
 | n+1,t=>by
  unfold pattern;split
  ·rename_i h0
   split
   ·exact⟨Iu _ _ _,Co _ _ _⟩
   ·obtain⟨h1,h2⟩:=pL L pl first n (pstep L pl first t)
    exact⟨h1.trans (Ez _ _ _ _),(pstep_adv L pl first t h0).mon.trans h2⟩
  ·exact⟨rfl,Mon.refl _⟩
theorem Cn (L pl:List Int) (s:SS):(pat L pl s).s.count=s.count∧Mon s (pat L pl s).s:=pL L pl s.i _ ⟨s,0,0,0⟩
theorem EK (L pl:List Int) (g:Nat) (s:SS):(rstep L pl g s).count=s.count:=by
 have h1:(if (next L pl s).1=10 then no pl (next L pl s).2 3 s.i else (next L pl s).2).count=s.count:=by
  split
  ·rw[eI];exact fI _ _ _
  ·exact fI _ _ _
 unfold rstep;simp only;generalize (if (next L pl s).1=10 then no pl (next L pl s).2 3 s.i else (next L pl s).2)=s1 at*
 split
 ·exact h1
 split
 ·split
  ·rw[eI];exact h1
  ·exact h1
 split
 ·rw[lk];exact h1
 ·exact h1
theorem i7 (L pl:List Int) (g:Nat):∀(n:Nat) (s:SS),(replacement L pl g n s).count=s.count∧Mon s (replacement L pl g n s)
 | 0,s=>⟨rfl,Mon.refl _⟩
 | n+1,s=>by
  unfold replacement;split
  ·rename_i h0
   split
   ·exact⟨rfl,fun e=>⟨h0,Nat.le_succ _⟩⟩
   ·obtain⟨h1,h2⟩:=i7 L pl g n (rstep L pl g s)
    exact⟨h1.trans (EK _ _ _ _),(rstep_adv L pl g s).mon.trans h2⟩
  ·exact⟨rfl,Mon.refl _⟩
theorem EW (L pl:List Int) (s:SS):(ustep L pl s).2.count=s.count:=by
 have h1:(if (next L pl s).1=10 then no pl (next L pl s).2 3 s.i else (next L pl s).2).count=s.count:=by
  split
  ·rw[eI];exact fI _ _ _
  ·exact fI _ _ _
 unfold ustep;simp only;generalize (if (next L pl s).1=10 then no pl (next L pl s).2 3 s.i else (next L pl s).2)=s1 at*
 split
 ·rw[lk];exact h1
 ·exact h1
theorem pR (L pl:List Int):∀(n:Nat) (l:List Int) (s:SS),(runes L pl n l s).2.count=s.count∧Mon s (runes L pl n l s).2
 | 0,l,s=>⟨rfl,Mon.refl _⟩
 | n+1,l,s=>by
  unfold runes;split
  ·rename_i h0
   split
   ·exact⟨rfl,fun e=>⟨h0,Nat.le_succ _⟩⟩
   ·obtain⟨h1,h2⟩:=pR L pl n (l++ [(ustep L pl s).1]) (ustep L pl s).2
    exact⟨h1.trans (EW _ _ _),(ustep_adv L pl s).mon.trans h2⟩
  ·exact⟨rfl,Mon.refl _⟩
theorem oE (L pl:List Int) (s:SS):(address L pl s).2.count=s.count∧Mon s (address L pl s).2:=by
 unfold address;split
 ·rename_i h;exact⟨uZ _ _ _,(number_adv h).mon⟩
 split
 ·exact⟨rfl,fun e=>⟨e,Nat.le_succ _⟩⟩
 split
 ·obtain⟨h1,h2⟩:=Cn L pl {s with i:=s.i+1}
  have h3:Mon s {s with i:=s.i+1}:=fun e=>⟨e,Nat.le_succ _⟩;exact⟨h1,h3.trans h2⟩
 ·exact⟨rfl,Mon.refl _⟩
theorem yo (L pl:List Int) (s:SS) (c:Int):(must L pl s c).count=s.count∧Mon s (must L pl s c):=by
 unfold must;split
 ·exact⟨rfl,fun e=>⟨e,Nat.le_succ _⟩⟩
 ·exact⟨eI _ _ _ _,Cg _ _ _ _ (by decide)⟩
theorem yl (L:List Int) (s:SS):(line L s).count=s.count∧Mon s (line L s):=by
 unfold line;split
 ·exact⟨rfl,fun e=>⟨e,Nat.le_add_right _ _⟩⟩
 ·exact⟨rfl,Mon.refl _⟩
theorem ES (L pl:List Int) (s:SS):(text L pl s).count=s.count∧Mon s (text L pl s):=by
 unfold text;simp only
 have h1:(if 0≤now L s∧now L s≠32∧now L s≠9∧now L s≠10 then no pl s 3 s.i else s).count=s.count∧Mon s (if 0≤now L s∧now L s≠32∧now L s≠9∧now L s≠10 then no pl s 3 s.i else s):=by
  split
  ·exact⟨eI _ _ _ _,Cg _ _ _ _ (by decide)⟩
  ·exact⟨rfl,Mon.refl _⟩
 generalize (if 0≤now L s∧now L s≠32∧now L s≠9∧now L s≠10 then no pl s 3 s.i else s)=s1 at*
 split
 ·obtain⟨h2,h3⟩:=yl L {s1 with i:=s1.i+1}
  have h4:Mon s1 {s1 with i:=s1.i+1}:=fun e=>⟨e,Nat.le_succ _⟩;exact⟨h2.trans h1.1,(h1.2.trans h4).trans h3⟩
 ·obtain⟨h2,h3⟩:=yl L s1
  exact⟨h2.trans h1.1,h1.2.trans h3⟩
theorem ku (L pl:List Int):∀(n:Nat) (t:FgS),(flags L pl n t).s.count=t.s.count∧Mon t.s (flags L pl n t).s
 | 0,t=>⟨rfl,Mon.refl _⟩
 | n+1,t=>by
  have st:Mon t.s {t.s with i:=t.s.i+1}:=fun e=>⟨e,Nat.le_succ _⟩;unfold flags;split
  ·split
   ·obtain⟨h1,h2⟩:=ku L pl n {t with all:=true,s:= {t.s with i:=t.s.i+1}}
    exact⟨h1,st.trans h2⟩
   split
   ·obtain⟨h1,h2⟩:=ku L pl n {t with print:=true,s:= {t.s with i:=t.s.i+1}}
    exact⟨h1,st.trans h2⟩
   split
   ·rename_i hd
    obtain⟨h1,h2⟩:=ku L pl n {t with nth:=(number L pl t.s).1,s:=(number L pl t.s).2};exact⟨h1.trans (uZ _ _ _),(number_adv hd.1).mon.trans h2⟩
   ·exact⟨rfl,Mon.refl _⟩
  ·exact⟨rfl,Mon.refl _⟩
theorem xx (L pl:List Int) (s:SS):(tailEnd L pl s).count=s.count∧Mon s (tailEnd L pl s):=by
 unfold tailEnd;simp only;split
 ·exact⟨(eI _ _ _ _).trans (skip_c _ _ _),fun e=>absurd e (cK _ _ _ _ (by decide))⟩
 ·exact⟨skip_c _ _ _,skip_mon _ _ _⟩
theorem Cv (L pl:List Int) (s:SS):(subst L pl s).count=s.count∧Mon s (subst L pl s):=by
 unfold subst;simp only;obtain⟨a1,a2⟩:=yo L pl s 47;obtain⟨b1,b2⟩:=Cn L pl (must L pl s 47);obtain⟨c1,c2⟩:=i7 L pl (pat L pl (must L pl s 47)).groups (L.length+1) (pat L pl (must L pl s 47)).s;obtain⟨d1,d2⟩:=ku L pl (L.length+1) ⟨replacement L pl (pat L pl (must L pl s 47)).groups (L.length+1) (pat L pl (must L pl s 47)).s,false,false,0⟩;exact⟨d1.trans (c1.trans (b1.trans a1)),((a2.trans b2).trans c2).trans d2⟩
theorem Dp (L pl:List Int) (a:Nat) (s:SS):(exch L pl a s).count=s.count∧Mon s (exch L pl a s):=by
 unfold exch;simp only;obtain⟨a1,a2⟩:=yo L pl s 47;obtain⟨b1,b2⟩:=pR L pl (L.length+1) [] (must L pl s 47);obtain⟨c1,c2⟩:=pR L pl (L.length+1) [] (runes L pl (L.length+1) [] (must L pl s 47)).2;split
 ·exact⟨(eI _ _ _ _).trans (c1.trans (b1.trans a1)),fun e=>absurd e (cK _ _ _ _ (by decide))⟩
 ·exact⟨c1.trans (b1.trans a1),(a2.trans b2).trans c2⟩
def F9 (r r':RS):Prop:=r'.labs.length≤r.labs.length+1∧r'.jumps.length≤r.jumps.length+1
theorem qM (L pl:List Int) (what:Int) (a:Nat) (r:RS):(behind L pl what a r).s.count=r.s.count∧Mon r.s (behind L pl what a r).s∧F9 r (behind L pl what a r):=by
 unfold behind;split
 ·obtain⟨h1,h2⟩:=ES L pl r.s
  exact⟨h1,h2,Nat.le_succ _,Nat.le_succ _⟩
 simp only
 have hr:∀r1:RS,r1.s.count=r.s.count∧Mon r.s r1.s∧F9 r r1→({r1 with s:=tailEnd L pl r1.s}:RS).s.count=r.s.count∧Mon r.s ({r1 with s:=tailEnd L pl r1.s}:RS).s∧F9 r {r1 with s:=tailEnd L pl r1.s}:=by
  rintro r1 ⟨k1,k2,k3⟩;obtain⟨h1,h2⟩:=xx L pl r1.s;exact⟨h1.trans k1,k2.trans h2,k3⟩
 apply hr;split
 ·unfold setLab
  simp only;have e0:=Ce L pl r.s;have m0:=uX L pl r.s
  have h1:(if (letters L r.s).length=0 then no pl (name L pl r.s) 3 (name L pl r.s).i else name L pl r.s).count=r.s.count∧Mon r.s (if (letters L r.s).length=0 then no pl (name L pl r.s) 3 (name L pl r.s).i else name L pl r.s):=by
   split
   ·exact⟨(eI _ _ _ _).trans e0,fun e=>absurd e (cK _ _ _ _ (by decide))⟩
   ·exact⟨e0,m0⟩
  generalize (if (letters L r.s).length=0 then no pl (name L pl r.s) 3 (name L pl r.s).i else name L pl r.s)=s1 at*
  refine⟨?_,?_,?_,Nat.le_succ _⟩
  ·split
   ·rw[eI];exact h1.1
   ·exact h1.1
  ·split
   ·exact fun e=>absurd e (cK _ _ _ _ (by decide))
   ·exact h1.2
  ·show(r.labs++ [letters L r.s]).length≤_
   rw[List.length_append];exact Nat.le_refl _
 split
 ·unfold askLab
  simp only;refine⟨(Ce _ _ _).trans (skip_c _ _ _),(skip_mon _ _ _).trans (uX _ _ _),Nat.le_succ _,?_⟩;show(r.jumps++ [_]).length≤_;rw[List.length_append];exact Nat.le_refl _
 split
 ·obtain⟨h1,h2⟩:=Cv L pl r.s
  exact⟨h1,h2,Nat.le_succ _,Nat.le_succ _⟩
 split
 ·obtain⟨h1,h2⟩:=Dp L pl a r.s
  exact⟨h1,h2,Nat.le_succ _,Nat.le_succ _⟩
 ·exact⟨rfl,Mon.refl _,Nat.le_succ _,Nat.le_succ _⟩
theorem Aa (L pl:List Int) (s:SS):(second L pl s).count=s.count∧Mon s (second L pl s):=by
 unfold second;split
 ·simp only
  obtain⟨h1,h2⟩:=oE L pl (skip L {s with i:=s.i+1} false);have h3:Mon s {s with i:=s.i+1}:=fun e=>⟨e,Nat.le_succ _⟩;have h4:=(h3.trans (skip_mon L {s with i:=s.i+1} false)).trans h2;have h5:=h1.trans (skip_c L {s with i:=s.i+1} false);refine⟨(skip_c _ _ _).trans ?_,Mon.trans ?_ (skip_mon _ _ _)⟩
  ·split
   ·exact(eI _ _ _ _).trans h5
   ·exact h5
  ·split
   ·exact fun e=>absurd e (cK _ _ _ _ (by decide))
   ·exact h4
 ·exact⟨rfl,Mon.refl _⟩
theorem ux (L pl:List Int) (nest:Nat) (a:Int) (s:SS):(headRest L pl nest a s).s.count=s.count∧lg s (headRest L pl nest a s).s∧((headRest L pl nest a s).s.e=0→s.count<40∧((headRest L pl nest a s).what=123→nest<5)∧(headRest L pl nest a s).what∈whats):=by
 unfold headRest;simp only;have c3:(next L pl (skip L (take L s 33).2 false)).2.count=s.count:=((fI _ _ _).trans (skip_c _ _ _)).trans (tu _ _ _);have m3:lg s (next L pl (skip L (take L s 33).2 false)).2:=((take_mon L s 33).trans (skip_mon L (take L s 33).2 false)).adv (iW L pl _);generalize (next L pl (skip L (take L s 33).2 false)).1=c at*
 generalize (next L pl (skip L (take L s 33).2 false)).2=s4 at*
 generalize (skip L (take L s 33).2 false).i=i3 at*
 generalize (take L s 33).1=nb at*
 have h4:(if whats.contains c=false∨(c=58∧(a≠0∨nb=true)) then no pl s4 3 i3 else s4).count=s.count∧lg s (if whats.contains c=false∨(c=58∧(a≠0∨nb=true)) then no pl s4 3 i3 else s4)∧((if whats.contains c=false∨(c=58∧(a≠0∨nb=true)) then no pl s4 3 i3 else s4).e=0→c∈whats):=by
  split
  ·exact⟨(eI _ _ _ _).trans c3,fun e=>absurd e (cK _ _ _ _ (by decide)),fun e=>absurd e (cK _ _ _ _ (by decide))⟩
  ·rename_i hn
   refine⟨c3,m3,fun _=> ?_⟩
   cases hc:whats.contains c with
   | false=>exact absurd (Or.inl hc) hn
   | true=>simpa using hc
 generalize (if whats.contains c=false∨(c=58∧(a≠0∨nb=true)) then no pl s4 3 i3 else s4)=s5 at*
 have h5:(if 40≤s5.count then no pl s5 5 i3 else s5).count=s.count∧lg s (if 40≤s5.count then no pl s5 5 i3 else s5)∧((if 40≤s5.count then no pl s5 5 i3 else s5).e=0→c∈whats∧s.count<40):=by
  split
  ·exact⟨(eI _ _ _ _).trans h4.1,fun e=>absurd e (cK _ _ _ _ (by decide)),fun e=>absurd e (cK _ _ _ _ (by decide))⟩
  ·exact⟨h4.1,h4.2.1,fun e=>⟨h4.2.2 e,by have:=h4.1;omega⟩⟩
 generalize (if 40≤s5.count then no pl s5 5 i3 else s5)=s6 at*
 split
 ·exact⟨(eI _ _ _ _).trans h5.1,fun e=>absurd e (cK _ _ _ _ (by decide)),fun e=>absurd e (cK _ _ _ _ (by decide))⟩
 ·rename_i hn
  exact⟨h5.1,h5.2.1,fun e=>⟨(h5.2.2 e).2,fun e1=>by
   by_cases h:5≤nest
   ·exact absurd ⟨e1,h⟩ hn
   ·omega,(h5.2.2 e).1⟩⟩
theorem head_ca (L pl:List Int) (nest:Nat) (s:SS):(head L pl nest s).s.count=s.count∧lg s (head L pl nest s).s∧((head L pl nest s).s.e=0→s.count<40∧((head L pl nest s).what=123→nest<5)∧(head L pl nest s).what∈whats):=by
 rw[head_eq];obtain⟨a1,a2⟩:=oE L pl s
 have hs:(if (address L pl s).1=0 then skip L (address L pl s).2 false else second L pl (skip L (address L pl s).2 false)).count=s.count∧Mon s (if (address L pl s).1=0 then skip L (address L pl s).2 false else second L pl (skip L (address L pl s).2 false)):=by
  split
  ·exact⟨(skip_c _ _ _).trans a1,a2.trans (skip_mon _ _ _)⟩
  ·obtain⟨b1,b2⟩:=Aa L pl (skip L (address L pl s).2 false)
   exact⟨b1.trans ((skip_c _ _ _).trans a1),(a2.trans (skip_mon _ _ _)).trans b2⟩
 generalize (if (address L pl s).1=0 then skip L (address L pl s).2 false else second L pl (skip L (address L pl s).2 false))=s2 at*
 obtain⟨h1,h2,h3⟩:=ux L pl nest (address L pl s).1 s2;refine⟨h1.trans hs.1,hs.2.adv h2,fun e=> ?_⟩;rw[←hs.1];exact h3 e
def Cnt (r:RS):Prop:=0≤r.s.count∧r.s.count≤40∧(r.labs.length:Int)≤r.s.count∧(r.jumps.length:Int)≤r.s.count
def cmdT (L pl:List Int) (f nest:Nat) (r:RS):RS:=
 if (head L pl nest r.s).s.e=0 then (if (head L pl nest r.s).what=123 then commands L pl f (nest+1) {r with s:= {(head L pl nest r.s).s with count:=(head L pl nest r.s).s.count+1}} else behind L pl (head L pl nest r.s).what (head L pl nest r.s).at_ {r with s:= {(head L pl nest r.s).s with count:=(head L pl nest r.s).s.count+1}}) else {r with s:=(head L pl nest r.s).s}
theorem commands_succ (L pl:List Int) (f nest:Nat) (r:RS):commands L pl (f+1) nest r=
 if r.s.e=0 then (if now L (skip L r.s true)<0 then {r with s:=if 0<nest then no pl (skip L r.s true) 3 L.length else skip L r.s true}
  else if 0<nest∧now L (skip L r.s true)=125 then {r with s:= {skip L r.s true with i:=(skip L r.s true).i+1}}
  else commands L pl f nest (cmdT L pl f nest {r with s:=skip L r.s true})) else r:=rfl
theorem commands_cm (L pl:List Int):∀(f nest:Nat) (r:RS),Cnt r→Mon r.s (commands L pl f nest r).s∧Cnt (commands L pl f nest r)
 | 0,nest,r,hc=>⟨Mon.refl _,hc⟩
 | f+1,nest,r,hc=>by
  rw[commands_succ];by_cases h0:r.s.e=0
  ·rw[if_pos h0]
   have m1:=skip_mon L r.s true;have c1:=skip_c L r.s true;generalize skip L r.s true=s1 at*
   have cC:∀s':SS,s'.count=s1.count→Cnt {r with s:=s'}:=fun s' e=>by
    unfold Cnt at*
    simp only;rw[e,c1];exact hc
   split
   ·split
    ·exact⟨fun e=>absurd e (cK _ _ _ _ (by decide)),cC _ (eI _ _ _ _)⟩
    ·exact⟨m1,cC _ rfl⟩
   split
   ·exact⟨m1.trans (fun e=>⟨e,Nat.le_succ _⟩),cC _ rfl⟩
   obtain⟨a1,a2,a3⟩:=head_ca L pl nest s1
   have hT:Mon s1 (cmdT L pl f nest {r with s:=s1}).s∧Cnt (cmdT L pl f nest {r with s:=s1}):=by
    unfold cmdT;simp only;split
    ·rename_i he
     obtain⟨a4,a5,a6⟩:=a3 he
     have aL:Cnt {r with s:= {(head L pl nest s1).s with count:=(head L pl nest s1).s.count+1}}:=by
      unfold Cnt at*
      simp only;omega
     split
     ·obtain⟨k1,k2⟩:=commands_cm L pl f (nest+1) _ aL
      exact⟨a2.mon.trans k1,k2⟩
     ·obtain⟨k1,k2,k3,k4⟩:=qM L pl (head L pl nest s1).what (head L pl nest s1).at_ {r with s:= {(head L pl nest s1).s with count:=(head L pl nest s1).s.count+1}}
      refine⟨a2.mon.trans k2,?_⟩;unfold Cnt at*
      simp only at k1 k3 k4;omega
    ·exact⟨a2.mon,cC _ a1⟩
   obtain⟨k1,k2⟩:=commands_cm L pl f nest _ hT.2;exact⟨(m1.trans hT.1).trans k1,k2⟩
  ·rw[if_neg h0]
   exact⟨Mon.refl _,hc⟩
theorem hd_parts {pl:List Int}{c:Int}{i nest:Nat}{s:SS}{HD:Hd} (h:(⟨c,i,if c=123∧5≤nest then no pl (if 40≤s.count then no pl s 5 i else s) 6 i else (if 40≤s.count then no pl s 5 i else s)⟩:Hd)=HD):
 HD.what=c∧HD.at_=i∧HD.s.count=s.count∧(HD.s.e=0→s.count<40∧¬(c=123∧5≤nest)∧HD.s=s):=by
 subst h;refine⟨rfl,rfl,?_,?_⟩
 ·simp only
  split
  ·rw[eI]
   split
   ·exact eI _ _ _ _
   ·rfl
  ·split
   ·exact eI _ _ _ _
   ·rfl
 ·simp only
  intro he;by_cases h1:c=123∧5≤nest
  ·rw[if_pos h1] at he
   exact absurd he (cK _ _ _ _ (by decide))
  ·rw[if_neg h1] at he ⊢
   by_cases h2:40≤s.count
   ·rw[if_pos h2] at he
    exact absurd he (cK _ _ _ _ (by decide))
   ·rw[if_neg h2]
    exact⟨by omega,h1,rfl⟩
theorem cmdT_ca (L pl:List Int) (f nest:Nat) (r:RS) (hc:Cnt r):lg r.s (cmdT L pl f nest r).s∧Cnt (cmdT L pl f nest r):=by
 obtain⟨a1,a2,a3⟩:=head_ca L pl nest r.s;unfold cmdT;split
 ·rename_i he
  obtain⟨a4,a5,a6⟩:=a3 he
  have aL:Cnt {r with s:= {(head L pl nest r.s).s with count:=(head L pl nest r.s).s.count+1}}:=by
   unfold Cnt at*
   simp only;omega
  split
  ·obtain⟨k1,k2⟩:=commands_cm L pl f (nest+1) _ aL
   exact⟨a2.trans k1,k2⟩
  ·obtain⟨k1,k2,k3,k4⟩:=qM L pl (head L pl nest r.s).what (head L pl nest r.s).at_ {r with s:= {(head L pl nest r.s).s with count:=(head L pl nest r.s).s.count+1}}
   refine⟨a2.trans k2,?_⟩;unfold Cnt at*
   simp only at k1 k3 k4 ⊢;omega
 ·refine⟨a2,?_⟩
  unfold Cnt at*
  simp only;rw[a1];exact hc
end Rf
end
section
open Go.RowKit
def IC (g:SG) (w:World) (B:Nat) (R:Rf.RS) (e:Ending) (w':World):Prop:=
 ∃cb g',e=.returned (.pointer (some ⟨cb,0,none⟩))∧Sg g g'∧SFl g' w' B w'.heap.size R∧(∀b,Own g' b→Own g b∨w.heap.size≤b)∧ae (Own g) w w'
def MY (g:SG) (w:World) (B:Nat) (R:Rf.RS) (e:Ending) (w':World):Prop:=
 ∃la ln lc g',e=.returned (.slice la ln lc)∧Sg g g'∧SFl g' w' B w'.heap.size R∧(∀b,Own g' b→Own g b∨w.heap.size≤b)∧ae (Own g) w w'
def E0 (f nest:Nat):Prop:=∀(g:SG) (w:World) (B:Nat) (r:Rf.RS),SFl g w B w.heap.size r→Rf.Cnt r→g.L.length≤r.s.i+f→
 Calls Tryz.prog 58 #[.pointer (some ⟨g.x,0,none⟩),.int .i64 (nest:Int)] w (IC g w B (Rf.cmdT g.L g.pl f nest r))
def rG (f nest:Nat):Prop:=∀(g:SG) (w:World) (B:Nat) (r:Rf.RS),SFl g w B w.heap.size r→Rf.Cnt r→(r.s.e=0→g.L.length<r.s.i+f)→
 Calls Tryz.prog 34 #[.pointer (some ⟨g.x,0,none⟩),.int .i64 (nest:Int)] w (MY g w B (Rf.commands g.L g.pl f nest r))
theorem SFl.lvne {g:SG}{w:World}{B M:Nat}{r:Rf.RS} (h:SFl g w B M r) {b:Nat}{T:TypeId} (t:aq w b T) (h1:T≠79) (h2:T≠35) (h3:T≠88):¬Own g b:=by
 rintro(e | e | e)
 ·subst e;exact h1 (t.one h.scn.typ)
 ·exact h2 (t.one (h.lvge b e).2)
 ·exact h3 (t.one (h.jvge b e).2)
theorem SFl.cmdStored {g:SG}{w:World}{B M:Nat}{r:Rf.RS}{cb:Nat} (h:SFl g w B M r) (tc:aq w cb 87) (uu:B≤cb) (j:Nat) (v:Value) (hj:j≠9∧j≠10∧j≠11∧j≠15∧j≠16∧j≠17):SFl g (w.setCell ⟨cb,j,none⟩ v) B M r:=by
 obtain⟨j9,Hx,Hy,D7,Py,Pz⟩:=hj;have hx:cb≠g.x:=by have:=h.hx;omega
 have hl:g.L≠ []→cb≠g.lb:=fun e=>by have:=h.hl e;omega
 have hp:cb≠g.pb:=by have:=h.hp;omega
 have o:=af w cb j v;have eO:=h.lvne tc (by decide) (by decide) (by decide);have hs:=h.scn.cmdSet hx hl hp (ae.refl _ _) j v;obtain⟨ja,jc,qj,e,q1,q2⟩:=h.jmp;refine⟨hs,h.lab.keeps o (fun b hb e=>eO (Or.inr (Or.inl (by rw[hb,e])))),⟨ja,jc,qj,e,ag q1 o (fun b hb e'=>eO (Or.inr (Or.inr (by rw[e,hb,e'])))),fun i y hy=> ?_⟩,h.hx,h.hl,h.hp,Nat.le_trans h.bs o.size⟩;obtain⟨AS,what,tx,a,p,n,x1,x2,x3,x4⟩:=q2 i y hy;by_cases jq:AS=cb
 ·subst jq
  exact⟨AS,what,tx,a,p,n,x1,x2,x3.set j v (by rw[if_neg j9]) (by rw[if_neg Hx]) (by rw[if_neg Hy]) (by rw[if_neg D7]) (by rw[if_neg Py]) (by rw[if_neg Pz]),x4⟩
 ·exact⟨AS,what,tx,a,p,n,x1,x2,x3.keeps o jq,x4⟩
theorem SFl.counted {g:SG}{w:World}{B M:Nat}{r:Rf.RS} (h:SFl g w B M r):SFl g (w.setCell ⟨g.x,5,none⟩ (.int .i64 (r.s.count+1))) B M {r with s:= {r.s with count:=r.s.count+1}}:=
 h.moved (h.scn.upd {r.s with count:=r.s.count+1} (af _ _ _ _) h.scn.typ.set (fun v0 v1 k=>k.set 5 _) h.scn.le) (af _ _ _ _)
theorem Dl {g:SG}{w W:World}{B cb:Nat}{R:Rf.RS} (iR:w.heap.size=cb) (S:SFl g W B cb R) (tc:aq W cb 87) (O:ae (·=g.x) w W):IC g w B R (.returned (.pointer (some ⟨cb,0,none⟩))) W:=
 ⟨cb,g,rfl,Sg.refl g,S.more (Nat.le_of_lt tc.lt),fun b hb=>Or.inl hb,O.mono (fun b _ e=>Or.inl e)⟩
theorem wC {g:SG}{w W W':World}{B cb:Nat}{R:Rf.RS} (iR:w.heap.size=cb) (tc:aq W cb 87) (O:ae (fun b=>b=g.x∨b=cb) w W) (hb:rF g W B cb R W'):IC g w B R (.returned (.pointer (some ⟨cb,0,none⟩))) W':=by
 obtain⟨g',sg,sf,own,o⟩:=hb;have h1:=tc.lt;have h2:=o.size
 have O':ae (Own g) w W:=O.mono (fun b hb e=>by
  rcases e with e | e
  ·exact Or.inl e
  ·omega)
 refine⟨cb,g',rfl,sg,sf.more (by omega),fun b hb=>(own b hb).imp id (fun h=>by have:=O.size;omega),O'.trans o (fun _ e=>e) (fun b hb e=>by
  rcases e with e | e
  ·exact e
  ·omega)⟩
theorem yS {g:SG}{w W W':World}{B cb:Nat}{R r:Rf.RS} (iR:w.heap.size=cb) (uu:B≤cb) (S:SFl g W B cb r) (tc:aq W cb 87) (O:ae (fun b=>b=g.x∨b=cb) w W) {e:Ending} (hb:MY g W B R e W'):
 ∃la ln lc,e=.returned (.slice la ln lc)∧aq W' cb 87∧(∀j,j<22→∀v,W.cell? ⟨cb,j,none⟩=some v→W'.cell? ⟨cb,j,none⟩=some v)∧(∀j v,W.cell? ⟨cb,j,none⟩=some v→W.frozen? ⟨cb,j,none⟩=false→W'.frozen? ⟨cb,j,none⟩=false)∧IC g w B R (.returned (.pointer (some ⟨cb,0,none⟩))) (W'.setCell ⟨cb,20,none⟩ (.slice la ln lc)):=by
 obtain⟨la,ln,lc,g',rfl,sg,sf,own,o⟩:=hb;have eO:=S.lvne tc (by decide) (by decide) (by decide);have St:=tc.keeps o eO;have h1:=tc.lt
 have O':ae (Own g) w W:=O.mono (fun b hb e=>by
  rcases e with e | e
  ·exact Or.inl e
  ·omega)
 have os:=af W' cb 20 (.slice la ln lc);refine⟨la,ln,lc,rfl,St,fun j hj v hv=>o.keeps hv eO,fun j v hv hf=>o.keepsFrozen hv hf eO,cb,g',rfl,sg,(sf.cmdStored St uu 20 (.slice la ln lc) (by decide)).more os.size,fun b hb=>(own b hb).imp id (fun h=>by have:=O.size;omega),?_⟩;exact(O'.trans o (fun _ e=>e) (fun b hb e=>e):ae (Own g) w W').trans os (fun _ e=>e) (fun b hb e=>by omega)
structure CsI (g:SG) (w:World) (B:Nat) (g':SG) (wr:World) (r:Rf.RS) (lv:Value) (ln:Nat) (vs:List Value):Prop where
 sg:Sg g g'
 sf:SFl g' wr B wr.heap.size r
 row:wr.ownsRow w.heap.size 88 1 lv ln vs
 own:∀b,Own g' b→Own g b∨w.heap.size≤b
 ne:∀b,lv.ownBlock=some b→g'.jv.ownBlock≠some b
 o:ae (Own g) w wr
theorem CsI.clear {g:SG}{w:World}{B:Nat}{g':SG}{wr:World}{r:Rf.RS}{lv:Value}{ln:Nat}{vs:List Value} (h:CsI g w B g' wr r lv ln vs):∀b,lv.ownBlock=some b→¬Own g' b:=by
 intro b hb e;have t:=aq.of_row h.row hb
 rcases e with e | e | e
 ·subst e;exact absurd (t.one h.sf.scn.typ) (by decide)
 ·exact absurd (t.one (h.sf.lvge b e).2) (by decide)
 ·exact h.ne b hb e
theorem CsI.moved {g:SG}{w:World}{B:Nat}{g':SG}{wr w':World}{r:Rf.RS}{lv:Value}{ln:Nat}{vs:List Value} (h:CsI g w B g' wr r lv ln vs) {s':SS} (hs:Scn g' w' s') (o:ae (·=g'.x) wr w'):CsI g w B g' w' {r with s:=s'} lv ln vs:=
 ⟨h.sg,(h.sf.moved hs o).more o.size,ag h.row o (fun b hb e=>h.clear b hb (Or.inl e)),h.own,h.ne,h.o.trans o (fun _ e=>e) (fun b hb e=>Or.inl (by rw[e,h.sg.x]))⟩
theorem CsI.cmd {g:SG}{w:World}{B:Nat}{g':SG}{wr w':World}{r R:Rf.RS}{lv:Value}{ln:Nat}{vs:List Value} (h:CsI g w B g' wr r lv ln vs) {e:Ending} (hc:IC g' wr B R e w'):∃cb g2,e=.returned (.pointer (some ⟨cb,0,none⟩))∧CsI g w B g2 w' R lv ln vs:=by
 obtain⟨cb,g2,rfl,sg,sf,own,o⟩:=hc;have dr:=h.o.size;refine⟨cb,g2,rfl,h.sg.trans sg,sf,ag h.row o (fun b hb=>h.clear b hb),fun b hb=> ?_,fun b hb e=> ?_,h.o.trans o (fun _ e=>e) (fun b hb e=> ?_)⟩
 ·rcases own b hb with e | e
  ·exact h.own b e
  ·right;omega
 ·have aw:=(aq.of_row h.row hb).lt
  rcases own b (Or.inr (Or.inr e)) with e1 | e1
  ·exact h.clear b hb e1
  ·omega
 ·rcases h.own b e with e1 | e1
  ·exact e1
  ·omega
theorem CsI.app {g:SG}{w:World}{B:Nat}{g':SG}{wr w4:World}{r:Rf.RS}{lv:Value}{ln:Nat}{vs:List Value} (h:CsI g w B g' wr r lv ln vs) (hB:B≤w.heap.size) {g2 n2 aT m2:Nat}{Su:List Value} (oA:ae (fun b=>lv.ownBlock=some b) wr w4) (cz:w4.ownsRow w.heap.size 88 1 (.slice (some ⟨g2,0,none⟩) n2 aT) m2 Su) (bJ:lv.ownBlock=some g2∨wr.heap.size≤g2):CsI g w B g' w4 r (.slice (some ⟨g2,0,none⟩) n2 aT) m2 Su:=by
 have hb:∀b,lv.ownBlock=some b→w.heap.size≤b:=fun b e=>(h.row.lt b e).1;have hs:Scn g' w4 r.s:=h.sf.scn.keeps oA (fun e=>by have:=hb _ e;have:=h.sf.hx;omega) (fun e1 e=>by have:=hb _ e;have:=h.sf.hl e1;omega) (fun e=>by have:=hb _ e;have:=h.sf.hp;omega);refine⟨h.sg,(h.sf.keeps r.s hs oA (fun b e1 e2=>h.clear b e2 (Or.inr (Or.inl e1))) (fun b e1 e2=>h.clear b e2 (Or.inr (Or.inr e1))) (fun b _ t e2=>absurd (t.one (aq.of_row h.row e2)) (by decide))).more oA.size,cz,h.own,fun b e1 e2=> ?_,h.o.trans oA (fun _ e=>e) (fun b dt e=>by have:=hb _ e;omega)⟩;have e3:(some g2:Option Nat)=some b:=e1;injection e3 with e3;subst e3
 rcases bJ with e4 | e4
 ·exact h.ne _ e4 e2
 ·have:=(h.sf.jvge _ e2).2.lt
  omega
theorem CsI.csP {g:SG}{w:World}{B:Nat}{g':SG}{wr:World}{R:Rf.RS}{la:Option Addr}{ln lc n:Nat}{vs:List Value} (h:CsI g w B g' wr R (.slice la ln lc) n vs):MY g w B R (.returned (.slice la ln lc)) wr:=⟨la,ln,lc,g',rfl,h.sg,h.sf,h.own,h.o⟩
end
end Go.Proofs.YtbiobhghnldckaaGreatDoor
