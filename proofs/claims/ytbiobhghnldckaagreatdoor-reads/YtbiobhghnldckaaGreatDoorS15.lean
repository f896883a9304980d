/- Proved: what one s makes of the space. Conditions: the command and the editor lie in memory. -/
import Derived.Test.YtbiobhghnldckaaGreatDoorS14
namespace Go.Proofs.YtbiobhghnldckaaGreatDoor
set_option linter.unusedVariables false
set_option maxRecDepth 100000
set_option maxHeartbeats 6400000
section
open Go.RowKit
attribute [local go_sem] Oper.semAt_some
namespace Adz
theorem jR (l0:List Int) (mat:Nat→List Int):∀(k:Nat) (a e:Int),(eachGo l0 mat k a e).length≤k
 | 0,_,_=>by simp[eachGo]
 | k+1,a,e=>by
  unfold eachGo;split
  ·simp
  ·simp only[]
   split
   ·exact Nat.le_succ_of_le (jR l0 mat k _ _)
   ·have:=jR l0 mat k (firstFrom l0 ((mat a.toNat).getD 1 0).toNat) ((mat a.toNat).getD 1 0)
    simp only[List.length_cons];omega
theorem matches_len (sp:List Int) (xs:List Item):(matches_ sp xs).length≤2*sp.length+3:=jR _ _ _ _ _
def substGo (sp:List Int) (nth:Int) (all:Bool) (ps:List Part):List (List Int)→Int→Nat→List Int→Bool→Nat×List Int×Bool
 | [],_,k,ch,f=>(k,ch,f)
 | m::ms,n,k,ch,f=>
  if n+1<nth then substGo sp nth all ps ms (n+1) k ch f
  else if all then substGo sp nth all ps ms (n+1) (m.getD 1 0).toNat ((ch++seg sp k (m.getD 0 0))++replAll sp m ps) true
  else ((m.getD 1 0).toNat,(ch++seg sp k (m.getD 0 0))++replAll sp m ps,true)
def subst (sp:List Int) (c:Cmd):List Int:=
 let r:=substGo sp c.nth c.all c.repl (matches_ sp c.pat.items) 0 0 [] false
 if r.2.2 then r.2.1++sp.drop r.1 else sp
def okRun (sp:List Int) (nth:Int) (all:Bool) (ps:List Part):List (List Int)→Int→Nat→List Int→Prop
 | [],_,k,ch=>k≤sp.length∧ch.length≤20000000
 | m::ms,n,k,ch=>
  m.length=20∧inside k (m.getD 0 0) sp.length∧inside (m.getD 0 0) (m.getD 1 0) sp.length∧ch.length≤20000000∧k≤sp.length∧
  if n+1<nth then okRun sp nth all ps ms (n+1) k ch
  else (∀p∈ps,fits m sp.length p)∧(replAll sp m ps).length≤20000000∧((ch++seg sp k (m.getD 0 0))++replAll sp m ps).length≤20000000∧
   (all=true→okRun sp nth all ps ms (n+1) (m.getD 1 0).toNat ((ch++seg sp k (m.getD 0 0))++replAll sp m ps))
end Adz
structure SubAt (w:World) (cb co:Nat) (c:Adz.Cmd):Prop where
 typ:aq w cb 167
 items:∃iv,w.cell? ⟨cb,co,none⟩=some iv∧bN w iv c.pat.items
 parts:∃pa pc,w.cell? ⟨cb,co+2,none⟩=some (.slice pa c.repl.length pc)∧dH w (.slice pa c.repl.length pc) c.repl
 all:w.cell? ⟨cb,co+3,none⟩=some (.bool c.all)
 print:w.cell? ⟨cb,co+4,none⟩=some (.bool c.print)
 nth:w.cell? ⟨cb,co+5,none⟩=some (.int .i64 c.nth)
theorem SubAt.keeps {S:Nat→Prop}{w w':World}{cb co:Nat}{c:Adz.Cmd} (h:SubAt w cb co c) (o:ae S w w') (h1:∀b,aq w b 167→¬S b) (h2:∀b,aq w b 270→¬S b) (h3:∀b,aq w b 284→¬S b) (h4:∀b,aq w b 240→¬S b):SubAt w' cb co c:=by
 obtain⟨iv,i1,i2⟩:=h.items;obtain⟨pa,pc,p1,p2⟩:=h.parts;have n:=h1 _ h.typ;exact⟨h.typ.keeps o n,⟨iv,o.keeps i1 n,i2.keeps o h2 h3⟩,⟨pa,pc,o.keeps p1 n,p2.keeps o h4⟩,o.keeps h.all n,o.keeps h.print n,o.keeps h.nth n⟩
theorem SubAt.quiet {w w':World}{cb co:Nat}{c:Adz.Cmd} (h:SubAt w cb co c) (o:ae (fun _=>False) w w'):SubAt w' cb co c:=h.keeps o (fun _ _=>id) (fun _ _=>id) (fun _ _=>id) (fun _ _=>id)
structure Boxes (W:World) (B eb cb co:Nat) (a:Option Addr) (N c:Nat) (k num:Int) (f:Bool):Prop where
 t0:aq W B 98
 c0:W.cell? ⟨B,0,none⟩=some (.pointer (some ⟨eb,0,none⟩))
 t1:aq W (B+1) 190
 c1:W.cell? ⟨B+1,0,none⟩=some (.pointer (some ⟨cb,co,none⟩))
 t2:aq W (B+1+1) 103
 c2:W.cell? ⟨B+1+1,0,none⟩=some (.slice a N c)
 f2:W.frozen? ⟨B+1+1,0,none⟩=false
 t3:aq W (B+1+1+1) 3
 c3:W.cell? ⟨B+1+1+1,0,none⟩=some (.int .i64 k)
 f3:W.frozen? ⟨B+1+1+1,0,none⟩=false
 t4:aq W (B+1+1+1+1) 3
 c4:W.cell? ⟨B+1+1+1+1,0,none⟩=some (.int .i64 num)
 f4:W.frozen? ⟨B+1+1+1+1,0,none⟩=false
 t5:aq W (B+1+1+1+1+1) 4
 c5:W.cell? ⟨B+1+1+1+1+1,0,none⟩=some (.bool f)
 f5:W.frozen? ⟨B+1+1+1+1+1,0,none⟩=false
theorem Boxes.keeps {S:Nat→Prop}{W W':World}{B eb cb co:Nat}{a:Option Addr}{N c:Nat}{k num:Int}{f:Bool} (h:Boxes W B eb cb co a N c k num f) (o:ae S W W') (hs:∀b,B≤b→b≤B+5→¬S b):Boxes W' B eb cb co a N c k num f:=
 ⟨h.t0.keeps o (hs _ (by omega) (by omega)),o.keeps h.c0 (hs _ (by simp) (by simp)),h.t1.keeps o (hs _ (by omega) (by omega)),o.keeps h.c1 (hs _ (by simp) (by simp)),
  h.t2.keeps o (hs _ (by omega) (by omega)),o.keeps h.c2 (hs _ (by simp;omega) (by simp)),o.keepsFrozen h.c2 h.f2 (hs _ (by simp;omega) (by simp)),
  h.t3.keeps o (hs _ (by omega) (by omega)),o.keeps h.c3 (hs _ (by simp;omega) (by simp)),o.keepsFrozen h.c3 h.f3 (hs _ (by simp;omega) (by simp)),
  h.t4.keeps o (hs _ (by omega) (by omega)),o.keeps h.c4 (hs _ (by simp;omega) (by simp)),o.keepsFrozen h.c4 h.f4 (hs _ (by simp;omega) (by simp)),
  h.t5.keeps o (hs _ (by omega) (by omega)),o.keeps h.c5 (hs _ (by simp;omega) (by simp)),o.keepsFrozen h.c5 h.f5 (hs _ (by simp;omega) (by simp))⟩
theorem aR {W:World}{b c:Nat}{v u:Value} (h:W.cell? ⟨c,0,none⟩=some v) (hn:c≠b):(W.setCell ⟨b,0,none⟩ u).cell? ⟨c,0,none⟩=some v:=by
 rw[World.cell?_setCell_other W ⟨b,0,none⟩ ⟨c,0,none⟩ _ (by intro h;injection h;omega)];exact h
theorem bp {W:World}{p q:Addr}{u:Value} (h:W.frozen? q=false):(W.setCell p u).frozen? q=false:=by rw[World.frozen?_setCell];exact h
theorem Boxes.set2 {W:World}{B eb cb co:Nat}{a:Option Addr}{N c:Nat}{k num:Int}{f:Bool} (h:Boxes W B eb cb co a N c k num f) (a':Option Addr) (N' c':Nat):Boxes (W.setCell ⟨B+1+1,0,none⟩ (.slice a' N' c')) B eb cb co a' N' c' k num f:=
 ⟨h.t0.setCell _ _,aR h.c0 (by omega),h.t1.setCell _ _,aR h.c1 (by omega),h.t2.setCell _ _,World.cell?_setCell_same _ _ _ h.c2,bp h.f2,h.t3.setCell _ _,aR h.c3 (by omega),bp h.f3,h.t4.setCell _ _,aR h.c4 (by omega),bp h.f4,h.t5.setCell _ _,aR h.c5 (by omega),bp h.f5⟩
theorem Boxes.set3 {W:World}{B eb cb co:Nat}{a:Option Addr}{N c:Nat}{k num:Int}{f:Bool} (h:Boxes W B eb cb co a N c k num f) (k':Int):Boxes (W.setCell ⟨B+1+1+1,0,none⟩ (.int .i64 k')) B eb cb co a N c k' num f:=
 ⟨h.t0.setCell _ _,aR h.c0 (by omega),h.t1.setCell _ _,aR h.c1 (by omega),h.t2.setCell _ _,aR h.c2 (by omega),bp h.f2,h.t3.setCell _ _,World.cell?_setCell_same _ _ _ h.c3,bp h.f3,h.t4.setCell _ _,aR h.c4 (by omega),bp h.f4,h.t5.setCell _ _,aR h.c5 (by omega),bp h.f5⟩
theorem Boxes.set4 {W:World}{B eb cb co:Nat}{a:Option Addr}{N c:Nat}{k num:Int}{f:Bool} (h:Boxes W B eb cb co a N c k num f) (n':Int):Boxes (W.setCell ⟨B+1+1+1+1,0,none⟩ (.int .i64 n')) B eb cb co a N c k n' f:=
 ⟨h.t0.setCell _ _,aR h.c0 (by omega),h.t1.setCell _ _,aR h.c1 (by omega),h.t2.setCell _ _,aR h.c2 (by omega),bp h.f2,h.t3.setCell _ _,aR h.c3 (by omega),bp h.f3,h.t4.setCell _ _,World.cell?_setCell_same _ _ _ h.c4,bp h.f4,h.t5.setCell _ _,aR h.c5 (by omega),bp h.f5⟩
theorem Boxes.set5 {W:World}{B eb cb co:Nat}{a:Option Addr}{N c:Nat}{k num:Int}{f:Bool} (h:Boxes W B eb cb co a N c k num f) (f':Bool):Boxes (W.setCell ⟨B+1+1+1+1+1,0,none⟩ (.bool f')) B eb cb co a N c k num f':=
 ⟨h.t0.setCell _ _,aR h.c0 (by omega),h.t1.setCell _ _,aR h.c1 (by omega),h.t2.setCell _ _,aR h.c2 (by omega),bp h.f2,h.t3.setCell _ _,aR h.c3 (by omega),bp h.f3,h.t4.setCell _ _,aR h.c4 (by omega),bp h.f4,h.t5.setCell _ _,World.cell?_setCell_same _ _ _ h.c5,bp h.f5⟩
structure SI (w W:World) (B Bl eb cb co:Nat) (num:Int) (k:Nat) (ch:List Int) (f:Bool) (a:Option Addr) (N c:Nat):Prop where
 box:Boxes W B eb cb co a N c k num f
 row:W.ownsRow B 21 1 (.slice a N c) N (ch.map (.int .i32))
 len:N=ch.length
 own:∀b,(Value.slice a N c).ownBlock=some b→Bl+1<b
 only:ae (fun _=>False) w W
theorem SI.lets {w W W':World}{B Bl eb cb co:Nat}{num:Int}{k:Nat}{ch:List Int}{f:Bool}{a:Option Addr}{N c:Nat} (h:SI w W B Bl eb cb co num k ch f a N c) (hB:w.heap.size=B) (hl:B+5<Bl) (o:ae (fun b=>(aq W b 258∧Bl≤b)∨b=Bl∨b=Bl+1) W W'):SI w W' B Bl eb cb co num k ch f a N c:=by
 have nt:∀ {b:Nat} {T:TypeId},aq W b T→T≠258→b≠Bl→b≠Bl+1→¬((aq W b 258∧Bl≤b)∨b=Bl∨b=Bl+1):=fun ht hn n1 n2 e=>by
  rcases e with e | e | e
  ·exact hn (ht.one e.1)
  ·exact n1 e
  ·exact n2 e
 refine⟨h.box.keeps o (fun b h1 h2 e=> ?_),ag h.row o (fun b hb=>nt (aq.of_row h.row hb) (by decide) (by have:=h.own b hb;omega) (by have:=h.own b hb;omega)),h.len,h.own,h.only.trans o (fun _ e=>e) (fun b hb e=> ?_)⟩
 ·rcases e with e | e | e
  ·have:=e.2;omega
  ·omega
  ·omega
 ·rcases e with e | e | e
  ·have:=e.2;omega
  ·omega
  ·omega
theorem SI.upd {w W W':World}{B Bl eb cb co b:Nat}{num LJ:Int}{k k':Nat}{ch:List Int}{f f':Bool}{a:Option Addr}{N c:Nat} (h:SI w W B Bl eb cb co num k ch f a N c) (hB:w.heap.size=B) (hl:B+5<Bl) (o:ae (·=b) W W') (h1:B≤b) (h2:b≤B+5) (ht:aq W b 3∨aq W b 4) (hb:Boxes W' B eb cb co a N c k' LJ f'):SI w W' B Bl eb cb co LJ k' ch f' a N c∧qg Bl W W':=by
 have nr:∀c',aq W c' 21→¬c'=b:=fun c' hc e=>by
  subst e
  rcases ht with ht | ht
  ·exact absurd (hc.one ht) (by decide)
  ·exact absurd (hc.one ht) (by decide)
 refine⟨⟨hb,ag h.row o (fun b' sd=>nr b' (aq.of_row h.row sd)),h.len,h.own,h.only.trans o (fun _ e=>e) (fun b' sd e=>by omega)⟩,(·=b),o,fun c' e=> ?_⟩;subst e
 rcases ht with ht | ht
 ·exact Or.inl ⟨by omega,Or.inl ht⟩
 ·exact Or.inl ⟨by omega,Or.inr (Or.inl ht)⟩
theorem SI.quiet {w W W':World}{B Bl eb cb co:Nat}{num:Int}{k:Nat}{ch:List Int}{f:Bool}{a:Option Addr}{N c:Nat} (h:SI w W B Bl eb cb co num k ch f a N c) (o:ae (fun _=>False) W W'):SI w W' B Bl eb cb co num k ch f a N c:=
 ⟨h.box.keeps o (fun _ _ _=>id),ag h.row o (fun _ _=>id),h.len,h.own,h.only.trans o (fun _ e=>e) (fun _ _ e=>e.elim)⟩
theorem SI.append {w W W':World}{B Bl eb cb co:Nat}{num:Int}{k:Nat}{ch yP:List Int}{f:Bool}{a a2:Option Addr}{N c N2 c2:Nat} (h:SI w W B Bl eb cb co num k ch f a N c) (hB:w.heap.size=B) (hl:B+5<Bl) (o:ae (fun b=>(Value.slice a N c).ownBlock=some b) W W') (cz:W'.ownsRow B 21 1 (.slice a2 N2 c2) N2 (yP.map (.int .i32))) (hlen:N2=yP.length) (bJ:∀b,(Value.slice a2 N2 c2).ownBlock=some b→(Value.slice a N c).ownBlock=some b∨Bl+1<b):
 SI w (W'.setCell ⟨B+1+1,0,none⟩ (.slice a2 N2 c2)) B Bl eb cb co num k yP f a2 N2 c2∧qg Bl W (W'.setCell ⟨B+1+1,0,none⟩ (.slice a2 N2 c2)):=by
 have ho:∀b,(Value.slice a N c).ownBlock=some b→Bl+1<b:=h.own;have sd:=h.box.keeps o (fun b h1 h2 e=>by have:=ho b e;omega);have os:=af W' (B+1+1) 0 (.slice a2 N2 c2);refine⟨⟨sd.set2 a2 N2 c2,ag cz os (fun b hb e=>by subst e;exact absurd ((aq.of_row cz hb).one sd.t2) (by decide)),hlen,fun b hb=> ?_,?_⟩,fun c'=>(Value.slice a N c).ownBlock=some c'∨c'=B+1+1,o.trans os (fun _ e=>Or.inl e) (fun _ _ e=>Or.inr e),fun c' e=> ?_⟩
 ·rcases bJ b hb with e | e
  ·exact ho b e
  ·exact e
 ·exact(h.only.trans (o.trans os (fun _ e=>Or.inl e) (fun _ _ e=>Or.inr e):ae (fun b=>(Value.slice a N c).ownBlock=some b∨b=B+1+1) W _) (fun _ e=>e) (fun b hb e=>by
   rcases e with e | e
   ·have:=ho b e;omega
   ·omega))
 ·rcases e with e | e
  ·exact Or.inr (Or.inl (aq.of_row h.row e))
  ·subst e;exact Or.inl ⟨by omega,Or.inr (Or.inr h.box.t2)⟩
end
end Go.Proofs.YtbiobhghnldckaaGreatDoor
