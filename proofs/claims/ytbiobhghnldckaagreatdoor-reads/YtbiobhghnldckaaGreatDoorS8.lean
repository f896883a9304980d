/- Proved: adzeref's reader of sets, pieces and patterns answers as the program's does. Conditions: no rune is below 0. -/
import Derived.Test.YtbiobhghnldckaaGreatDoorS7
namespace Go.Proofs.YtbiobhghnldckaaGreatDoor
set_option linter.unusedVariables false
set_option maxRecDepth 100000
set_option maxHeartbeats 6400000
section
namespace Rf
open Adz (Flt)
theorem tw {L:List Int}{i:Nat}{q k c:Int} (h:Adz.peek L i=c):take L ⟨i,0,q,k⟩ c=(true,⟨i+1,0,q,k⟩):=by
 unfold take;rw[eZ,if_pos h]
theorem pW {L:List Int}{i:Nat}{q k c:Int} (h:Adz.peek L i≠c):take L ⟨i,0,q,k⟩ c=(false,⟨i,0,q,k⟩):=by
 unfold take;rw[eZ,if_neg h]
theorem Er.ne {s:SS}{f:Flt} (h:Er s f):s.e≠0:=by rw[h.1];exact h.2.2
theorem Er.no {s:SS}{f:Flt} (h:Er s f) (pl:List Int) (x:Int) (a:Nat):Er (no pl s x a) f:=by rw[mB h.ne];exact h
theorem de {s:SS} (h:s.e=0) (pl:List Int) (x:Int) (a:Nat) (hx:x≠0):Er (no pl s x a) (x,Adz.place pl a):=by
 unfold Rf.no;rw[if_pos h];exact⟨rfl,rfl,hx⟩
theorem xg {L pl:List Int} (hg:Good L) (i:Nat) (q k:Int):
 (∀m i',Adz.member L pl i=.ok (m,i')→member L pl ⟨i,0,q,k⟩=⟨i',0,q,k⟩∧i<i'∧i'≤L.length)∧
 (∀f,Adz.member L pl i=.error f→Er (member L pl ⟨i,0,q,k⟩) f):=by
 have hp:=fun i=>ry hg (but:=setBut) (but':=Adz.notAMember) (pl:=pl) (by decide) Ae i q k;unfold Adz.member member
 cases hc:Adz.character L pl Adz.notAMember i with
 | error f=>
  have e1:=(hp i).2 f hc;rw[EV e1.ne,if_neg (by omega)];refine⟨fun m i' h=>by simp at h,fun f' h=> ?_⟩;injection h with h;subst h;exact e1
 | ok x=>
  obtain⟨lo,i1⟩:=x;obtain⟨e1,e2,e3,e4⟩:=(hp i).1 lo i1 hc;rw[e1];by_cases nO:Adz.peek L i1=45
  ·have hu:upto L pl (lo,⟨i1,0,q,k⟩)=plain L pl setBut ⟨i1+1,0,q,k⟩:=by
    unfold upto;rw[tw nO];simp
   rw[hu];simp only[nO,beq_self_eq_true,if_true]
   cases aL:Adz.character L pl Adz.notAMember (i1+1) with
   | error f=>
    have e5:=(hp (i1+1)).2 f aL;refine⟨fun m i' h=>by simp at h,fun f' h=> ?_⟩;injection h with h;subst h;split
    ·exact e5.no _ _ _
    ·exact e5
   | ok y=>
    obtain⟨hi,i2⟩:=y;obtain⟨g1,g2,g3,g4⟩:=(hp (i1+1)).1 hi i2 aL;rw[g1];by_cases aw:hi<lo
    ·simp only[aw,if_true]
     refine⟨fun m i' h=>(by cases h),fun f' h=> ?_⟩;injection h with h;subst h;exact de rfl _ _ _ (by decide)
    ·simp only[aw,if_false]
     refine⟨fun m i' h=> ?_,fun f' h=>by cases h⟩;injection h with h;injection h with h1 h2;subst h2;exact⟨rfl,by omega,g3⟩
  ·have hu:upto L pl (lo,⟨i1,0,q,k⟩)=(lo,⟨i1,0,q,k⟩):=by
    unfold upto;rw[pW nO];simp
   rw[hu];simp only[nO,beq_iff_eq,if_false,Int.lt_irrefl];refine⟨fun m i' h=> ?_,fun f' h=>by cases h⟩;injection h with h;injection h with h1 h2;subst h2;exact⟨rfl,e2,e3⟩
theorem fU {L pl:List Int} (hg:Good L) (q k:Int):∀(n:Nat) (sp:List (Int×Int)) (i:Nat),L.length<n+i→i≤L.length→
 (∀F7 i',Adz.members L pl n sp i=.ok (F7,i')→members L pl n (!sp.isEmpty) ⟨i,0,q,k⟩=⟨i',0,q,k⟩∧i<i'∧i'≤L.length)∧
 (∀f,Adz.members L pl n sp i=.error f→Er (members L pl n (!sp.isEmpty) ⟨i,0,q,k⟩) f)
 | 0,sp,i,h1,h2=>by omega
 | n+1,sp,i,h1,h2=>by
  have hm:=xg hg (pl:=pl) i q k;unfold Adz.members members;rw[if_pos rfl]
  cases hs:sp.isEmpty with
  | true=>
   simp only[Bool.not_true,Bool.true_or,if_true,Bool.false_eq_true,false_and,if_false]
   cases hc:Adz.member L pl i with
   | error f=>
    have e1:=hm.2 f hc;refine⟨fun m i' h=>by simp at h,fun f' h=> ?_⟩;injection h with h;subst h;rw[members_er e1.ne];exact e1
   | ok x=>
    obtain⟨m,i1⟩:=x;obtain⟨e1,e2,e3⟩:=hm.1 m i1 hc;have ih:=fU (pl:=pl) hg q k n (sp++ [m]) i1 (by omega) e3;have hb:(!(sp++ [m]).isEmpty)=true:=by simp
    rw[hb] at ih;rw[e1];exact⟨fun F7 i' h=>by obtain⟨a,b,c⟩:=ih.1 F7 i' h;exact⟨a,by omega,c⟩,ih.2⟩
  | false=>
   by_cases Dv:Adz.peek L i=93
   ·have:now L ⟨i,0,q,k⟩=93:=Dv
    simp only[Dv,Bool.not_false,Bool.false_or,bne_self_eq_false,Bool.false_eq_true,if_false,this,and_self,if_true];refine⟨fun m i' h=> ?_,fun f' h=>by cases h⟩;injection h with h;injection h with h3 h4;subst h4;exact⟨rfl,by omega,by have:=bD (L:=L) (i:=i) (by omega);omega⟩
   ·have h5:¬now L ⟨i,0,q,k⟩=93:=Dv
    have h6:(Adz.peek L i !=93)=true:=by simpa using Dv
    simp only[h6,Bool.not_false,Bool.false_or,if_true,h5,and_false,if_false]
    cases hc:Adz.member L pl i with
    | error f=>
     have e1:=hm.2 f hc;refine⟨fun m i' h=>by simp at h,fun f' h=> ?_⟩;injection h with h;subst h;rw[members_er e1.ne];exact e1
    | ok x=>
     obtain⟨m,i1⟩:=x;obtain⟨e1,e2,e3⟩:=hm.1 m i1 hc;have ih:=fU (pl:=pl) hg q k n (sp++ [m]) i1 (by omega) e3;have hb:(!(sp++ [m]).isEmpty)=true:=by simp
     rw[hb] at ih;rw[e1];exact⟨fun F7 i' h=>by obtain⟨a,b,c⟩:=ih.1 F7 i' h;exact⟨a,by omega,c⟩,ih.2⟩
theorem xv {L pl:List Int} (hg:Good L) (i:Nat) (hi:i≤L.length) (q k:Int):
 (∀x i',Adz.single L pl i=.ok (x,i')→single L pl ⟨i,0,q,k⟩=⟨i',0,q,k⟩∧i<i'∧i'≤L.length)∧
 (∀f,Adz.single L pl i=.error f→Er (single L pl ⟨i,0,q,k⟩) f):=by
 unfold Adz.single single;rw[eZ];by_cases xS:Adz.peek L i=46
 ·simp only[xS,beq_self_eq_true,if_true]
  refine⟨fun m i' h=> ?_,fun f' h=>by cases h⟩;injection h with h;injection h with h3 h4;subst h4;exact⟨rfl,by omega,by have:=bD (L:=L) (i:=i) (by omega);omega⟩
 ·by_cases CN:Adz.peek L i=91
  ·have aw:=bD (L:=L) (i:=i) (by omega)
   simp only[CN,beq_iff_eq,show ¬((91:Int)=46) by decide,if_false,if_true];unfold Adz.setOf;by_cases lu:Adz.peek L (i+1)=94
   ·have dM:=bD (L:=L) (i:=i+1) (by omega)
    rw[tw lu];have ha:=fU (pl:=pl) hg q k (L.length+1) [] (i+1+1) (by omega) (by omega);simp only[lu,beq_self_eq_true,if_true];simp only[List.isEmpty_nil,Bool.not_true] at ha
    cases hc:Adz.members L pl (L.length+1) [] (i+1+1) with
    | error f=>
     rw[hc] at ha;exact⟨fun m i' h=>(by cases h),fun f' h=>by injection h with h;subst h;exact ha.2 _ rfl⟩
    | ok x=>
     rw[hc] at ha;refine⟨fun m i' h=> ?_,fun f' h=>by cases h⟩;obtain⟨sp,i2⟩:=x;injection h with h;injection h with h3 h4;subst h4;obtain⟨a,b,c⟩:=ha.1 _ _ rfl;exact⟨a,by omega,c⟩
   ·rw[pW lu]
    have ha:=fU (pl:=pl) hg q k (L.length+1) [] (i+1) (by omega) (by omega);simp only[lu,beq_iff_eq,if_false];simp only[List.isEmpty_nil,Bool.not_true] at ha
    cases hc:Adz.members L pl (L.length+1) [] (i+1) with
    | error f=>
     rw[hc] at ha;exact⟨fun m i' h=>(by cases h),fun f' h=>by injection h with h;subst h;exact ha.2 _ rfl⟩
    | ok x=>
     rw[hc] at ha;refine⟨fun m i' h=> ?_,fun f' h=>by cases h⟩;obtain⟨sp,i2⟩:=x;injection h with h;injection h with h3 h4;subst h4;obtain⟨a,b,c⟩:=ha.1 _ _ rfl;exact⟨a,by omega,c⟩
  ·simp only[xS,CN,beq_iff_eq,if_false]
   have hp:(∀c i',Adz.character L pl Adz.notAPiece i=.ok (c,i')→plain L pl pieceBut ⟨i,0,q,k⟩=(c,⟨i',0,q,k⟩)∧i<i'∧i'≤L.length∧0≤c)∧(∀f,Adz.character L pl Adz.notAPiece i=.error f→Er (plain L pl pieceBut ⟨i,0,q,k⟩).2 f):=by
    have e:Adz.character L pl Adz.notAPiece i=Adz.character L pl (Adz.notAPiece.erase 46) i:=by
     unfold Adz.character Adz.plain
     have:Adz.notAPiece.contains (Adz.peek L i)=(Adz.notAPiece.erase 46).contains (Adz.peek L i):=by
      have b:(Adz.peek L i==46)=false:=by simpa using xS
      have e2:Adz.notAPiece.erase 46= [92,91,40,41,42,43,63,94,36,47]:=by decide
      rw[e2];simp only[Adz.notAPiece,List.contains_cons,b,Bool.false_or]
     rw[this]
    rw[e];refine ry hg (but:=pieceBut) (by decide) (fun c h0 h1=> ?_) i q k;have e2:Adz.notAPiece.erase 46= [92,91,40,41,42,43,63,94,36,47]:=by decide
    rw[e2];simp only[pieceBut,List.contains_cons,List.contains_nil];have e3:(c==92)=false:=by simpa using h1
    rw[e3];simp only[Bool.or_false,Bool.false_or]
    rcases h:(c==10) with _ | _ <;> simp[Bool.or_comm,Bool.or_left_comm,Bool.or_assoc]
   cases hc:Adz.character L pl Adz.notAPiece i with
   | error f=>
    refine⟨fun m i' h=>(by cases h),fun f' h=> ?_⟩;injection h with h;subst h;exact hp.2 _ hc
   | ok x=>
    obtain⟨c,i1⟩:=x;obtain⟨a,b,d,e⟩:=hp.1 _ _ hc;refine⟨fun m i' h=> ?_,fun f' h=>by cases h⟩;injection h with h;injection h with h3 h4;subst h4;rw[a];exact⟨rfl,b,d⟩
theorem Cb {L:List Int} (i:Nat) (hi:i≤L.length) (q k:Int):many L ⟨i,0,q,k⟩=⟨(Adz.times L i).2,0,q,k⟩∧i≤(Adz.times L i).2∧(Adz.times L i).2≤L.length:=by
 unfold many Adz.times;rw[eZ];have key:∀c:Int,0≤c→Adz.peek L i=c→i+1≤L.length:=fun c h0 h=>bD (by omega);by_cases h1:Adz.peek L i=42
 ·have:=key 42 (by decide) h1
  simp[h1];omega
 ·by_cases h2:Adz.peek L i=43
  ·have:=key 43 (by decide) h2
   simp[h2];omega
  ·by_cases h3:Adz.peek L i=63
   ·have:=key 63 (by decide) h3
    simp[h3];omega
   ·simp[h1,h2,h3,hi]
end Rf
namespace Rf
open Adz (Flt)
theorem rq {L pl:List Int} (hg:Good L) (i:Nat) (hi:i≤L.length) (q k:Int):
 (∀x i',Adz.single L pl i=.ok (x,i')→piece L pl ⟨i,0,q,k⟩=⟨(Adz.times L i').2,0,q,k⟩∧i<(Adz.times L i').2∧(Adz.times L i').2≤L.length)∧
 (∀f,Adz.single L pl i=.error f→Er (piece L pl ⟨i,0,q,k⟩) f):=by
 have h:=xv (pl:=pl) hg i hi q k;unfold piece;refine⟨fun x i' e=> ?_,fun f e=> ?_⟩
 ·obtain⟨a,b,c⟩:=h.1 x i' e
  obtain⟨a2,b2,c2⟩:=Cb i' c q k;rw[a];exact⟨a2,by omega,c2⟩
 ·have e1:=h.2 f e
  rw[Eh e1.ne];exact e1
theorem qP (l:List Adz.Item) (x:Adz.Item):Adz.ended (l++ [x])=(x.kind==1):=by
 unfold Adz.ended;simp
theorem vw {L pl:List Int}{i i':Nat}{x:Adz.Item} (h:Adz.single L pl i=.ok (x,i')):(x.kind==1)=false:=by
 unfold Adz.single at h;split at h
 ·injection h with h;injection h with h1 h2;rw[←h1];rfl
 ·split at h
  ·unfold Adz.setOf at h
   split at h
   ·cases h
   ·injection h with h;injection h with h1 h2;rw[←h1];simp only;split <;> rfl
  ·split at h
   ·cases h
   ·injection h with h;injection h with h1 h2;rw[←h1];rfl
theorem mD {L pl:List Int} (hg:Good L) (q k:Int) (first:Nat):∀(n:Nat) (st:Adz.Rd) (g:Nat),L.length<n+st.i→st.i≤L.length→
 (Adz.ended st.items=false∨Adz.peek L st.i=47)→(st.items.isEmpty=true↔st.i=first)→first≤st.i→st.groups=(g:Int)→g≤9→
 (∀lV,Adz.items L pl n st=.ok lV→∃g':Nat,lV.groups=(g':Int)∧pattern L pl first n ⟨⟨st.i,0,q,k⟩,st.items.length,g,st.opens.length⟩=
   ⟨pend pl first ⟨⟨lV.i,0,q,k⟩,lV.items.length,g',lV.opens.length⟩,lV.items.length,g',lV.opens.length⟩∧st.i≤lV.i∧lV.i<L.length)∧
 (∀f,Adz.items L pl n st=.error f→Er (pattern L pl first n ⟨⟨st.i,0,q,k⟩,st.items.length,g,st.opens.length⟩).s f)
 | 0,st,g,h1,h2,_,_,_,_,_=>by omega
 | n+1,st,g,h1,h2,fO,hfst,Rs,zk,IW=>by
  have IH:=mD (pl:=pl) hg q k first n;have OU:now L (⟨st.i,0,q,k⟩:SS)=Adz.peek L st.i:=rfl;unfold Adz.items pattern;rw[if_pos rfl];by_cases bK:Adz.peek L st.i=47
  ·have Gy:now L (⟨st.i,0,q,k⟩:SS)=47:=bK
   simp only[bK,beq_self_eq_true,if_true,Gy];refine⟨fun lV h=> ?_,fun f h=>(by cases h)⟩;injection h with h;subst h;exact⟨g,zk,rfl,Nat.le_refl _,bD (by omega)⟩
  ·have Gy:¬now L (⟨st.i,0,q,k⟩:SS)=47:=bK
   have Rr:Adz.ended st.items=false:=by
    rcases fO with h | h
    ·exact h
    ·exact absurd h bK
   have fs:(Adz.peek L st.i==47)=false:=by simpa using bK
   simp only[fs,Bool.false_eq_true,if_false,Gy];unfold Adz.item pstep;simp only[Rr,Bool.false_eq_true,if_false,OU]
   -- what goes on from a next state
   have go:∀(it:Adz.Item) (i1:Nat) (vA:Adz.Rd) (g1:Nat),vA.items=st.items++ [it]→st.i<vA.i→vA.i≤L.length→((it.kind==1)=false∨Adz.peek L vA.i=47)→vA.groups=(g1:Int)→g1≤9→
    (∀lV,Adz.items L pl n vA=.ok lV→∃g':Nat,lV.groups=(g':Int)∧pattern L pl first n ⟨⟨vA.i,0,q,k⟩,st.items.length+1,g1,vA.opens.length⟩=
      ⟨pend pl first ⟨⟨lV.i,0,q,k⟩,lV.items.length,g',lV.opens.length⟩,lV.items.length,g',lV.opens.length⟩∧st.i≤lV.i∧lV.i<L.length)∧
    (∀f,Adz.items L pl n vA=.error f→Er (pattern L pl first n ⟨⟨vA.i,0,q,k⟩,st.items.length+1,g1,vA.opens.length⟩).s f):=by
    intro it i1 vA g1 e1 e2 e3 e4 e5 e6;have hl:vA.items.length=st.items.length+1:=by rw[e1];simp
    have ih:=IH vA g1 (by omega) e3 (by rw[e1,qP];exact e4) (by rw[e1];simp;omega) (by omega) e5 e6;rw[hl] at ih;refine⟨fun lV h=> ?_,ih.2⟩;obtain⟨g',a,b,c,d⟩:=ih.1 lV h;exact⟨g',a,b,by omega,d⟩
   by_cases lu:Adz.peek L st.i=94
   ·have aw:=bD (L:=L) (i:=st.i) (by omega)
    simp only[lu,beq_self_eq_true,if_true,true_and]
    cases Ow:st.items.isEmpty with
    | true=>
     have hf:=hfst.1 Ow;simp only[if_true,if_pos hf];exact go ⟨0,0,[],0⟩ 0 {st with i:=st.i+1,items:=st.items++ [⟨0,0,[],0⟩]} g rfl (Nat.lt_succ_self _) aw (Or.inl rfl) zk IW
    | false=>
     have hf:¬st.i=first:=fun e=>by rw[hfst.2 e] at Ow;cases Ow
     simp only[Bool.false_eq_true,if_false,if_neg hf,show ¬((94:Int)=40) by decide,show ¬((94:Int)=41) by decide,show ¬((94:Int)=36) by decide];refine⟨fun lV h=>(by cases h),fun f h=> ?_⟩;injection h with h
     have hs:Adz.single L pl st.i=.error (Adz.wrong pl st.i):=by
      unfold Adz.single Adz.character Adz.plain;simp only[lu]
      rfl
     have ep:=(rq (pl:=pl) hg st.i h2 q k).2 _ hs;rw[pattern_er ep.ne];rw[←h];exact ep
   ·have IJ:(Adz.peek L st.i==94)=false:=by simpa using lu
    simp only[IJ,Bool.false_eq_true,if_false,lu,false_and];by_cases oR:Adz.peek L st.i=36
    ·have aw:=bD (L:=L) (i:=st.i) (by omega)
     simp only[oR,beq_self_eq_true,if_true,show ¬((36:Int)=40) by decide,show ¬((36:Int)=41) by decide,if_false];have FD:now L (⟨st.i+1,0,q,k⟩:SS)=Adz.peek L (st.i+1):=rfl;simp only[FD];by_cases DT:Adz.peek L (st.i+1)=47
     ·simp only[DT,if_true]
      exact go ⟨1,0,[],0⟩ 0 {st with i:=st.i+1,items:=st.items++ [⟨1,0,[],0⟩]} g rfl (Nat.lt_succ_self _) aw (Or.inr DT) zk IW
     ·simp only[DT,if_false]
      have hE:=de (s:=⟨st.i+1,0,q,k⟩) rfl pl 3 (st.i+1) (by decide);rw[pattern_er (by exact hE.ne)]
      cases n with
      | zero=>omega
      | succ n=>
       unfold Adz.items Adz.item;have b:(Adz.peek L (st.i+1)==47)=false:=by simpa using DT
       have b2:Adz.ended (st.items++ [⟨1,0,[],0⟩])=true:=by rw[qP];rfl
       simp only[b,Bool.false_eq_true,if_false,b2,if_true];refine⟨fun lV h=>(by cases h),fun f h=> ?_⟩;injection h with h;rw[←h];exact hE
    ·have JP:(Adz.peek L st.i==36)=false:=by simpa using oR
     simp only[JP,Bool.false_eq_true,if_false,oR];by_cases mg:Adz.peek L st.i=40
     ·have aw:=bD (L:=L) (i:=st.i) (by omega)
      simp only[mg,beq_self_eq_true,if_true];by_cases h9:g=9
      ·have DK:(st.groups==9)=true:=by rw[zk,h9];rfl
       simp only[DK,if_true,if_pos (show 9<g+1 by omega)];have hE:=de (s:=⟨st.i+1,0,q,k⟩) rfl pl 8 st.i (by decide);rw[pattern_er (by exact hE.ne)];refine⟨fun lV h=>(by cases h),fun f h=> ?_⟩;injection h with h;rw[←h];exact hE
      ·have DK:(st.groups==9)=false:=by rw[zk];simp;omega
       simp only[DK,Bool.false_eq_true,if_false,if_neg (show ¬9<g+1 by omega)];have:=go ⟨2,st.groups+1,[],0⟩ 0 {i:=st.i+1,items:=st.items++ [⟨2,st.groups+1,[],0⟩],groups:=st.groups+1,opens:=st.opens++ [st.groups+1]} (g+1) rfl (Nat.lt_succ_self _) aw (Or.inl rfl) (by show st.groups+1=((g+1:Nat):Int);rw[zk];omega) (by omega);simp only[List.length_append,List.length_cons,List.length_nil,Nat.zero_add] at this;exact this
     ·have CJ:(Adz.peek L st.i==40)=false:=by simpa using mg
      simp only[CJ,Bool.false_eq_true,if_false,mg];by_cases Ao:Adz.peek L st.i=41
      ·have aw:=bD (L:=L) (i:=st.i) (by omega)
       simp only[Ao,beq_self_eq_true,if_true]
       cases ho:st.opens.getLast? with
       | none=>
        have hz:st.opens= []:=by simpa using ho
        simp only[hz,List.length_nil,if_true];have hE:=de (s:=⟨st.i,0,q,k⟩) rfl pl 8 st.i (by decide);rw[pattern_er (by exact hE.ne)];refine⟨fun lV h=>(by cases h),fun f h=> ?_⟩;injection h with h;rw[←h];exact hE
       | some y=>
        have hz:st.opens≠ []:=fun e=>by rw[e] at ho;cases ho
        have eF:¬st.opens.length=0:=fun e=>hz (List.eq_nil_of_length_eq_zero e);simp only[if_neg eF];have:=go ⟨3,y,[],0⟩ 0 {st with i:=st.i+1,items:=st.items++ [⟨3,y,[],0⟩],opens:=st.opens.dropLast} g rfl (Nat.lt_succ_self _) aw (Or.inl rfl) zk IW;simp only[List.length_dropLast] at this;exact this
      ·have To:(Adz.peek L st.i==41)=false:=by simpa using Ao
       simp only[To,Bool.false_eq_true,if_false,Ao];have hp:=rq (pl:=pl) hg st.i h2 q k
       cases hs:Adz.single L pl st.i with
       | error f=>
        have ep:=hp.2 _ hs;rw[pattern_er (by exact ep.ne)];refine⟨fun lV h=>(by cases h),fun f h=> ?_⟩;injection h with h;rw[←h];exact ep
       | ok x=>
        obtain⟨it,i1⟩:=x;obtain⟨a,b,c⟩:=hp.1 _ _ hs;rw[a];exact go {it with times:=(Adz.times L i1).1} 0 {st with i:=(Adz.times L i1).2,items:=st.items++ [{it with times:=(Adz.times L i1).1}]} g rfl b c (Or.inl (by have:=vw hs;exact this)) zk IW
theorem yx {L pl:List Int} (hg:Good L) (i:Nat) (hi:i≤L.length) (q k:Int):
 (∀p i',Adz.patRead L pl i=.ok (p,i')→(pat L pl ⟨i,0,q,k⟩).s=⟨i',0,q,k⟩∧p.groups=((pat L pl ⟨i,0,q,k⟩).groups:Int)∧i<i'∧i'≤L.length)∧
 (∀f,Adz.patRead L pl i=.error f→Er (pat L pl ⟨i,0,q,k⟩).s f):=by
 have h:=mD (pl:=pl) hg q k i (L.length+1) ⟨i,[],0,[]⟩ 0 (by show L.length<L.length+1+i;omega) hi (Or.inl rfl) (by simp) (Nat.le_refl _) (by simp) (by omega);unfold Adz.patRead pat;simp only[List.length_nil] at h
 cases hc:Adz.items L pl (L.length+1) ⟨i,[],0,[]⟩ with
 | error f=>
  have e:=h.2 f hc;refine⟨fun p i' h=>(by cases h),fun f h=> ?_⟩;injection h with h;rw[←h];exact e
 | ok st=>
  obtain⟨g',a,b,c,d⟩:=h.1 st hc;simp only;rw[b];unfold pend;simp only;by_cases J7:30<st.items.length
  ·simp only[if_pos J7]
   have hE:=de (s:=⟨st.i+1,0,q,k⟩) rfl pl 4 i (by decide);refine⟨fun p i' h=>(by cases h),fun f h=> ?_⟩;injection h with h;rw[←h];split
   ·exact hE.no _ _ _
   ·exact hE
  ·simp only[if_neg J7]
   by_cases ho:0<st.opens.length
   ·have hE:=de (s:=⟨st.i+1,0,q,k⟩) rfl pl 8 i (by decide)
    refine⟨fun p i' h=>(by rw[if_pos ho] at h;cases h),fun f h=> ?_⟩;rw[if_pos ho] at h;injection h with h;rw[←h,if_pos ho];exact hE
   ·refine⟨fun p i' h=> ?_,fun f h=>(by rw[if_neg ho] at h;cases h)⟩
    rw[if_neg ho] at h;injection h with h;injection h with h3 h4;subst h3;subst h4;rw[if_neg ho];refine⟨rfl,a,?_,?_⟩
    ·have c':i≤st.i:=c
     omega
    ·exact d
end Rf
namespace Rf
open Adz (Flt)
theorem vD {L:List Int} (i:Nat) (hi:i≤L.length) (p:Int→Bool):i+((L.drop i).takeWhile p).length≤L.length:=by
 have h:∀l:List Int,(l.takeWhile p).length≤l.length:=fun l=>by
  induction l with
  | nil=>simp
  | cons a l ih=>rw [List.takeWhile_cons];split <;> simp <;> omega
 have:=h (L.drop i);rw[List.length_drop] at this;omega
theorem xO:∀(ds:List Int) (n:Int),0≤n→(∀d∈ds,Adz.isDigit d=true)→0≤ds.foldl (fun n d=>min (n*10+(d - 48)) 10000) n
 | [],n,h,_=>h
 | d::ds,n,h,hd=>by
  have h1:=Adz.digit_range (hd d (List.mem_cons_self ..));exact xO ds _ (by show 0≤min (n*10+(d - 48)) 10000;omega) (fun x hx=>hd x (List.mem_cons_of_mem _ hx))
theorem xz {p:Int→Bool}:∀(l:List Int) (d:Int),d∈l.takeWhile p→p d=true
 | [],d,h=>by simp at h
 | a::l,d,h=>by
  rw[List.takeWhile_cons] at h;split at h
  ·rcases List.mem_cons.1 h with e | e
   ·subst e;assumption
   ·exact xz l d e
  ·simp at h
theorem pI {L pl:List Int} (i:Nat) (hi:i≤L.length) (q k:Int):
 (∀n i',Adz.number L pl i=.ok (n,i')→number L pl ⟨i,0,q,k⟩=(n,⟨i',0,q,k⟩)∧i≤i'∧i'≤L.length∧n≠0)∧
 (∀f,Adz.number L pl i=.error f→Er (number L pl ⟨i,0,q,k⟩).2 f):=by
 have At:0≤fold (Adz.digitsOf L i):=xO _ _ (by decide) (fun d hd=>xz _ d hd);have hle:=vD (L:=L) i hi Adz.isDigit
 have hA:Adz.number L pl i=if (fold (Adz.digitsOf L i)==0 || decide (9999<fold (Adz.digitsOf L i)))=true then .error (4,Adz.place pl i) else .ok (fold (Adz.digitsOf L i),i+(Adz.digitsOf L i).length):=rfl
 rw[hA];unfold number;rw[if_pos rfl];by_cases hb:fold (Adz.digitsOf L i)<1∨9999<fold (Adz.digitsOf L i)
 ·have dt:(fold (Adz.digitsOf L i)==0 || decide (9999<fold (Adz.digitsOf L i)))=true:=by
   simp;omega
  simp only[if_pos hb,dt,if_true];refine⟨fun n i' h=>(by cases h),fun f h=> ?_⟩;injection h with h;rw[←h];exact de rfl _ _ _ (by decide)
 ·have dt:(fold (Adz.digitsOf L i)==0 || decide (9999<fold (Adz.digitsOf L i)))=false:=by
   simp;omega
  simp only[if_neg hb,dt,Bool.false_eq_true,if_false];refine⟨fun n i' h=> ?_,fun f h=>(by cases h)⟩;injection h with h;injection h with h1 h2;subst h1;subst h2;exact⟨rfl,by omega,hle,by omega⟩
theorem uW {L pl:List Int} (i:Nat) (hi:i≤L.length) (q k:Int):
 (∀nm i',Adz.nameOf L pl i=.ok (nm,i')→name L pl ⟨i,0,q,k⟩=⟨i',0,q,k⟩∧nm=Adz.enc (Adz.lettersOf L i)∧i'=i+(Adz.lettersOf L i).length∧i'≤L.length)∧
 (∀f,Adz.nameOf L pl i=.error f→Er (name L pl ⟨i,0,q,k⟩) f)∧letters L ⟨i,0,q,k⟩=Adz.lettersOf L i:=by
 have hle:=vD (L:=L) i hi Adz.isLetter;have hl:letters L ⟨i,0,q,k⟩=Adz.lettersOf L i:=by unfold letters;rw[if_pos rfl]
 unfold Adz.nameOf name;rw[hl];by_cases h8:8<(Adz.lettersOf L i).length
 ·simp only[if_pos h8]
  refine⟨fun n i' h=> ?_,fun f h=> ?_,(by first | trivial | rfl)⟩
  ·cases h
  ·injection h with h
   rw[←h];exact de rfl _ _ _ (by decide)
 ·simp only[if_neg h8]
  refine⟨fun n i' h=> ?_,fun f h=> ?_,(by first | trivial | rfl)⟩
  ·injection h with h
   injection h with h1 h2;subst h1;subst h2;exact⟨rfl,rfl,rfl,hle⟩
  ·cases h
theorem cV (L:List Int) (i:Nat) (q k:Int):skip L ⟨i,0,q,k⟩ false=⟨Adz.blanks L i,0,q,k⟩:=by
 unfold skip Adz.blanks;rw[if_pos rfl]
 have:gap false=Adz.isBlank:=by
  funext c
  unfold gap Adz.isBlank;simp
 rw[this]
theorem dU {L:List Int} (i:Nat) (hi:i≤L.length):Adz.blanks L i≤L.length:=vD i hi _
theorem jk (L:List Int) (i:Nat):Adz.isBlank (Adz.peek L (Adz.blanks L i))=false:=by
 have key:∀n i,L.length - i≤n→Adz.isBlank (Adz.peek L (Adz.blanks L i))=false:=by
  intro n
  induction n with
  | zero=>
   intro i h;have hs:Adz.isBlank (Adz.peek L i)=false:=by rw[Adz.peek_ge (by omega)];rfl
   rw[Adz.blanks_stop hs];exact hs
  | succ n ih=>
   intro i h
   cases hb:Adz.isBlank (Adz.peek L i) with
   | true=>
    rw[Adz.blanks_step hb];have:=Adz.lt_of_blank hb;exact ih (i+1) (by omega)
   | false=>
    rw[Adz.blanks_stop hb];exact hb
 exact key _ i (Nat.le_refl _)
theorem zY {L pl:List Int} (hg:Good L) (g:Nat) (i:Nat) (hi:i≤L.length) (bK:Adz.peek L i≠47) (q k:Int):
 (∀p i',Adz.part L pl (g:Int) i=.ok (p,i')→rstep L pl g ⟨i,0,q,k⟩=⟨i',0,q,k⟩∧i<i'∧i'≤L.length)∧
 (∀f,Adz.part L pl (g:Int) i=.error f→Er (rstep L pl g ⟨i,0,q,k⟩) f):=by
 unfold Adz.part rstep
 rcases c8 hg i with ⟨h1,h2⟩ |⟨h1,h2⟩
 ·rw[iX h1,h1]
  simp only[show ¬((-1:Int)=10) by decide,show ¬((-1:Int)=38) by decide,show ¬((-1:Int)=92) by decide,if_false,false_and];unfold Adz.plain;rw[h1];refine⟨fun p i' h=>(by cases h),fun f h=> ?_⟩;injection h with h;rw[←h];exact⟨rfl,rfl,(show(3:Int)≠0 by decide)⟩
 ·rw[kL h1]
  simp only;by_cases CL:Adz.peek L i=38
  ·simp only[CL,show ¬((38:Int)=10) by decide,if_false,if_true,beq_self_eq_true]
   refine⟨fun p i' h=> ?_,fun f h=>(by cases h)⟩;injection h with h;injection h with h3 h4;subst h4;exact⟨rfl,by omega,h2⟩
  ·have Mb:(Adz.peek L i==38)=false:=by simpa using CL
   by_cases kZ:Adz.peek L i=92
   ·have E9:(Adz.peek L i !=92)=false:=by simp[kZ]
    simp only[Mb,E9,Bool.false_eq_true,if_false];simp only[kZ,show ¬((92:Int)=10) by decide,show ¬((92:Int)=38) by decide,if_false,if_true,true_and];have hn:now L ⟨i+1,0,q,k⟩=Adz.peek L (i+1):=rfl;rw[hn];by_cases hd:Adz.isDigit (Adz.peek L (i+1))=true∧Adz.peek L (i+1)≠48
    ·have KE:(Adz.peek L (i+1)==48 || !Adz.isDigit (Adz.peek L (i+1)))=false:=by
      simp[hd.1,hd.2]
     have aw:=Adz.lt_of_digit hd.1;simp only[KE,if_pos hd,Bool.false_eq_true,if_false];by_cases zk:(g:Int)<Adz.peek L (i+1) - 48
     ·simp only[gt_iff_lt,if_pos zk]
      refine⟨fun p i' h=>(by cases h),fun f h=> ?_⟩;injection h with h;rw[←h];exact de rfl _ _ _ (by decide)
     ·simp only[gt_iff_lt,if_neg zk]
      refine⟨fun p i' h=> ?_,fun f h=>(by cases h)⟩;injection h with h;injection h with h3 h4;subst h4;exact⟨rfl,by omega,by omega⟩
    ·have KE:(Adz.peek L (i+1)==48 || !Adz.isDigit (Adz.peek L (i+1)))=true:=by
      cases hx:Adz.isDigit (Adz.peek L (i+1)) with
      | false=>simp
      | true=>
       have:Adz.peek L (i+1)=48:=Decidable.byContradiction fun e=>hd ⟨hx,e⟩;simp[this]
     simp only[KE,if_neg hd,if_true];have ha:=iL hg (may:=Adz.replSpecial) (pl:=pl) (by decide) (i+1) q k
     cases hc:Adz.escaped L pl Adz.replSpecial (i+1) with
     | error f=>
      refine⟨fun p i' h=>(by cases h),fun f h=> ?_⟩;injection h with h;rw[←h];exact ha.2 _ hc
     | ok x=>
      obtain⟨c,i1⟩:=x;obtain⟨a,b,c1,d⟩:=ha.1 _ _ hc;refine⟨fun p i' h=> ?_,fun f h=>(by cases h)⟩;injection h with h;injection h with h3 h4;subst h4;rw[a];exact⟨rfl,by omega,by omega⟩
   ·have E9:(Adz.peek L i !=92)=true:=by simpa using kZ
    simp only[Mb,E9,Bool.false_eq_true,if_false,if_true,CL,kZ,false_and];unfold Adz.plain;have bm:(Adz.peek L i== -1)=false:=by simp;omega
    have bc:Adz.replSpecial.contains (Adz.peek L i)=false:=by
     simp[Adz.replSpecial,bK,kZ,CL]
    simp only[bm,bc,Bool.false_or,Bool.or_false];by_cases dQ:Adz.peek L i=10
    ·have CI:(Adz.peek L i==10)=true:=by simp[dQ]
     simp only[if_true,dQ,beq_self_eq_true];refine⟨fun p i' h=>(by cases h),fun f h=> ?_⟩;injection h with h;rw[←h];exact de rfl _ _ _ (by decide)
    ·have CI:(Adz.peek L i==10)=false:=by simp[dQ]
     simp only[CI,Bool.false_eq_true,if_false,dQ];refine⟨fun p i' h=> ?_,fun f h=>(by cases h)⟩;injection h with h;injection h with h3 h4;subst h4;exact⟨rfl,by omega,h2⟩
theorem iz {L pl:List Int} (hg:Good L) (q k:Int) (g:Nat):∀(n:Nat) (ps:List Adz.Part) (i:Nat),L.length<n+i→i≤L.length→
 (∀dP i',Adz.replacement L pl (g:Int) n ps i=.ok (dP,i')→replacement L pl g n ⟨i,0,q,k⟩=⟨i',0,q,k⟩∧i<i'∧i'≤L.length)∧
 (∀f,Adz.replacement L pl (g:Int) n ps i=.error f→Er (replacement L pl g n ⟨i,0,q,k⟩) f)
 | 0,ps,i,h1,h2=>by omega
 | n+1,ps,i,h1,h2=>by
  unfold Adz.replacement replacement;rw[if_pos rfl];by_cases bK:Adz.peek L i=47
  ·have hn:now L ⟨i,0,q,k⟩=47:=bK
   simp only[bK,beq_self_eq_true,if_true,hn];refine⟨fun p i' h=> ?_,fun f h=>(by cases h)⟩;injection h with h;injection h with h3 h4;subst h4;exact⟨rfl,by omega,bD (by omega)⟩
  ·have hn:¬now L ⟨i,0,q,k⟩=47:=bK
   have fs:(Adz.peek L i==47)=false:=by simpa using bK
   simp only[fs,Bool.false_eq_true,if_false,hn];have hr:=zY (pl:=pl) hg g i h2 bK q k
   cases hc:Adz.part L pl (g:Int) i with
   | error f=>
    have e1:=hr.2 _ hc;rw[replacement_er e1.ne];refine⟨fun p i' h=>(by cases h),fun f h=> ?_⟩;injection h with h;rw[←h];exact e1
   | ok x=>
    obtain⟨p,i1⟩:=x;obtain⟨a,b,c⟩:=hr.1 _ _ hc;have ih:=iz (pl:=pl) hg q k g n (ps++ [p]) i1 (by omega) c;rw[a];exact⟨fun dP i' h=>by obtain⟨a,b,c⟩:=ih.1 dP i' h;exact⟨a,by omega,c⟩,ih.2⟩
theorem Al {L pl:List Int} (hg:Good L) (i:Nat) (hi:i≤L.length) (bK:Adz.peek L i≠47) (q k:Int):
 (∀c i',Adz.sideRune L pl i=.ok (c,i')→ustep L pl ⟨i,0,q,k⟩=(c,⟨i',0,q,k⟩)∧i<i'∧i'≤L.length)∧
 (∀f,Adz.sideRune L pl i=.error f→Er (ustep L pl ⟨i,0,q,k⟩).2 f):=by
 unfold Adz.sideRune ustep
 rcases c8 hg i with ⟨h1,h2⟩ |⟨h1,h2⟩
 ·rw[iX h1,h1]
  simp only[show ¬((-1:Int)=10) by decide,show ¬((-1:Int)=92) by decide,if_false];unfold Adz.plain;rw[h1];refine⟨fun p i' h=>(by cases h),fun f h=> ?_⟩;injection h with h;rw[←h];exact⟨rfl,rfl,(show(3:Int)≠0 by decide)⟩
 ·rw[kL h1]
  simp only;by_cases kZ:Adz.peek L i=92
  ·simp only[kZ,show ¬((92:Int)=10) by decide,if_false,if_true,beq_self_eq_true]
   have ha:=iL hg (may:=Adz.sideSpecial) (pl:=pl) (by decide) (i+1) q k;exact⟨fun c i' h=>by obtain⟨a,b,c1,d⟩:=ha.1 c i' h;exact⟨a,by omega,by omega⟩,ha.2⟩
  ·have E9:(Adz.peek L i==92)=false:=by simpa using kZ
   simp only[E9,Bool.false_eq_true,if_false,kZ];unfold Adz.plain;have bm:(Adz.peek L i== -1)=false:=by simp;omega
   have bc:Adz.sideSpecial.contains (Adz.peek L i)=false:=by
    simp[Adz.sideSpecial,bK,kZ]
   simp only[bm,bc,Bool.false_or,Bool.or_false];by_cases dQ:Adz.peek L i=10
   ·have CI:(Adz.peek L i==10)=true:=by simp[dQ]
    simp only[if_true,dQ,beq_self_eq_true];refine⟨fun p i' h=>(by cases h),fun f h=> ?_⟩;injection h with h;rw[←h];exact de rfl _ _ _ (by decide)
   ·have CI:(Adz.peek L i==10)=false:=by simp[dQ]
    simp only[CI,Bool.false_eq_true,if_false,dQ];refine⟨fun p i' h=> ?_,fun f h=>(by cases h)⟩;injection h with h;injection h with h3 h4;subst h3;subst h4;exact⟨rfl,by omega,h2⟩
theorem lU {L pl:List Int} (hg:Good L) (q k:Int):∀(n:Nat) (rs:List Int) (i:Nat),L.length<n+i→i≤L.length→
 (∀Jm i',Adz.side L pl n rs i=.ok (Jm,i')→runes L pl n rs ⟨i,0,q,k⟩=(Jm,⟨i',0,q,k⟩)∧i<i'∧i'≤L.length)∧
 (∀f,Adz.side L pl n rs i=.error f→Er (runes L pl n rs ⟨i,0,q,k⟩).2 f)
 | 0,ps,i,h1,h2=>by omega
 | n+1,ps,i,h1,h2=>by
  unfold Adz.side runes;rw[if_pos rfl];by_cases bK:Adz.peek L i=47
  ·have hn:now L ⟨i,0,q,k⟩=47:=bK
   simp only[bK,beq_self_eq_true,if_true,hn];refine⟨fun p i' h=> ?_,fun f h=>(by cases h)⟩;injection h with h;injection h with h3 h4;subst h3;subst h4;exact⟨rfl,by omega,bD (by omega)⟩
  ·have hn:¬now L ⟨i,0,q,k⟩=47:=bK
   have fs:(Adz.peek L i==47)=false:=by simpa using bK
   simp only[fs,Bool.false_eq_true,if_false,hn];have hr:=Al (pl:=pl) hg i h2 bK q k
   cases hc:Adz.sideRune L pl i with
   | error f=>
    have e1:=hr.2 _ hc;rw[runes_er e1.ne];refine⟨fun p i' h=>(by cases h),fun f h=> ?_⟩;injection h with h;rw[←h];exact e1
   | ok x=>
    obtain⟨p,i1⟩:=x;obtain⟨a,b,c⟩:=hr.1 _ _ hc;have ih:=lU (pl:=pl) hg q k n (ps++ [p]) i1 (by omega) c;rw[a];exact⟨fun dP i' h=>by obtain⟨a,b,c⟩:=ih.1 dP i' h;exact⟨a,by omega,c⟩,ih.2⟩
end Rf
namespace Rf
open Adz (Flt)
theorem jo {L pl:List Int} (hg:Good L) (q k:Int):∀(n:Nat) (c:Adz.Cmd) (i:Nat),L.length<n+i→i≤L.length→
 (∀c' i',Adz.flags L pl n c i=.ok (c',i')→(flags L pl n ⟨⟨i,0,q,k⟩,c.all,c.print,c.nth⟩).s=⟨i',0,q,k⟩∧i≤i'∧i'≤L.length)∧
 (∀f,Adz.flags L pl n c i=.error f→Er (flags L pl n ⟨⟨i,0,q,k⟩,c.all,c.print,c.nth⟩).s f)
 | 0,c,i,h1,h2=>by omega
 | n+1,c,i,h1,h2=>by
  have hn:now L ⟨i,0,q,k⟩=Adz.peek L i:=rfl;unfold Adz.flags flags;rw[if_pos rfl];simp only[hn];by_cases ha:Adz.peek L i=103∧c.all=false
  ·have hb:(Adz.peek L i==103 && !c.all)=true:=by simp[ha.1,ha.2]
   have aw:=bD (L:=L) (i:=i) (by omega);simp only[if_pos ha,hb,if_true];have ih:=jo (pl:=pl) hg q k n {c with all:=true} (i+1) (by omega) aw;exact⟨fun c' i' h=>by obtain⟨a,b,c⟩:=ih.1 c' i' h;exact⟨a,by omega,c⟩,ih.2⟩
  ·have hb:(Adz.peek L i==103 && !c.all)=false:=by
    cases hx:c.all with
    | true=>simp
    | false=>
     have:¬Adz.peek L i=103:=fun e=>ha ⟨e,hx⟩;simpa using this
   simp only[if_neg ha,hb,Bool.false_eq_true,if_false];by_cases hp:Adz.peek L i=112∧c.print=false
   ·have dt:(Adz.peek L i==112 && !c.print)=true:=by simp[hp.1,hp.2]
    have aw:=bD (L:=L) (i:=i) (by omega);simp only[if_pos hp,dt,if_true];have ih:=jo (pl:=pl) hg q k n {c with print:=true} (i+1) (by omega) aw;exact⟨fun c' i' h=>by obtain⟨a,b,c⟩:=ih.1 c' i' h;exact⟨a,by omega,c⟩,ih.2⟩
   ·have dt:(Adz.peek L i==112 && !c.print)=false:=by
     cases hx:c.print with
     | true=>simp
     | false=>
      have:¬Adz.peek L i=112:=fun e=>hp ⟨e,hx⟩;simpa using this
    simp only[if_neg hp,dt,Bool.false_eq_true,if_false];by_cases hd:Adz.isDigit (Adz.peek L i)=true∧c.nth=0
    ·have Oe:(Adz.isDigit (Adz.peek L i) && c.nth==0)=true:=by simp[hd.1,hd.2]
     simp only[if_pos hd,Oe,if_true];have hm:=pI (L:=L) (pl:=pl) i h2 q k
     cases hc:Adz.number L pl i with
     | error f=>
      have e1:=hm.2 _ hc;refine⟨fun p i' h=>(by cases h),fun f h=> ?_⟩;injection h with h;rw[←h,flags_er (by exact e1.ne)];exact e1
     | ok x=>
      obtain⟨m,i1⟩:=x;obtain⟨a,b,c1,d⟩:=hm.1 _ _ hc;have aw:=Adz.number_lt hc hd.1;rw[a];have ih:=jo (pl:=pl) hg q k n {c with nth:=m} i1 (by omega) c1;exact⟨fun c' i' h=>by obtain⟨a,b,c⟩:=ih.1 c' i' h;exact⟨a,by omega,c⟩,ih.2⟩
    ·have Oe:(Adz.isDigit (Adz.peek L i) && c.nth==0)=false:=by
      cases hx:Adz.isDigit (Adz.peek L i) with
      | false=>simp
      | true=>
       have:¬c.nth=0:=fun e=>hd ⟨hx,e⟩;simpa using this
     simp only[if_neg hd,Oe,Bool.false_eq_true,if_false];refine⟨fun p i' h=> ?_,fun f h=>(by cases h)⟩;injection h with h;injection h with h3 h4;subst h4;exact⟨rfl,Nat.le_refl _,h2⟩
theorem lY {L pl:List Int} (hg:Good L) (i:Nat) (hi:i≤L.length) (q k:Int) (bJ:Adz.atAddress L i=true):
 (∀a i',Adz.address L pl i=.ok (a,i')→skip L (address L pl ⟨i,0,q,k⟩).2 false=⟨i',0,q,k⟩∧i<i'∧i'≤L.length∧Adz.isBlank (Adz.peek L i')=false)∧
 (∀f,Adz.address L pl i=.error f→Er (address L pl ⟨i,0,q,k⟩).2 f)∧(address L pl ⟨i,0,q,k⟩).1≠0:=by
 have hn:now L ⟨i,0,q,k⟩=Adz.peek L i:=rfl;unfold Adz.address address;simp only[bJ,Bool.not_true,Bool.false_eq_true,if_false,hn];by_cases hd:Adz.isDigit (Adz.peek L i)=true
 ·have hr:=Adz.digit_range hd
  have JP:(Adz.peek L i==36)=false:=by simp;omega
  have fs:(Adz.peek L i==47)=false:=by simp;omega
  simp only[hd,if_true,JP,fs,Bool.false_eq_true,if_false];have hm:=pI (L:=L) (pl:=pl) i hi q k
  cases hc:Adz.number L pl i with
  | error f=>
   have e1:=hm.2 _ hc;refine⟨fun p i' h=>(by cases h),fun f h=> ?_,by simp⟩;injection h with h;rw[←h];exact e1
  | ok x=>
   obtain⟨m,i1⟩:=x;obtain⟨a,b,c1,d⟩:=hm.1 _ _ hc;have aw:=Adz.number_lt hc hd;rw[a];refine⟨fun p i' h=> ?_,fun f h=>(by cases h),by simp⟩;injection h with h;injection h with h3 h4;subst h4;rw[cV];exact⟨rfl,by have:=Adz.blanks_le L i1;omega,dU _ c1,jk _ _⟩
 ·simp only[hd,Bool.false_eq_true,if_false]
  by_cases oR:Adz.peek L i=36
  ·have aw:=bD (L:=L) (i:=i) (by omega)
   simp only[oR,beq_self_eq_true,if_true];refine⟨fun p i' h=> ?_,fun f h=>(by cases h),by simp⟩;injection h with h;injection h with h3 h4;subst h4;rw[cV];exact⟨rfl,by have:=Adz.blanks_le L (i+1);omega,dU _ aw,jk _ _⟩
  ·have JP:(Adz.peek L i==36)=false:=by simpa using oR
   have bK:Adz.peek L i=47:=by
    unfold Adz.atAddress at bJ;simp only[JP,Bool.or_false] at bJ;have:Adz.isDigit (Adz.peek L i)=false:=by simpa using hd
    rw[this] at bJ;simpa using bJ
   have aw:=bD (L:=L) (i:=i) (by omega);simp only[bK,beq_self_eq_true,if_true,show ¬((47:Int)=36) by decide,if_false,show((47:Int)==36)=false by decide,Bool.false_eq_true];have hm:=yx (pl:=pl) hg (i+1) aw q k
   cases hc:Adz.patRead L pl (i+1) with
   | error f=>
    have e1:=hm.2 _ hc;refine⟨fun p i' h=>(by cases h),fun f h=> ?_,by simp⟩;injection h with h;rw[←h];exact e1
   | ok x=>
    obtain⟨p,i1⟩:=x;obtain⟨a,b,c1,d⟩:=hm.1 _ _ hc;rw[a];refine⟨fun p i' h=> ?_,fun f h=>(by cases h),by simp⟩;injection h with h;injection h with h3 h4;subst h4;rw[cV];exact⟨rfl,by have:=Adz.blanks_le L i1;omega,dU _ d,jk _ _⟩
theorem kh {L pl:List Int} (i:Nat) (q k:Int) (bJ:Adz.atAddress L i=false):address L pl ⟨i,0,q,k⟩=(0,⟨i,0,q,k⟩):=by
 have hn:now L ⟨i,0,q,k⟩=Adz.peek L i:=rfl;unfold Adz.atAddress at bJ;unfold address;rw[hn];simp only[Bool.or_eq_false_iff] at bJ;obtain⟨⟨h1,h2⟩,h3⟩:=bJ;rw[h1];have Fh:¬Adz.peek L i=36:=by simpa using h2
 have Gx:¬Adz.peek L i=47:=by simpa using h3
 simp only[Bool.false_eq_true,if_false,Fh,Gx]
theorem mP {L pl:List Int} (hg:Good L) (i:Nat) (hi:i≤L.length) (q k:Int):
 (∀i',Adz.tail L pl i=.ok i'→tailEnd L pl ⟨i,0,q,k⟩=⟨i',0,q,k⟩∧i≤i'∧i'≤L.length)∧
 (∀f,Adz.tail L pl i=.error f→Er (tailEnd L pl ⟨i,0,q,k⟩) f):=by
 have hl:=dU i hi;have hle:=Adz.blanks_le L i
 have hA:Adz.tail L pl i=if (Adz.peek L (Adz.blanks L i)==59 || Adz.peek L (Adz.blanks L i)==10 || Adz.peek L (Adz.blanks L i)==125 || Adz.peek L (Adz.blanks L i)== -1)=true then .ok (Adz.blanks L i) else .error (3,Adz.place pl (Adz.blanks L i)):=rfl
 have hT:tailEnd L pl ⟨i,0,q,k⟩=if 0≤Adz.peek L (Adz.blanks L i)∧Adz.peek L (Adz.blanks L i)≠59∧Adz.peek L (Adz.blanks L i)≠10∧Adz.peek L (Adz.blanks L i)≠125 then no pl ⟨Adz.blanks L i,0,q,k⟩ 3 (Adz.blanks L i) else ⟨Adz.blanks L i,0,q,k⟩:=by
  unfold tailEnd;rw[cV]
  rfl
 rw[hA,hT];generalize Adz.blanks L i=j at*
 by_cases hb:0≤Adz.peek L j∧Adz.peek L j≠59∧Adz.peek L j≠10∧Adz.peek L j≠125
 ·have dt:(Adz.peek L j==59 || Adz.peek L j==10 || Adz.peek L j==125 || Adz.peek L j== -1)=false:=by
   obtain⟨a,b,c,d⟩:=hb;have:¬Adz.peek L j= -1:=by omega
   simp[b,c,d,this]
  simp only[if_pos hb,dt,Bool.false_eq_true,if_false];refine⟨fun i' h=>(by cases h),fun f h=> ?_⟩;injection h with h;rw[←h];exact de rfl _ _ _ (by decide)
 ·have dt:(Adz.peek L j==59 || Adz.peek L j==10 || Adz.peek L j==125 || Adz.peek L j== -1)=true:=by
   simp only[Bool.or_eq_true,beq_iff_eq]
   rcases c8 hg j with ⟨h1,h2⟩ |⟨h1,h2⟩
   ·exact Or.inr h1
   ·omega
  simp only[if_neg hb,dt,if_true];refine⟨fun i' h=> ?_,fun f h=>(by cases h)⟩;injection h with h;subst h;exact⟨rfl,hle,hl⟩
theorem line_len {L:List Int} (i:Nat) (hi:i≤L.length):i+(Adz.lineOf L i).length≤L.length:=vD i hi _
theorem Cy {L pl:List Int} (hg:Good L) (c:Adz.Cmd) (i:Nat) (hi:i≤L.length) (q k:Int):
 (∀c' i',Adz.textOf L pl c i=.ok (c',i')→text L pl ⟨i,0,q,k⟩=⟨i',0,q,k⟩∧i≤i'∧i'≤L.length∧Adz.tail L pl i'=.ok i'∧c'.what=c.what)∧
 (∀f,Adz.textOf L pl c i=.error f→Er (text L pl ⟨i,0,q,k⟩) f):=by
 have yB:∀j,(Adz.peek L j=10∨Adz.peek L j= -1)→Adz.tail L pl j=.ok j:=by
  intro j h;unfold Adz.tail
  have hb:Adz.isBlank (Adz.peek L j)=false:=by rcases h with h | h <;> rw[h] <;> rfl
  rw[Adz.blanks_stop hb]
  rcases h with h | h <;> simp[h]
 have hA:Adz.textOf L pl c i=if (Adz.peek L i==10 || Adz.peek L i== -1)=true then .ok (c,i) else if (!Adz.isBlank (Adz.peek L i))=true then .error (3,Adz.place pl i) else .ok ({c with text:=Adz.enc (Adz.lineOf L (i+1))},i+1+(Adz.lineOf L (i+1)).length):=rfl
 have hT:∀s1,s1=(if 0≤Adz.peek L i∧Adz.peek L i≠32∧Adz.peek L i≠9∧Adz.peek L i≠10 then no pl ⟨i,0,q,k⟩ 3 i else ⟨i,0,q,k⟩)→text L pl ⟨i,0,q,k⟩=line L (if Adz.peek L i=32∨Adz.peek L i=9 then {s1 with i:=s1.i+1} else s1):=by
  intro s1 h;subst h
  rfl
 rw[hA];by_cases he:Adz.peek L i=10∨Adz.peek L i= -1
 ·have hb:(Adz.peek L i==10 || Adz.peek L i== -1)=true:=by simpa using he
  have hl:line L ⟨i,0,q,k⟩=⟨i,0,q,k⟩:=by
   unfold line Adz.lineOf;rw[if_pos rfl]
   rcases he with h | h
   ·rw[Adz.takeWhile_stop (by rw[h];rfl)]
    rfl
   ·rcases c8 hg i with ⟨h1,h2⟩ |⟨h1,h2⟩
    ·rw[List.drop_of_length_le h2]
     rfl
    ·omega
  rw[hT _ rfl,if_neg (show ¬(0≤Adz.peek L i∧Adz.peek L i≠32∧Adz.peek L i≠9∧Adz.peek L i≠10) by omega),if_neg (show ¬(Adz.peek L i=32∨Adz.peek L i=9) by omega),hl];simp only[hb,if_true];refine⟨fun c' i' h=> ?_,fun f h=>(by cases h)⟩;injection h with h;injection h with h3 h4;subst h3;subst h4;exact⟨rfl,Nat.le_refl _,hi,yB i he,rfl⟩
 ·have hb:(Adz.peek L i==10 || Adz.peek L i== -1)=false:=by
   have h1:¬Adz.peek L i=10:=fun e=>he (Or.inl e);have h2:¬Adz.peek L i= -1:=fun e=>he (Or.inr e);simp[h1,h2]
  simp only[hb,Bool.false_eq_true,if_false];have aw:=Adz.lt_of_peek (fun e=>he (Or.inr e));have h0:=hg i aw;by_cases lC:Adz.peek L i=32∨Adz.peek L i=9
  ·have Kq:Adz.isBlank (Adz.peek L i)=true:=by unfold Adz.isBlank;simpa using lC
   rw[hT _ rfl,if_neg (show ¬(0≤Adz.peek L i∧Adz.peek L i≠32∧Adz.peek L i≠9∧Adz.peek L i≠10) by omega),if_pos lC];simp only[Kq,Bool.not_true,Bool.false_eq_true,if_false];refine⟨fun c' i' h=> ?_,fun f h=>(by cases h)⟩;injection h with h;injection h with h3 h4;subst h3;subst h4;refine⟨?_,by omega,line_len (i+1) aw,yB _ ?_,rfl⟩
   ·unfold line
    rw[if_pos rfl]
   ·-- where the line ends
    have key:∀n j,L.length - j≤n→Adz.peek L (j+(Adz.lineOf L j).length)=10∨Adz.peek L (j+(Adz.lineOf L j).length)= -1:=by
     intro n
     induction n with
     | zero=>
      intro j h;right;exact Adz.peek_ge (by omega)
     | succ n ih=>
      intro j h;by_cases hj:j<L.length
      ·unfold Adz.lineOf
       rw[Adz.drop_peek hj,List.takeWhile_cons];by_cases dQ:Adz.peek L j=10
       ·left
        simp[dQ]
       ·have:(Adz.peek L j !=10)=true:=by simpa using dQ
        rw[if_pos this];have:=ih (j+1) (by omega);unfold Adz.lineOf at this;simp only[List.length_cons];rw[show j+(((L.drop (j+1)).takeWhile (fun r=>r !=10)).length+1)=j+1+((L.drop (j+1)).takeWhile (fun r=>r !=10)).length by omega];exact this
      ·right
       exact Adz.peek_ge (by omega)
    exact key _ (i+1) (Nat.le_refl _)
  ·have Kq:Adz.isBlank (Adz.peek L i)=false:=by
    unfold Adz.isBlank;have h1:¬Adz.peek L i=32:=fun e=>lC (Or.inl e);have h2:¬Adz.peek L i=9:=fun e=>lC (Or.inr e);simp[h1,h2]
   rw[hT _ rfl,if_neg lC,if_pos (show(0≤Adz.peek L i∧Adz.peek L i≠32∧Adz.peek L i≠9∧Adz.peek L i≠10) by omega)];simp only[Kq,Bool.not_false,if_true];have hE:=de (s:=⟨i,0,q,k⟩) rfl pl 3 i (by decide);rw[Ec hE.ne];refine⟨fun c' i' h=>(by cases h),fun f h=> ?_⟩;injection h with h;rw[←h];exact hE
end Rf
end
end Go.Proofs.YtbiobhghnldckaaGreatDoor
