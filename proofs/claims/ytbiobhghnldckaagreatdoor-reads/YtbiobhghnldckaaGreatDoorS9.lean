/- Proved: adzeref's reader of s and y, and its labels, answer as the program's do. Conditions: no rune is below 0. -/
import Derived.Test.YtbiobhghnldckaaGreatDoorS8
namespace Go.Proofs.YtbiobhghnldckaaGreatDoor
set_option linter.unusedVariables false
set_option maxRecDepth 100000
set_option maxHeartbeats 6400000
section
namespace Rf
open Adz (Flt)
theorem yp {L pl:List Int}{i:Nat}{q k c:Int} (h:Adz.peek L i=c):must L pl ⟨i,0,q,k⟩ c=⟨i+1,0,q,k⟩:=by
 unfold must;rw[eZ,if_pos h]
theorem yq {L pl:List Int}{i:Nat}{q k c:Int} (h:Adz.peek L i≠c):Er (must L pl ⟨i,0,q,k⟩ c) (3,Adz.place pl i):=by
 unfold must;rw[eZ,if_neg h];exact de rfl _ _ _ (by decide)
theorem It {L pl:List Int}{s:SS} (h:s.e≠0):(pat L pl s).s=s:=by
 unfold pat;rw[pattern_er (by exact h)]
theorem Ah {L pl:List Int} (hg:Good L) (c:Adz.Cmd) (h1:c.all=false) (h2:c.print=false) (h3:c.nth=0) (i:Nat) (hi:i≤L.length) (q k:Int):
 (∀c' i',Adz.substitution L pl c i=.ok (c',i')→subst L pl ⟨i,0,q,k⟩=⟨i',0,q,k⟩∧i≤i'∧i'≤L.length∧c'.what=c.what)∧
 (∀f,Adz.substitution L pl c i=.error f→Er (subst L pl ⟨i,0,q,k⟩) f):=by
 unfold Adz.substitution subst;by_cases bK:Adz.peek L i=47
 ·have aw:=bD (L:=L) (i:=i) (by omega)
  rw[yp bK];simp only[bK,bne_self_eq_false,Bool.false_eq_true,if_false];have hm:=yx (pl:=pl) hg (i+1) aw q k
  cases hc:Adz.patRead L pl (i+1) with
  | error f=>
   have e1:=hm.2 _ hc;refine⟨fun p i' h=>(by cases h),fun f h=> ?_⟩;injection h with h;rw[←h,replacement_er e1.ne,flags_er (by exact e1.ne)];exact e1
  | ok x=>
   obtain⟨p,i1⟩:=x;obtain⟨a,b,c1,d⟩:=hm.1 _ _ hc;simp only;rw[a,b];have hr:=iz (pl:=pl) hg q k (pat L pl ⟨i+1,0,q,k⟩).groups (L.length+1) [] i1 (by omega) d
   cases aL:Adz.replacement L pl ((pat L pl ⟨i+1,0,q,k⟩).groups:Int) (L.length+1) [] i1 with
   | error f=>
    have e1:=hr.2 _ aL;refine⟨fun p i' h=>(by cases h),fun f h=> ?_⟩;injection h with h;rw[←h,flags_er (by exact e1.ne)];exact e1
   | ok y=>
    obtain⟨r,i2⟩:=y;obtain⟨a2,b2,c2⟩:=hr.1 _ _ aL;simp only;rw[a2];have hf:=jo (pl:=pl) hg q k (L.length+1) {c with pat:=p,repl:=r} i2 (by omega) c2;have e:(⟨⟨i2,0,q,k⟩,false,false,0⟩:FgS)=⟨⟨i2,0,q,k⟩,c.all,c.print,c.nth⟩:=by rw[h1,h2,h3]
    rw[e];refine⟨fun c' i' h=> ?_,fun f h=>hf.2 f h⟩;obtain⟨a3,b3,c3⟩:=hf.1 c' i' h;have hw:=Adz.flags_same h;refine⟨a3,by omega,c3,?_⟩;rw[hw]
 ·have hE:=yq (L:=L) (pl:=pl) (i:=i) (q:=q) (k:=k) bK
  have fs:(Adz.peek L i !=47)=true:=by simpa using bK
  simp only[fs,if_true];refine⟨fun p i' h=>(by cases h),fun f h=> ?_⟩;injection h with h;have hp:=It (L:=L) (pl:=pl) hE.ne;rw[←h,hp,replacement_er hE.ne,flags_er (by exact hE.ne)];exact hE
theorem AX {L pl:List Int} (hg:Good L) (c:Adz.Cmd) (at_:Nat) (i:Nat) (hi:i≤L.length) (q k:Int):
 (∀c' i',Adz.exchange L pl c (Adz.place pl at_) i=.ok (c',i')→exch L pl at_ ⟨i,0,q,k⟩=⟨i',0,q,k⟩∧i≤i'∧i'≤L.length∧c'.what=c.what)∧
 (∀f,Adz.exchange L pl c (Adz.place pl at_) i=.error f→Er (exch L pl at_ ⟨i,0,q,k⟩) f):=by
 unfold Adz.exchange exch;by_cases bK:Adz.peek L i=47
 ·have aw:=bD (L:=L) (i:=i) (by omega)
  rw[yp bK];simp only[bK,bne_self_eq_false,Bool.false_eq_true,if_false];have hm:=lU (pl:=pl) hg q k (L.length+1) [] (i+1) (by omega) aw
  cases hc:Adz.side L pl (L.length+1) [] (i+1) with
  | error f=>
   have e1:=hm.2 _ hc;refine⟨fun p i' h=>(by cases h),fun f h=> ?_⟩;injection h with h;rw[←h,runes_er e1.ne];split
   ·exact e1.no _ _ _
   ·exact e1
  | ok x=>
   obtain⟨a,i1⟩:=x;obtain⟨a1,b1,c1⟩:=hm.1 _ _ hc;simp only;rw[a1];simp only;have hr:=lU (pl:=pl) hg q k (L.length+1) [] i1 (by omega) c1
   cases aL:Adz.side L pl (L.length+1) [] i1 with
   | error f=>
    have e1:=hr.2 _ aL;refine⟨fun p i' h=>(by cases h),fun f h=> ?_⟩;injection h with h;rw[←h];split
    ·exact e1.no _ _ _
    ·exact e1
   | ok y=>
    obtain⟨b,i2⟩:=y;obtain⟨a2,b2,c2⟩:=hr.1 _ _ aL;simp only;rw[a2];simp only;by_cases hb:Adz.hasTwice a=true∨a.length≠b.length
    ·have dt:(a.length !=b.length || Adz.hasTwice a)=true:=by
      rcases hb with h | h
      ·simp[h]
      ·simp[h]
     simp only[if_pos hb,dt,if_true];refine⟨fun p i' h=>(by cases h),fun f h=> ?_⟩;injection h with h;rw[←h];exact de rfl _ _ _ (by decide)
    ·have dt:(a.length !=b.length || Adz.hasTwice a)=false:=by
      have h1:Adz.hasTwice a=false:=by
       cases h:Adz.hasTwice a with
       | true=>exact absurd (Or.inl h) hb
       | false=>rfl
      have h2:a.length=b.length:=Decidable.byContradiction fun e=>hb (Or.inr e);simp[h1,h2]
     simp only[if_neg hb,dt,Bool.false_eq_true,if_false];refine⟨fun p i' h=> ?_,fun f h=>(by cases h)⟩;injection h with h;injection h with h3 h4;subst h3;subst h4;exact⟨rfl,by omega,c2,rfl⟩
 ·have hE:=yq (L:=L) (pl:=pl) (i:=i) (q:=q) (k:=k) bK
  have fs:(Adz.peek L i !=47)=true:=by simpa using bK
  simp only[fs,if_true];refine⟨fun p i' h=>(by cases h),fun f h=> ?_⟩;injection h with h;rw[←h,runes_er hE.ne];simp only;rw[runes_er hE.ne];split
  ·exact hE.no _ _ _
  ·exact hE
theorem fX {r:Int} (h:Adz.isLetter r=true):Adz.utf8 r= [UInt8.ofNat r.toNat]:=by
 have hr:97≤r∧r≤122:=by simpa[Adz.isLetter] using h
 unfold Adz.utf8 Go.Utf8.encode;have hv:Go.Utf8.valid r=true:=by simp[Go.Utf8.valid];omega
 simp only[hv,if_true];rw[if_pos (by omega)]
def tM (l:List Int):Prop:=∀c∈l,Adz.isLetter c=true
theorem xK:∀ {a b:List Int},tM a→tM b→Adz.enc a=Adz.enc b→a=b
 | [],[],_,_,_=>rfl
 | [],y::b,_,hb,h=>by
  unfold Adz.enc at h;rw[List.flatMap_cons,fX (hb y (List.mem_cons_self ..))] at h;simp at h
 | x::a,[],ha,_,h=>by
  unfold Adz.enc at h;rw[List.flatMap_cons,fX (ha x (List.mem_cons_self ..))] at h;simp at h
 | x::a,y::b,ha,hb,h=>by
  have hx:=ha x (List.mem_cons_self ..);have hy:=hb y (List.mem_cons_self ..);have hr:97≤x∧x≤122:=by simpa[Adz.isLetter] using hx
  have DZ:97≤y∧y≤122:=by simpa[Adz.isLetter] using hy
  unfold Adz.enc at h;rw[List.flatMap_cons,List.flatMap_cons,fX hx,fX hy] at h;simp only[List.cons_append,List.nil_append,List.cons.injEq] at h
  have e1:x=y:=by
   have:=congrArg UInt8.toNat h.1;simp[UInt8.toNat_ofNat'] at this;omega
  have e2:=xK (fun c hc=>ha c (List.mem_cons_of_mem _ hc)) (fun c hc=>hb c (List.mem_cons_of_mem _ hc)) h.2;rw[e1,e2]
theorem nY (L:List Int) (i:Nat):tM (Adz.lettersOf L i):=fun c hc=>xz _ c hc
theorem uS {L:List Int}{i:Nat} (h:Adz.isLetter (Adz.peek L i)=false):Adz.lettersOf L i= []:=Adz.takeWhile_stop h
theorem lK {L:List Int}{i:Nat} (h:Adz.isLetter (Adz.peek L i)=true):Adz.lettersOf L i≠ []:=by
 unfold Adz.lettersOf;rw[Adz.drop_peek (Adz.lt_of_letter h),List.takeWhile_cons,if_pos h];simp
theorem aY {al:List Adz.Lab}{x v:Adz.Lab}:v∈Adz.putLab al x↔v=x∨(v∈al∧v.name≠x.name):=by
 unfold Adz.putLab;by_cases h:al.any (fun y=>y.name==x.name)=true
 ·rw[if_pos h]
  simp only[List.mem_map];constructor
  ·rintro⟨y,hy,e⟩
   by_cases hn:y.name=x.name
   ·have:(y.name==x.name)=true:=by simp[hn]
    rw[if_pos this] at e;exact Or.inl e.symm
   ·have:¬(y.name==x.name)=true:=by simpa using hn
    rw[if_neg this] at e;subst e;exact Or.inr ⟨hy,hn⟩
  ·rintro(e |⟨e1,e2⟩)
   ·subst e
    obtain⟨y,hy,hn⟩:=List.any_eq_true.1 h;exact⟨y,hy,by rw[if_pos hn]⟩
   ·refine⟨v,e1,?_⟩
    have:¬(v.name==x.name)=true:=by simpa using e2
    rw[if_neg this]
 ·rw[if_neg h]
  simp only[List.mem_append,List.mem_singleton];constructor
  ·rintro(e | e)
   ·refine Or.inr ⟨e,fun hn=>h (List.any_eq_true.2 ⟨v,e,by simp[hn]⟩)⟩
   ·exact Or.inl e
  ·rintro(e |⟨e1,e2⟩)
   ·exact Or.inr e
   ·exact Or.inl e1
theorem cx (al:List Adz.Lab) (n:List UInt8):(Adz.useOf al n∈al∧(Adz.useOf al n).name=n)∨(Adz.useOf al n=⟨n, -1, -1⟩∧∀u∈al,u.name≠n):=by
 unfold Adz.useOf
 cases h:al.find? (fun x=>x.name==n) with
 | none=>
  right;refine⟨rfl,fun u hu e=> ?_⟩;have:=List.find?_eq_none.1 h u hu;exact this (by simp[e])
 | some x=>
  left;exact⟨List.mem_of_find?_eq_some h,by simpa using List.find?_some h⟩
structure LRel (pl:List Int) (i:Nat) (labs:List (List Int)) (jumps:List (List Int×Nat)) (al:List Adz.Lab):Prop where
 known:∀nm,tM nm→(nm∈labs↔∃u∈al,u.name=Adz.enc nm∧u.set≠ -1)
 j1:∀j∈jumps,j.1≠ []→∃u∈al,u.name=Adz.enc j.1∧0≤u.asked∧u.asked≤Adz.place pl j.2
 j2:∀u∈al,u.asked≠ -1∨u.set= -1→∃j∈jumps,j.1≠ []∧u.name=Adz.enc j.1∧u.asked=Adz.place pl j.2
 uniq:∀u∈al,∀v∈al,u.name=v.name→u=v
 lets:∀j∈jumps,tM j.1
 low:∀j∈jumps,j.2<i
 ord:jumps.Pairwise (fun a b=>a.2≤b.2)
theorem LRel.mono {pl:List Int}{i i':Nat}{labs:List (List Int)}{jumps:List (List Int×Nat)}{al:List Adz.Lab} (h:LRel pl i labs jumps al) (hi:i≤i'):LRel pl i' labs jumps al:=
 ⟨h.known,h.j1,h.j2,h.uniq,h.lets,fun j hj=>Nat.lt_of_lt_of_le (h.low j hj) hi,h.ord⟩
theorem LRel.use {pl:List Int}{i:Nat}{labs:List (List Int)}{jumps:List (List Int×Nat)}{al:List Adz.Lab} (h:LRel pl i labs jumps al) (nm:List Int) (hl:tM nm):nm∈labs↔(Adz.useOf al (Adz.enc nm)).set≠ -1:=by
 rw[h.known nm hl]
 rcases cx al (Adz.enc nm) with ⟨h1,h2⟩ |⟨h1,h2⟩
 ·constructor
  ·rintro⟨u,hu,e1,e2⟩
   have:=h.uniq _ h1 u hu (h2.trans e1.symm);rw[this];exact e2
  ·intro e
   exact⟨_,h1,h2,e⟩
 ·constructor
  ·rintro⟨u,hu,e1,e2⟩
   exact absurd e1 (h2 u hu)
  ·intro e
   rw[h1] at e;exact absurd rfl e
theorem LRel.set {pl:List Int}{i:Nat}{labs:List (List Int)}{jumps:List (List Int×Nat)}{al:List Adz.Lab} (h:LRel pl i labs jumps al) (nm:List Int) (hl:tM nm) (hs:(Adz.useOf al (Adz.enc nm)).set= -1) (n:Nat):
 LRel pl i (labs++ [nm]) jumps (Adz.putLab al {Adz.useOf al (Adz.enc nm) with set:=(n:Int)}):=by
 have hn:(Adz.useOf al (Adz.enc nm)).name=Adz.enc nm:=by
  rcases cx al (Adz.enc nm) with ⟨h1,h2⟩ |⟨h1,h2⟩
  ·exact h2
  ·rw[h1]
 refine⟨fun m hm=> ?_,fun j hj aJ=> ?_,fun u hu hx=> ?_,fun u hu v hv e=> ?_,h.lets,h.low,h.ord⟩
 ·rw[List.mem_append,List.mem_singleton,h.known m hm]
  constructor
  ·rintro(⟨u,hu,e1,e2⟩ | e)
   ·by_cases hc:Adz.enc m=Adz.enc nm
    ·exact⟨_,aY.2 (Or.inl rfl),by show(Adz.useOf al (Adz.enc nm)).name=_;rw[hn,hc],by show(n:Int)≠ -1;omega⟩
    ·exact⟨u,aY.2 (Or.inr ⟨hu,by show u.name≠(Adz.useOf al (Adz.enc nm)).name;rw[hn,e1];exact hc⟩),e1,e2⟩
   ·subst e
    exact⟨_,aY.2 (Or.inl rfl),by show(Adz.useOf al (Adz.enc m)).name=_;rw[hn],by show(n:Int)≠ -1;omega⟩
  ·rintro⟨u,hu,e1,e2⟩
   rcases aY.1 hu with e |⟨e3,e4⟩
   ·right
    subst e;have e5:(Adz.useOf al (Adz.enc nm)).name=Adz.enc m:=e1;exact xK hm hl (by rw[←e5,hn])
   ·left
    exact⟨u,e3,e1,e2⟩
 ·obtain⟨u,hu,e1,e2,e3⟩:=h.j1 j hj aJ
  by_cases hc:Adz.enc j.1=Adz.enc nm
  ·have hm:Adz.useOf al (Adz.enc nm)=u:=by
    rcases cx al (Adz.enc nm) with ⟨h1,h2⟩ |⟨h1,h2⟩
    ·exact h.uniq _ h1 u hu (by rw[h2,e1,hc])
    ·exact absurd (e1.trans hc) (h2 u hu)
   exact⟨_,aY.2 (Or.inl rfl),by show(Adz.useOf al (Adz.enc nm)).name=_;rw[hn,hc],by show 0≤(Adz.useOf al (Adz.enc nm)).asked;rw[hm];exact e2,by show(Adz.useOf al (Adz.enc nm)).asked≤_;rw[hm];exact e3⟩
  ·exact⟨u,aY.2 (Or.inr ⟨hu,by show u.name≠(Adz.useOf al (Adz.enc nm)).name;rw[hn,e1];exact hc⟩),e1,e2,e3⟩
 ·rcases aY.1 hu with e |⟨e3,e4⟩
  ·have ha:u.asked=(Adz.useOf al (Adz.enc nm)).asked:=by rw[e]
   have dp:u.set=(n:Int):=by rw[e]
   have dx:u.name=(Adz.useOf al (Adz.enc nm)).name:=by rw[e]
   have Bj:u.asked≠ -1:=by
    rcases hx with hx | hx
    ·exact hx
    ·omega
   rcases cx al (Adz.enc nm) with ⟨h1,h2⟩ |⟨h1,h2⟩
   ·obtain⟨j,hj,a,b,c⟩:=h.j2 _ h1 (Or.inl (by rw[←ha];exact Bj))
    exact⟨j,hj,a,by rw[dx];exact b,by rw[ha];exact c⟩
   ·rw[h1] at ha
    exact absurd ha Bj
  ·exact h.j2 u e3 hx
 ·rcases aY.1 hu with e1 |⟨e1,e2⟩ <;> rcases aY.1 hv with e3 |⟨e3,e4⟩
  ·rw[e1,e3]
  ·rw[e1] at e;exact absurd e.symm e4
  ·rw[e3] at e;exact absurd e e2
  ·exact h.uniq u e1 v e3 e
end Rf
namespace Rf
open Adz (Flt)
theorem LRel.ask {pl:List Int}{i i':Nat}{labs:List (List Int)}{jumps:List (List Int×Nat)}{al:List Adz.Lab} (h:LRel pl i labs jumps al) (nm:List Int) (hl:tM nm) (aJ:nm≠ []) (at_:Nat) (h1:i≤at_) (h2:at_<i') (hm:∀a,a≤at_→Adz.place pl a≤Adz.place pl at_) (At:0≤Adz.place pl at_):
 LRel pl i' labs (jumps++ [(nm,at_)]) (Adz.putLab al (if (Adz.useOf al (Adz.enc nm)).asked== -1 then {Adz.useOf al (Adz.enc nm) with asked:=Adz.place pl at_} else Adz.useOf al (Adz.enc nm))):=by
 have hn:(Adz.useOf al (Adz.enc nm)).name=Adz.enc nm:=by
  rcases cx al (Adz.enc nm) with ⟨h1,h2⟩ |⟨h1,h2⟩
  ·exact h2
  ·rw[h1]
 obtain⟨x,hx⟩:∃x,(if (Adz.useOf al (Adz.enc nm)).asked== -1 then {Adz.useOf al (Adz.enc nm) with asked:=Adz.place pl at_} else Adz.useOf al (Adz.enc nm))=x:=⟨_,rfl⟩;rw[hx]
 -- what the new label is
 have xn:x.name=Adz.enc nm:=by rw[←hx];split <;> exact hn
 have xs:x.set=(Adz.useOf al (Adz.enc nm)).set:=by rw[←hx];split <;> rfl
 have xa:0≤x.asked∧x.asked≤Adz.place pl at_∧∃j∈jumps++ [(nm,at_)],j.1≠ []∧x.name=Adz.enc j.1∧x.asked=Adz.place pl j.2:=by
  by_cases ha:(Adz.useOf al (Adz.enc nm)).asked= -1
  ·have:x.asked=Adz.place pl at_:=by rw[←hx,if_pos (by simp[ha])]
   exact⟨by omega,by omega,(nm,at_),by simp,aJ,xn,this⟩
  ·have FP:x=Adz.useOf al (Adz.enc nm):=by rw[←hx,if_neg (by simpa using ha)]
   rcases cx al (Adz.enc nm) with ⟨g1,g2⟩ |⟨g1,g2⟩
   ·obtain⟨j,hj,a,b,c⟩:=h.j2 _ g1 (Or.inl ha)
    obtain⟨u,hu,e1,e2,e3⟩:=h.j1 j hj a;have Vg:u=Adz.useOf al (Adz.enc nm):=h.uniq u hu _ g1 (by rw[e1,b]);have DQ:=h.low j hj;have:=hm j.2 (by omega);refine⟨by rw[FP,←Vg];exact e2,by rw[FP,c];exact this,j,by simp[hj],a,by rw[FP];exact b,by rw[FP];exact c⟩
   ·rw[g1] at ha
    exact absurd rfl ha
 have xk:∀u∈al,u.name=Adz.enc nm→u.set=x.set:=by
  intro u hu e;rw[xs]
  rcases cx al (Adz.enc nm) with ⟨g1,g2⟩ |⟨g1,g2⟩
  ·rw[h.uniq u hu _ g1 (by rw[e,g2])]
  ·exact absurd e (g2 u hu)
 refine⟨fun m G8=> ?_,fun j hj OI=> ?_,fun u hu Hu=> ?_,fun u hu v hv e=> ?_,?_,?_,List.pairwise_append.2 ⟨h.ord,List.pairwise_singleton _ _,fun a ha b hb=>by rw[List.mem_singleton] at hb;subst hb;have:=h.low a ha;show a.2≤at_;omega⟩⟩
 ·rw[h.known m G8]
  constructor
  ·rintro⟨u,hu,e1,e2⟩
   by_cases hc:u.name=x.name
   ·refine⟨x,aY.2 (Or.inl rfl),by rw[←hc];exact e1,?_⟩
    rw[←xk u hu (hc.trans xn)];exact e2
   ·exact⟨u,aY.2 (Or.inr ⟨hu,hc⟩),e1,e2⟩
  ·rintro⟨u,hu,e1,e2⟩
   rcases aY.1 hu with e |⟨e3,e4⟩
   ·subst e
    rcases cx al (Adz.enc nm) with ⟨g1,g2⟩ |⟨g1,g2⟩
    ·exact⟨_,g1,by rw[g2,←xn];exact e1,by rw[←xs];exact e2⟩
    ·rw[xs,g1] at e2
     exact absurd rfl e2
   ·exact⟨u,e3,e1,e2⟩
 ·rcases List.mem_append.1 hj with hj | hj
  ·obtain⟨u,hu,e1,e2,e3⟩:=h.j1 j hj OI
   by_cases hc:u.name=x.name
   ·refine⟨x,aY.2 (Or.inl rfl),by rw[←hc];exact e1,xa.1,?_⟩
    -- the label was asked for before: it stays
    have ha:¬(Adz.useOf al (Adz.enc nm)).asked= -1:=by
     rcases cx al (Adz.enc nm) with ⟨g1,g2⟩ |⟨g1,g2⟩
     ·rw[←h.uniq u hu _ g1 (by rw[hc,xn,g2])];omega
     ·exact absurd (hc.trans xn) (g2 u hu)
    have FP:x=Adz.useOf al (Adz.enc nm):=by rw[←hx,if_neg (by simpa using ha)]
    rcases cx al (Adz.enc nm) with ⟨g1,g2⟩ |⟨g1,g2⟩
    ·rw[FP,←h.uniq u hu _ g1 (by rw[hc,xn,g2])];exact e3
    ·exact absurd (hc.trans xn) (g2 u hu)
   ·exact⟨u,aY.2 (Or.inr ⟨hu,hc⟩),e1,e2,e3⟩
  ·rw[List.mem_singleton] at hj
   subst hj;exact⟨x,aY.2 (Or.inl rfl),xn,xa.1,xa.2.1⟩
 ·rcases aY.1 hu with e |⟨e3,e4⟩
  ·subst e
   exact xa.2.2
  ·obtain⟨j,hj,a,b,c⟩:=h.j2 u e3 Hu
   exact⟨j,by simp[hj],a,b,c⟩
 ·rcases aY.1 hu with e1 |⟨e1,e2⟩ <;> rcases aY.1 hv with e3 |⟨e3,e4⟩
  ·rw[e1,e3]
  ·rw[e1] at e;exact absurd e.symm e4
  ·rw[e3] at e;exact absurd e e2
  ·exact h.uniq u e1 v e3 e
 ·intro j hj
  rcases List.mem_append.1 hj with hj | hj
  ·exact h.lets j hj
  ·rw[List.mem_singleton] at hj
   subst hj;exact hl
 ·intro j hj
  rcases List.mem_append.1 hj with hj | hj
  ·have:=h.low j hj;omega
  ·rw[List.mem_singleton] at hj
   subst hj;exact h2
theorem LRel.bare {pl:List Int}{i i':Nat}{labs:List (List Int)}{jumps:List (List Int×Nat)}{al:List Adz.Lab} (h:LRel pl i labs jumps al) (at_:Nat) (h1:i≤at_) (h2:at_<i'):
 LRel pl i' labs (jumps++ [([],at_)]) al:=by
 refine⟨h.known,fun j hj aJ=> ?_,fun u hu hx=> ?_,h.uniq,fun j hj=> ?_,fun j hj=> ?_,List.pairwise_append.2 ⟨h.ord,List.pairwise_singleton _ _,fun a ha b hb=>by rw[List.mem_singleton] at hb;subst hb;have:=h.low a ha;show a.2≤at_;omega⟩⟩
 ·rcases List.mem_append.1 hj with hj | hj
  ·exact h.j1 j hj aJ
  ·rw[List.mem_singleton] at hj
   subst hj;exact absurd rfl aJ
 ·obtain⟨j,hj,a⟩:=h.j2 u hu hx
  exact⟨j,by simp[hj],a⟩
 ·rcases List.mem_append.1 hj with hj | hj
  ·exact h.lets j hj
  ·rw[List.mem_singleton] at hj
   subst hj;intro c hc
   cases hc
 ·rcases List.mem_append.1 hj with hj | hj
  ·have:=h.low j hj;omega
  ·rw[List.mem_singleton] at hj
   subst hj;exact h2
def headRest (L pl:List Int) (nest:Nat) (a:Int) (s2:SS):Hd:=
 let n:=take L s2 33
 let s3:=skip L n.2 false
 let c:=next L pl s3
 let s4:=if whats.contains c.1=false∨(c.1=58∧(a≠0∨n.1=true)) then no pl c.2 3 s3.i else c.2
 let s5:=if 40≤s4.count then no pl s4 5 s3.i else s4
 ⟨c.1,s3.i,if c.1=123∧5≤nest then no pl s5 6 s3.i else s5⟩
theorem head_eq (L pl:List Int) (nest:Nat) (s:SS):head L pl nest s=headRest L pl nest (address L pl s).1 (if (address L pl s).1=0 then skip L (address L pl s).2 false else second L pl (skip L (address L pl s).2 false)):=rfl
theorem uy {L pl:List Int}{nest:Nat}{a:Int}{s:SS} (h:s.e≠0):(headRest L pl nest a s).s=s:=by
 unfold headRest;simp only;rw[yC h (by decide)];simp only;rw[kU h,En h];simp only
 have e1:(if whats.contains (-1:Int)=false∨((-1:Int)=58∧(a≠0∨false=true)) then no pl s 3 s.i else s)=s:=by
  split
  ·exact mB h
  ·rfl
 rw[e1]
 have e2:(if 40≤s.count then no pl s 5 s.i else s)=s:=by
  split
  ·exact mB h
  ·rfl
 rw[e2];rw[if_neg (fun h=>absurd h.1 (by decide))]
theorem Ab {L pl:List Int}{s:SS} (h:s.e≠0):second L pl s=s:=by
 unfold second;rw[pH h,if_neg (by decide)]
theorem kind_of:∀c∈whats,(c=123∧Adz.behindKind c=some 1)∨((c=97∨c=99∨c=105)∧Adz.behindKind c=some 2)∨(c=58∧Adz.behindKind c=some 3)∨((c=98∨c=116)∧Adz.behindKind c=some 4)∨(c=115∧Adz.behindKind c=some 5)∨(c=121∧Adz.behindKind c=some 6)∨
 ((c≠123∧c≠97∧c≠99∧c≠105∧c≠58∧c≠98∧c≠116∧c≠115∧c≠121)∧Adz.behindKind c=some 0):=by decide
theorem lJ {c:Int} (h:¬c∈whats):Adz.behindKind c=none:=by
 unfold Adz.behindKind;rw[Option.map_eq_none_iff,List.find?_eq_none];intro p hp e;have:∀p∈Adz.behTable,p.1∈whats:=by decide
 have e2:c=p.1:=by simpa using e
 exact h (by rw[e2];exact this p hp)
theorem sk {L pl:List Int} (hg:Good L) (nest:Nat) (a:Int) (Xj:List Adz.Ad) (has:(a≠0)↔Xj≠ []) (i:Nat) (hi:i≤L.length) (zw:Adz.isBlank (Adz.peek L i)=false) (q:Int) (ps:Adz.Ps) (ho:ps.opens.length=nest) (CX:nest≤5) (Kt:ps.cmds.length≤40):
 ∃c i1,(if Adz.peek L i==33 then (Except.ok ({addrs:=Xj,neg:=true},Adz.blanks L (i+1)):Except Flt (Adz.Cmd×Nat)) else .ok ({addrs:=Xj},i))=.ok (c,i1)∧i≤i1∧
  (∀c2 i2,Adz.what L pl ps c i1=.ok (c2,i2)→headRest L pl nest a ⟨i,0,q,(ps.cmds.length:Int)⟩=⟨c2.what,i1,⟨i2,0,q,(ps.cmds.length:Int)⟩⟩∧i2=i1+1∧i2≤L.length∧c2.what∈whats∧c2.all=false∧c2.print=false∧c2.nth=0∧ps.cmds.length<40∧(c2.what=123→nest<5))∧
  (∀f,Adz.what L pl ps c i1=.error f→Er (headRest L pl nest a ⟨i,0,q,(ps.cmds.length:Int)⟩).s f):=by
 -- the rest, once the place of the what is known
 have key:∀(neg:Bool) (i1:Nat),i1≤L.length→take L ⟨i,0,q,(ps.cmds.length:Int)⟩ 33=(neg,⟨if neg then i+1 else i,0,q,(ps.cmds.length:Int)⟩)→Adz.blanks L (if neg then i+1 else i)=i1→
  (∀c2 i2,Adz.what L pl ps {addrs:=Xj,neg:=neg} i1=.ok (c2,i2)→headRest L pl nest a ⟨i,0,q,(ps.cmds.length:Int)⟩=⟨c2.what,i1,⟨i2,0,q,(ps.cmds.length:Int)⟩⟩∧i2=i1+1∧i2≤L.length∧c2.what∈whats∧c2.all=false∧c2.print=false∧c2.nth=0∧ps.cmds.length<40∧(c2.what=123→nest<5))∧
  (∀f,Adz.what L pl ps {addrs:=Xj,neg:=neg} i1=.error f→Er (headRest L pl nest a ⟨i,0,q,(ps.cmds.length:Int)⟩).s f):=by
  intro neg i1 uA ht hb
  have hR:headRest L pl nest a ⟨i,0,q,(ps.cmds.length:Int)⟩=
   (let c:=next L pl ⟨i1,0,q,(ps.cmds.length:Int)⟩
    let s4:=if whats.contains c.1=false∨(c.1=58∧(a≠0∨neg=true)) then no pl c.2 3 i1 else c.2
    let s5:=if 40≤s4.count then no pl s4 5 i1 else s4
    (⟨c.1,i1,if c.1=123∧5≤nest then no pl s5 6 i1 else s5⟩:Hd)):=by
   unfold headRest;rw[ht];simp only;rw[cV,hb]
  rw[hR]
  rcases c8 hg i1 with ⟨h1,h2⟩ |⟨h1,h2⟩
  ·rw[iX h1]
   have hk:Adz.behindKind (Adz.peek L i1)=none:=lJ (by rw[h1];decide);unfold Adz.what;rw[hk];refine⟨fun c2 i2 h=>(by cases h),fun f h=> ?_⟩;injection h with h;rw[←h];have hE:Er (⟨i1,3,Adz.place pl i1,(ps.cmds.length:Int)⟩:SS) (3,Adz.place pl i1):=⟨rfl,rfl,(show(3:Int)≠0 by decide)⟩;simp only;rw[if_pos (Or.inl (by decide)),mB hE.ne]
   have e2:(if 40≤(⟨i1,3,Adz.place pl i1,(ps.cmds.length:Int)⟩:SS).count then no pl (⟨i1,3,Adz.place pl i1,(ps.cmds.length:Int)⟩:SS) 5 i1 else ⟨i1,3,Adz.place pl i1,(ps.cmds.length:Int)⟩)=⟨i1,3,Adz.place pl i1,(ps.cmds.length:Int)⟩:=by
    split
    ·exact mB hE.ne
    ·rfl
   rw[e2,if_neg (fun h=>absurd h.1 (by decide))];exact hE
  ·rw[kL h1]
   simp only;generalize jq:Adz.peek L i1=c at*
   by_cases hw:c∈whats
   ·have eH:whats.contains c=true:=by simpa using hw
    -- the form of what is wrong with a label
    by_cases IL:c=58∧(a≠0∨neg=true)
    ·rw[if_pos (Or.inr IL)]
     have hE:=de (s:=⟨i1+1,0,q,(ps.cmds.length:Int)⟩) rfl pl 3 i1 (by decide);have hk:Adz.behindKind c=some 3:=by rw[IL.1];decide
     unfold Adz.what;rw[jq,hk]
     have iu:((3:Int)==3 && !(Xj.isEmpty && !neg))=true:=by
      rcases IL.2 with h | h
      ·have:=has.1 h
       cases Xj with
       | nil=>exact absurd rfl this
       | cons=>rfl
      ·rw[h];simp
     simp only[iu,if_true];refine⟨fun c2 i2 h=>(by cases h),fun f h=> ?_⟩;injection h with h;rw[←h]
     have e2:(if 40≤(no pl (⟨i1+1,0,q,(ps.cmds.length:Int)⟩:SS) 3 i1).count then no pl (no pl (⟨i1+1,0,q,(ps.cmds.length:Int)⟩:SS) 3 i1) 5 i1 else no pl (⟨i1+1,0,q,(ps.cmds.length:Int)⟩:SS) 3 i1)=no pl (⟨i1+1,0,q,(ps.cmds.length:Int)⟩:SS) 3 i1:=by
      split
      ·exact mB hE.ne
      ·rfl
     rw[e2];split
     ·exact hE.no _ _ _
     ·exact hE
    ·have eO:¬(whats.contains c=false∨(c=58∧(a≠0∨neg=true))):=by
      rintro(h | h)
      ·rw[eH] at h;cases h
      ·exact IL h
     rw[if_neg eO];simp only
     obtain⟨kk,DO,qd,mj⟩:∃kk,Adz.behindKind c=some kk∧((kk==3)=true↔c=58)∧((kk==1)=true↔c=123):=by
      rcases kind_of c hw with ⟨e,k⟩ |⟨e,k⟩ |⟨e,k⟩ |⟨e,k⟩ |⟨e,k⟩ |⟨e,k⟩ |⟨e,k⟩
      ·exact⟨1,k,by subst e;decide,by subst e;decide⟩
      ·exact⟨2,k,by rcases e with e | e | e <;> subst e <;> decide,by rcases e with e | e | e <;> subst e <;> decide⟩
      ·exact⟨3,k,by subst e;decide,by subst e;decide⟩
      ·exact⟨4,k,by rcases e with e | e <;> subst e <;> decide,by rcases e with e | e <;> subst e <;> decide⟩
      ·exact⟨5,k,by subst e;decide,by subst e;decide⟩
      ·exact⟨6,k,by subst e;decide,by subst e;decide⟩
      ·refine⟨0,k,⟨fun h=>(by cases h),fun h=>absurd h e.2.2.2.2.1⟩,⟨fun h=>(by cases h),fun h=>absurd h e.1⟩⟩
     unfold Adz.what;rw[jq,DO]
     have iu:(kk==3 && !(Xj.isEmpty && !neg))=false:=by
      cases h3:(kk==3) with
      | false=>rfl
      | true=>
       have Ku:=qd.1 h3;have Ug:¬a≠0:=fun h=>IL ⟨Ku,Or.inl h⟩
       have pd:neg=false:=by
        cases neg with
        | false=>rfl
        | true=>exact absurd ⟨Ku,Or.inr rfl⟩ IL
       have Oc:Xj= []:=Decidable.byContradiction fun h=>Ug (has.2 h);rw[Oc,pd]
       rfl
     simp only[iu,Bool.false_eq_true,if_false];by_cases mg:ps.cmds.length=40
     ·have GK:(ps.cmds.length==40)=true:=by simp[mg]
      simp only[GK,if_true];rw[if_pos (show(40:Int)≤(ps.cmds.length:Int) by omega)];have hE:=de (s:=⟨i1+1,0,q,(ps.cmds.length:Int)⟩) rfl pl 5 i1 (by decide);refine⟨fun c2 i2 h=>(by cases h),fun f h=> ?_⟩;injection h with h;rw[←h];split
      ·exact hE.no _ _ _
      ·exact hE
     ·have GK:(ps.cmds.length==40)=false:=by simpa using mg
      simp only[GK,Bool.false_eq_true,if_false];rw[if_neg (show ¬(40:Int)≤(ps.cmds.length:Int) by omega)];by_cases bU:c=123∧5≤nest
      ·have hb:(kk==1 && ps.opens.length==5)=true:=by
        rw[mj.2 bU.1];simp;omega
       simp only[hb,if_true];rw[if_pos bU];have hE:=de (s:=⟨i1+1,0,q,(ps.cmds.length:Int)⟩) rfl pl 6 i1 (by decide);refine⟨fun c2 i2 h=>(by cases h),fun f h=> ?_⟩;injection h with h;rw[←h];exact hE
      ·have hb:(kk==1 && ps.opens.length==5)=false:=by
        cases hk:(kk==1) with
        | false=>rfl
        | true=>
         have:=mj.1 hk;have:¬5≤nest:=fun h=>bU ⟨this,h⟩;simp;omega
       simp only[hb,Bool.false_eq_true,if_false];rw[if_neg bU];refine⟨fun c2 i2 h=> ?_,fun f h=>(by cases h)⟩;injection h with h;injection h with h3 h4;subst h3;subst h4;refine⟨rfl,rfl,h2,hw,rfl,rfl,rfl,by omega,fun e=> ?_⟩;have e':c=123:=e;have:¬5≤nest:=fun h=>bU ⟨e',h⟩;omega
   ·have eH:whats.contains c=false:=by simpa using hw
    rw[if_pos (Or.inl eH)];have hE:=de (s:=⟨i1+1,0,q,(ps.cmds.length:Int)⟩) rfl pl 3 i1 (by decide);unfold Adz.what;rw[jq,lJ hw];refine⟨fun c2 i2 h=>(by cases h),fun f h=> ?_⟩;injection h with h;rw[←h]
    have e2:(if 40≤(no pl (⟨i1+1,0,q,(ps.cmds.length:Int)⟩:SS) 3 i1).count then no pl (no pl (⟨i1+1,0,q,(ps.cmds.length:Int)⟩:SS) 3 i1) 5 i1 else no pl (⟨i1+1,0,q,(ps.cmds.length:Int)⟩:SS) 3 i1)=no pl (⟨i1+1,0,q,(ps.cmds.length:Int)⟩:SS) 3 i1:=by
     split
     ·exact mB hE.ne
     ·rfl
    rw[e2];split
    ·exact hE.no _ _ _
    ·exact hE
 by_cases um:Adz.peek L i=33
 ·have aw:=bD (L:=L) (i:=i) (by omega)
  refine⟨_,_,by rw[if_pos (by simp[um])],by have:=Adz.blanks_le L (i+1);omega,?_⟩;exact key true _ (dU _ aw) (tw um) rfl
 ·refine⟨_,_,by rw[if_neg (by simpa using um)],Nat.le_refl _,?_⟩
  exact key false i hi (pW um) (Adz.blanks_stop zw)
end Rf
namespace Rf
open Adz (Flt)
theorem Bt {L pl:List Int} (hg:Good L) (nest:Nat) (i:Nat) (hi:i≤L.length) (zw:Adz.isBlank (Adz.peek L i)=false) (q:Int) (ps:Adz.Ps) (ho:ps.opens.length=nest) (CX:nest≤5) (Kt:ps.cmds.length≤40):
 (∀c i1 c2 i2,Adz.head L pl i=.ok (c,i1)→Adz.what L pl ps c i1=.ok (c2,i2)→head L pl nest ⟨i,0,q,(ps.cmds.length:Int)⟩=⟨c2.what,i1,⟨i2,0,q,(ps.cmds.length:Int)⟩⟩∧i≤i1∧i2=i1+1∧i2≤L.length∧c2.what∈whats∧c2.all=false∧c2.print=false∧c2.nth=0∧ps.cmds.length<40∧(c2.what=123→nest<5))∧
 (∀f,Adz.head L pl i=.error f→Er (head L pl nest ⟨i,0,q,(ps.cmds.length:Int)⟩).s f)∧
 (∀c i1 f,Adz.head L pl i=.ok (c,i1)→Adz.what L pl ps c i1=.error f→Er (head L pl nest ⟨i,0,q,(ps.cmds.length:Int)⟩).s f):=by
 rw[head_eq]
 -- the addresses are read
 have key:∀(a:Int) (Xj:List Adz.Ad) (j:Nat),(if Adz.atAddress L i then Adz.addresses L pl i else .ok ([],i))=.ok (Xj,j)→((a≠0)↔Xj≠ [])→i≤j→j≤L.length→Adz.isBlank (Adz.peek L j)=false→
  (∀c i1 c2 i2,Adz.head L pl i=.ok (c,i1)→Adz.what L pl ps c i1=.ok (c2,i2)→headRest L pl nest a ⟨j,0,q,(ps.cmds.length:Int)⟩=⟨c2.what,i1,⟨i2,0,q,(ps.cmds.length:Int)⟩⟩∧i≤i1∧i2=i1+1∧i2≤L.length∧c2.what∈whats∧c2.all=false∧c2.print=false∧c2.nth=0∧ps.cmds.length<40∧(c2.what=123→nest<5))∧
  (∀f,Adz.head L pl i=.error f→Er (headRest L pl nest a ⟨j,0,q,(ps.cmds.length:Int)⟩).s f)∧
  (∀c i1 f,Adz.head L pl i=.ok (c,i1)→Adz.what L pl ps c i1=.error f→Er (headRest L pl nest a ⟨j,0,q,(ps.cmds.length:Int)⟩).s f):=by
  intro a Xj j hA has IY hj Rz;obtain⟨c,i1,e1,e2,e3,e4⟩:=sk (pl:=pl) hg nest a Xj has j hj Rz q ps ho CX Kt
  have hH:Adz.head L pl i=.ok (c,i1):=by
   unfold Adz.head;rw[hA];exact e1
  rw[hH];refine⟨fun c' Pv c2 i2 h hw=> ?_,fun f h=>(by cases h),fun c' Pv f h hw=> ?_⟩
  ·injection h with h
   injection h with h1 h2;subst h1;subst h2;obtain⟨a1,a2⟩:=e3 c2 i2 hw;exact⟨a1,by omega,a2⟩
  ·injection h with h
   injection h with h1 h2;subst h1;subst h2;exact e4 f hw
 have bad:∀(a:Int) (s:SS) (f:Flt),Er s f→(if Adz.atAddress L i then Adz.addresses L pl i else .ok ([],i))=.error f→
  (∀c i1 c2 i2,Adz.head L pl i=.ok (c,i1)→Adz.what L pl ps c i1=.ok (c2,i2)→headRest L pl nest a s=⟨c2.what,i1,⟨i2,0,q,(ps.cmds.length:Int)⟩⟩∧i≤i1∧i2=i1+1∧i2≤L.length∧c2.what∈whats∧c2.all=false∧c2.print=false∧c2.nth=0∧ps.cmds.length<40∧(c2.what=123→nest<5))∧
  (∀f,Adz.head L pl i=.error f→Er (headRest L pl nest a s).s f)∧
  (∀c i1 f,Adz.head L pl i=.ok (c,i1)→Adz.what L pl ps c i1=.error f→Er (headRest L pl nest a s).s f):=by
  intro a s f hE hA
  have hH:Adz.head L pl i=.error f:=by
   unfold Adz.head;rw[hA]
  rw[hH];refine⟨fun c' Pv c2 i2 h hw=>(by cases h),fun f h=> ?_,fun c' Pv f h hw=>(by cases h)⟩;injection h with h;rw[uy hE.ne,←h];exact hE
 cases bJ:Adz.atAddress L i with
 | false=>
  rw[bJ] at key;rw[kh i q _ bJ];simp only[if_true];rw[cV,Adz.blanks_stop zw];exact key 0 [] i rfl (by simp) (Nat.le_refl _) hi zw
 | true=>
  rw[bJ] at key bad;simp only[if_true] at key bad;obtain⟨f1,f2,f3⟩:=lY (pl:=pl) hg i hi q (ps.cmds.length:Int) bJ;rw[if_neg f3]
  cases hc:Adz.address L pl i with
  | error f=>
   have hE:=f2 f hc;rw[kU hE.ne,Ab hE.ne];refine bad _ _ f hE ?_;unfold Adz.addresses;rw[hc]
  | ok x=>
   obtain⟨ad,i1⟩:=x;obtain⟨a1,a2,a3,a4⟩:=f1 _ _ hc;rw[a1];unfold second;rw[eZ];by_cases mV:Adz.peek L i1=44
   ·have aw:=bD (L:=L) (i:=i1) (by omega)
    rw[if_pos mV];simp only;rw[cV];have mi:=dU (L:=L) (i1+1) aw;have Rz:=jk L (i1+1);have UB:=Adz.blanks_le L (i1+1)
    have J9:Adz.addresses L pl i=(match Adz.address L pl (Adz.blanks L (i1+1)) with
     | .error f=> .error f
     | .ok (b,i2)=> .ok ([ad,b],i2)):=by
     unfold Adz.addresses;rw[hc];simp only[mV,beq_self_eq_true,if_true]
     cases Adz.address L pl (Adz.blanks L (i1+1)) with
     | error=>rfl
     | ok=>rfl
    cases bH:Adz.atAddress L (Adz.blanks L (i1+1)) with
    | false=>
     rw[kh _ q _ bH];simp only[if_true];have hE:=de (s:=⟨Adz.blanks L (i1+1),0,q,(ps.cmds.length:Int)⟩) rfl pl 3 (Adz.blanks L (i1+1)) (by decide);rw[kU hE.ne];refine bad _ _ _ hE ?_;rw[J9];unfold Adz.address;rw[bH]
     rfl
    | true=>
     obtain⟨g1,g2,g3⟩:=lY (pl:=pl) hg (Adz.blanks L (i1+1)) mi q (ps.cmds.length:Int) bH;rw[if_neg g3]
     cases aL:Adz.address L pl (Adz.blanks L (i1+1)) with
     | error f=>
      have hE:=g2 f aL;rw[kU hE.ne];refine bad _ _ f hE ?_;rw[J9,aL]
     | ok y=>
      obtain⟨b,i2⟩:=y;obtain⟨b1,b2,b3,b4⟩:=g1 _ _ aL;rw[b1];exact key _ [ad,b] i2 (by rw[J9,aL]) ⟨fun _=>by simp,fun _=>f3⟩ (by omega) b3 b4
   ·rw[if_neg mV]
    refine key _ [ad] i1 ?_ ⟨fun _=>by simp,fun _=>f3⟩ (by omega) a3 a4;unfold Adz.addresses;rw[hc];have Tp:(Adz.peek L i1==44)=false:=by simpa using mV
    simp only[Tp,Bool.false_eq_true,if_false]
theorem wk {L pl:List Int} (hg:Good L) (G9:∀a b,a≤b→b≤L.length→Adz.place pl a≤Adz.place pl b) (At:∀a,0≤Adz.place pl a) (ps:Adz.Ps) (c:Adz.Cmd) (hw:c.what∈whats) (bU:c.what≠123) (qq:c.all=false) (jT:c.print=false) (xX:c.nth=0) (i0 at_ i2:Nat) (h0:i0≤at_) (uB:at_<i2) (hi:i2≤L.length) (q k:Int) (labs:List (List Int)) (jumps:List (List Int×Nat)) (hR:LRel pl i0 labs jumps ps.labs):
 (∀c3 os ls i3 i4,Adz.behind L pl ps c (Adz.place pl at_) i2=.ok (c3,os,ls,i3)→Adz.tail L pl i3=.ok i4→(behind L pl c.what at_ ⟨⟨i2,0,q,k⟩,labs,jumps⟩).s=⟨i4,0,q,k⟩∧LRel pl i4 (behind L pl c.what at_ ⟨⟨i2,0,q,k⟩,labs,jumps⟩).labs (behind L pl c.what at_ ⟨⟨i2,0,q,k⟩,labs,jumps⟩).jumps ls∧os=ps.opens∧i2≤i4∧i4≤L.length∧c3.what=c.what)∧
 (∀f,Adz.behind L pl ps c (Adz.place pl at_) i2=.error f→Er (behind L pl c.what at_ ⟨⟨i2,0,q,k⟩,labs,jumps⟩).s f)∧
 (∀c3 os ls i3 f,Adz.behind L pl ps c (Adz.place pl at_) i2=.ok (c3,os,ls,i3)→Adz.tail L pl i3=.error f→Er (behind L pl c.what at_ ⟨⟨i2,0,q,k⟩,labs,jumps⟩).s f):=by
 have jB:LRel pl i2 labs jumps ps.labs:=hR.mono (by omega)
 -- where what is behind is read by a plain function of the Scan, and the labels stay
 have bV:∀(r1:RS),behind L pl c.what at_ ⟨⟨i2,0,q,k⟩,labs,jumps⟩= {r1 with s:=tailEnd L pl r1.s}→∀(X:Except Flt (Adz.Cmd×List Int×List Adz.Lab×Nat)),Adz.behind L pl ps c (Adz.place pl at_) i2=X→
  (∀c3 os ls i3,X=.ok (c3,os,ls,i3)→r1.s=⟨i3,0,q,k⟩∧LRel pl i3 r1.labs r1.jumps ls∧os=ps.opens∧i2≤i3∧i3≤L.length∧c3.what=c.what)→(∀f,X=.error f→Er r1.s f)→
  (∀c3 os ls i3 i4,Adz.behind L pl ps c (Adz.place pl at_) i2=.ok (c3,os,ls,i3)→Adz.tail L pl i3=.ok i4→(behind L pl c.what at_ ⟨⟨i2,0,q,k⟩,labs,jumps⟩).s=⟨i4,0,q,k⟩∧LRel pl i4 (behind L pl c.what at_ ⟨⟨i2,0,q,k⟩,labs,jumps⟩).labs (behind L pl c.what at_ ⟨⟨i2,0,q,k⟩,labs,jumps⟩).jumps ls∧os=ps.opens∧i2≤i4∧i4≤L.length∧c3.what=c.what)∧
  (∀f,Adz.behind L pl ps c (Adz.place pl at_) i2=.error f→Er (behind L pl c.what at_ ⟨⟨i2,0,q,k⟩,labs,jumps⟩).s f)∧
  (∀c3 os ls i3 f,Adz.behind L pl ps c (Adz.place pl at_) i2=.ok (c3,os,ls,i3)→Adz.tail L pl i3=.error f→Er (behind L pl c.what at_ ⟨⟨i2,0,q,k⟩,labs,jumps⟩).s f):=by
  intro r1 hb X hX gV Ur;rw[hb,hX];refine⟨fun c3 os ls i3 i4 h ht=> ?_,fun f h=> ?_,fun c3 os ls i3 f h ht=> ?_⟩
  ·obtain⟨a,b,d,e,e2,e3⟩:=gV c3 os ls i3 h
   obtain⟨t1,t2,t3⟩:=(mP (pl:=pl) hg i3 e2 q k).1 i4 ht;simp only;rw[a];exact⟨t1,b.mono t2,d,by omega,t3,e3⟩
  ·have hE:=Ur f h
   simp only;rw[xy hE.ne];exact hE
  ·obtain⟨a,b,d,e,e2,e3⟩:=gV c3 os ls i3 h
   simp only;rw[a];exact(mP (pl:=pl) hg i3 e2 q k).2 f ht
 unfold behind at bV ⊢;unfold Adz.behind at bV ⊢
 rcases kind_of c.what hw with ⟨e,hk⟩ |⟨e,hk⟩ |⟨e,hk⟩ |⟨e,hk⟩ |⟨e,hk⟩ |⟨e,hk⟩ |⟨e,hk⟩
 ·exact absurd e bU
 ·-- a text
  rw[hk];simp only;rw[if_pos e];have ht:=Cy (pl:=pl) hg c i2 hi q k
  cases hc:Adz.textOf L pl c i2 with
  | error f=>
   refine⟨fun c3 os ls i3 i4 h=>(by cases h),fun f h=> ?_,fun c3 os ls i3 f h=>(by cases h)⟩;injection h with h;rw[←h];exact ht.2 _ hc
  | ok x=>
   obtain⟨c',i'⟩:=x;obtain⟨a,b,d,e1,e2⟩:=ht.1 _ _ hc;refine⟨fun c3 os ls i3 i4 h j7=> ?_,fun f h=>(by cases h),fun c3 os ls i3 f h j7=> ?_⟩
   ·injection h with h
    injection h with h1 h;injection h with h2 h;injection h with h3 h4;subst h1;subst h2;subst h3;subst h4;rw[e1] at j7;injection j7 with j7;subst j7;exact⟨a,jB.mono b,rfl,b,d,e2⟩
   ·injection h with h
    injection h with h1 h;injection h with h2 h;injection h with h3 h4;subst h4;rw[e1] at j7
    cases j7
 ·-- a label
  rw[hk] at bV ⊢;simp only at bV ⊢;have n1:¬(c.what=97∨c.what=99∨c.what=105):=by omega
  rw[if_neg n1,if_pos e] at bV ⊢;refine bV _ rfl _ rfl ?_ ?_
  all_goals
   unfold setLab Adz.setLabel;have hn:=uW (L:=L) (pl:=pl) i2 hi q k;simp only;rw[hn.2.2]
  ·intro c3 os ls i3 h
   cases fG:Adz.isLetter (Adz.peek L i2) with
   | false=>rw [fG] at h;simp at h
   | true=>
    rw[fG] at h;simp only[Bool.not_true,Bool.false_eq_true,if_false] at h
    cases dx:Adz.nameOf L pl i2 with
    | error f=>rw [dx] at h;cases h
    | ok x=>
     obtain⟨nm,i'⟩:=x;obtain⟨a,b,d,e1⟩:=hn.1 _ _ dx;rw[dx] at h;simp only at h;have aJ:=lK fG;have hlen:¬(Adz.lettersOf L i2).length=0:=fun e=>aJ (List.eq_nil_of_length_eq_zero e);rw[if_neg hlen,a];have Hq:=jB.use (Adz.lettersOf L i2) (nY L i2);subst b;by_cases dp:(Adz.useOf ps.labs (Adz.enc (Adz.lettersOf L i2))).set= -1
     ·have hb:((Adz.useOf ps.labs (Adz.enc (Adz.lettersOf L i2))).set != -1)=false:=by simp[dp]
      rw[hb] at h;simp only[Bool.false_eq_true,if_false] at h;injection h with h;injection h with h1 h;injection h with h2 h;injection h with h3 h4;have US:¬(labs.contains (Adz.lettersOf L i2)=true):=fun hk=>Hq.1 (by simpa using hk) dp;rw[if_neg US];subst h1;subst h2;subst h3;subst h4;exact⟨rfl,(jB.set _ (nY L i2) dp ps.cmds.length).mono (by omega),rfl,by omega,e1,rfl⟩
     ·have hb:((Adz.useOf ps.labs (Adz.enc (Adz.lettersOf L i2))).set != -1)=true:=by simpa using dp
      rw[hb] at h;simp only[if_true] at h
      cases h
  ·intro f h
   cases fG:Adz.isLetter (Adz.peek L i2) with
   | false=>
    rw[fG] at h;simp only[Bool.not_false,if_true] at h;injection h with h;have hz:=uS fG;have hlen:(Adz.lettersOf L i2).length=0:=by rw[hz];rfl
    rw[if_pos hlen]
    have dx:Adz.nameOf L pl i2=.ok (Adz.enc (Adz.lettersOf L i2),i2+(Adz.lettersOf L i2).length):=by
     unfold Adz.nameOf;rw[hz]
     rfl
    obtain⟨a,b,d,e1⟩:=hn.1 _ _ dx;rw[a];have hE:=de (s:=⟨i2+(Adz.lettersOf L i2).length,0,q,k⟩) rfl pl 3 (i2+(Adz.lettersOf L i2).length) (by decide);have hf:f=(3,Adz.place pl (i2+(Adz.lettersOf L i2).length)):=by rw[←h,hlen];rfl
    rw[hf];split
    ·exact hE.no _ _ _
    ·exact hE
   | true=>
    rw[fG] at h;simp only[Bool.not_true,Bool.false_eq_true,if_false] at h;have aJ:=lK fG;have hlen:¬(Adz.lettersOf L i2).length=0:=fun e=>aJ (List.eq_nil_of_length_eq_zero e);rw[if_neg hlen]
    cases dx:Adz.nameOf L pl i2 with
    | error f'=>
     rw[dx] at h;simp only at h;injection h with h;subst h;have hE:=hn.2.1 _ dx;split
     ·exact hE.no _ _ _
     ·exact hE
    | ok x=>
     obtain⟨nm,i'⟩:=x;obtain⟨a,b,d,e1⟩:=hn.1 _ _ dx;rw[dx] at h;simp only at h;rw[a];have Hq:=jB.use (Adz.lettersOf L i2) (nY L i2);subst b;by_cases dp:(Adz.useOf ps.labs (Adz.enc (Adz.lettersOf L i2))).set= -1
     ·have hb:((Adz.useOf ps.labs (Adz.enc (Adz.lettersOf L i2))).set != -1)=false:=by simp[dp]
      rw[hb] at h;simp only[Bool.false_eq_true,if_false] at h
      cases h
     ·have hb:((Adz.useOf ps.labs (Adz.enc (Adz.lettersOf L i2))).set != -1)=true:=by simpa using dp
      rw[hb] at h;simp only[if_true] at h;injection h with h;have fP:labs.contains (Adz.lettersOf L i2)=true:=by simpa using Hq.2 dp
      rw[if_pos fP,←h];exact de rfl _ _ _ (by decide)
 ·-- a jump
  rw[hk] at bV ⊢;simp only at bV ⊢;have n1:¬(c.what=97∨c.what=99∨c.what=105):=by omega
  have n2:¬c.what=58:=by omega
  rw[if_neg n1,if_neg n2,if_pos e] at bV ⊢;refine bV _ rfl _ rfl ?_ ?_
  all_goals
   unfold askLab Adz.askLabel;simp only;rw[cV];have mi:=dU (L:=L) i2 hi;have UB:=Adz.blanks_le L i2;have hn:=uW (L:=L) (pl:=pl) (Adz.blanks L i2) mi q k
   try rw[hn.2.2]
  ·intro c3 os ls i3 h
   cases fG:Adz.isLetter (Adz.peek L (Adz.blanks L i2)) with
   | false=>
    rw[fG] at h;simp only[Bool.not_false,if_true] at h;injection h with h;injection h with h1 h;injection h with h2 h;injection h with h3 h4;subst h1;subst h2;subst h3;subst h4;have hz:=uS fG
    have dx:Adz.nameOf L pl (Adz.blanks L i2)=.ok (Adz.enc (Adz.lettersOf L (Adz.blanks L i2)),Adz.blanks L i2+(Adz.lettersOf L (Adz.blanks L i2)).length):=by
     unfold Adz.nameOf;rw[hz]
     rfl
    obtain⟨a,b,d,e1⟩:=hn.1 _ _ dx;rw[a,hz];exact⟨rfl,hR.bare at_ h0 (by omega),rfl,by omega,by simpa using mi,rfl⟩
   | true=>
    rw[fG] at h;simp only[Bool.not_true,Bool.false_eq_true,if_false] at h
    cases dx:Adz.nameOf L pl (Adz.blanks L i2) with
    | error f=>rw [dx] at h;cases h
    | ok x=>
     obtain⟨nm,i'⟩:=x;obtain⟨a,b,d,e1⟩:=hn.1 _ _ dx;rw[dx] at h;simp only at h;injection h with h;injection h with h1 h;injection h with h2 h;injection h with h3 h4;subst h1;subst h2;subst h3;subst h4;subst b;rw[a];exact⟨rfl,hR.ask _ (nY L _) (lK fG) at_ h0 (by omega) (fun x hx=>G9 x at_ hx (by omega)) (At at_),rfl,by omega,e1,rfl⟩
  ·intro f h
   cases fG:Adz.isLetter (Adz.peek L (Adz.blanks L i2)) with
   | false=>
    rw[fG] at h;simp only[Bool.not_false,if_true] at h
    cases h
   | true=>
    rw[fG] at h;simp only[Bool.not_true,Bool.false_eq_true,if_false] at h
    cases dx:Adz.nameOf L pl (Adz.blanks L i2) with
    | error f'=>
     rw[dx] at h;simp only at h;injection h with h;rw[←h];exact hn.2.1 _ dx
    | ok x=>rw [dx] at h;cases h
 ·-- an s
  rw[hk] at bV ⊢;simp only at bV ⊢;have n1:¬(c.what=97∨c.what=99∨c.what=105):=by omega
  have n2:¬c.what=58:=by omega
  have n3:¬(c.what=98∨c.what=116):=by omega
  rw[if_neg n1,if_neg n2,if_neg n3,if_pos e] at bV ⊢;have hs:=Ah (pl:=pl) hg c qq jT xX i2 hi q k;refine bV _ rfl _ rfl ?_ ?_
  ·intro c3 os ls i3 h
   cases hc:Adz.substitution L pl c i2 with
   | error f=>rw [hc] at h;cases h
   | ok x=>
    rw[hc] at h;obtain⟨c',i'⟩:=x;obtain⟨a,b,d,e1⟩:=hs.1 _ _ hc;simp only at h;injection h with h;injection h with h1 h;injection h with h2 h;injection h with h3 h4;subst h1;subst h2;subst h3;subst h4;exact⟨a,jB.mono b,rfl,b,d,e1⟩
  ·intro f h
   cases hc:Adz.substitution L pl c i2 with
   | error f'=>
    rw[hc] at h;injection h with h;rw[←h];exact hs.2 _ hc
   | ok x=>rw [hc] at h;cases h
 ·-- a y
  rw[hk] at bV ⊢;simp only at bV ⊢;have n1:¬(c.what=97∨c.what=99∨c.what=105):=by omega
  have n2:¬c.what=58:=by omega
  have n3:¬(c.what=98∨c.what=116):=by omega
  have n4:¬c.what=115:=by omega
  rw[if_neg n1,if_neg n2,if_neg n3,if_neg n4,if_pos e] at bV ⊢;have hs:=AX (pl:=pl) hg c at_ i2 hi q k;refine bV _ rfl _ rfl ?_ ?_
  ·intro c3 os ls i3 h
   cases hc:Adz.exchange L pl c (Adz.place pl at_) i2 with
   | error f=>rw [hc] at h;cases h
   | ok x=>
    rw[hc] at h;obtain⟨c',i'⟩:=x;obtain⟨a,b,d,e1⟩:=hs.1 _ _ hc;simp only at h;injection h with h;injection h with h1 h;injection h with h2 h;injection h with h3 h4;subst h1;subst h2;subst h3;subst h4;exact⟨a,jB.mono b,rfl,b,d,e1⟩
  ·intro f h
   cases hc:Adz.exchange L pl c (Adz.place pl at_) i2 with
   | error f'=>
    rw[hc] at h;injection h with h;rw[←h];exact hs.2 _ hc
   | ok x=>rw [hc] at h;cases h
 ·-- nothing
  rw[hk] at bV ⊢;simp only at bV ⊢;have n1:¬(c.what=97∨c.what=99∨c.what=105):=by omega
  have n2:¬c.what=58:=by omega
  have n3:¬(c.what=98∨c.what=116):=by omega
  have n4:¬c.what=115:=by omega
  have n5:¬c.what=121:=by omega
  rw[if_neg n1,if_neg n2,if_neg n3,if_neg n4,if_neg n5] at bV ⊢;refine bV _ rfl _ rfl ?_ ?_
  ·intro c3 os ls i3 h
   injection h with h;injection h with h1 h;injection h with h2 h;injection h with h3 h4;subst h1;subst h2;subst h3;subst h4;exact⟨rfl,jB,rfl,Nat.le_refl _,hi,rfl⟩
  ·intro f h
   cases h
end Rf
end
end Go.Proofs.YtbiobhghnldckaaGreatDoor
