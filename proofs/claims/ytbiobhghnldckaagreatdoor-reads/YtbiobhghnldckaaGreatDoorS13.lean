/- Proved: the first place of a match; a match, its items followed. Conditions: the pattern and the rows of ends lie in memory. -/
import Derived.Test.YtbiobhghnldckaaGreatDoorS12
import Derived.Deep.MidRow
import Derived.Lib.Builder
import Derived.Lib.AppendStr
import Derived.Lib.UnsafeStr
import Derived.Laws.Externs
namespace Go.Proofs.YtbiobhghnldckaaGreatDoor
set_option linter.unusedVariables false
set_option maxRecDepth 100000
set_option maxHeartbeats 6400000
section
open Go.RowKit
namespace Adz
def firstFrom (l:List Int) (from_:Nat):Int:=match l with
 | l=>match (l.drop from_).findIdx? (fun x=>x != -1) with
  | some k=>((from_+k:Nat):Int)
  | none=> -1
theorem firstFrom_hit (l:List Int) (j:Nat) (h:j<l.length) (hv:l.getD j 0≠ -1):firstFrom l j=j:=by
 have e:l.drop j=l.getD j 0::l.drop (j+1):=by rw[List.drop_eq_getElem_cons h];simp[h]
 have hb:(l.getD j 0 != -1)=true:=bne_iff_ne.2 hv;simp only[firstFrom,e,List.findIdx?_cons,hb,if_true,Nat.add_zero]
theorem firstFrom_miss (l:List Int) (j:Nat) (h:j<l.length) (hv:l.getD j 0= -1):firstFrom l j=firstFrom l (j+1):=by
 have e:l.drop j=l.getD j 0::l.drop (j+1):=by rw[List.drop_eq_getElem_cons h];simp[h]
 simp only[firstFrom,e,List.findIdx?_cons,hv];simp only[bne_self_eq_false,Bool.false_eq_true,if_false]
 cases (l.drop (j+1)).findIdx? (fun x=>x != -1) with
 | none=>rfl
 | some k=>simp;omega
theorem firstFrom_end (l:List Int) (j:Nat) (h:l.length≤j):firstFrom l j= -1:=by
 simp[firstFrom,List.drop_eq_nil_of_le h]
end Adz
theorem ft (sb ab base K n:Nat) (iv:Value) (ra:Option Addr) (rc:Nat) (F:Nat→Nat→Int) (w:World) (hs:Srch w sb iv (.slice ra n rc) (.slice (some ⟨ab,0,none⟩) (K+1) (K+1))) (hM:Mat w ab base (K+1) n F) (l:List Int) (hl:l.length=n+1) (OL:∀t,t≤n→l.getD t 0=F 0 t) (hn:n≤1000000) (fr:Nat) (Bx:fr≤n+1):
 Calls Tryz.prog 188 #[.pointer (some ⟨sb,0,none⟩),.int .i64 fr] w fun e w'=>e=.returned (.int .i64 (Adz.firstFrom l fr))∧ae (·=sb) w w'∧Srch w' sb iv (.slice ra n rc) (.slice (some ⟨ab,0,none⟩) (K+1) (K+1)):=by
 go_enter Tryz.func188,Tryz.ntmps188;go_wp2_with fail
 go_loopg [5] (n+1 - fr) (fun k v wr=>∃j:Nat,v=.int .i64 j∧j+k=n+1∧Hid (Adz.firstFrom l fr=Adz.firstFrom l j)∧Hid (ae (·=sb) w wr)∧Hid (Srch wr sb iv (.slice ra n rc) (.slice (some ⟨ab,0,none⟩) (K+1) (K+1))))
 case atStart=>exact ⟨fr,rfl,by omega,rfl,ae.refl _ _,hs⟩
 case round=>
  obtain⟨j,rfl,jt,hF,h1,h2⟩:=hrel;have HK:Hid (j+gk=n+1):=jt;have hO:ae (·=sb) w wr:=h1;have hS:Srch wr sb iv (.slice ra n rc) (.slice (some ⟨ab,0,none⟩) (K+1) (K+1)):=h2;have mi:j≤n+1:=by omega
  clear jt h1 h2;have q1:=hS.space;by_cases aw:j≤n
  ·have d0:decide ((j:Int)≤n)=true:=by simp;omega
   obtain⟨st,bZ⟩:=hS.steps;have q2:=hS.ends;have q3:=hS.free;have rX:=hM.keeps hO (fun c hc e=>by subst e;exact absurd (hc.one hs.typ) (by decide)) (fun c hc e=>by subst e;exact absurd (hc.one hs.typ) (by decide));have n1:ab≠sb:=rX.typ.ne hS.typ (by decide);have n2:base≠sb:=(rX.rows 0 (by omega)).ne hS.typ (by decide);have c1:=rX.cell 0 (by omega);have c2:=(rX.place 0 j (by omega) aw).1;rw[Nat.add_zero] at c1 c2;rw[←OL j aw] at c2;have hw:IntKind.i64.wrap ((j:Int)+1)=(j:Int)+1:=by rw[IntKind.wrap_i64];omega
   have iB:(j:Int)<(n:Int)+1:=by omega
   have dt:(0:Int)<(K:Int)+1:=by omega
   have o2:ae (·=sb) w _:=hO.trans (fD (w:=wr) sb (wrap64 (st+1))) (fun _ e=>e) (fun _ _ e=>e);have s2:=hS.step (wrap64 (st+1));by_cases hv:l.getD j 0= -1
   ·have HM:Hid _:=Adz.firstFrom_miss l j (by omega) hv
    rw[hv] at c2;clear hv hM rX OL;go_wp2;go_roundg (gk - 1)
    case measure=>have:=HK.out;omega
    case rel=>exact ⟨j+1,rfl,by have:=HK.out;omega,by show _=_;rw[hF.out,HM.out],o2,s2⟩
   ·have HM:Hid _:=Adz.firstFrom_hit l j (by omega) hv
    clear hM rX OL;generalize l.getD j 0=q at*
    have d1:(q== -1)=false:=by simp[hv]
    have d2:(q != -1)=true:=by simp[hv]
    clear hv;go_wp2;go_ret;exact⟨by rw[hF.out,HM.out];rfl,o2,s2⟩
  ·have he:j=n+1:=by omega
   have d0:decide ((j:Int)≤n)=false:=by simp;omega
   have HM:Hid _:=Adz.firstFrom_end l j (by omega);go_wp2;go_ret;exact⟨by rw[hF.out,HM.out];rfl,hO,hS⟩
theorem uf (mb:Nat) (a b:Int) (w:World) (h1:w.cell? ⟨mb,0,none⟩=some (.int .i64 a)) (h2:w.cell? ⟨mb,1,none⟩=some (.int .i64 b)):
 Calls Tryz.prog 207 #[.pointer (some ⟨mb,0,none⟩)] w fun e w'=>e=.returned (.bool (a==b))∧ae (fun _=>False) w w':=by
 go_enter Tryz.func207,Tryz.ntmps207;go_wp2_with fail
 go_quiet (fail)
 go_wp2;go_ret;exact⟨rfl,(ae.refl _ w).drewN _⟩
def bd:Array Value:= #[.int .i64 0,.int .i64 0,.int .i64 0,.int .i64 0,.int .i64 0,.int .i64 0,.int .i64 0,.int .i64 0,.int .i64 0,.int .i64 0,.int .i64 0,.int .i64 0,.int .i64 0,.int .i64 0,.int .i64 0,.int .i64 0,.int .i64 0,.int .i64 0,.int .i64 0,.int .i64 0]
structure MatchAt (w:World) (b:Nat) (l:List Int):Prop where
 len:l.length=20
 typ:aq w b 219
 cells:w.rangeAt b 0 (l.map (.int .i64))
 there:w.there b 0 20
theorem MatchAt.keeps {S:Nat→Prop}{w w':World}{b:Nat}{l:List Int} (h:MatchAt w b l) (o:ae S w w') (hs:¬S b):MatchAt w' b l:=
 ⟨h.len,h.typ.keeps o hs,fun j v hv=>o.keeps (h.cells j v hv) hs,fun j hj=>by
  obtain⟨v,hv⟩:=Option.isSome_iff_exists.1 (h.there j hj).1;exact⟨by rw[o.keeps hv hs];rfl,o.keepsFrozen hv (h.there j hj).2 hs⟩⟩
theorem MatchAt.new (w:World):MatchAt (w.alloc (.cells bd 219)) w.heap.size (List.replicate 20 0):=by
 have hc:=ai.new w bd 219;refine⟨rfl,aq.new w _ _ _,fun j v hv=> ?_,fun j hj=> ?_⟩
 ·rw[Nat.zero_add];exact(hc j v hv).1
 ·have e:bd.toList=List.replicate 20 (Value.int .i64 0):=rfl
  rw[e] at hc;have:=hc j (.int .i64 0) (by rw[List.getElem?_replicate];simp[hj]);rw[Nat.zero_add];exact⟨by rw[this.1];rfl,this.2⟩
theorem cO (b:Nat):∀(l:List Value) (w:World) (o:Nat),ae (·=b) w (w.setCells b o l)
 | [],w,o=>ae.refl _ w
 | v::r,w,o=>by
  rw[World.setCells];exact aW (af w b o v) (cO b r _ (o+1))
theorem MatchAt.store {w:World}{b:Nat}{l:List Int} (h:MatchAt w b l) (m:List Int) (hm:m.length=20):MatchAt (w.setCells b 0 (m.map (.int .i64))) b m:=by
 refine⟨hm,?_,?_,?_⟩
 ·have ht:∀(l:List Value) (u:World) (o:Nat),aq u b 219→aq (u.setCells b o l) b 219:=by
   intro l
   induction l with
   | nil=>intro u o hu;exact hu
   | cons v r ih=>intro u o hu;rw[World.setCells];exact ih _ _ (hu.setCell _ _)
  exact ht _ _ _ h.typ
 ·exact World.rangeAt_setCells_same w b 0 _ (by rw[List.length_map,hm];exact h.there)
 ·exact World.there_setCells h.there b 0 _
namespace Adz
theorem wE (x:Item) (r:Int) (j n e1 b1 b0:Int) (h:endAt x (some r) j n e1 b1 b0≠ -1):
 (endAt x (some r) j n e1 b1 b0=e1∧e1≠ -1)∨(endAt x (some r) j n e1 b1 b0=j+1∧b1≠ -1)∨(endAt x (some r) j n e1 b1 b0=j∧b0≠ -1):=by
 revert h;unfold endAt;simp only;generalize takes x r=t1;generalize takesMany x=t2;generalize takesNone x j n=t3
 cases t1 <;> cases t2 <;> cases t3 <;> by_cases h1:e1= -1 <;> by_cases h2:b1= -1 <;> by_cases h3:b0= -1 <;> simp[h1,h2,h3]
theorem wD (x:Item) (j n e1 b1 b0:Int) (h:endAt x none j n e1 b1 b0≠ -1):endAt x none j n e1 b1 b0=j∧b0≠ -1:=by
 revert h;unfold endAt;simp only;generalize takesNone x j n=t3
 cases t3 <;> by_cases h3:b0= -1 <;> simp[h3]
theorem qS (x:Item) (sp bh:List Int) (hl:bh.length=sp.length+1):∀(d j:Nat),j+d=sp.length→(ends x sp bh).getD j 0≠ -1→
 ∃e:Nat,(ends x sp bh).getD j 0=e∧j≤e∧e≤sp.length∧bh.getD e 0≠ -1
 | 0,j,hj,h=>by
  have e:j=sp.length:=by omega
  subst e;rw[xL x sp bh hl] at h ⊢;obtain⟨h1,h2⟩:=wD _ _ _ _ _ _ h;exact⟨sp.length,h1,by omega,by omega,h2⟩
 | d+1,j,hj,h=>by
  rw[xM x sp bh hl j (by omega)] at h ⊢
  rcases wE _ _ _ _ _ _ _ h with ⟨h1,h2⟩ |⟨h1,h2⟩ |⟨h1,h2⟩
  ·obtain⟨e,g1,g2,g3,g4⟩:=qS x sp bh hl d (j+1) (by omega) h2
   exact⟨e,h1.trans g1,by omega,g3,g4⟩
  ·exact⟨j+1,by rw[h1];omega,by omega,by omega,h2⟩
  ·exact⟨j,h1,by omega,by omega,h2⟩
theorem allEnds_good (sp:List Int) (xs:List Item) (i:Nat) (hi:i<xs.length) (j:Nat) (hj:j≤sp.length) (h:((allEnds sp xs).getD i []).getD j 0≠ -1):
 ∃e:Nat,((allEnds sp xs).getD i []).getD j 0=e∧j≤e∧e≤sp.length∧((allEnds sp xs).getD (i+1) []).getD e 0≠ -1:=by
 rw[gK sp xs i hi] at h ⊢;exact qS xs[i] sp _ (df sp xs (i+1) (by omega)) (sp.length - j) j (by omega) h
end Adz
namespace Adz
def mark (x:Item) (m:List Int) (at_:Int):List Int:=if x.kind=2 then m.set (x.group.toNat*2) at_ else if x.kind=3 then m.set (x.group.toNat*2+1) at_ else m
def follow (A:List (List Int)):List Item→Nat→List Int→Nat→List Int×Nat
 | [],_,m,at_=>(m,at_)
 | x::xs,i,m,at_=>follow A xs (i+1) (mark x m at_) ((A.getD i []).getD at_ 0).toNat
def matchAt (A:List (List Int)) (xs:List Item) (first:Nat):List Int:=
 let r:=follow A xs 0 (List.replicate 20 0) first
 (r.1.set 0 first).set 1 r.2
end Adz
theorem MatchAt.set {w:World}{b:Nat}{l:List Int} (h:MatchAt w b l) (k:Nat) (v:Int):MatchAt (w.setCell ⟨b,k,none⟩ (.int .i64 v)) b (l.set k v):=by
 have hc:ai w b (l.map (.int .i64)):=fun j u hu=>by
  have hj:j<20:=by have:=(List.getElem?_eq_some_iff.1 hu).1;rw[List.length_map,h.len] at this;exact this
  have h1:=h.cells j u hu;have h2:=(h.there j hj).2;rw[Nat.zero_add] at h1 h2;exact⟨h1,h2⟩
 have hs:=hc.set k (.int .i64 v);rw[←List.map_set] at hs;refine⟨by rw[List.length_set];exact h.len,h.typ.setCell _ _,fun j u hu=>by rw[Nat.zero_add];exact(hs j u hu).1,fun j hj=> ?_⟩
 have hl:((l.set k v).map (Value.int .i64))[j]? =some (.int .i64 ((l.set k v).getD j 0)):=by
  rw[List.getElem?_map,List.getElem?_eq_getElem (by rw[List.length_set,h.len];exact hj)];simp[h.len,hj]
 have:=hs j _ hl;rw[Nat.zero_add];exact⟨by rw[this.1];rfl,this.2⟩
theorem MatchAt.cellOf {w:World}{b:Nat}{l:List Int} (h:MatchAt w b l) (k:Nat) (hk:k<20):(∃u,w.cell? ⟨b,k,none⟩=some u)∧w.frozen? ⟨b,k,none⟩=false:=by
 have:=h.there k hk;rw[Nat.zero_add] at this;exact⟨Option.isSome_iff_exists.1 this.1,this.2⟩
theorem qD {W:World}{R:Nat}{cs:List Value}{tmps:Array Value} (h6:tmps[4]? =some (.pointer (some ⟨R,0,none⟩))) (iT:(loadVar 219 ⟨R,0,none⟩).run Tryz.prog W=.ok (.agg cs.toArray) W):
 (results Tryz.f206 tmps).run Tryz.prog W=.ok (.agg cs.toArray) W:=by
 have ha:(asAddr (.pointer (some ⟨R,0,none⟩))).run Tryz.prog W=.ok ⟨R,0,none⟩ W:=by simp[go_sem]
 simp[results,Tryz.results206,h6,ha,iT]
theorem qC (xs:List Adz.Item) (sb ab base:Nat) (w:World) (iv:Value) (ra:Option Addr) (rc n:Nat) (hs:Srch w sb iv (.slice ra n rc) (.slice (some ⟨ab,0,none⟩) (xs.length+1) (xs.length+1))) (hi:bN w iv xs) (hk:xs.length≤1000) (hf:∀x∈xs,x.spans.length≤1000) (sp:List Int) (WG:sp.length=n) (iD:n≤1000000) (hg:∀x∈xs,1≤x.group∧x.group≤9∨(x.kind≠2∧x.kind≠3)) (hA:Mat w ab base (xs.length+1) n (Adz.fin sp xs)) (first:Nat) (Rs:first≤n) (Mu:Adz.fin sp xs 0 first≠ -1):
 Calls Tryz.prog 206 #[.pointer (some ⟨sb,0,none⟩),.int .i64 first] w fun e w'=>e=.returned (.agg ((Adz.matchAt (Adz.allEnds sp xs) xs first).map (.int .i64)).toArray)∧ae (·=sb) w w'∧Srch w' sb iv (.slice ra n rc) (.slice (some ⟨ab,0,none⟩) (xs.length+1) (xs.length+1)):=by
 obtain⟨gI,r1,r2⟩:=id hi;obtain⟨ia,ic,rfl⟩:=ak r1;clear r1 r2 gI;have ls:sb<w.heap.size:=hs.typ.lt;have Q5:=MatchAt.new w;have CP:=MatchAt.new (w.alloc (.cells bd 219));have o1:ae (fun _=>False) w ((w.alloc (.cells bd 219)).alloc (.cells bd 219)):=((ae.refl _ w).alloc _).alloc _;have Kg:=Q5.keeps (S:=fun _=>False) ((ae.refl _ (w.alloc (.cells bd 219))).alloc (.cells bd 219)) id;simp only[World.size_alloc] at CP;have kC:(Tryz.prog.info? 219).map (·.size)=some bd.size:=by kernel_rfl
 have FQ:bd.all (·.oneCell')=true:=by simp[bd,Value.oneCell']
 go_enter Tryz.func206,Tryz.ntmps206
 go_upto_region 2 with (refine wpList_store_mid (by rfl) 219 _ _ (by rfl) (w.heap.size+1) 0 bd (by first | rfl | simp[Act.eval,Act.put]) (by first | rfl | simp[Act.eval,Act.put,bd]) CP.there kC FQ ?_)
 have Q8:=CP.store (List.replicate 20 0) rfl;have rX:=Kg.keeps (cO (w.heap.size+1) ((List.replicate 20 0).map (.int .i64)) _ 0) (by omega)
 have N0:ae (fun _=>False) w (((w.alloc (.cells bd 219)).alloc (.cells bd 219)).setCells (w.heap.size+1) 0 ((List.replicate 20 0).map (.int .i64))):=by
  refine o1.trans (cO (w.heap.size+1) _ _ 0) (fun _ e=>e) (fun b hb e=>by omega)
 have nW:((w.alloc (.cells bd 219)).alloc (.cells bd 219)).setCells (w.heap.size+1) 0 bd.toList=((w.alloc (.cells bd 219)).alloc (.cells bd 219)).setCells (w.heap.size+1) 0 ((List.replicate 20 0).map (.int .i64)):=rfl
 change Code.wp _ _ _ _ (((w.alloc (.cells bd 219)).alloc (.cells bd 219)).setCells (w.heap.size+1) 0 ((List.replicate 20 0).map (.int .i64)))
 clear Q5 CP Kg o1 nW;generalize ((w.alloc (.cells bd 219)).alloc (.cells bd 219)).setCells (w.heap.size+1) 0 ((List.replicate 20 0).map (.int .i64))=w0 at*
 have uK:=hs.keeps N0 id;have q0:=uK.items;go_wp2_with fail
 go_loopg [6,16] xs.length (fun k v u wr=>∃(j at_:Nat) (m:List Int),v=.int .i64 at_∧u=.int .i64 j∧j+k=xs.length∧at_≤n∧Hid (Adz.fin sp xs j at_≠ -1)∧Hid (Adz.follow (Adz.allEnds sp xs) xs 0 (List.replicate 20 0) first=Adz.follow (Adz.allEnds sp xs) (xs.drop j) j m at_)∧Hid (MatchAt wr (w.heap.size+1) m)∧Hid (MatchAt wr w.heap.size (List.replicate 20 0))∧Hid (ae (·=sb) w wr)∧Hid (Srch wr sb (.slice ia xs.length ic) (.slice ra n rc) (.slice (some ⟨ab,0,none⟩) (xs.length+1) (xs.length+1))))
 case atStart=>exact ⟨0,first,_,rfl,rfl,by omega,Rs,Mu,rfl,Q8,rX,N0.mono (fun _ _ e=>e.elim),uK⟩
 case round=>
  obtain⟨j,at_,m,rfl,rfl,jt,bJ,aJ,Mv,h1,h2,h3,h4⟩:=hrel;have HK:Hid (j+gk=xs.length):=jt;have mi:j≤xs.length:=by omega
  have Dz:MatchAt wr (w.heap.size+1) m:=h1;have rZ:MatchAt wr w.heap.size (List.replicate 20 0):=h2;have bQ:ae (·=sb) w wr:=h3;have jC:Srch wr sb (.slice ia xs.length ic) (.slice ra n rc) (.slice (some ⟨ab,0,none⟩) (xs.length+1) (xs.length+1)):=h4;have ty:∀ {T:TypeId} {c:Nat},aq w c T→T≠258→¬c=sb:=fun hc hT e=>by subst e;exact hT (hc.one hs.typ)
  clear jt h1 h2 h3 h4 Q8 rX N0 uK q0;by_cases aw:j<xs.length
  ·obtain⟨e,g1,g2,g3,g4⟩:=Adz.allEnds_good sp xs j aw at_ (by omega) aJ.out
   obtain⟨ib,rfl,ti,hit⟩:=(hi.keeps bQ (fun c hc=>ty hc (by decide)) (fun c hc=>ty hc (by decide))).get hf (by intro e;simp[e] at aw);obtain⟨hx,fC⟩:=hit j aw;have li:ib<wr.heap.size:=World.block_lt_of_cell? wr _ fC;have ni:ib≠sb:=ti.ne jC.typ (by decide);have c0:=hx.kind;have c1:=fC;obtain⟨sa,sc,c2,_⟩:=hx.spans;have c3:=hx.times;have Ka:=hA.keeps bQ (fun c hc=>ty hc (by decide)) (fun c hc=>ty hc (by decide));have a1:=Ka.cell j (by omega);have a3:=(Ka.place j at_ (by omega) (by omega)).1;have QI:Adz.fin sp xs j at_=e:=g1;rw[QI] at a3;have te:=Ka.rows j (by omega);have ta:=Ka.typ;have la:ab<wr.heap.size:=World.block_lt_of_cell? wr _ a1;have le:base+j<wr.heap.size:=World.block_lt_of_cell? wr _ a3;have KG:xs.drop j=xs[j]::xs.drop (j+1):=List.drop_eq_getElem_cons aw;have Bw:=Mv.out;rw[KG] at Bw;simp only[Adz.follow] at Bw;rw[g1,Int.toNat_natCast] at Bw;have OC:=hg xs[j] (List.getElem_mem aw);have iB:(j:Int)<(xs.length:Int)+1:=by omega
   have dt:(at_:Int)<(n:Int)+1:=by omega
   have da:IntKind.i64.wrap ((j:Int)+1)=(j:Int)+1:=by rw[IntKind.wrap_i64];omega
   have G4:Hid (Adz.fin sp xs (j+1) e≠ -1):=g4;clear g4 KG Mv aJ Ka QI;generalize FP:xs[j]=x at*
   have De:Hid _:=Bw;clear Bw FP hit g1;have lm:w.heap.size+1<wr.heap.size:=by obtain⟨u,hu⟩:=(Dz.cellOf 0 (by omega)).1;exact World.block_lt_of_cell? wr _ hu
   obtain⟨st,bZ⟩:=jC.steps;have q2:=jC.ends;have q3:=jC.free;have Sa:sb≠w.heap.size+1:=by omega
   have PI:w.heap.size+1≠sb:=by omega
   have VE:w.heap.size≠sb:=by omega
   have UQ:base+j≠w.heap.size+1:=te.ne Dz.typ (by decide);have bu:ab≠w.heap.size+1:=ta.ne Dz.typ (by decide);have Ha:base+j≠sb:=te.ne jC.typ (by decide);have Lg:ab≠sb:=ta.ne jC.typ (by decide);have WX:sb<wr.heap.size:=jC.typ.lt;have sS:=jC.step (wrap64 (st+1));have oS:ae (·=sb) w _:=bQ.trans (fD (w:=wr) sb (wrap64 (st+1))) (fun _ e=>e) (fun _ _ e=>e);have mS:=Dz.keeps (fD (w:=wr) sb (wrap64 (st+1))) PI;have rS:=rZ.keeps (fD (w:=wr) sb (wrap64 (st+1))) VE;by_cases k2:x.kind=2
   ·obtain⟨gn,BB⟩:∃gn:Nat,x.group=gn:=⟨x.group.toNat,by omega⟩
    have zv:Adz.mark x m at_=m.set (gn*2) at_:=by simp[Adz.mark,k2,BB]
    rw[zv] at De;have Ru:gn<10:=by omega
    have GV:(gn:Int)<10:=by omega
    rw[BB] at c1;clear fC;rw[k2] at c0;obtain⟨⟨u,hu⟩,Hp⟩:=Dz.cellOf (gn*2) (by omega);generalize Lu:wr.setCell ⟨sb,3,none⟩ (.int .i64 (wrap64 (st+1)))=wS at*
    have o1:ae (·=sb) w (wS.setCell ⟨w.heap.size+1,gn*2,none⟩ (.int .i64 at_)):=ae.setCell (p:=⟨w.heap.size+1,gn*2,none⟩) oS (fun h=>absurd h (by simp)) (.int .i64 at_);have m1:=mS.set (gn*2) at_;have m2:=rS.keeps (af wS (w.heap.size+1) (gn*2) (.int .i64 at_)) (by omega);have s1:=sS.keeps (af wS (w.heap.size+1) (gn*2) (.int .i64 at_)) Sa;have oa:ae (fun _=>False) (wS.setCell ⟨w.heap.size+1,gn*2,none⟩ (.int .i64 at_)) ((wS.setCell ⟨w.heap.size+1,gn*2,none⟩ (.int .i64 at_)).alloc (.cells #[.int .i64 2,.int .i64 gn,.slice sa x.spans.length sc,.int .i64 x.times] 270)):=(ae.refl _ _).alloc _;have F1:Hid _:=m1.keeps oa id;have F2:Hid _:=m2.keeps oa id;have F3:Hid _:=o1.trans oa (fun _ e=>e) (fun _ _ e=>e.elim);have F4:Hid _:=s1.keeps oa id;clear k2 zv OC BB o1 m1 m2 s1 oa mS rS oS sS;subst Lu;go_wp2;go_roundg (gk - 1)
    case measure=>have:=HK.out;omega
    case rel=>exact ⟨j+1,e,_,rfl,rfl,by have:=HK.out;omega,by omega,G4,De,F1,F2,F3,F4⟩
   by_cases k3:x.kind=3
   ·obtain⟨gn,BB⟩:∃gn:Nat,x.group=gn:=⟨x.group.toNat,by omega⟩
    have zv:Adz.mark x m at_=m.set (gn*2+1) at_:=by simp[Adz.mark,k3,BB]
    rw[zv] at De;have Ru:gn<10:=by omega
    have GV:(gn:Int)<10:=by omega
    rw[BB] at c1;clear fC;rw[k3] at c0;obtain⟨⟨u,hu⟩,Hp⟩:=Dz.cellOf (gn*2+1) (by omega);generalize Lu:wr.setCell ⟨sb,3,none⟩ (.int .i64 (wrap64 (st+1)))=wS at*
    have o1:ae (·=sb) w (wS.setCell ⟨w.heap.size+1,gn*2+1,none⟩ (.int .i64 at_)):=ae.setCell (p:=⟨w.heap.size+1,gn*2+1,none⟩) oS (fun h=>absurd h (by simp)) (.int .i64 at_);have m1:=mS.set (gn*2+1) at_;have m2:=rS.keeps (af wS (w.heap.size+1) (gn*2+1) (.int .i64 at_)) (by omega);have s1:=sS.keeps (af wS (w.heap.size+1) (gn*2+1) (.int .i64 at_)) Sa;have oa:ae (fun _=>False) (wS.setCell ⟨w.heap.size+1,gn*2+1,none⟩ (.int .i64 at_)) ((wS.setCell ⟨w.heap.size+1,gn*2+1,none⟩ (.int .i64 at_)).alloc (.cells #[.int .i64 3,.int .i64 gn,.slice sa x.spans.length sc,.int .i64 x.times] 270)):=(ae.refl _ _).alloc _;have F1:Hid _:=m1.keeps oa id;have F2:Hid _:=m2.keeps oa id;have F3:Hid _:=o1.trans oa (fun _ e=>e) (fun _ _ e=>e.elim);have F4:Hid _:=s1.keeps oa id;clear k3 zv OC BB o1 m1 m2 s1 oa mS rS oS sS;subst Lu;go_wp2;go_roundg (gk - 1)
    case measure=>have:=HK.out;omega
    case rel=>exact ⟨j+1,e,_,rfl,rfl,by have:=HK.out;omega,by omega,G4,De,F1,F2,F3,F4⟩
   have d2:(x.kind==2)=false:=by simp[k2]
   have d3:(x.kind==3)=false:=by simp[k3]
   have zv:Adz.mark x m at_=m:=by simp[Adz.mark,k2,k3]
   rw[zv] at De;generalize Lu:wr.setCell ⟨sb,3,none⟩ (.int .i64 (wrap64 (st+1)))=wS at*
   have oa:ae (fun _=>False) wS (wS.alloc (.cells #[.int .i64 x.kind,.int .i64 x.group,.slice sa x.spans.length sc,.int .i64 x.times] 270)):=(ae.refl _ wS).alloc _;have F1:Hid _:=mS.keeps oa id;have F2:Hid _:=rS.keeps oa id;have F3:Hid _:=oS.trans oa (fun _ e=>e) (fun _ _ e=>e.elim);have F4:Hid _:=sS.keeps oa id;clear k2 k3 zv OC oa mS rS oS sS;subst Lu;go_wp2;go_roundg (gk - 1)
   case measure=>have:=HK.out;omega
   case rel=>exact ⟨j+1,e,m,rfl,rfl,by have:=HK.out;omega,by omega,G4,De,F1,F2,F3,F4⟩
  ·have he:j=xs.length:=by omega
   subst he;have De:Hid (Adz.follow (Adz.allEnds sp xs) xs 0 (List.replicate 20 0) first=(m,at_)):=by show _=_;rw[Mv.out,List.drop_length];rfl
   clear Mv aJ aw;obtain⟨⟨u0,WH⟩,Wt⟩:=Dz.cellOf 0 (by omega);obtain⟨⟨u1,WI⟩,wO⟩:=Dz.cellOf 1 (by omega);have NW:=(Dz.set 0 first).set 1 at_;have T2:ae (·=sb) w ((wr.setCell ⟨w.heap.size+1,0,none⟩ (.int .i64 first)).setCell ⟨w.heap.size+1,1,none⟩ (.int .i64 at_)):=ae.setCell (p:=⟨w.heap.size+1,1,none⟩) (ae.setCell (p:=⟨w.heap.size+1,0,none⟩) bQ (fun h=>absurd h (by simp)) _) (fun h=>absurd h (by simp)) _;have Rb:=(rZ.keeps (af wr (w.heap.size+1) 0 (.int .i64 first)) (by omega)).keeps (af _ (w.heap.size+1) 1 (.int .i64 at_)) (by omega);have T9:=(jC.keeps (af wr (w.heap.size+1) 0 (.int .i64 first)) (by omega)).keeps (af _ (w.heap.size+1) 1 (.int .i64 at_)) (by omega);have HE:Hid (Adz.matchAt (Adz.allEnds sp xs) xs first=(m.set 0 first).set 1 at_):=by show _=_;simp only[Adz.matchAt];rw[De.out]
   clear De;generalize mY:(m.set 0 (first:Int)).set 1 (at_:Int)=mm at*
   clear mY;have DS:=NW.len;have uA:(Tryz.prog.info? 219).map (·.size)=some (mm.map (Value.int .i64)).length:=by rw[List.length_map,DS];exact kC
   have uB:(Tryz.prog.info? 219).map (·.size)=some (mm.map (Value.int .i64)).toArray.size:=by rw[List.size_toArray];exact uA
   have eF:((mm.map (Value.int .i64)).toArray.all (·.oneCell'))=true:=all_oneCell_toArray (by intro v hv;simp at hv;obtain⟨a,_,rfl⟩:=hv;rfl);have C3:=Rb.there;rw[show (20:Nat)=(mm.map (Value.int .i64)).toArray.size by rw[List.size_toArray,List.length_map,DS]] at C3;have Ju:Hid _:=uA;have Gb:Hid _:=uB;clear uA uB kC FQ DS;go_wp2_with (first | refine wpList_load_mid (by rfl) 219 _ (by rfl) (w.heap.size+1) 0 (by rfl) (mm.map (Value.int .i64)) _ NW.cells Tryz.underlying219 (by rfl) Ju.out ?_ | refine wpList_store_mid (by rfl) 219 _ _ (by rfl) w.heap.size 0 (mm.map (Value.int .i64)).toArray (by rfl) (by rfl) C3 Gb.out eF ?_);have mX:=Rb.store mm NW.len;have T3:=T2.trans (cO w.heap.size (mm.map (Value.int .i64)) _ 0) (fun _ e=>e) (fun b hb e=>by omega);have Ua:=T9.keeps (cO w.heap.size (mm.map (Value.int .i64)) _ 0) (by omega);have iT:=run_loadVar_mid (P:=Tryz.prog) _ w.heap.size 0 219 (mm.map (Value.int .i64)) _ mX.cells Tryz.underlying219 (by rfl) Ju.out;exact bodyPost_ret (v:=.agg (mm.map (Value.int .i64)).toArray) (qD rfl iT) rfl ⟨by rw[HE.out],T3,Ua⟩
end
section
namespace Adz
def eachGo (l0:List Int) (mat:Nat→List Int):Nat→Int→Int→List (List Int)
 | 0,_,_=> []
 | k+1,at_,ended=>
  if at_= -1 then [] else
   let m:=mat at_.toNat
   if m.getD 0 0=m.getD 1 0∧at_=ended then eachGo l0 mat k (firstFrom l0 (at_.toNat+1)) ended
   else m::eachGo l0 mat k (firstFrom l0 (m.getD 1 0).toNat) (m.getD 1 0)
def row0 (sp:List Int) (xs:List Item):List Int:=(allEnds sp xs).getD 0 []
def matches_ (sp:List Int) (xs:List Item):List (List Int):=eachGo (row0 sp xs) (matchAt (allEnds sp xs) xs) (2*sp.length+3) (firstFrom (row0 sp xs) 0) (-1)
theorem ir (l:List Int):∀(d j:Nat),j+d=l.length→firstFrom l j= -1∨∃k:Nat,firstFrom l j=k∧j≤k∧k<l.length∧l.getD k 0≠ -1
 | 0,j,h=>Or.inl (firstFrom_end l j (by omega))
 | d+1,j,h=>by
  by_cases hv:l.getD j 0= -1
  ·rw[firstFrom_miss l j (by omega) hv]
   rcases ir l d (j+1) (by omega) with h1 |⟨k,h1,h2,h3,h4⟩
   ·exact Or.inl h1
   ·exact Or.inr ⟨k,h1,by omega,h3,h4⟩
  ·exact Or.inr ⟨j,firstFrom_hit l j (by omega) hv,Nat.le_refl _,by omega,hv⟩
theorem oQ (sp:List Int) (xs:List Item):∀(d j:Nat) (m:List Int) (at_:Nat),j+d=xs.length→at_≤sp.length→fin sp xs j at_≠ -1→at_≤(follow (allEnds sp xs) (xs.drop j) j m at_).2∧(follow (allEnds sp xs) (xs.drop j) j m at_).2≤sp.length
 | 0,j,m,at_,h,h1,h2=>by
  have:j=xs.length:=by omega
  subst this;rw[List.drop_length];exact⟨Nat.le_refl _,h1⟩
 | d+1,j,m,at_,h,h1,h2=>by
  have hj:j<xs.length:=by omega
  obtain⟨e,g1,g2,g3,g4⟩:=allEnds_good sp xs j hj at_ h1 h2;rw[List.drop_eq_getElem_cons hj];simp only[follow];rw[g1,Int.toNat_natCast];have:=oQ sp xs d (j+1) (mark xs[j] m at_) e (by omega) g3 g4;exact⟨by omega,this.2⟩
theorem gS (A:List (List Int)):∀(xs:List Item) (i:Nat) (m:List Int) (at_:Nat),(follow A xs i m at_).1.length=m.length
 | [],i,m,at_=>rfl
 | x::xs,i,m,at_=>by
  simp only[follow];rw[gS A xs];unfold mark;split
  ·simp
  ·split <;> simp
theorem matchAt_len (A:List (List Int)) (xs:List Item) (first:Nat):(matchAt A xs first).length=20:=by
 simp[matchAt,gS]
theorem matchAt_from (A:List (List Int)) (xs:List Item) (first:Nat):(matchAt A xs first).getD 0 0=first:=by
 have h:=gS A xs 0 (List.replicate 20 0) first;simp only[matchAt];rw[List.getD_eq_getElem?_getD,List.getElem?_set_ne (by omega),List.getElem?_set_self (by rw[h];simp)]
 rfl
theorem matchAt_to (sp:List Int) (xs:List Item) (first:Nat) (h1:first≤sp.length) (h2:fin sp xs 0 first≠ -1):∃iA:Nat,(matchAt (allEnds sp xs) xs first).getD 1 0=iA∧first≤iA∧iA≤sp.length:=by
 have h:=gS (allEnds sp xs) xs 0 (List.replicate 20 0) first;have:=oQ sp xs xs.length 0 (List.replicate 20 0) first (by omega) h1 h2;rw[List.drop_zero] at this;refine⟨_,?_,this⟩;simp only[matchAt];rw[List.getD_eq_getElem?_getD,List.getElem?_set_self (by rw[List.length_set,h];simp)]
 rfl
theorem row0_get (sp:List Int) (xs:List Item) (t:Nat):(row0 sp xs).getD t 0=fin sp xs 0 t:=rfl
theorem row0_len (sp:List Int) (xs:List Item):(row0 sp xs).length=sp.length+1:=df sp xs 0 (by omega)
def left (n:Nat) (ended at_:Int):Nat:=if at_= -1 then 0 else 2*(n - at_.toNat)+(if ended=at_ then 1 else 2)
theorem left_nat (n:Nat) (ended:Int) (a:Nat):left n ended a=2*(n - a)+(if ended=a then 1 else 2):=by
 unfold left;rw[if_neg (by omega),Int.toNat_natCast]
theorem left_none (n:Nat) (ended:Int):left n ended (-1)=0:=by simp[left]
theorem first_cases (sp:List Int) (xs:List Item) (j:Nat) (hj:j≤sp.length+1):firstFrom (row0 sp xs) j= -1∨∃k:Nat,firstFrom (row0 sp xs) j=k∧j≤k∧k≤sp.length∧fin sp xs 0 k≠ -1:=by
 rcases ir (row0 sp xs) (sp.length+1 - j) j (by rw[row0_len];omega) with h |⟨k,h1,h2,h3,h4⟩
 ·exact Or.inl h
 ·rw[row0_len] at h3
  exact Or.inr ⟨k,h1,h2,by omega,h4⟩
theorem each_skip (sp:List Int) (xs:List Item) (k a:Nat) (ended:Int) (ha:a≤sp.length) (hk:left sp.length ended a≤k) (h0:(matchAt (allEnds sp xs) xs a).getD 0 0=(matchAt (allEnds sp xs) xs a).getD 1 0) (he:(a:Int)=ended):
 ∃k',eachGo (row0 sp xs) (matchAt (allEnds sp xs) xs) k a ended=eachGo (row0 sp xs) (matchAt (allEnds sp xs) xs) k' (firstFrom (row0 sp xs) (a+1)) ended∧left sp.length ended (firstFrom (row0 sp xs) (a+1))≤k'∧left sp.length ended (firstFrom (row0 sp xs) (a+1))<left sp.length ended a:=by
 subst he;rw[left_nat,if_pos rfl] at hk;rw[left_nat,if_pos rfl];obtain⟨k',rfl⟩:∃k',k=k'+1:=⟨k - 1,by omega⟩;refine⟨k',?_,?_⟩
 ·rw[eachGo,if_neg (by omega)]
  have e:((a:Int)).toNat=a:=Int.toNat_natCast a;rw[e];exact if_pos ⟨h0,rfl⟩
 ·rcases first_cases sp xs (a+1) (by omega) with h |⟨b,h1,h2,h3,_⟩
  ·rw[h,left_none];omega
  ·rw[h1,left_nat];split <;> omega
theorem each_yield (sp:List Int) (xs:List Item) (k a:Nat) (ended:Int) (ha:a≤sp.length) (hk:left sp.length ended a≤k) (iA:Nat) (Ja:(matchAt (allEnds sp xs) xs a).getD 1 0=iA) (h1:a≤iA) (h2:iA≤sp.length) (hn:¬((a:Int)=iA∧(a:Int)=ended)):
 ∃k',eachGo (row0 sp xs) (matchAt (allEnds sp xs) xs) k a ended=matchAt (allEnds sp xs) xs a::eachGo (row0 sp xs) (matchAt (allEnds sp xs) xs) k' (firstFrom (row0 sp xs) iA) iA∧left sp.length iA (firstFrom (row0 sp xs) iA)≤k'∧left sp.length iA (firstFrom (row0 sp xs) iA)<left sp.length ended a:=by
 have hl:2*(sp.length - a)+(if ended=a then 1 else 2)≤k:=by rw[left_nat] at hk;exact hk
 rw[left_nat];obtain⟨k',rfl⟩:∃k',k=k'+1:=⟨k - 1,by split at hl <;> omega⟩
 have mW:left sp.length iA (firstFrom (row0 sp xs) iA)<2*(sp.length - a)+(if ended=a then 1 else 2):=by
  rcases first_cases sp xs iA (by omega) with h |⟨b,e1,e2,e3,_⟩
  ·rw[h,left_none];split <;> omega
  ·rw[e1,left_nat]
   by_cases zg:ended=a
   ·rw[if_pos zg]
    have:a≠iA:=fun e=>hn ⟨by omega,by omega⟩;split <;> omega
   ·rw[if_neg zg]
    split <;> omega
 refine⟨k',?_,by omega,mW⟩;rw[eachGo,if_neg (by omega)];simp only[Int.toNat_natCast];rw[matchAt_from,Ja,if_neg hn,Int.toNat_natCast]
end Adz
end
section
open Go.RowKit
namespace Adz
def seg (sp:List Int) (f t:Int):List Int:=(sp.drop f.toNat).take (t.toNat - f.toNat)
def repl1 (sp m:List Int) (p:Part):List Int:=
 if p.kind=0 then runes ⟨p.text.toArray⟩ else if p.kind=1 then seg sp (m.getD 0 0) (m.getD 1 0) else if p.kind=2 then seg sp (m.getD (p.group.toNat*2) 0) (m.getD (p.group.toNat*2+1) 0) else []
def replAll (sp m:List Int) (ps:List Part):List Int:=ps.flatMap (repl1 sp m)
def inside (f t:Int) (n:Nat):Prop:=0≤f∧f≤t∧t≤n
def fits (m:List Int) (n:Nat) (p:Part):Prop:=(p.kind=0∧p.text.length≤100000)∨p.kind=1∨(p.kind=2∧1≤p.group∧p.group≤9∧inside (m.getD (p.group.toNat*2) 0) (m.getD (p.group.toNat*2+1) 0) n)
theorem seg_len (sp:List Int) (f t:Nat) (h1:f≤t) (h2:t≤sp.length):(seg sp f t).length=t - f:=by
 simp[seg];omega
end Adz
def Sl (w:World) (ra:Option Addr) (sp:List Int):Prop:=(ra=none∧sp= [])∨∃rb ro,ra=some ⟨rb,ro,none⟩∧aq w rb 21∧∀j,j<sp.length→w.cell? ⟨rb,ro+j,none⟩=some (.int .i32 (sp.getD j 0))
theorem Sl.space {w:World}{ra:Option Addr}{sp:List Int} (h:Sl w ra sp):bY w ra sp:=by
 intro aJ
 rcases h with ⟨_,h⟩ | h
 ·exact absurd h aJ
 ·exact h
theorem Sl.keeps {S:Nat→Prop}{w w':World}{ra:Option Addr}{sp:List Int} (h:Sl w ra sp) (o:ae S w w') (hs:∀b o,ra=some ⟨b,o,none⟩→¬S b):Sl w' ra sp:=by
 rcases h with h |⟨rb,ro,e,ht,hc⟩
 ·exact Or.inl h
 ·exact Or.inr ⟨rb,ro,e,ht.keeps o (hs _ _ e),fun j hj=>o.keeps (hc j hj) (hs _ _ e)⟩
theorem Sl.cut {w:World}{ra:Option Addr}{sp:List Int} (h:Sl w ra sp) (rc f t:Nat) (h1:f≤t) (h2:t≤sp.length) (h3:sp.length≤rc):bY w (if rc=f then ra else ra.map (·.add f)) (Adz.seg sp f t):=by
 intro aJ;have hlen:=Adz.seg_len sp f t h1 h2;have hp:0<(Adz.seg sp f t).length:=List.length_pos_iff.2 aJ
 rcases h with ⟨_,e⟩ |⟨rb,ro,rfl,ht,hc⟩
 ·subst e;simp at h2;omega
 ·rw[if_neg (by omega)]
  refine⟨rb,ro+f,?_,ht,fun j hj=> ?_⟩
  ·simp[Addr.add_mid]
  ·rw[show ro+f+j=ro+(f+j) by omega,hc (f+j) (by omega)]
   congr 2;simp only[Adz.seg,List.getD_eq_getElem?_getD,Int.toNat_natCast];rw[List.getElem?_take,if_pos (by omega),List.getElem?_drop]
theorem dH.get {w:World}{a:Option Addr}{n c:Nat}{ps:List Adz.Part} (h:dH w (.slice a n c) ps) (aJ:ps≠ []):
 ∃b,a=some ⟨b,0,none⟩∧aq w b 240∧∀i (hi:i<ps.length),w.cell? ⟨b,i*3,none⟩=some (.int .i64 ps[i].kind)∧w.cell? ⟨b,i*3+1,none⟩=some (.string ⟨ps[i].text.toArray⟩)∧w.cell? ⟨b,i*3+2,none⟩=some (.int .i64 ps[i].group):=by
 rcases h.2 with ⟨_,e⟩ |⟨g,cap,cur,hv,_,hg,ct,_,dr,fH⟩
 ·exact absurd (List.length_eq_zero_iff.1 e) aJ
 ·injection hv with e1 e2 e3
  refine⟨g,e1,⟨cur,(0,0),hg⟩,fun i hi=> ?_⟩
  have key:∀(l:List Adz.Part) (i:Nat) (hi:i<l.length) (o:Nat),o<3→(l.flatMap bB)[i*3+o]? =(bB l[i])[o]? :=by
   intro l
   induction l with
   | nil=>intro i hi;simp at hi
   | cons p l ih=>
    intro i hi o ho
    cases i with
    | zero=>
     simp only[List.flatMap_cons,Nat.zero_mul,Nat.zero_add,List.getElem_cons_zero];rw[List.getElem?_append_left (by simp[bB];omega)]
    | succ i=>
     simp only[List.flatMap_cons,List.getElem_cons_succ];rw[List.getElem?_append_right (by simp[bB];omega)];have e:(i+1)*3+o - (bB p).length=i*3+o:=by simp[bB];omega
     rw[e];exact ih i (by simpa using hi) o ho
  have ew:∀o u,o<3→(bB ps[i])[o]? =some u→w.cell? ⟨g,i*3+o,none⟩=some u:=by
   intro o u ho hu;rw[cell_of_row _ g (i*3+o) cur _ (0,0) hg];have hx:=key ps i hi o ho;rw[hu,←fH,List.getElem?_take] at hx;have:i*3+o<ps.length*3:=by omega
   simpa[this] using hx
  exact⟨ew 0 _ (by omega) rfl,ew 1 _ (by omega) rfl,ew 2 _ (by omega) rfl⟩
theorem bX {S:Nat→Prop}{w w':World}{b:Nat} (o:ae S w w') (hb:b<w.heap.size) (hs:¬S b):w'.shape? b=w.shape? b:=by
 unfold World.shape?;rw[o.block b hb hs]
theorem eh {w:World}{p:Addr}{v:Value}{b:Nat}:(w.setCell p v).shape? b=w.shape? b:=by
 unfold World.shape?;by_cases e:b=p.block
 ·subst e
  simp only[World.setCell,Array.getElem?_modify,if_true]
  cases h:w.heap[p.block]? with
  | none=>rfl
  | some o=>cases o <;> simp <;> (first | rfl | (split <;> simp))
 ·rw[Below.heap_setCell _ _ _ _ e]
structure Ed (w:World) (eb:Nat) (l:List Value) (out:List UInt8):Prop where
 cells:∃p a c,ai w eb ((l.set 13 p).set 14 (.slice a out.length c))∧(p=.pointer none∨p=.pointer (some ⟨eb,13,none⟩))∧w.ownsRow eb 5 1 (.slice a out.length c) out.length (Lib.byteCells out)
 shape:w.shape? eb=some (108,16)
 typ:aq w eb 108
 len:l.length=16
theorem Ed.get {w:World}{eb:Nat}{l:List Value}{out:List UInt8} (h:Ed w eb l out) (j:Nat) (hj:j≠13∧j≠14) (v:Value) (hv:l[j]? =some v):w.cell? ⟨eb,j,none⟩=some v∧w.frozen? ⟨eb,j,none⟩=false:=by
 obtain⟨p,a,c,h1,_⟩:=h.cells;exact h1 j v (by rw[List.getElem?_set_ne (by omega),List.getElem?_set_ne (by omega)];exact hv)
theorem Ed.keeps {S:Nat→Prop}{w w':World}{eb:Nat}{l:List Value}{out:List UInt8} (h:Ed w eb l out) (o:ae S w w') (h1:¬S eb) (h2:∀b,aq w b 5→¬S b):Ed w' eb l out:=by
 obtain⟨p,a,c,g1,g2,g3⟩:=h.cells;exact⟨⟨p,a,c,g1.keeps o h1,g2,ag g3 o (fun b hb=>h2 b (aq.of_row g3 hb))⟩,(bX o h.typ.lt h1).trans h.shape,h.typ.keeps o h1,h.len⟩
theorem Ed.set {w:World}{eb:Nat}{l:List Value}{out:List UInt8} (h:Ed w eb l out) (j:Nat) (hj:j≠13∧j≠14) (v:Value):Ed (w.setCell ⟨eb,j,none⟩ v) eb (l.set j v) out:=by
 obtain⟨p,a,c,g1,g2,g3⟩:=h.cells;refine⟨⟨p,a,c,?_,g2,ag g3 (af w eb j v) (fun b hb e=>by subst e;exact absurd ((aq.of_row g3 hb).one h.typ) (by decide))⟩,eh.trans h.shape,h.typ.setCell _ _,by rw[List.length_set];exact h.len⟩;have:=g1.set j v
 rwa [List.set_comm _ _ (by omega:14≠j),List.set_comm _ _ (by omega:13≠j)] at this
theorem iq (eb:Nat) (w:World) (l:List Value) (out:List UInt8) (h:Ed w eb l out):
 Calls Tryz.prog 166 #[.pointer (some ⟨eb,13,none⟩)] w fun e w'=>e=.returned (.tuple #[])∧(∃a c,ai w' eb ((l.set 13 (.pointer (some ⟨eb,13,none⟩))).set 14 (.slice a out.length c))∧w'.ownsRow eb 5 1 (.slice a out.length c) out.length (Lib.byteCells out))∧ae (·=eb) w w'∧w'.shape? eb=some (108,16)∧aq w' eb 108:=by
 obtain⟨p,a,c,g1,g2,g3⟩:=h.cells;have hl:=h.len;have Nu:=g1 13 p (by rw[List.getElem?_set_ne (by omega),List.getElem?_set_self (by omega)]);have hj:(Tryz.prog.info? 106).map (·.size)=some 2:=by kernel_rfl
 obtain⟨j,CU,Ww⟩:=Option.map_eq_some_iff.1 hj;clear hj
 rcases g2 with rfl | rfl
 ·have c0:=Nu.1
  have f0:=Nu.2;have Ja:=Lib.run_to_unsafe (P:=Tryz.prog) w ⟨eb,13,none⟩ Tryz.underlying104 Tryz.underlying241 CU (by omega) h.shape (by show 13<16;omega);have By:=Lib.run_from_unsafe (P:=Tryz.prog) w ⟨eb,13,none⟩ Tryz.underlying241 Tryz.underlying104 CU h.shape (by kernel_rfl);have hex:=fun x:Value=>run_callFunc_extern (P:=Tryz.prog) (w:=w) (args:= #[x]) Tryz.func192 (by kernel_rfl) (by kernel_rfl) (by kernel_rfl) (e:=Extern.AbiNoEscape.same) (by kernel_rfl);have aJ:∀x:Value,(Extern.AbiNoEscape.same #[x]).run Tryz.prog w=.ok x w:=fun x=>Lib.run_noEscape w x;have hs:=g1.set 13 (.pointer (some ⟨eb,13,none⟩));rw[List.set_comm _ _ (by omega:14≠13),List.set_set] at hs;go_enter Tryz.func166,Tryz.ntmps166;go_wp2;go_end0;exact⟨rfl,⟨a,c,hs,ag g3 (af w eb 13 _) (fun b hb e=>by subst e;exact absurd ((aq.of_row g3 hb).one h.typ) (by decide))⟩,af w eb 13 _,eh.trans h.shape,h.typ.setCell _ _⟩
 ·have c0:=Nu.1
  go_enter Tryz.func166,Tryz.ntmps166;go_wp2;rw[Lib.run_neq_ptr_same w _ Tryz.underlying104 CU];go_wp2;go_end0;exact⟨rfl,⟨a,c,g1,g3⟩,ae.refl _ _,h.shape,h.typ⟩
theorem infoByte:(Tryz.prog.info? 5).map (fun i=>(i.zero,i.size,i.bytes))=some (some (.int .u8 0),1,1):=by kernel_rfl
theorem kY (eb:Nat) (w:World) (l:List Value) (out:List UInt8) (h:Ed w eb l out) (s:ByteArray) (hlen:out.length+s.size≤1000000):
 Calls Tryz.prog 138 #[.pointer (some ⟨eb,13,none⟩),.string s] w fun e w'=>(∃v,e=.returned v)∧Ed w' eb l (out++s.data.toList)∧ae (fun b=>b=eb∨(aq w b 5∧eb≤b)) w w':=by
 obtain⟨i0,hi,fQ,eJ,eF⟩:=info_parts infoByte;have hl:=h.len;go_enter Tryz.func138,Tryz.ntmps138;go_wp2_with fail;refine(iq eb w l out h).mono ?_;rintro e w1 ⟨rfl,⟨a,c,g1,g2⟩,o1,s1,t1⟩;have xH:=g1 14 (.slice a out.length c) (by rw[List.getElem?_set_self (by rw[List.length_set];omega)]);have q1:=xH.1;have q2:=xH.2;go_wp2_with (at_builtin;refine Lib.wpList_append_own_string _ rfl _ _ 64 9 rfl eb 5 i0 Tryz.underlying64 Tryz.underlying9 hi fQ eJ eF _ _ _ rfl g2 s rfl ?c3 ?c4 ?c5 ?_)
 case c3=>unfold maxLen;omega
 case c4=>have:=t1.lt;omega
 case c5=>have:=t1.lt;omega
 intro v' w2 ml aI _;have aK:=ae.of_grown aI;have nb:¬(Value.slice a out.length c).ownBlock=some eb:=fun e=>absurd ((aq.of_row g2 e).one t1) (by decide);obtain⟨a2,c2,rfl⟩:=ak ml;have k1:=aK.keeps q1 nb;have k2:=aK.keepsFrozen q1 q2 nb;have g3:=(g1.keeps aK nb).set 14 (.slice a2 (out.length+s.size) c2);rw[List.set_set] at g3;have PF:∀b,(Value.slice a2 (out.length+s.size) c2).ownBlock=some b→¬b=eb:=fun b e e2=>by subst e2;exact absurd ((aq.of_row ml e).one (t1.keeps aK nb)) (by decide)
 have ix:=ag ml (af w2 eb 14 (.slice a2 (out.length+s.size) c2)) PF;have e1:out.length+s.size=(out++s.data.toList).length:=by rw[List.length_append,Array.length_toList];rfl
 have e2:Lib.byteCells out++Lib.strCells s=Lib.byteCells (out++s.data.toList):=by rw[Lib.strCells_eq,Lib.byteCells_append]
 have M1:Hid (Ed (w2.setCell ⟨eb,14,none⟩ (.slice a2 (out.length+s.size) c2)) eb l (out++s.data.toList)):=by
  rw[e1,e2] at ix;rw[e1] at g3;rw[e1];exact⟨⟨_,a2,c2,g3,Or.inr rfl,ix⟩,eh.trans ((bX aK t1.lt nb).trans s1),(t1.keeps aK nb).setCell _ _,hl⟩
 have tL:Hid (ae (fun b=>b=eb∨(aq w b 5∧eb≤b)) w (w2.setCell ⟨eb,14,none⟩ (.slice a2 (out.length+s.size) c2))):=by
  refine ae.setCell (p:=⟨eb,14,none⟩) (o1.trans aK (fun _ e=>Or.inl e) (fun b hb e=> ?_)) (fun _=>Or.inl rfl) _;by_cases Kr:b=eb
  ·exact Or.inl Kr
  ·obtain⟨cur,fz,hh⟩:=aq.of_row g2 e
   exact Or.inr ⟨⟨cur,fz,(o1.block b hb Kr).symm.trans hh⟩,(g2.lt b e).1⟩
 clear e1 e2 g3 ix ml aI aK;go_wp2;go_ret2;exact⟨⟨_,rfl⟩,M1,tL⟩
theorem rI (eb:Nat) (w:World) (hB:eb≤w.heap.size) (a:Option Addr) (c:Nat) (out:List UInt8) (g:w.ownsRow eb 5 1 (.slice a out.length c) out.length (Lib.byteCells out)) (hlen:out.length≤1000000):
 Calls Tryz.prog 167 #[.slice a out.length c,.int .i32 10] w fun e w'=>∃a2 c2,e=.returned (.slice a2 (out.length+1) c2)∧w'.ownsRow eb 5 1 (.slice a2 (out.length+1) c2) (out.length+1) (Lib.byteCells (out++ [10]))∧ae (fun b=>(Value.slice a out.length c).ownBlock=some b) w w':=by
 obtain⟨i0,hi,fQ,eJ,eF⟩:=info_parts infoByte;have oa:ae (fun _=>False) w (w.alloc (.cells #[.int .u8 10] 5)):=(ae.refl _ w).alloc _;have ga:=ag g oa (fun _ _=>id);have ur:=heap_alloc_new w (.cells #[.int .u8 10] 5);go_enter Tryz.func167,Tryz.ntmps167;go_wp2_with (at_builtin;refine wpList_append_lies _ (by rfl) _ _ _ (by rfl) eb 5 i0 _ 1 1 Tryz.underlying64 hi fQ eJ eF rfl (by omega) (.slice a out.length c) out.length (Lib.byteCells out) (by rfl) ga ⟨w.heap.size,0,none⟩ 1 1 [.int .u8 10] (by rfl) (by rfl) (World.news_of_block (cs:= #[.int .u8 10]) (t:=5) (fr:=(0,0)) ur) (by simp[Value.oneCell']) (by omega) (by unfold maxLen;omega) (by omega) (by simp only[World.size_alloc];omega) (w.heap.size+1) (by simp) ?_;intro g1 cap w2 br aI bJ eG);go_ret;exact⟨_,_,rfl,by rw[Lib.byteCells_append];exact br,oa.trans (ae.of_grown aI) (fun _ e=>e.elim) (fun _ _ e=>e)⟩
theorem vK (eb:Nat) (w:World) (l:List Value) (out:List UInt8) (h:Ed w eb l out) (hlen:out.length≤1000000):
 Calls Tryz.prog 139 #[.pointer (some ⟨eb,13,none⟩),.int .i32 10] w fun e w'=>(∃v,e=.returned v)∧Ed w' eb l (out++ [10])∧ae (fun b=>b=eb∨(aq w b 5∧eb≤b)) w w':=by
 have hl:=h.len;go_enter Tryz.func139,Tryz.ntmps139;go_wp2_with fail;refine(iq eb w l out h).mono ?_;rintro e w1 ⟨rfl,⟨a,c,g1,g2⟩,o1,s1,t1⟩;have xH:=g1 14 (.slice a out.length c) (by rw[List.getElem?_set_self (by rw[List.length_set];omega)]);have q1:=xH.1;have q2:=xH.2;go_wp2_with fail;refine(rI eb w1 (Nat.le_of_lt t1.lt) a c out g2 hlen).mono ?_;rintro e w2 ⟨a2,c2,rfl,ml,aK⟩;have nb:¬(Value.slice a out.length c).ownBlock=some eb:=fun e=>absurd ((aq.of_row g2 e).one t1) (by decide);have k1:=aK.keeps q1 nb;have k2:=aK.keepsFrozen q1 q2 nb;have g3:=(g1.keeps aK nb).set 14 (.slice a2 (out.length+1) c2);rw[List.set_set] at g3;have PF:∀b,(Value.slice a2 (out.length+1) c2).ownBlock=some b→¬b=eb:=fun b e e2=>by subst e2;exact absurd ((aq.of_row ml e).one (t1.keeps aK nb)) (by decide)
 have ix:=ag ml (af w2 eb 14 (.slice a2 (out.length+1) c2)) PF;have e1:out.length+1=(out++ [(10:UInt8)]).length:=by simp
 have M1:Hid (Ed (w2.setCell ⟨eb,14,none⟩ (.slice a2 (out.length+1) c2)) eb l (out++ [10])):=by
  rw[e1] at ix g3;rw[e1];exact⟨⟨_,a2,c2,g3,Or.inr rfl,ix⟩,eh.trans ((bX aK t1.lt nb).trans s1),(t1.keeps aK nb).setCell _ _,hl⟩
 have tL:Hid (ae (fun b=>b=eb∨(aq w b 5∧eb≤b)) w (w2.setCell ⟨eb,14,none⟩ (.slice a2 (out.length+1) c2))):=by
  refine ae.setCell (p:=⟨eb,14,none⟩) (o1.trans aK (fun _ e=>Or.inl e) (fun b hb e=> ?_)) (fun _=>Or.inl rfl) _;by_cases Kr:b=eb
  ·exact Or.inl Kr
  ·obtain⟨cur,fz,hh⟩:=aq.of_row g2 e
   exact Or.inr ⟨⟨cur,fz,(o1.block b hb Kr).symm.trans hh⟩,(g2.lt b e).1⟩
 clear e1 g3 ix ml aK;go_wp2;go_ret2;exact⟨⟨_,rfl⟩,M1,tL⟩
theorem yD {w w':World}{eb:Nat} (he:aq w eb 108) (o:ae (fun b=>b=eb∨(aq w b 5∧eb≤b)) w w') {w2:World} (o2:ae (fun b=>b=eb∨(aq w' b 5∧eb≤b)) w' w2):ae (fun b=>b=eb∨(aq w b 5∧eb≤b)) w w2:=by
 refine o.trans o2 (fun _ e=>e) (fun b hb e=> ?_)
 rcases e with e |⟨⟨cur,fz,e⟩,e2⟩
 ·exact Or.inl e
 ·by_cases h:b=eb∨(aq w b 5∧eb≤b)
  ·exact h
  ·exact absurd (Or.inr ⟨⟨cur,fz,(o.block b hb h).symm.trans e⟩,e2⟩) h
theorem bP (eb:Nat) (w:World) (CK:Int) (h:w.cell? ⟨eb,15,none⟩=some (.int .i64 CK)):
 Calls Tryz.prog 44 #[.pointer (some ⟨eb,0,none⟩)] w fun e w'=>e=.returned (.bool (CK==0))∧w'=w:=by
 go_enter Tryz.func44,Tryz.ntmps44;go_wp2;go_ret;exact⟨rfl,rfl⟩
theorem lj (eb n c:Nat) (a:Option Addr) (w:World) (h:w.cell? ⟨eb,14,none⟩=some (.slice a n c)):
 Calls Tryz.prog 140 #[.pointer (some ⟨eb,13,none⟩)] w fun e w'=>e=.returned (.int .i64 n)∧w'=w:=by
 go_enter Tryz.func140,Tryz.ntmps140;go_wp2;go_ret;exact⟨rfl,rfl⟩
theorem Cq (eb:Nat) (w:World) (l:List Value) (out:List UInt8) (h:Ed w eb l out) (tz:l[15]? =some (.int .i64 0)) (s:ByteArray) (hlen:out.length+s.size+1≤8000):
 Calls Tryz.prog 97 #[.pointer (some ⟨eb,0,none⟩),.string s] w fun e w'=>(∃v,e=.returned v)∧Ed w' eb l ((out++s.data.toList)++ [10])∧ae (fun b=>b=eb∨(aq w b 5∧eb≤b)) w w':=by
 have Fc:=(h.get 15 (by omega) _ tz).1;go_enter Tryz.func97,Tryz.ntmps97;go_wp2_with fail;refine(bP eb w 0 Fc).mono ?_;rintro e w0 ⟨rfl,rfl⟩;go_wp2_with fail;refine(kY eb w0 l out h s (by omega)).mono ?_;rintro e w1 ⟨⟨v1,rfl⟩,h1,o1⟩;go_wp2_with fail;have el:(out++s.data.toList).length=out.length+s.size:=by rw[List.length_append,Array.length_toList];rfl
 have Qh:Hid _:=el;clear el;refine(vK eb w1 l _ h1 (by rw[Qh.out];omega)).mono ?_;rintro e w2 ⟨⟨v2,rfl⟩,h2,o2⟩;obtain⟨p,a,c,g1,g2,g3⟩:=h2.cells;have xH:=(g1 14 _ (by rw[List.getElem?_set_self (by rw[List.length_set,h2.len];omega)])).1;have JW:((out++s.data.toList)++ [(10:UInt8)]).length=out.length+s.size+1:=by rw[List.length_append,Qh.out];rfl
 rw[JW] at xH;have hn:¬((8000:Int)<((out.length+s.size+1:Nat):Int)):=by omega
 generalize out.length+s.size+1=n at*
 have hd:decide ((8000:Int)<(n:Int))=false:=by simp;omega
 go_wp2_with fail;refine(lj eb n c a w2 xH).mono ?_;rintro e w3 ⟨rfl,rfl⟩;clear g1 g2 g3 JW xH;go_wp2;go_end0;exact⟨⟨_,rfl⟩,h2,yD h.typ o1 o2⟩
end
end Go.Proofs.YtbiobhghnldckaaGreatDoor
