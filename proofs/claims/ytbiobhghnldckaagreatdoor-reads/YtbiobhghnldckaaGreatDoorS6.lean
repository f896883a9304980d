/- Proved: small laws: the ends of a pattern's items, and how their rows lie in memory. No condition. -/
import Derived.Test.YtbiobhghnldckaaGreatDoorS5
import Derived.Laws.IdiomStrings
import Derived.Laws.Cover4
namespace Go.Proofs.YtbiobhghnldckaaGreatDoor
set_option linter.unusedVariables false
set_option maxRecDepth 100000
set_option maxHeartbeats 6400000
section
open Go.RowKit
namespace Adz
def eM (x:Item) (n:Int):Nat→List Int→List Int→List Int
 | j,[],b0::_=> [endAt x none j n 0 0 b0]
 | j,r::rs,b0::b1::bs=>let rest:=eM x n (j+1) rs (b1::bs);endAt x (some r) j n (rest.headD 0) b1 b0::rest
 | _,_,_=> []
def ends (x:Item) (sp bh:List Int):List Int:=eM x sp.length 0 sp bh
theorem jN (x:Item) (n:Int):∀(rs:List Int) (bh:List Int) (j:Nat),bh.length=rs.length+1→(eM x n j rs bh).length=bh.length
 | [],[b],j,h=>by simp[eM]
 | [],[],j,h=>by simp at h
 | [],b::c::l,j,h=>by simp at h
 | r::rs,[],j,h=>by simp at h
 | r::rs,[b],j,h=>by simp at h
 | r::rs,b::c::l,j,h=>by
  simp only[eM,List.length_cons];rw[jN x n rs (c::l) (j+1) (by simpa using h)];simp
theorem qR (x:Item) (n:Int):∀(rs:List Int) (bh:List Int) (j k:Nat),bh.length=rs.length+1→k<rs.length→
 (eM x n j rs bh).getD k 0=endAt x (some (rs.getD k 0)) ((j+k:Nat):Int) n ((eM x n j rs bh).getD (k+1) 0) (bh.getD (k+1) 0) (bh.getD k 0)
 | [],bh,j,k,h,hk=>by simp at hk
 | r::rs,[],j,k,h,hk=>by simp at h
 | r::rs,[b],j,k,h,hk=>by simp at h
 | r::rs,b::c::l,j,0,h,hk=>by
  simp only[eM,List.getD_cons_zero,List.getD_cons_succ,Nat.add_zero]
  cases eM x n (j+1) rs (c::l) <;> simp
 | r::rs,b::c::l,j,k+1,h,hk=>by
  have:=qR x n rs (c::l) (j+1) k (by simpa using h) (by simpa using hk);simp only[eM,List.getD_cons_succ];rw[this,show j+1+k=j+(k+1) by omega];simp
theorem qQ (x:Item) (n:Int):∀(rs:List Int) (bh:List Int) (j:Nat),bh.length=rs.length+1→
 (eM x n j rs bh).getD rs.length 0=endAt x none ((j+rs.length:Nat):Int) n 0 0 (bh.getD rs.length 0)
 | [],[b],j,h=>by simp[eM]
 | [],[],j,h=>by simp at h
 | [],b::c::l,j,h=>by simp at h
 | r::rs,[],j,h=>by simp at h
 | r::rs,[b],j,h=>by simp at h
 | r::rs,b::c::l,j,h=>by
  have:=qQ x n rs (c::l) (j+1) (by simpa using h);simp only[eM,List.length_cons,List.getD_cons_succ];rw[this,show j+1+rs.length=j+(rs.length+1) by omega]
theorem xM (x:Item) (sp bh:List Int) (h:bh.length=sp.length+1) (k:Nat) (hk:k<sp.length):
 (ends x sp bh).getD k 0=endAt x (some (sp.getD k 0)) k sp.length ((ends x sp bh).getD (k+1) 0) (bh.getD (k+1) 0) (bh.getD k 0):=by
 have:=qR x sp.length sp bh 0 k h hk;simpa[ends] using this
theorem xL (x:Item) (sp bh:List Int) (h:bh.length=sp.length+1):(ends x sp bh).getD sp.length 0=endAt x none sp.length sp.length 0 0 (bh.getD sp.length 0):=by
 have:=qQ x sp.length sp bh 0 h;simpa[ends] using this
theorem uh (x:Item) (sp bh:List Int) (h:bh.length=sp.length+1):(ends x sp bh).length=bh.length:=jN x _ sp bh 0 h
end Adz
def bY (w:World) (ra:Option Addr) (sp:List Int):Prop:=sp≠ []→∃rb ro,ra=some ⟨rb,ro,none⟩∧aq w rb 21∧∀j,j<sp.length→w.cell? ⟨rb,ro+j,none⟩=some (.int .i32 (sp.getD j 0))
theorem bY.keeps {S:Nat→Prop}{w w':World}{ra:Option Addr}{sp:List Int} (h:bY w ra sp) (o:ae S w w') (hs:∀b,aq w b 21→¬S b):bY w' ra sp:=by
 intro aJ;obtain⟨rb,ro,e,ht,hc⟩:=h aJ;exact⟨rb,ro,e,ht.keeps o (hs _ ht),fun j hj=>o.keeps (hc j hj) (hs _ ht)⟩
theorem Ei (w:World) (n:Nat) (hn:n≤2000000):(Instr.makeSlice 35 (.int .i64 n) (.int .i64 n)).run Tryz.prog w=.ok (.slice (some ⟨w.heap.size,0,none⟩) n n) (w.alloc (.cells (madeCells #[.int .i64 0] n) 3)):=by
 have h:=run_make (P:=Tryz.prog) (w:=w) 35 3 _ (.int .i64 0) (by rfl) (by rfl) (by rfl) .i64 .i64 n n (by omega) (by omega) (by show(8:Int)*n≤_;omega) (by omega);have e:Tryz.prog.types[3].size=1:=by rfl
 rw[h,e,Int.toNat_natCast,Nat.mul_one]
 rfl
namespace Adz
def allEnds (sp:List Int):List Item→List (List Int)
 | []=> [List.replicate (sp.length+1) 0]
 | x::xs=>ends x sp ((allEnds sp xs).headD [])::allEnds sp xs
theorem oH (sp:List Int):∀xs:List Item,(allEnds sp xs).length=xs.length+1
 | []=>rfl
 | x::xs=>by simp[allEnds,oH sp xs]
theorem df (sp:List Int):∀(xs:List Item) (i:Nat),i≤xs.length→((allEnds sp xs).getD i []).length=sp.length+1
 | [],i,h=>by
  have:i=0:=by simpa using h
  subst this;simp[allEnds]
 | x::xs,0,h=>by
  have hw:=df sp xs 0 (by omega);have e:(allEnds sp xs).headD []=(allEnds sp xs).getD 0 []:=by cases allEnds sp xs <;> rfl
  simp only[allEnds,List.getD_cons_zero];rw[uh x sp _ (by rw[e];exact hw),e,hw]
 | x::xs,i+1,h=>by
  simp only[allEnds,List.getD_cons_succ];exact df sp xs i (by simpa using h)
theorem kj (sp:List Int):∀xs:List Item,(allEnds sp xs).getD xs.length []=List.replicate (sp.length+1) 0
 | []=>rfl
 | x::xs=>by simp only[allEnds,List.length_cons,List.getD_cons_succ];exact kj sp xs
theorem gK (sp:List Int):∀(xs:List Item) (i:Nat) (h:i<xs.length),(allEnds sp xs).getD i []=ends xs[i] sp ((allEnds sp xs).getD (i+1) [])
 | x::xs,0,h=>by
  have e:(allEnds sp xs).headD []=(allEnds sp xs).getD 0 []:=by cases allEnds sp xs <;> rfl
  simp only[allEnds,List.getD_cons_zero,List.getD_cons_succ,List.getElem_cons_zero];rw[e]
 | x::xs,i+1,h=>by
  simp only[allEnds,List.getD_cons_succ,List.getElem_cons_succ];exact gK sp xs i (by simpa using h)
 | [],_,h=>by simp at h
end Adz
theorem Ek (w:World) (n:Nat) (hn:n≤2000000):(Instr.makeSlice 77 (.int .i64 n) (.int .i64 n)).run Tryz.prog w=.ok (.slice (some ⟨w.heap.size,0,none⟩) n n) (w.alloc (.cells (madeCells #[.slice none 0 0] n) 35)):=by
 have h:=run_make (P:=Tryz.prog) (w:=w) 77 35 _ (.slice none 0 0) (by rfl) (by rfl) (by rfl) .i64 .i64 n n (by omega) (by omega) (by show(24:Int)*n≤_;omega) (by omega);have e:Tryz.prog.types[35].size=1:=by rfl
 rw[h,e,Int.toNat_natCast,Nat.mul_one]
 rfl
theorem bN.get {w:World}{a:Option Addr}{n c:Nat}{xs:List Adz.Item} (h:bN w (.slice a n c) xs) (hf:∀x∈xs,x.spans.length≤1000) (aJ:xs≠ []):
 ∃ib,a=some ⟨ib,0,none⟩∧aq w ib 270∧∀i (hi:i<xs.length),ItemAt w ib (i*4) xs[i]∧w.cell? ⟨ib,i*4+1,none⟩=some (.int .i64 xs[i].group):=by
 obtain⟨gI,h1,h2⟩:=h
 rcases h1.2 with ⟨_,e⟩ |⟨g,cap,cur,hv,_,hg,ct,_,dr,fH⟩
 ·exact absurd (List.length_eq_zero_iff.1 e) aJ
 ·injection hv with e1 e2 e3
  refine⟨g,e1,⟨cur,(0,0),hg⟩,fun i hi=> ?_⟩;obtain⟨v,hv,hc⟩:=eA h2 i hi
  have ew:∀o u,o<4→(dL xs[i] v)[o]? =some u→w.cell? ⟨g,i*4+o,none⟩=some u:=by
   intro o u ho hu;rw[cell_of_row _ g (i*4+o) cur _ (0,0) hg];have hx:=hc o ho;rw[hu,←fH,List.getElem?_take] at hx;have:i*4+o<xs.length*4:=by omega
   simpa[this] using hx
  obtain⟨sa,sc,rfl,iD⟩:=hv;exact⟨⟨ew 0 _ (by omega) rfl,⟨sa,sc,ew 2 _ (by omega) rfl,⟨sa,sc,rfl,iD⟩⟩,ew 3 _ (by omega) rfl,hf _ (List.getElem_mem hi)⟩,ew 1 _ (by omega) rfl⟩
structure Mat (w:World) (ab base K n:Nat) (F:Nat→Nat→Int):Prop where
 typ:aq w ab 35
 cell:∀j,j<K→w.cell? ⟨ab,j,none⟩=some (.slice (some ⟨base+j,0,none⟩) (n+1) (n+1))
 rows:∀j,j<K→aq w (base+j) 3
 place:∀j t,j<K→t≤n→w.cell? ⟨base+j,t,none⟩=some (.int .i64 (F j t))∧w.frozen? ⟨base+j,t,none⟩=false
theorem Mat.keeps {S:Nat→Prop}{w w':World}{ab base K n:Nat}{F:Nat→Nat→Int} (h:Mat w ab base K n F) (o:ae S w w') (hs:∀c,aq w c 35→¬S c) (fm:∀c,aq w c 3→¬S c):Mat w' ab base K n F:=
 ⟨h.typ.keeps o (hs _ h.typ),fun j hj=>o.keeps (h.cell j hj) (hs _ h.typ),fun j hj=>(h.rows j hj).keeps o (fm _ (h.rows j hj)),
  fun j t hj ht=>⟨o.keeps (h.place j t hj ht).1 (fm _ (h.rows j hj)),o.keepsFrozen (h.place j t hj ht).1 (h.place j t hj ht).2 (fm _ (h.rows j hj))⟩⟩
theorem Mat.like {w:World}{ab base K n:Nat}{F G:Nat→Nat→Int} (h:Mat w ab base K n F) (e:∀j t,j<K→t≤n→F j t=G j t):Mat w ab base K n G:=
 ⟨h.typ,h.cell,h.rows,fun j t hj ht=>by rw[←e j t hj ht];exact h.place j t hj ht⟩
theorem Mat.set {w:World}{ab base K n:Nat}{F:Nat→Nat→Int} (h:Mat w ab base K n F) (i s:Nat) (hi:i<K) (hs:s≤n) (v:Int):Mat (w.setCell ⟨base+i,s,none⟩ (.int .i64 v)) ab base K n (fun j t=>if j=i∧t=s then v else F j t):=by
 have o:=af w (base+i) s (.int .i64 v);have na:ab≠base+i:=h.typ.ne (h.rows i hi) (by decide);refine⟨h.typ.setCell _ _,fun j hj=>o.keeps (h.cell j hj) na,fun j hj=>(h.rows j hj).setCell _ _,fun j t hj ht=>⟨?_,?_⟩⟩
 ·by_cases e:j=i∧t=s
  ·obtain⟨rfl,rfl⟩:=e
   simp only[and_self,if_true];exact World.cell?_setCell_same _ _ _ (h.place j t hj ht).1
  ·rw[if_neg e,World.cell?_setCell_other w ⟨base+i,s,none⟩ ⟨base+j,t,none⟩ _ (by intro h;injection h;omega)]
   exact(h.place j t hj ht).1
 ·rw[World.frozen?_setCell];exact(h.place j t hj ht).2
structure MatTo (w:World) (ab base K m n:Nat):Prop where
 typ:aq w ab 35
 any:∀j,j<K→(∃v,w.cell? ⟨ab,j,none⟩=some v)∧w.frozen? ⟨ab,j,none⟩=false
 cell:∀j,j<m→w.cell? ⟨ab,j,none⟩=some (.slice (some ⟨base+j,0,none⟩) (n+1) (n+1))
 rows:∀j,j<m→aq w (base+j) 3
 place:∀j t,j<m→t≤n→w.cell? ⟨base+j,t,none⟩=some (.int .i64 0)∧w.frozen? ⟨base+j,t,none⟩=false
theorem MatTo.made (w:World) (base K n:Nat):MatTo (w.alloc (.cells (madeCells #[.slice none 0 0] K) 35)) w.heap.size base K 0 n:=by
 have hc:=ai.new w (madeCells #[.slice none 0 0] K) 35;rw[toList_madeCells_one] at hc;refine⟨aq.new w _ _ _,fun j hj=> ?_,fun j hj=>by omega,fun j hj=>by omega,fun j t hj=>by omega⟩;have:=hc j (.slice none 0 0) (by simp[hj]);exact⟨⟨_,this.1⟩,this.2⟩
theorem MatTo.keeps {S:Nat→Prop}{w w':World}{ab base K m n:Nat} (h:MatTo w ab base K m n) (o:ae S w w') (hs:∀c,aq w c 35→¬S c) (fm:∀c,aq w c 3→¬S c):MatTo w' ab base K m n:=
 ⟨h.typ.keeps o (hs _ h.typ),fun j hj=>⟨⟨_,o.keeps (h.any j hj).1.choose_spec (hs _ h.typ)⟩,o.keepsFrozen (h.any j hj).1.choose_spec (h.any j hj).2 (hs _ h.typ)⟩,fun j hj=>o.keeps (h.cell j hj) (hs _ h.typ),fun j hj=>(h.rows j hj).keeps o (fm _ (h.rows j hj)),
  fun j t hj ht=>⟨o.keeps (h.place j t hj ht).1 (fm _ (h.rows j hj)),o.keepsFrozen (h.place j t hj ht).1 (h.place j t hj ht).2 (fm _ (h.rows j hj))⟩⟩
theorem MatTo.add {w:World}{ab base K m n:Nat} (h:MatTo w ab base K m n) (hm:m<K) (hb:base+m=w.heap.size):
 MatTo ((w.setCell ⟨ab,m,none⟩ (.slice (some ⟨base+m,0,none⟩) (n+1) (n+1))).alloc (.cells (madeCells #[.int .i64 0] (n+1)) 3)) ab base K (m+1) n:=by
 obtain⟨u,hu⟩:=(h.any m hm).1;have os:=af w ab m (.slice (some ⟨base+m,0,none⟩) (n+1) (n+1));generalize da:w.setCell ⟨ab,m,none⟩ (.slice (some ⟨base+m,0,none⟩) (n+1) (n+1))=w1 at*
 have lG:w1.heap.size=w.heap.size:=by rw[←da];simp[World.setCell]
 have oa:ae (fun _=>False) w1 (w1.alloc (.cells (madeCells #[.int .i64 0] (n+1)) 3)):=(ae.refl _ w1).alloc _;have t1:aq w1 ab 35:=by rw[←da];exact h.typ.setCell _ _
 have hc:=ai.new w1 (madeCells #[.int .i64 0] (n+1)) 3;rw[toList_madeCells_one,lG,←hb] at hc;have tn:=aq.new w1 (madeCells #[.int .i64 0] (n+1)) 3 (0,0);rw[lG,←hb] at tn
 have h1:∀j,j<K→(∃v,w1.cell? ⟨ab,j,none⟩=some v)∧w1.frozen? ⟨ab,j,none⟩=false:=fun j hj=>by
  rw[←da];refine⟨?_,by rw[World.frozen?_setCell];exact(h.any j hj).2⟩;by_cases e:j=m
  ·subst e;exact⟨_,World.cell?_setCell_same _ _ _ hu⟩
  ·obtain⟨y,hy⟩:=(h.any j hj).1
   exact⟨y,by rw[World.cell?_setCell_other w ⟨ab,m,none⟩ ⟨ab,j,none⟩ _ (by intro h;injection h;omega)];exact hy⟩
 have h2:∀j,j<m+1→w1.cell? ⟨ab,j,none⟩=some (.slice (some ⟨base+j,0,none⟩) (n+1) (n+1)):=fun j hj=>by
  rw[←da];by_cases e:j=m
  ·subst e;exact World.cell?_setCell_same _ _ _ hu
  ·rw[World.cell?_setCell_other w ⟨ab,m,none⟩ ⟨ab,j,none⟩ _ (by intro h;injection h;omega)];exact h.cell j (by omega)
 refine⟨t1.keeps oa id,fun j hj=>⟨⟨_,oa.keeps (h1 j hj).1.choose_spec id⟩,oa.keepsFrozen (h1 j hj).1.choose_spec (h1 j hj).2 id⟩,fun j hj=>oa.keeps (h2 j hj) id,fun j hj=> ?_,fun j t hj ht=> ?_⟩
 ·by_cases e:j=m
  ·subst e;exact tn
  ·exact((h.rows j (by omega)).keeps os (fun c=>(h.typ.ne (h.rows j (by omega)) (by decide)) c.symm)).keeps oa id
 ·by_cases e:j=m
  ·subst e;exact hc t (.int .i64 0) (by rw[List.getElem?_replicate];simp;omega)
  ·have nn:=fun c=>(h.typ.ne (h.rows j (by omega)) (by decide)) (Eq.symm c)
   have p:=h.place j t (by omega) ht;have q:=os.keeps p.1 nn;exact⟨oa.keeps q id,oa.keepsFrozen q (os.keepsFrozen p.1 p.2 nn) id⟩
theorem MatTo.full {w:World}{ab base K n:Nat} (h:MatTo w ab base K K n):Mat w ab base K n (fun _ _=>0):=⟨h.typ,h.cell,h.rows,h.place⟩
namespace Adz
def fV (s:ByteArray):Nat→Nat→List Int
 | 0,_=> []
 | b+1,i=>if i<s.size then Int.ofNat (Utf8.decode s i).1::fV s b (i+(Utf8.decode s i).2) else []
def runes (s:ByteArray):List Int:=fV s s.size 0
theorem kS (s:ByteArray):∀(b i:Nat) (acc:Array Value),(Conv.runesFrom s b i acc).toList=acc.toList++(fV s b i).map (.int .i32)
 | 0,i,acc=>by simp[Conv.runesFrom,fV]
 | b+1,i,acc=>by
  unfold Conv.runesFrom fV;split
  ·simp only[]
   rw[kS s b];simp
  ·simp
theorem mI (s:ByteArray):∀(b i:Nat),(fV s b i).length≤b
 | 0,i=>by simp[fV]
 | b+1,i=>by
  unfold fV;split
  ·have:=mI s b (i+(Utf8.decode s i).2);simp;omega
  ·simp
theorem runes_len (s:ByteArray):(runes s).length≤s.size:=mI s _ _
theorem runesFrom_all (s:ByteArray):(Conv.runesFrom s s.size 0 #[]).toList=(runes s).map (.int .i32):=by
 rw[kS];simp[runes]
theorem runesFrom_size (s:ByteArray):(Conv.runesFrom s s.size 0 #[]).size=(runes s).length:=by
 rw[←Array.length_toList,runesFrom_all,List.length_map]
end Adz
theorem tV (w:World) (ty:TypeId) (v:Value) (k c:Nat) {base:Nat}{e:TypeId}{xs:List Value} (cz:w.ownsRow base e 1 v k xs):
 (Builtin.append_ #[103,103] ty #[v,.slice none 0 c]).run Tryz.prog w=.ok v w:=by
 have ct:∃a cap,v=.slice a k cap∧k≤cap:=by
  rcases cz.2 with ⟨rfl,rfl⟩ |⟨g,cap,cur,rfl,_,_,h,_⟩
  ·exact⟨_,_,rfl,Nat.le_refl _⟩
  ·exact⟨_,_,rfl,h⟩
 obtain⟨a,cap,rfl,hc⟩:=ct;obtain⟨i,hi,fQ,eJ,eF⟩:=info_parts kI;have hu:=run_underlying (P:=Tryz.prog) (w:=w) Tryz.underlying103;have dr:(sizeOf 21).run Tryz.prog w=.ok 1 w:=by simp[sizeOf,typeInfo,hi,eJ]
 cases a <;> simp[Builtin.append_,hu,dr,Builtin.lenOf,Builtin.firstCells,hc,storeCells,Sem.run_bind,Result.andThen]
theorem lT (w:World) (ty:TypeId) (base:Nat) (v:Value) (k:Nat) (xs:List Int) (cz:w.ownsRow base 21 1 v k (xs.map (.int .i32))) (a:Option Addr) (c:Nat) (sp:List Int) (hs:bY w a sp) (oZ:k+sp.length≤100000000) (hb:base≤w.heap.size):
 ∃v' w',(Builtin.append_ #[103,103] ty #[v,.slice a sp.length c]).run Tryz.prog w=.ok v' w'∧w'.ownsRow base 21 1 v' (k+sp.length) ((xs++sp).map (.int .i32))∧w.grownBy w' v.ownBlock∧(v'.ownBlock=v.ownBlock∨v'.ownBlock=some w.heap.size):=by
 obtain⟨i,hi,fQ,eJ,eF⟩:=info_parts kI;by_cases he:sp= []
 ·subst he
  cases a with
  | none=>exact ⟨v,w,tV w ty v k c cz,by simpa using cz,⟨rfl,rfl,rfl,Nat.le_refl _,fun _ _ _=>rfl⟩,Or.inl rfl⟩
  | some ad=>
   obtain⟨v',w',h1,h2,h3,_,h5⟩:=run_append_own_at (P:=Tryz.prog) w base 103 ty 21 i _ 1 4 Tryz.underlying103 hi fQ eJ eF rfl (by omega) v k _ cz ad 0 c [] rfl (by simp) (by simp) (by unfold maxLen;omega) (by simp at oZ;omega) hb;exact⟨v',w',h1,by simpa using h2,h3,h5⟩
 ·obtain⟨rb,ro,rfl,_,hc⟩:=hs he
  obtain⟨v',w',h1,h2,h3,_,h5⟩:=run_append_own_at (P:=Tryz.prog) w base 103 ty 21 i _ 1 4 Tryz.underlying103 hi fQ eJ eF rfl (by omega) v k _ cz ⟨rb,ro,none⟩ sp.length c (sp.map (.int .i32)) (by simp) (fun j u hu=>by
   rw[Addr.add_mid];rw[List.getElem?_map] at hu
   cases hj:sp[j]? with
   | none=>rw [hj] at hu;cases hu
   | some r=>
    rw[hj] at hu;simp at hu;subst hu;have hl:j<sp.length:=(List.getElem?_eq_some_iff.1 hj).1;rw[hc j hl,List.getD_eq_getElem?_getD,hj];rfl) (by intro u hu;simp at hu;obtain⟨r,_,rfl⟩:=hu;rfl) (by unfold maxLen;omega) (by omega) hb
  exact⟨v',w',h1,by simpa using h2,h3,h5⟩
theorem wp_append_runes (w:World) {o:Oper}{a:Act}{K:Act→World→Prop}{Q:Exit→Act→World→Prop} (s x:Operand)
 (ho:o.op=.call {callee:=.builtin .append,args:= #[s,x],argTypes:= #[103,103]}) (base:Nat) (v:Value) (k:Nat) (xs:List Int) (hv:a.eval s=v) (cz:w.ownsRow base 21 1 v k (xs.map (.int .i32))) (ad:Option Addr) (c:Nat) (sp:List Int) (n:Nat) (hx:a.eval x=.slice ad n c) (hn:n=sp.length) (hs:bY w ad sp) (oZ:k+n≤100000000) (hb:base≤w.heap.size)
 (h:∀a' c' w',w'.ownsRow base 21 1 (.slice a' (k+n) c') (k+n) ((xs++sp).map (.int .i32))→ae (fun b=>v.ownBlock=some b) w w'→((Value.slice a' (k+n) c').ownBlock=v.ownBlock∨(Value.slice a' (k+n) c').ownBlock=some w.heap.size)→K (a.put o.dst (.slice a' (k+n) c')) w'):o.wp Tryz.prog a w K Q:=by
 subst hn;obtain⟨v',w',hr,h2,h3,h4⟩:=lT w o.type base v k xs cz ad c sp hs oZ hb;obtain⟨a',c',rfl⟩:=ak h2;unfold Oper.wp execOp;simp only[ho,resolve,invoke,builtin,Sem.run_bind,Sem.run_pure,Result.andThen_ok,List.map_toArray,List.map_cons,List.map_nil,hv,hx,hr];exact h a' c' w' h2 (ae.of_grown h3) h4
theorem cM (w:World) {ops:Array Oper}{o:Oper}{a:Act}{K:Act→World→Prop}{Q:Exit→Act→World→Prop}{E:Prop} (BA:o.guard=none) (s x:Operand)
 (ho:o.op=.call {callee:=.builtin .append,args:= #[s,x],argTypes:= #[103,103]}) (base:Nat) (v:Value) (k:Nat) (xs:List Int) (hv:a.eval s=v) (cz:w.ownsRow base 21 1 v k (xs.map (.int .i32))) (ad:Option Addr) (c:Nat) (sp:List Int) (n:Nat) (hx:a.eval x=.slice ad n c) (hn:n=sp.length) (hs:bY w ad sp) (oZ:k+n≤100000000) (hb:base≤w.heap.size)
 (h:∀a' c' w',w'.ownsRow base 21 1 (.slice a' (k+n) c') (k+n) ((xs++sp).map (.int .i32))→ae (fun b=>v.ownBlock=some b) w w'→((Value.slice a' (k+n) c').ownBlock=v.ownBlock∨(Value.slice a' (k+n) c').ownBlock=some w.heap.size)→K (a.put o.dst (.slice a' (k+n) c')) w'):
 if Region.wanted o (yielded ops a.tmps)=true then Oper.wp Tryz.prog o a w K Q else E:=by
 rw[if_pos (by simp[Region.wanted,BA])];exact wp_append_runes w s x ho base v k xs hv cz ad c sp n hx hn hs oZ hb h
theorem wpList_append_runes (w:World) {ops:Array Oper}{rest:List Oper}{o:Oper}{a:Act}{Q:Exit→Act→World→Prop} (BA:o.guard=none) (s x:Operand)
 (ho:o.op=.call {callee:=.builtin .append,args:= #[s,x],argTypes:= #[103,103]}) (base:Nat) (v:Value) (k:Nat) (xs:List Int) (hv:a.eval s=v) (cz:w.ownsRow base 21 1 v k (xs.map (.int .i32))) (ad:Option Addr) (c:Nat) (sp:List Int) (n:Nat) (hx:a.eval x=.slice ad n c) (hn:n=sp.length) (hs:bY w ad sp) (oZ:k+n≤100000000) (hb:base≤w.heap.size)
 (h:∀a' c' w',w'.ownsRow base 21 1 (.slice a' (k+n) c') (k+n) ((xs++sp).map (.int .i32))→ae (fun b=>v.ownBlock=some b) w w'→((Value.slice a' (k+n) c').ownBlock=v.ownBlock∨(Value.slice a' (k+n) c').ownBlock=some w.heap.size)→wpList Tryz.prog ops Q rest (a.put o.dst (.slice a' (k+n) c')) w'):
 wpList Tryz.prog ops Q (o::rest) a w:=
 wpList_plain BA fun _ hK=>wp_append_runes w s x ho base v k xs hv cz ad c sp n hx hn hs oZ hb (fun a' c' w' h1 h2 h3=>hK _ _ (h a' c' w' h1 h2 h3))
theorem oL (w:World) (s:ByteArray) (hs:s.size≤1000000):∃c w',(convert 9 103 (.string s)).run Tryz.prog w=.ok (.slice (some ⟨w.heap.size,0,none⟩) (Adz.runes s).length c) w'∧bY w' (some ⟨w.heap.size,0,none⟩) (Adz.runes s)∧ae (fun _=>False) w w'∧(Adz.runes s).length≤c∧aq w' w.heap.size 21:=by
 have hz:=Adz.runesFrom_size s;have hl:=Adz.runes_len s;have iT:=run_runes_of_string (P:=Tryz.prog) w 9 103 21 s Tryz.underlying9 Tryz.underlying103 Tryz.underlying21 (by rw[hz];omega);have wP:=grownCap_ge w (Conv.runesFrom s s.size 0 #[]).size 0 21;generalize ct:grownCap w (Conv.runesFrom s s.size 0 #[]).size 0 21=cap at*
 have fw:=ai.new w.drew (Conv.runesFrom s s.size 0 #[]++Array.replicate (cap - (Conv.runesFrom s s.size 0 #[]).size) (.int .i32 0)) 21;have Lt:=aq.new w.drew (Conv.runesFrom s s.size 0 #[]++Array.replicate (cap - (Conv.runesFrom s s.size 0 #[]).size) (.int .i32 0)) 21 (0,0);have ur:=heap_alloc_new w.drew (.cells (Conv.runesFrom s s.size 0 #[]++Array.replicate (cap - (Conv.runesFrom s s.size 0 #[]).size) (.int .i32 0)) 21);rw[hz] at iT;refine⟨cap,_,iT,?_,((ae.refl _ w).drew).alloc _,by rw[hz] at wP;exact wP,by rw[←hz];exact Lt⟩
 ·intro _
  refine⟨_,0,rfl,by rw[←hz];exact Lt,fun j hj=> ?_⟩;rw[←hz];refine(fw (0+j) _ ?_).1;rw[Array.toList_append,Adz.runesFrom_all,Nat.zero_add,List.getElem?_append_left (by rw[List.length_map];exact hj),List.getElem?_map,List.getD_eq_getElem?_getD,List.getElem?_eq_getElem hj]
  rfl
end
section
open Go.RowKit
attribute [local go_sem ↓] Go.wp_at_zero Go.wp_at_succ
structure SG where
 x:Nat
 lb:Nat
 pb:Nat
 L:List Int
 pl:List Int
 lv:Value
 jv:Value
 lc:Nat
structure Scn (g:SG) (w:World) (s:SS):Prop where
 typ:aq w g.x 79
 cells:∃la pc,ai w g.x [.slice la g.L.length g.lc,.slice (some ⟨g.pb,0,none⟩) (g.L.length+1) pc,.int .i64 s.i,.int .i64 s.e,.int .i64 s.p,.int .i64 s.count,g.lv,g.jv]∧(g.L= []→la=none)∧(g.L≠ []→la=some ⟨g.lb,0,none⟩)
 runes:∀j,j<g.L.length→w.cell? ⟨g.lb,j,none⟩=some (.int .i64 (Adz.peek g.L j))
 places:∀j,j≤g.L.length→w.cell? ⟨g.pb,j,none⟩=some (.int .i64 (Adz.place g.pl j))
 nl:g.L≠ []→g.lb≠g.x
 np:g.pb≠g.x
 le:s.i≤g.L.length
 small:g.L.length≤500
 good:∀j,j<g.L.length→0≤Adz.peek g.L j
 cap:g.L.length≤g.lc
 cap0:g.L= []→g.lc=0
theorem Scn.drewN {g:SG}{w:World}{s:SS} (h:Scn g w s) (n:Nat):Scn g (w.drewN n) s:=by
 obtain⟨la,pc,k1,k2⟩:=h.cells;exact⟨h.typ.keeps ((ae.refl (fun _=>False) w).drewN n) id,⟨la,pc,k1.keeps ((ae.refl (fun _=>False) w).drewN n) id,k2⟩,fun j hj=>((ae.refl (fun _=>False) w).drewN n).keeps (h.runes j hj) id,fun j hj=>((ae.refl (fun _=>False) w).drewN n).keeps (h.places j hj) id,h.nl,h.np,h.le,h.small,h.good,h.cap,h.cap0⟩
theorem Io (g:SG) (w:World) (s:SS) (h:Scn g w s) (he:s.e=0):
 Calls Tryz.prog 56 #[.pointer (some ⟨g.x,0,none⟩)] w fun e w'=>e=.returned (.int .i64 (Adz.peek g.L s.i))∧∃n,w'=w.drewN n:=by
 obtain⟨la,pc,k1,k2⟩:=h.cells;have c0:=(k1 0 _ rfl).1;have c2:=(k1 2 _ rfl).1;have c3:=(k1 3 _ rfl).1;rw[he] at c3;have hle:=h.le;have dy:=h.small;by_cases aw:s.i<g.L.length
 ·have iS:=k2.2 (fun e=>by rw[e] at aw;simp at aw)
  subst iS;have hr:=h.runes s.i aw;have TI:(s.i:Int)<(g.L.length:Int):=by omega
  have wP:¬(g.L.length:Int)≤(s.i:Int):=by omega
  generalize Adz.peek g.L s.i=r at*
  clear k1 k2;go_enter Tryz.func56,Tryz.ntmps56;go_wp2_with fail
  go_quiet (fail)
  go_wp2_with fail
  go_quiet (fail)
  go_wp2;go_ret;exact⟨rfl,zT rfl⟩
 ·have wP:(g.L.length:Int)≤(s.i:Int):=by omega
  rw[Adz.peek_ge (by omega)];clear k1 k2;go_enter Tryz.func56,Tryz.ntmps56;go_wp2_with fail
  go_quiet (fail)
  go_wp2;go_ret;exact⟨rfl,_,rfl⟩
theorem Es (g:SG) (w:World) (s:SS) (h:Scn g w s) (he:s.e≠0):
 Calls Tryz.prog 56 #[.pointer (some ⟨g.x,0,none⟩)] w fun e w'=>e=.returned (.int .i64 (-1))∧∃n,w'=w.drewN n:=by
 obtain⟨la,pc,k1,k2⟩:=h.cells;have c0:=(k1 0 _ rfl).1;have c2:=(k1 2 _ rfl).1;have c3:=(k1 3 _ rfl).1;have b0:(s.e==0)=false:=by simpa using he
 have b1:(s.e !=0)=true:=by unfold bne;rw[b0];rfl
 have hle:=h.le;have dy:=h.small;clear k1 k2;generalize s.e=ev at*
 go_enter Tryz.func56,Tryz.ntmps56;go_wp2_with fail
 go_quiet (fail)
 go_wp2;go_ret;exact⟨rfl,_,rfl⟩
theorem Scn.upd {g:SG}{w w':World}{s:SS} (h:Scn g w s) (s':SS) (o:ae (·=g.x) w w') (ht:aq w' g.x 79)
 (hk:∀v0 v1,ai w g.x [v0,v1,.int .i64 s.i,.int .i64 s.e,.int .i64 s.p,.int .i64 s.count,g.lv,g.jv]→ai w' g.x [v0,v1,.int .i64 s'.i,.int .i64 s'.e,.int .i64 s'.p,.int .i64 s'.count,g.lv,g.jv]) (hle:s'.i≤g.L.length):Scn g w' s':=by
 obtain⟨la,pc,k1,k2⟩:=h.cells;exact⟨ht,⟨la,pc,hk _ _ k1,k2⟩,fun j hj=>o.keeps (h.runes j hj) (h.nl (fun e=>by rw[e] at hj;simp at hj)),fun j hj=>o.keeps (h.places j hj) h.np,h.nl,h.np,hle,h.small,h.good,h.cap,h.cap0⟩
theorem LI (g:SG) (w:World) (s:SS) (h:Scn g w s) (he:s.e=0) (x:Int) (a:Nat) (ha:a≤g.L.length):
 Calls Tryz.prog 36 #[.pointer (some ⟨g.x,0,none⟩),.int .i64 x,.int .i64 (a:Int)] w fun e w'=>e=.returned (.tuple #[])∧Scn g w' {s with e:=x,p:=Adz.place g.pl a}∧ae (·=g.x) w w':=by
 obtain⟨la,pc,k1,k2⟩:=h.cells;have c1:=(k1 1 _ rfl).1;have c3:=(k1 3 _ rfl).1;have f3:=(k1 3 _ rfl).2;have c4:=(k1 4 _ rfl).1;have f4:=(k1 4 _ rfl).2;rw[he] at c3;have dy:=h.small;have hp:=h.places a ha;have DV:=h.np;have o:∀n,ae (·=g.x) w (((w.drewN n).setCell ⟨g.x,3,none⟩ (.int .i64 x)).setCell ⟨g.x,4,none⟩ (.int .i64 (Adz.place g.pl a))):=fun n=>((ae.refl (·=g.x) w).drewN n).trans (aW (af _ _ _ _) (af _ _ _ _)) (fun _ e=>e) (fun _ _ e=>e);have fin:=fun n=>(h.drewN n).upd {s with e:=x,p:=Adz.place g.pl a} (aW (af _ _ 3 (.int .i64 x)) (af _ _ 4 (.int .i64 (Adz.place g.pl a)))) (h.drewN n).typ.set.set (fun v0 v1 k=>(k.set 3 _).set 4 _) h.le;have HF:Hid _:=fin;have HO:Hid _:=o;clear fin o k1 k2;generalize Adz.place g.pl a=P at*
 go_enter Tryz.func36,Tryz.ntmps36;go_wp2;go_end0;exact⟨rfl,HF.out 0,HO.out 0⟩
theorem az (g:SG) (w:World) (s:SS) (h:Scn g w s):
 Calls Tryz.prog 56 #[.pointer (some ⟨g.x,0,none⟩)] w fun e w'=>e=.returned (.int .i64 (Rf.now g.L s))∧∃n,w'=w.drewN n:=by
 unfold Rf.now;by_cases he:s.e=0
 ·rw[if_pos he];exact Io g w s h he
 ·rw[if_neg he];exact Es g w s h he
theorem cr {g:SG}{w:World}{s:SS} (h:Scn g w s) (hn:¬Rf.now g.L s<0):s.e=0∧s.i<g.L.length∧Rf.now g.L s=Adz.peek g.L s.i:=by
 unfold Rf.now at*
 by_cases he:s.e=0
 ·rw[if_pos he] at hn ⊢
  refine⟨he,Adz.lt_of_peek (fun e=>hn (by rw[e];decide)),rfl⟩
 ·rw[if_neg he] at hn
  exact absurd (by decide) hn
theorem aB (g:SG) (w:World) (s:SS) (h:Scn g w s) (x:Int) (a:Nat) (ha:a≤g.L.length):
 Calls Tryz.prog 36 #[.pointer (some ⟨g.x,0,none⟩),.int .i64 x,.int .i64 (a:Int)] w fun e w'=>e=.returned (.tuple #[])∧Scn g w' (Rf.no g.pl s x a)∧ae (·=g.x) w w':=by
 unfold Rf.no;by_cases he:s.e=0
 ·rw[if_pos he];exact LI g w s h he x a ha
 ·rw[if_neg he]
  obtain⟨la,pc,k1,k2⟩:=h.cells;have c3:=(k1 3 _ rfl).1;have b0:(s.e==0)=false:=by simpa using he
  clear k1 k2;generalize Ut:s.e=ev at*
  clear Ut;go_enter Tryz.func36,Tryz.ntmps36;go_wp2;go_end0;exact⟨rfl,h,ae.refl _ _⟩
theorem ef (g:SG) (w:World) (s:SS) (h:Scn g w s):
 Calls Tryz.prog 83 #[.pointer (some ⟨g.x,0,none⟩)] w fun e w'=>e=.returned (.int .i64 (Rf.next g.L g.pl s).1)∧Scn g w' (Rf.next g.L g.pl s).2∧ae (·=g.x) w w':=by
 obtain⟨la,pc,k1,k2⟩:=h.cells;have c2:=(k1 2 _ rfl).1;have f2:=(k1 2 _ rfl).2;have hle:=h.le;have dy:=h.small;have dK:=az g w s h;unfold Rf.next;by_cases hn:Rf.now g.L s<0
 ·rw[if_pos hn]
  have eO:=fun n=>aB g (w.drewN n) s (h.drewN n) 3 s.i h.le;have HN:Hid _:=eO;generalize Rf.now g.L s=r at*
  clear k1 k2 eO;go_enter Tryz.func83,Tryz.ntmps83;go_wp2_with fail;refine dK.mono ?_;rintro e w1 ⟨rfl,n1,rfl⟩;go_wp2_with fail;refine(HN.out n1).mono ?_;rintro e w2 ⟨rfl,h2,o2⟩;go_wp2;go_ret;exact⟨rfl,h2,((ae.refl (·=g.x) w).drewN n1).trans o2 (fun _ e=>e) (fun _ _ e=>e)⟩
 ·rw[if_neg hn]
  have aw:=(cr h hn).2.1;have fin:=fun n=>(h.drewN n).upd {s with i:=s.i+1} (af _ _ 2 (.int .i64 ((s.i+1:Nat):Int))) (h.drewN n).typ.set (fun v0 v1 k=>k.set 2 _) (by show s.i+1≤g.L.length;omega);have HF:Hid _:=fin;have wP:(0:Int)≤Rf.now g.L s:=by omega
  generalize Rf.now g.L s=r at*
  clear k1 k2 fin;go_enter Tryz.func83,Tryz.ntmps83;go_wp2_with fail;refine dK.mono ?_;rintro e w1 ⟨rfl,n1,rfl⟩;go_wp2;go_ret;have:=HF.out n1;exact⟨rfl,by first | exact this | simpa using this,by first | exact((ae.refl (·=g.x) w).drewN n1).trans (af _ _ _ _) (fun _ e=>e) (fun _ _ e=>e) | simpa using ((ae.refl (·=g.x) w).drewN n1).trans (af _ _ _ _) (fun _ e=>e) (fun _ _ e=>e)⟩
theorem Scn.step {g:SG}{w:World}{s:SS} (h:Scn g w s) (aw:s.i<g.L.length):Scn g (w.setCell ⟨g.x,2,none⟩ (.int .i64 ((s.i+1:Nat):Int))) {s with i:=s.i+1}∧ae (·=g.x) w (w.setCell ⟨g.x,2,none⟩ (.int .i64 ((s.i+1:Nat):Int))):=
 ⟨h.upd {s with i:=s.i+1} (af _ _ 2 _) h.typ.set (fun v0 v1 k=>k.set 2 _) (by show s.i+1≤g.L.length;omega),af _ _ 2 _⟩
theorem aQ (g:SG) (w:World) (s:SS) (h:Scn g w s) (c:Int) (hc:0≤c):
 Calls Tryz.prog 57 #[.pointer (some ⟨g.x,0,none⟩),.int .i64 c] w fun e w'=>e=.returned (.bool (Rf.take g.L s c).1)∧Scn g w' (Rf.take g.L s c).2∧ae (·=g.x) w w':=by
 obtain⟨la,pc,k1,k2⟩:=h.cells;have c2:=(k1 2 _ rfl).1;have f2:=(k1 2 _ rfl).2;have hle:=h.le;have dy:=h.small;have dK:=az g w s h;unfold Rf.take;by_cases hn:Rf.now g.L s=c
 ·rw[if_pos hn]
  have aw:=(cr h (by omega)).2.1;have fin:=fun n=>(h.drewN n).step aw;have HF:Hid _:=fin;rw[hn] at dK;clear k1 k2 fin hn;go_enter Tryz.func57,Tryz.ntmps57;go_wp2_with fail;refine dK.mono ?_;rintro e w1 ⟨rfl,n1,rfl⟩;go_wp2;go_ret;exact⟨rfl,(HF.out n1).1,((ae.refl (·=g.x) w).drewN n1).trans (HF.out n1).2 (fun _ e=>e) (fun _ _ e=>e)⟩
 ·rw[if_neg hn]
  have bn:(Rf.now g.L s==c)=false:=by simpa using hn
  have Wa:(Rf.now g.L s !=c)=true:=by unfold bne;rw[bn];rfl
  generalize Rf.now g.L s=r at*
  clear k1 k2 hn;go_enter Tryz.func57,Tryz.ntmps57;go_wp2_with fail;refine dK.mono ?_;rintro e w1 ⟨rfl,n1,rfl⟩;go_wp2;go_ret;exact⟨rfl,h.drewN n1,(ae.refl (·=g.x) w).drewN n1⟩
theorem Rf.skip_go {L:List Int}{s:SS}{gaps:Bool} (hl:s.i<L.length) (he:s.e=0) (h:Rf.gap gaps (Adz.peek L s.i)=true):Rf.skip L s gaps=Rf.skip L {s with i:=s.i+1} gaps:=by
 unfold Rf.skip;simp only[if_pos he];rw[Adz.drop_peek hl,List.takeWhile_cons,if_pos h,List.length_cons];congr 1;omega
theorem Rf.skip_stop {L:List Int}{s:SS}{gaps:Bool} (h:Rf.gap gaps (Rf.now L s)=false):Rf.skip L s gaps=s:=by
 unfold Rf.skip;by_cases he:s.e=0
 ·rw[if_pos he]
  unfold Rf.now at h;rw[if_pos he] at h;by_cases hl:s.i<L.length
  ·rw[Adz.drop_peek hl,List.takeWhile_cons,if_neg (by rw[h];simp)]
   rfl
  ·rw[List.drop_of_length_le (by omega)]
   rfl
 ·rw[if_neg he]
theorem bf (g:SG) (w:World) (s:SS) (h:Scn g w s) (gaps:Bool):
 Calls Tryz.prog 55 #[.pointer (some ⟨g.x,0,none⟩),.bool gaps] w fun e w'=>e=.returned (.tuple #[])∧Scn g w' (Rf.skip g.L s gaps)∧ae (·=g.x) w w':=by
 obtain⟨T,hT⟩:∃T,Rf.skip g.L s gaps=T:=⟨_,rfl⟩;rw[hT];have HT:Hid _:=hT;clear hT;have eN:=h.le;have dy:=h.small;go_enter Tryz.func55,Tryz.ntmps55;go_wp2_with fail
 go_loopg [] (g.L.length - s.i) (fun k wr=>∃sj:SS,k+sj.i=g.L.length∧Hid (Rf.skip g.L sj gaps=T)∧Hid (Scn g wr sj)∧Hid (ae (·=g.x) w wr))
 case atStart=>exact ⟨s,by omega,HT,h,ae.refl _ _⟩
 case round=>
  obtain⟨sj,hk,hS,hC,hO⟩:=hrel;have aU:Scn g wr sj:=hC;have bQ:ae (·=g.x) w wr:=hO;have HK:Hid _:=hk;clear hC hO hk;obtain⟨la,pc,k1,k2⟩:=aU.cells;have c2:=(k1 2 _ rfl).1;have f2:=(k1 2 _ rfl).2;have hle:=aU.le;have dK:=az g wr sj aU;clear k1 k2;by_cases gj:Rf.gap gaps (Rf.now g.L sj)=true
  ·have tB:¬Rf.now g.L sj<0:=fun e=>by
    unfold Rf.gap at gj;simp at gj;omega
   obtain⟨he,aw,DV⟩:=cr aU tB;have fm:=hS.out;rw[Rf.skip_go aw he (by rw[←DV];exact gj)] at fm;have CH:Hid _:=fm;have HF:Hid _:=fun n=>(aU.drewN n).step aw
   have iQ:Rf.now g.L sj=32∨Rf.now g.L sj=9∨(gaps=true∧(Rf.now g.L sj=10∨Rf.now g.L sj=59)):=by
    unfold Rf.gap at gj;simpa[or_assoc] using gj
   clear gj tB DV fm hS he;generalize Rf.now g.L sj=r at*
   rcases iQ with rfl | rfl |⟨rfl,rfl | rfl⟩
   all_goals
    go_wp2_with fail;refine dK.mono ?_;rintro e w1 ⟨rfl,n1,rfl⟩;go_wp2;go_roundg (gk - 1)
    case measure=>have:=HK.out;omega
    case rel=>exact ⟨{sj with i:=sj.i+1},by have:=HK.out;show gk - 1+(sj.i+1)=_;omega,CH,(HF.out n1).1,(bQ.drewN n1).trans (HF.out n1).2 (fun _ e=>e) (fun _ _ e=>e)⟩
  ·have KP:Rf.gap gaps (Rf.now g.L sj)=false:=by simpa using gj
   have bZ:=Rf.skip_stop KP;have fm:=hS.out;rw[bZ] at fm;subst fm
   have aJ:Rf.now g.L sj≠32∧Rf.now g.L sj≠9∧(gaps=false∨(gaps=true∧Rf.now g.L sj≠10∧Rf.now g.L sj≠59)):=by
    unfold Rf.gap at KP;simp at KP;obtain⟨⟨h1,h2⟩,h3⟩:=KP;refine⟨h1,h2,?_⟩
    cases gaps with
    | false=>exact Or.inl rfl
    | true=>exact Or.inr ⟨rfl,by simpa using h3⟩
   have Qs:Hid _:=aU;clear gj KP bZ hS HT c2 f2;generalize Rf.now g.L sj=r at*
   obtain⟨n1,n2,n3⟩:=aJ;have b1:(r==32)=false:=by simpa using n1
   have b2:(r==9)=false:=by simpa using n2
   have Df:(r !=32)=true:=by unfold bne;rw[b1];rfl
   have Dg:(r !=9)=true:=by unfold bne;rw[b2];rfl
   rcases n3 with rfl |⟨rfl,n3,n4⟩
   ·go_wp2_with fail
    refine dK.mono ?_;rintro e w1 ⟨rfl,n1,rfl⟩;go_wp2
    (try simp only[Exit.inBlock,Exit.then])
    refine bodyPost_ret (results_none rfl _ _ _) rfl ?_;exact⟨rfl,aU.drewN n1,bQ.drewN n1⟩
   ·have b3:(r==10)=false:=by simpa using n3
    have b4:(r==59)=false:=by simpa using n4
    have AL:(r !=10)=true:=by unfold bne;rw[b3];rfl
    have V8:(r !=59)=true:=by unfold bne;rw[b4];rfl
    go_wp2_with fail;refine dK.mono ?_;rintro e w1 ⟨rfl,n1,rfl⟩;go_wp2
    (try simp only[Exit.inBlock,Exit.then])
    refine bodyPost_ret (results_none rfl _ _ _) rfl ?_;exact⟨rfl,aU.drewN n1,bQ.drewN n1⟩
theorem bR (g:SG) (w:World) (s:SS) (h:Scn g w s):
 Calls Tryz.prog 105 #[.pointer (some ⟨g.x,0,none⟩)] w fun e w'=>e=.returned (.bool (Adz.isDigit (Rf.now g.L s)))∧∃n,w'=w.drewN n:=by
 have dK:=fun n=>az g (w.drewN n) s (h.drewN n);have tB:=az g w s h;unfold Adz.isDigit;generalize Rf.now g.L s=r at*
 by_cases h1:(48:Int)≤r
 ·by_cases h2:r≤57
  ·rw[decide_eq_true h1,decide_eq_true h2]
   go_enter Tryz.func105,Tryz.ntmps105;go_wp2_with fail;refine tB.mono ?_;rintro e w1 ⟨rfl,n1,rfl⟩;go_wp2_with fail;refine(dK n1).mono ?_;rintro e w2 ⟨rfl,n2,rfl⟩;go_wp2;go_ret
   first | exact⟨rfl,_,rfl⟩ | exact⟨by simp;omega,_,rfl⟩
  ·have Fh:¬r≤57:=h2
   have h3:(57:Int)<r:=by omega
   rw[decide_eq_true h1,decide_eq_false h2];go_enter Tryz.func105,Tryz.ntmps105;go_wp2_with fail;refine tB.mono ?_;rintro e w1 ⟨rfl,n1,rfl⟩;go_wp2_with fail;refine(dK n1).mono ?_;rintro e w2 ⟨rfl,n2,rfl⟩;go_wp2;go_ret
   first | exact⟨rfl,_,rfl⟩ | exact⟨by simp;omega,_,rfl⟩
 ·have h3:r<(48:Int):=by omega
  rw[decide_eq_false h1];go_enter Tryz.func105,Tryz.ntmps105;go_wp2_with fail;refine tB.mono ?_;rintro e w1 ⟨rfl,n1,rfl⟩;go_wp2;go_ret
  first | exact⟨rfl,_,rfl⟩ | exact⟨by simp;omega,_,rfl⟩
def bytesOf (b:ByteArray):List Int:=b.data.toList.map (fun x=>(x.toNat:Int))
theorem rk {b:ByteArray}{c:Int}:c∈bytesOf b↔∃i,∃h:i<b.size,(b[i].toNat:Int)=c:=by
 unfold bytesOf;rw[List.mem_map];constructor
 ·rintro⟨x,hx,e⟩
  obtain⟨i,hi,e2⟩:=List.getElem_of_mem hx;refine⟨i,by simpa using hi,?_⟩;rw[←e,←e2]
  rfl
 ·rintro⟨i,h,e⟩
  exact⟨b[i],by
   have:b[i]=b.data.toList[i]'(by simpa using h):=rfl;rw[this];exact List.getElem_mem _,e⟩
theorem bT (x:UInt8):wrap64 (x.toNat:Int)=(x.toNat:Int):=by
 have:=UInt8.toNat_lt x;unfold wrap64;omega
theorem j4 (w:World) (b:ByteArray) (hb:b.size≤100) (c:Int):
 Calls Tryz.prog 84 #[.string b,.int .i64 c] w fun e w'=>e=.returned (.bool ((bytesOf b).contains c))∧w'=w:=by
 obtain⟨T,hT⟩:∃T,(bytesOf b).contains c=T:=⟨_,rfl⟩;rw[hT];have HT:Hid _:=hT;clear hT;go_enter Tryz.func84,Tryz.ntmps84;go_wp2_with fail
 go_loopg [5] b.size (fun k v wr=>∃j:Nat,v=.int .i64 (j:Int)∧k+j=b.size∧Hid (wr=w)∧Hid (∀i,∀h:i<b.size,i<j→(b[i].toNat:Int)≠c))
 case atStart=>exact ⟨0,rfl,by omega,(rfl:w=w),fun i h hi=>absurd hi (Nat.not_lt_zero _)⟩
 case round=>
  obtain⟨j,rfl,hk,hn,hA⟩:=hrel;have HK:Hid _:=hk;by_cases aw:j<b.size
  ·have qf:=bT b[j]
   have uD:(j:Int)<(b.size:Int):=by omega
   by_cases heq:(b[j].toNat:Int)=c
   ·have Pk:T=true:=by
     rw[←HT.out];exact List.contains_iff_mem.2 (rk.2 ⟨j,aw,heq⟩)
    subst Pk;have Um:((b[j].toNat:Int)==c)=true:=by simpa using heq
    clear hk heq;go_wp2;go_ret;exact⟨rfl,hn.out⟩
   ·have Um:((b[j].toNat:Int)==c)=false:=by simpa using heq
    have HE:Hid _:=heq;clear hk heq;go_wp2;go_roundg (gk - 1)
    case measure=>have:=HK.out;omega
    case rel=>exact ⟨j+1,by simp,by have:=HK.out;omega,hn,fun i h hi=>by
     by_cases e:i=j
     ·subst e;exact HE.out
     ·exact hA.out i h (by omega)⟩
  ·have wP:¬(j:Int)<(b.size:Int):=by omega
   have Pk:T=false:=by
    rw[←HT.out]
    cases hc:(bytesOf b).contains c with
    | false=>rfl
    | true=>
     obtain⟨i,h,e⟩:=rk.1 (List.contains_iff_mem.1 hc);exact absurd e (hA.out i h (by omega))
   subst Pk;clear hk;go_wp2;go_ret;exact⟨rfl,hn.out⟩
def Rf.dN (L:List Int) (s:SS) (m:Int):Int:=if s.e=0 then Adz.numFrom m (Adz.digitsOf L s.i) else m
def Rf.dS (L:List Int) (s:SS):SS:=if s.e=0 then {s with i:=s.i+(Adz.digitsOf L s.i).length} else s
theorem Rf.d_go {L:List Int}{s:SS}{m:Int} (h:Adz.isDigit (Rf.now L s)=true):Rf.dN L s m=Rf.dN L {s with i:=s.i+1} (min (m*10+(Rf.now L s - 48)) 10000)∧Rf.dS L s=Rf.dS L {s with i:=s.i+1}:=by
 unfold Rf.dN Rf.dS;unfold Rf.now at h ⊢;by_cases he:s.e=0
 ·rw[if_pos he] at h
  simp only[if_pos he];rw[Adz.digits_step h];refine⟨rfl,?_⟩;rw[List.length_cons];congr 1;omega
 ·rw[if_neg he] at h
  cases h
theorem Rf.d_stop {L:List Int}{s:SS}{m:Int} (h:Adz.isDigit (Rf.now L s)=false):Rf.dN L s m=m∧Rf.dS L s=s:=by
 unfold Rf.dN Rf.dS;unfold Rf.now at h;by_cases he:s.e=0
 ·rw[if_pos he] at h
  simp only[if_pos he];rw[Adz.digits_stop h];exact⟨by rfl,by simp⟩
 ·simp[he]
theorem Rf.number_eq {L pl:List Int}{s:SS}:Rf.number L pl s=(Rf.dN L s 0,if Rf.dN L s 0<1∨9999<Rf.dN L s 0 then Rf.no pl (Rf.dS L s) 4 s.i else Rf.dS L s):=by
 unfold Rf.number Rf.dN Rf.dS;by_cases he:s.e=0
 ·simp only[if_pos he]
  rfl
 ·simp only[if_neg he]
  rw[if_pos (Or.inl (by decide))];unfold Rf.no;rw[if_neg he]
theorem jP (g:SG) (w:World) (s:SS) (h:Scn g w s):
 Calls Tryz.prog 106 #[.pointer (some ⟨g.x,0,none⟩)] w fun e w'=>e=.returned (.int .i64 (Rf.number g.L g.pl s).1)∧Scn g w' (Rf.number g.L g.pl s).2∧ae (·=g.x) w w':=by
 rw[Rf.number_eq];obtain⟨N,hN⟩:∃N,Rf.dN g.L s 0=N:=⟨_,rfl⟩;obtain⟨T,hT⟩:∃T,Rf.dS g.L s=T:=⟨_,rfl⟩;rw[hN,hT];obtain⟨F,hF⟩:∃F,(if N<1∨9999<N then Rf.no g.pl T 4 s.i else T)=F:=⟨_,rfl⟩;rw[hF];have HT:Hid _:=And.intro hN hT;have Js:Hid _:=hF;clear hT hN hF;obtain⟨la,pc,k1,k2⟩:=h.cells;have c2:=(k1 2 _ rfl).1;clear k1 k2;have eN:=h.le;have dy:=h.small;go_enter Tryz.func106,Tryz.ntmps106;go_wp2_with fail
 go_loopg [4] (g.L.length - s.i) (fun k v wr=>∃(sj:SS) (m:Int),v=.int .i64 m∧0≤m∧m≤10000∧k+sj.i=g.L.length∧Hid (Rf.dN g.L sj m=N∧Rf.dS g.L sj=T)∧Hid (Scn g wr sj)∧Hid (ae (·=g.x) w wr))
 case atStart=>exact ⟨s,0,rfl,by decide,by decide,by omega,HT,h,ae.refl _ _⟩
 case round=>
  obtain⟨sj,m,rfl,uE,gz,hk,hS,hC,hO⟩:=hrel;have aU:Scn g wr sj:=hC;have bQ:ae (·=g.x) w wr:=hO;have HK:Hid _:=hk;clear hC hO hk;obtain⟨la,pc,k1,k2⟩:=aU.cells;have c0:=(k1 0 _ rfl).1;have c2:=(k1 2 _ rfl).1;have f2:=(k1 2 _ rfl).2;have hle:=aU.le;have du:=bR g wr sj aU
  cases hd:Adz.isDigit (Rf.now g.L sj) with
  | true=>
   rw[hd] at du;have hr:=Adz.digit_range hd;obtain⟨he,aw,DV⟩:=cr aU (by omega);have iS:=k2.2 (fun e=>by rw[e] at aw;simp at aw);subst iS;have CY:=aU.runes sj.i aw;rw[←DV] at CY;have fm:=Rf.d_go (m:=m) hd;have CH:Hid (Rf.dN g.L {sj with i:=sj.i+1} (min (m*10+(Rf.now g.L sj - 48)) 10000)=N∧Rf.dS g.L {sj with i:=sj.i+1}=T):=⟨fm.1.symm.trans hS.out.1,fm.2.symm.trans hS.out.2⟩;have HF:Hid _:=fun n=>(aU.drewN n).step aw;have HA:Hid _:=he;have TI:(sj.i:Int)<(g.L.length:Int):=by omega
   clear hd DV fm hS he k1 k2 HT;generalize Rf.now g.L sj=r at*
   go_wp2_with fail;refine du.mono ?_;rintro e w1 ⟨rfl,n1,rfl⟩;by_cases Uk:10000≤10*m+r - 48
   ·have iB:(9999:Int)<10*m+r - 48:=by omega
    go_wp2_with fail
    go_quiet (fail)
    go_wp2;go_roundg (gk - 1)
    case measure=>have:=HK.out;omega
    case rel=>
     have CW:min (m*10+(r - 48)) 10000=10000:=by omega
     have h2:=CH.out;rw[CW] at h2;exact⟨{sj with i:=sj.i+1},10000,rfl,by decide,by decide,by have:=HK.out;show gk - 1+(sj.i+1)=_;omega,h2,(HF.out _).1,(bQ.drewN _).trans (HF.out _).2 (fun _ e=>e) (fun _ _ e=>e)⟩
   ·have iB:¬(9999:Int)<10*m+r - 48:=by omega
    go_wp2_with fail
    go_quiet (fail)
    go_wp2;go_roundg (gk - 1)
    case measure=>have:=HK.out;omega
    case rel=>
     have CW:min (m*10+(r - 48)) 10000=10*m+r - 48:=by omega
     have h2:=CH.out;rw[CW] at h2;exact⟨{sj with i:=sj.i+1},10*m+r - 48,rfl,by omega,by omega,by have:=HK.out;show gk - 1+(sj.i+1)=_;omega,h2,(HF.out _).1,(bQ.drewN _).trans (HF.out _).2 (fun _ e=>e) (fun _ _ e=>e)⟩
  | false=>
   rw[hd] at du;have bZ:=Rf.d_stop (m:=m) hd;have e1:=hS.out.1;have e2:=hS.out.2;rw[bZ.1] at e1;rw[bZ.2] at e2;subst e1;subst e2;have hF:=Js.out;clear Js;have eO:=fun n=>aB g (wr.drewN n) sj (aU.drewN n) 4 s.i eN;clear hd bZ hS HT k1 k2;by_cases cl:m<1∨9999<m
   ·rw[if_pos cl] at hF
    subst hF;have HN:Hid _:=eO;clear eO
    rcases cl with hb | hb
    ·go_wp2_with fail
     refine du.mono ?_;rintro e w1 ⟨rfl,n1,rfl⟩;go_wp2_with fail;refine(HN.out n1).mono ?_;rintro e w2 ⟨rfl,h2,o2⟩;go_wp2;go_ret;exact⟨rfl,h2,(bQ.drewN n1).trans o2 (fun _ e=>e) (fun _ _ e=>e)⟩
    ·have dt:¬m<1:=by omega
     go_wp2_with fail;refine du.mono ?_;rintro e w1 ⟨rfl,n1,rfl⟩;go_wp2_with fail;refine(HN.out n1).mono ?_;rintro e w2 ⟨rfl,h2,o2⟩;go_wp2;go_ret;exact⟨rfl,h2,(bQ.drewN n1).trans o2 (fun _ e=>e) (fun _ _ e=>e)⟩
   ·rw[if_neg cl] at hF
    subst hF;have iB:¬m<1:=by omega
    have dt:¬9999<m:=by omega
    clear eO;go_wp2_with fail;refine du.mono ?_;rintro e w1 ⟨rfl,n1,rfl⟩;go_wp2;go_ret;exact⟨rfl,aU.drewN n1,bQ.drewN n1⟩
end
end Go.Proofs.YtbiobhghnldckaaGreatDoor
