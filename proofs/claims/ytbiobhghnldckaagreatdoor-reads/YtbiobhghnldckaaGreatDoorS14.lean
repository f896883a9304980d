/- Proved: a match's replacement is laid behind what has been changed. Conditions: the parts, the space and the match lie in memory, and the match's places lie in the space. -/
import Derived.Test.YtbiobhghnldckaaGreatDoorS13
import Derived.RangeFuncNested
import Derived.RangeFuncBound
import Derived.RangeFuncCalls
import Derived.RangeFuncLeaves
import Derived.OwnWalkIn
import Derived.TacticsInMore
import Derived.LoopIn
import Derived.OrdersHeld
namespace Go.Proofs.YtbiobhghnldckaaGreatDoor
set_option linter.unusedVariables false
set_option maxRecDepth 100000
set_option maxHeartbeats 6400000
section
open Go.RowKit
theorem kO (sp m:List Int) (ps:List Adz.Part) (j:Nat) (h:j<ps.length):Adz.replAll sp m (ps.take (j+1))=Adz.replAll sp m (ps.take j)++Adz.repl1 sp m ps[j]:=by
 unfold Adz.replAll;rw[List.take_succ_eq_append_getElem h,List.flatMap_append];simp
theorem xm (sp m:List Int) (ps:List Adz.Part) (j:Nat) (h:j<ps.length):(Adz.replAll sp m (ps.take j)).length+(Adz.repl1 sp m ps[j]).length≤(Adz.replAll sp m ps).length:=by
 have e:Adz.replAll sp m ps=Adz.replAll sp m (ps.take (j+1))++Adz.replAll sp m (ps.drop (j+1)):=by
  unfold Adz.replAll;rw[←List.flatMap_append,List.take_append_drop]
 rw[e,kO sp m ps j h];simp only[List.length_append];omega
theorem qJ (ps:List Adz.Part) (pa:Option Addr) (pc:Nat) (w:World) (hp:dH w (.slice pa ps.length pc) ps) (eX:ps.length≤1000) (base:Nat) (hb:base≤w.heap.size) (ca:Option Addr) (cc:Nat) (ch:List Int) (cz:w.ownsRow base 21 1 (.slice ca ch.length cc) ch.length (ch.map (.int .i32)))
 (ra:Option Addr) (rc:Nat) (sp:List Int) (hs:Sl w ra sp) (uI:sp.length≤rc) (D0:∀b o,ra=some ⟨b,o,none⟩→(Value.slice ca ch.length cc).ownBlock≠some b) (mb:Nat) (m:List Int) (hM:MatchAt w mb m) (Ox:∀p∈ps,Adz.fits m sp.length p) (Mi:Adz.inside (m.getD 0 0) (m.getD 1 0) sp.length) (dG:ch.length+(Adz.replAll sp m ps).length≤50000000):
 Calls Tryz.prog 165 #[.slice ca ch.length cc,.slice pa ps.length pc,.slice ra sp.length rc,.pointer (some ⟨mb,0,none⟩)] w fun e w'=>∃a' c' N,N=ch.length+(Adz.replAll sp m ps).length∧e=.returned (.slice a' N c')∧w'.ownsRow base 21 1 (.slice a' N c') N ((ch++Adz.replAll sp m ps).map (.int .i32))∧
  ae (fun b=>(Value.slice ca ch.length cc).ownBlock=some b) w w'∧(∀b,(Value.slice a' N c').ownBlock=some b→(Value.slice ca ch.length cc).ownBlock=some b∨w.heap.size≤b):=by
 go_enter Tryz.func165,Tryz.ntmps165;go_wp2_with fail
 go_loopg [0,13] ps.length (fun k v u wr=>∃(j N:Nat) (a':Option Addr) (c':Nat) (h:List Int),v=.slice a' N c'∧u=.int .i64 j∧j+k=ps.length∧Hid (h=ch++Adz.replAll sp m (ps.take j))∧Hid (N=h.length)∧Hid (wr.ownsRow base 21 1 (.slice a' N c') N (h.map (.int .i32)))∧Hid (ae (fun b=>(Value.slice ca ch.length cc).ownBlock=some b) w wr)∧Hid (∀b,(Value.slice a' N c').ownBlock=some b→(Value.slice ca ch.length cc).ownBlock=some b∨w.heap.size≤b))
 case atStart=>
  refine⟨0,ch.length,ca,cc,ch,rfl,rfl,by omega,?_,rfl,cz,ae.refl _ _,?_⟩
  ·show _=_;simp[Adz.replAll]
  ·show ∀b,_→_;intro b sd;exact Or.inl sd
 case round=>
  obtain⟨j,N,a',c',h,rfl,rfl,jt,hH,hN,h1,h2,h3⟩:=hrel;have HK:Hid (j+gk=ps.length):=jt;have mi:j≤ps.length:=by omega
  have hW:wr.ownsRow base 21 1 (.slice a' N c') N (h.map (.int .i32)):=h1;have hO:ae (fun b=>(Value.slice ca ch.length cc).ownBlock=some b) w wr:=h2;clear jt h1 h2;by_cases aw:j<ps.length
  ·have tE:=hp.keeps hO (fun b sd e=>by
    have:=(aq.of_row cz e).one sd;exact absurd this (by decide))
   obtain⟨pb,rfl,tp,fw⟩:=tE.get (by intro e;simp[e] at aw);obtain⟨p0,p1,p2⟩:=fw j aw;have WU:pb<wr.heap.size:=tp.lt;have Ln:=hs.keeps hO (fun b o e1 e2=>D0 b o e1 e2);have rX:=hM.keeps hO (fun e=>absurd ((aq.of_row cz e).one hM.typ) (by decide));have KM:=Ox _ (List.getElem_mem aw);have dR:=kO sp m ps j aw;have hle:=xm sp m ps j aw;have Vi:IntKind.i64.wrap ((j:Int)+1)=(j:Int)+1:=by rw[IntKind.wrap_i64];omega
   have iB:(j:Int)<ps.length:=by omega
   have NX:N+(Adz.repl1 sp m ps[j]).length≤50000000:=by
    have:=hN.out;have e2:=hH.out;rw[e2,List.length_append] at this;omega
   have zD:Hid (h++Adz.repl1 sp m ps[j]=ch++Adz.replAll sp m (ps.take (j+1))):=by
    show _=_;rw[dR,hH.out,List.append_assoc]
   have bW:∀ {u:World} {a2:Option Addr} {c2 N2:Nat},w.heap.size≤u.heap.size→((Value.slice a2 N2 c2).ownBlock=(Value.slice a' N c').ownBlock∨(Value.slice a2 N2 c2).ownBlock=some u.heap.size)→∀b,(Value.slice a2 N2 c2).ownBlock=some b→(Value.slice ca ch.length cc).ownBlock=some b∨w.heap.size≤b:=by
    intro u a2 c2 N2 hu tD b dt
    rcases tD with e | e
    ·exact h3.out b (e ▸ dt)
    ·rw[e] at dt;injection dt with e;right;omega
   clear dR hle hH fw;generalize OY:ps[j]=p at*
   by_cases k0:p.kind=0
   ·have wU:Adz.repl1 sp m p=Adz.runes ⟨p.text.toArray⟩:=by simp[Adz.repl1,k0]
    rw[wU] at zD NX;rw[k0] at p0
    have j7:p.text.length≤100000:=by rcases KM with ⟨_,h⟩ | h |⟨h,_⟩ <;> omega
    have oA:ae (fun _=>False) wr (wr.alloc (.cells #[.int .i64 0,.string ⟨p.text.toArray⟩,.int .i64 p.group] 240)):=(ae.refl _ wr).alloc _;have IU:=ag hW oA (fun _ _=>id);obtain⟨cv,w1,iT,Ll,bq,_,_⟩:=oL (wr.alloc (.cells #[.int .i64 0,.string ⟨p.text.toArray⟩,.int .i64 p.group] 240)) ⟨p.text.toArray⟩ (by simp[ByteArray.size];omega);have Fq:=ag IU bq (fun _ _=>id);have DA:=hO.trans (oA.trans bq (fun _ e=>e) (fun _ _ e=>e)) (fun _ e=>e) (fun _ _ e=>e.elim);simp only[World.size_alloc] at Ll;clear IU Ln rX KM OY k0 wU;generalize WE:Adz.runes ⟨p.text.toArray⟩=rs at*
    go_wp2_with (at_builtin;refine wpList_append_runes _ (by rfl) _ _ (by rfl) base (.slice a' N c') N h (by rfl) Fq _ _ rs _ (by rfl) rfl Ll (by omega) (by have:=DA.size;omega) ?_;intro a2 c2 w2 ay aK bH);go_roundg (gk - 1)
    case measure=>have:=HK.out;omega
    case rel=>exact ⟨j+1,N+rs.length,a2,c2,h++rs,rfl,by first | rfl | simp,by have:=HK.out;omega,zD,by show _=_;rw[List.length_append,hN.out],ay,DA.trans aK (fun _ e=>e) (fun b hb e=>by rcases h3.out b e with e | e;exact e;omega),bW DA.size bH⟩
   by_cases k1:p.kind=1
   ·obtain⟨f,hf⟩:∃f:Nat,m.getD 0 0=f:=⟨(m.getD 0 0).toNat,by have:=Mi.1;omega⟩
    obtain⟨t,ht⟩:∃t:Nat,m.getD 1 0=t:=⟨(m.getD 1 0).toNat,by have:=Mi.1;have:=Mi.2.1;omega⟩;have Fz:=Mi;rw[hf,ht] at Fz;obtain⟨_,uA,uB⟩:=Fz;have wU:Adz.repl1 sp m p=Adz.seg sp f t:=by unfold Adz.repl1;rw[if_neg (by omega),if_pos k1,hf,ht]
    have fq:=Adz.seg_len sp f t (by omega) (by omega);rw[wU] at zD NX;rw[k1] at p0
    have LF:wr.cell? ⟨mb,0,none⟩=some (.int .i64 f):=by
     have:=rX.cells 0 (.int .i64 f) (by rw[List.getElem?_map,←hf,List.getD_eq_getElem?_getD,List.getElem?_eq_getElem (by rw[hM.len];omega)];rfl)
     rwa [Nat.zero_add] at this
    have LG:wr.cell? ⟨mb,1,none⟩=some (.int .i64 t):=by
     have:=rX.cells 1 (.int .i64 t) (by rw[List.getElem?_map,←ht,List.getD_eq_getElem?_getD,List.getElem?_eq_getElem (by rw[hM.len];omega)];rfl)
     rwa [Nat.zero_add] at this
    have VB:mb<wr.heap.size:=rX.typ.lt;have oA:ae (fun _=>False) wr (wr.alloc (.cells #[.int .i64 1,.string ⟨p.text.toArray⟩,.int .i64 p.group] 240)):=(ae.refl _ wr).alloc _;have IU:=ag hW oA (fun _ _=>id);have O4:=Ln.keeps oA (fun _ _ _=>id);have q0:=oA.keeps LF id;have q1:=oA.keeps LG id;have GH:=hO.trans oA (fun _ e=>e) (fun _ _ e=>e.elim);clear Ln rX KM OY wU k0 k1;go_wp2_with fail;generalize wr.alloc (.cells #[.int .i64 1,.string ⟨p.text.toArray⟩,.int .i64 p.group] 240)=wA at*
    clear p0 p1 p2 LF LG;have od:ae (fun _=>False) wA wA.drew:=(ae.refl _ wA).drew;have Oa:=ag IU od (fun _ _=>id);have dm:=(O4.keeps od (fun _ _ _=>id)).cut rc f t (by omega) (by omega) uI;have B2:f≤t:=by omega
    have MG:t≤rc:=by omega
    go_region_law ((refine cM _ (by rfl) _ _ (by rfl) base (.slice a' N c') N h (by rfl) Oa _ _ (Adz.seg sp f t) _ (by rfl) fq.symm (by first | exact dm | simpa using dm) (by omega) (by have:=GH.size;have:=od.size;omega) ?_;intro a2 c2 w2 ay aK bH))
    all_goals
     clear dm;generalize (if rc=f then ra else Option.map (fun x=>x.add f) ra)=sa at*
     go_wp2;go_roundg (gk - 1)
     case measure=>have:=HK.out;omega
     case rel=>exact ⟨j+1,N+(t - f),a2,c2,h++Adz.seg sp f t,rfl,by first | rfl | simp,by have:=HK.out;omega,zD,by show _=_;rw[List.length_append,fq,hN.out],ay,(GH.trans od (fun _ e=>e) (fun _ _ e=>e.elim)).trans aK (fun _ e=>e) (fun b hb e=>by rcases h3.out b e with e | e;exact e;omega),bW (GH.trans od (fun _ e=>e) (fun _ _ e=>e.elim)).size bH⟩
   obtain⟨k2,Ux,Uy,zl⟩:p.kind=2∧1≤p.group∧p.group≤9∧Adz.inside (m.getD (p.group.toNat*2) 0) (m.getD (p.group.toNat*2+1) 0) sp.length:=by
    rcases KM with ⟨h,_⟩ | h | h
    ·omega
    ·omega
    ·exact h
   obtain⟨gn,BB⟩:∃gn:Nat,p.group=gn:=⟨p.group.toNat,by omega⟩;have Ru:gn<10:=by omega
   have GV:(gn:Int)<10:=by omega
   rw[BB,Int.toNat_natCast] at zl;obtain⟨f,hf⟩:∃f:Nat,m.getD (gn*2) 0=f:=⟨(m.getD (gn*2) 0).toNat,by have:=zl.1;omega⟩;obtain⟨t,ht⟩:∃t:Nat,m.getD (gn*2+1) 0=t:=⟨(m.getD (gn*2+1) 0).toNat,by have:=zl.1;have:=zl.2.1;omega⟩;rw[hf,ht] at zl;obtain⟨_,uA,uB⟩:=zl;have wU:Adz.repl1 sp m p=Adz.seg sp f t:=by unfold Adz.repl1;rw[if_neg (by omega),if_neg (by omega),if_pos k2,BB,Int.toNat_natCast,hf,ht]
   have fq:=Adz.seg_len sp f t (by omega) (by omega);rw[wU] at zD NX;rw[k2] at p0;rw[BB] at p2
   have LF:wr.cell? ⟨mb,gn*2,none⟩=some (.int .i64 f):=by
    have:=rX.cells (gn*2) (.int .i64 f) (by rw[List.getElem?_map,←hf,List.getD_eq_getElem?_getD,List.getElem?_eq_getElem (by rw[hM.len];omega)];rfl)
    rwa [Nat.zero_add] at this
   have LG:wr.cell? ⟨mb,gn*2+1,none⟩=some (.int .i64 t):=by
    have:=rX.cells (gn*2+1) (.int .i64 t) (by rw[List.getElem?_map,←ht,List.getD_eq_getElem?_getD,List.getElem?_eq_getElem (by rw[hM.len];omega)];rfl)
    rwa [Nat.zero_add] at this
   have VB:mb<wr.heap.size:=rX.typ.lt;have oA:ae (fun _=>False) wr (wr.alloc (.cells #[.int .i64 2,.string ⟨p.text.toArray⟩,.int .i64 gn] 240)):=(ae.refl _ wr).alloc _;have IU:=ag hW oA (fun _ _=>id);have O4:=Ln.keeps oA (fun _ _ _=>id);have q0:=oA.keeps LF id;have q1:=oA.keeps LG id;have q2:=((ai.new wr #[.int .i64 2,.string ⟨p.text.toArray⟩,.int .i64 gn] 240) 2 _ rfl).1;have GH:=hO.trans oA (fun _ e=>e) (fun _ _ e=>e.elim);clear Ln rX KM OY wU k0 k1 k2 Ux Uy;go_wp2_with fail;generalize wr.alloc (.cells #[.int .i64 2,.string ⟨p.text.toArray⟩,.int .i64 gn] 240)=wA at*
   clear p0 p1 p2 LF LG;have od:ae (fun _=>False) wA wA.drew:=(ae.refl _ wA).drew;have Oa:=ag IU od (fun _ _=>id);have dm:=(O4.keeps od (fun _ _ _=>id)).cut rc f t (by omega) (by omega) uI;have B2:f≤t:=by omega
   have MG:t≤rc:=by omega
   go_region_law ((refine cM _ (by rfl) _ _ (by rfl) base (.slice a' N c') N h (by rfl) Oa _ _ (Adz.seg sp f t) _ (by rfl) fq.symm (by first | exact dm | simpa using dm) (by omega) (by have:=GH.size;have:=od.size;omega) ?_;intro a2 c2 w2 ay aK bH))
   all_goals
    clear dm;generalize (if rc=f then ra else Option.map (fun x=>x.add f) ra)=sa at*
    go_wp2;go_roundg (gk - 1)
    case measure=>have:=HK.out;omega
    case rel=>exact ⟨j+1,N+(t - f),a2,c2,h++Adz.seg sp f t,rfl,by first | rfl | simp,by have:=HK.out;omega,zD,by show _=_;rw[List.length_append,fq,hN.out],ay,(GH.trans od (fun _ e=>e) (fun _ _ e=>e.elim)).trans aK (fun _ e=>e) (fun b hb e=>by rcases h3.out b e with e | e;exact e;omega),bW (GH.trans od (fun _ e=>e) (fun _ _ e=>e.elim)).size bH⟩
  ·have he:j=ps.length:=by omega
   subst he;have e2:Hid (h=ch++Adz.replAll sp m ps):=by show _=_;rw[hH.out,List.take_length]
   have e3:Hid (N=ch.length+(Adz.replAll sp m ps).length):=by show _=_;rw[hN.out,e2.out,List.length_append]
   clear hH hN;go_wp2;go_ret;refine⟨a',c',N,e3.out,rfl,?_,hO,h3⟩;rw[←e2.out];exact hW
theorem iY {P:Program}{ops:Array Oper}{Q:Exit→Act→World→Prop} (l n:Nat) (hd:∀(i:Nat) o,ops[i]? =some o→∀c,o.op≠ .defer c) (hQ:¬LetsOut Q):
 ∀(is:List Nat) (a:Act) (w:World),wpOps P ops Q is a w→wpOpsIn (Fence.wide.inRound l) n P ops Q is a w
 | [],a,w,h=>h
 | i::is,a,w,h=>by
  have ih:=iY (P:=P) l n hd hQ is;unfold wpOps at h;unfold wpOpsIn
  cases ho:ops[i]? with
  | none=>rw [ho] at h;exact ih a w h
  | some o=>
   rw[ho] at h;simp only at h ⊢;split
   ·rename_i hw
    rw[if_pos hw] at h
    rcases h with h |⟨_,h⟩
    ·refine⟨fun _ _=>trivial,?_⟩
     show o.uponIn _ n P a _ Q ((o.semAt (some l) a.eval).run P w);rw[Oper.semAt_some l a.eval o (hd i o ho)];unfold Oper.wp at h;generalize (execOp a.eval o).run P w=r at h ⊢
     cases r with
     | ok x w'=>
      cases x with
      | value v=>exact ih _ _ h
      | skip=>exact ih _ _ h
      | defer d=>exact ih _ _ h
      | enter f args=>
       refine⟨fun e=>by simp[Fence.inRound,Fence.wide] at e,CallsIn.inRound l (callsIn_wide.2 (Calls.mono h ?_))⟩;intro e w2 he
       cases e with
       | returned v=>exact ih _ _ he
       | panicked ch=>exact he
       | outgrown=>exact he
      | row row args=>
       refine⟨fun e=>by simp[Fence.inRound,Fence.wide] at e,?_⟩;intro c cs _;obtain⟨v,w2,hv,hs⟩:=h c cs;exact⟨v,w2,ih _ _ hv,stepsIn_wide.2 hs⟩
      | round l' f tmps assign body=>exact h.elim
      | _=>exact h.elim
     | halt x w'=>
      cases x <;> first | exact h | exact h.elim
    ·exact absurd h hQ
   ·rename_i hw
    rw[if_neg hw] at h;exact⟨fun _ _=>trivial,ih _ _ h⟩
theorem cT {P:Program}{ops:List Oper}{Q:Exit→Act→World→Prop}{l n id:Nat}{a:Act}{w:World} (hd:ops.all (fun o=>match o.op with | .defer _=>false | _=>true)=true) (hQ:¬LetsOut Q)
 (h:wpList P ops.toArray Q ops a w):(Code.region id ops.toArray false).wpIn (Fence.wide.inRound l) n P Q a w:=by
 refine wpIn_region (iY l n (fun i o ho c hc=> ?_) hQ _ _ _ ?_)
 ·have hm:o∈ops:=by simp at ho;exact List.mem_of_getElem? ho
  have:=List.all_eq_true.1 hd o hm;rw[hc] at this;simp at this
 ·have e:=wpOps_eq_wpList (P:=P) (ops:=ops.toArray) (Q:=Q) ops 0 (by simp)
  rw[List.range_eq_range',List.size_toArray,e];exact h
theorem dW {P:Program}{ops:List Oper}{Q:Exit→Act→World→Prop}{l n id:Nat}{a:Act}{w:World} (hm:P.follows .mixedOrders=true) (hd:ops.all (fun o=>match o.op with | .defer _=>false | _=>true)=true) (hQ:¬LetsOut Q)
 (h:wpAny P .any ops.toArray Q ops.toArray.size (Array.replicate ops.toArray.size false) a w.drew):(Code.region id ops.toArray true).wpIn (Fence.wide.inRound l) n P Q a w:=by
 refine wpIn_region_draw fun t=>iY l n (fun i o ho c hc=> ?_) hQ _ _ _ ?_
 ·have mY:o∈ops:=by simp at ho;exact List.mem_of_getElem? ho
  have:=List.all_eq_true.1 hd o mY;rw[hc] at this;simp at this
 ·simp only[Region.schedule,hm,Bool.true_or,if_true]
  exact wpAny_sound ops.toArray.size t _ a _ h
def qL {β:Type} (T:TypeId) (B:Nat) (J:β→World→Prop):Prop:=∀s W W',J s W→ae (fun b=>aq W b T∧B≤b) W W'→J s W'
def AI {β:Type} (T:TypeId) (B:Nat) (I:β→World→Prop):Prop:=∀s W W',I s W→ae (fun b=>(aq W b T∧B≤b)∨b=B∨b=B+1) W W'→I s W'
def Ij {α:Type} (B:Nat) (Kp:World→World→Prop) (I:List α→World→Prop) (Ix:Code→List α→World→Prop) (xs:List α) (W:World):Exit→Act→World→Prop
 | .normal,_,W'=>(W'.heap[B]? =W.heap[B]? ∧W'.heap[B+1]? =W.heap[B+1]?)∧Kp W W'∧I xs W'
 | .ret,_,W'=>(W'.heap[B]? =W.heap[B]? ∧W'.heap[B+1]? =W.heap[B+1]?)∧Ix .ret xs W'
 | .exit id,_,W'=>(W'.heap[B]? =W.heap[B]? ∧W'.heap[B+1]? =W.heap[B+1]?)∧Ix (.exit id) xs W'
 | .goto t,_,W'=>(W'.heap[B]? =W.heap[B]? ∧W'.heap[B+1]? =W.heap[B+1]?)∧Ix (.goto t) xs W'
 | .panic _,_,_=>False
 | .outgrown,_,_=>False
theorem dB (W:World) (b:Nat) (o:Obj):ae (·=b) W (W.putObj b o):=
 ⟨rfl,rfl,rfl,by simp,fun k _ hk=>World.putObj_heap_other hk⟩
theorem zU {α:Type}{P:Program}{g:Operand}{ps:Array Tmp}{assign body:Code}{Q:Exit→Act→World→Prop}{a:Act}{w:World}
 {gf:Nat} {lb:Array Value} (hg:a.eval g=.func (.func gf) #[] lb) (eg:∀args w,(callFunc gf args).run P w=.ok (.enter gf args) w)
 {encs:α→Array Value} (Hi:∀x,(encs x).size=ps.size) (T:TypeId) {S Sp Ok:List α→Prop} {Kp:World→World→Prop}
 (O7:∀(l:Nat) (J Jx:List α→World→Prop) (W:World),ae (fun _=>False) w W→qL T w.heap.size J→qL T w.heap.size Jx→
   (∀pre x W1,J pre W1→Ok (pre++ [x])→YieldAt Fence.wide 0 P l (encs x) W1 fun e W'=>(e=.returned (.bool true)∧J (pre++ [x]) W'∧Kp W1 W')∨(e=.returned (.bool false)∧Jx (pre++ [x]) W'))→J [] W→
   CallsIn Fence.wide 0 P gf (#[.func (.yield l) #[] #[]]++lb) W fun e W'=>(∃v,e=.returned v)∧((∃xs,S xs∧J xs W')∨(∃pre,Sp pre∧Jx pre W')))
 (NU:∀ {A B C:World},Kp A B→Kp B C→Kp A C) (QZ:∀(W:World) (r:Loop) (o:Obj),W.heap[w.heap.size+1]? =some (.loop r)→Kp W (W.putObj (w.heap.size+1) o))
 (I:List α→World→Prop) (Ix:Code→List α→World→Prop) (hI:AI T w.heap.size I) (Ap:∀c,AI T w.heap.size (Ix c)) (h0:I [] w)
 (Hl:∀(pre:List α) (x:α) (W:World) (r:Loop),I pre W→Ok (pre++ [x])→W.heap[w.heap.size+1]? =some (.loop r)→
   assign.wpIn (Fence.wide.inRound (w.heap.size+1)) 0 P (Exit.then (fun a₁ W₁=>(W₁.heap[w.heap.size]? =W.heap[w.heap.size]? ∧W₁.heap[w.heap.size+1]? =W.heap[w.heap.size+1]?)∧Kp W W₁∧∀r':Loop,
    body.wpIn (Fence.wide.inRound (w.heap.size+1)) 0 P (Ij w.heap.size Kp I Ix (pre++ [x]) (W₁.putObj (w.heap.size+1) (.loop r'))) a₁ (W₁.putObj (w.heap.size+1) (.loop r'))) (fun _ _ _=>False))
    {tmps:=(ps.zip (encs x)).foldl (fun t (p,v)=>t.setIfInBounds p v) a.tmps,defers:= []} W)
 (KF:∀(xs:List α) (W:World),S xs→I xs W→W.heap[w.heap.size]? =some (.deferred (some []))→Q .normal {a with defers:= {target:=.collected w.heap.size,args:= #[]}::a.defers} W)
 (yf:∀(c:Code) (pre:List α) (W:World),Sp pre→Ix c pre W→W.heap[w.heap.size]? =some (.deferred (some []))→c.wpIn Fence.wide 0 P Q {a with defers:= {target:=.collected w.heap.size,args:= #[]}::a.defers} W):
 (Code.rangeFunc g ps assign body).wpIn Fence.wide 0 P Q a w:=by
 refine wpIn_rangeFunc ?_;intro fn KN;obtain⟨rec,su⟩:∃rec:LoopState→Option Code→Loop,rec=fun st pe=> {state:=st,pending:=pe,fn,tmps:=a.tmps,params:=ps,assign,body,defers:=w.heap.size}:=⟨_,rfl⟩;obtain⟨W1,Fq⟩:∃W1,(w.alloc (.deferred (some []))).alloc (.loop (rec .ready none))=W1:=⟨_,rfl⟩;have DA:ae (fun _=>False) w W1:=by rw[←Fq];exact((ae.refl _ w).alloc _).alloc _
 have Kf:W1.heap[w.heap.size+1]? =some (.loop (rec .ready none)):=by
  rw[←Fq];have:=World.alloc_heap_new (w.alloc (.deferred (some []))) (.loop (rec .ready none));rwa [World.size_alloc] at this
 have QU:W1.heap[w.heap.size]? =some (.deferred (some [])):=by
  rw[←Fq];exact(Below.heap_alloc _ _ _ (by simp)).trans (World.alloc_heap_new w _)
 have nt:∀ {A:World} {b:Nat} {o:Obj},A.heap[b]? =some o→o.isCells=false→¬aq A b T:=fun h hc ⟨cur,fz,e⟩=>by
  rw[h] at e;cases e;simp[Obj.isCells] at hc
 have fG:∀ {β:Type} {I:β→World→Prop},AI T w.heap.size I→∀ {s W o},I s W→I s (W.putObj (w.heap.size+1) o):=fun h s W o hs=>
  h s W _ hs ((dB W _ o).mono (fun _ _ e=>Or.inr (Or.inr e)))
 refine⟨w.heap.size+1,[{target:=.collected w.heap.size,args:= #[]}],W1,{target:=.fn (.func gf) lb,args:= #[.func (.yield (w.heap.size+1)) #[] #[]]},W1,gf,
  #[.func (.yield (w.heap.size+1)) #[] #[]]++lb,W1,?_,?_,fun _ _=>trivial,?_,fun e=>by simp[Fence.wide] at e,?_⟩
 ·rw[←Fq,su];exact run_enterLoop_outer _ _ _ _ _
 ·simp only[resolve,hg]
  simp[go_sem]
 ·simp[invoke,go_sem,eg]
 ·refine(O7 (w.heap.size+1)
   (fun pre W=>I pre W∧W.heap[w.heap.size+1]? =some (.loop (rec .ready none))∧W.heap[w.heap.size]? =some (.deferred (some [])))
   (fun pre W=>∃c,Ix c pre W∧W.heap[w.heap.size+1]? =some (.loop (rec .done (some c)))∧W.heap[w.heap.size]? =some (.deferred (some [])))
   W1 DA ?_ ?_ ?_ ⟨?_,Kf,QU⟩).mono ?_
  ·rintro s A B ⟨hs,h1,h2⟩ ho
   exact⟨hI s A B hs (ho.mono (fun _ _ e=>Or.inl e)),(ho.block _ (Array.getElem?_eq_some_iff.1 h1).1 (fun e=>nt h1 rfl e.1)).trans h1,(ho.block _ (Array.getElem?_eq_some_iff.1 h2).1 (fun e=>nt h2 rfl e.1)).trans h2⟩
  ·rintro s A B ⟨c,hs,h1,h2⟩ ho
   exact⟨c,Ap c s A B hs (ho.mono (fun _ _ e=>Or.inl e)),(ho.block _ (Array.getElem?_eq_some_iff.1 h1).1 (fun e=>nt h1 rfl e.1)).trans h1,(ho.block _ (Array.getElem?_eq_some_iff.1 h2).1 (fun e=>nt h2 rfl e.1)).trans h2⟩
  ·rintro pre x W ⟨hi,hl,hk⟩ gV
   have aw:w.heap.size+1<W.heap.size:=(Array.getElem?_eq_some_iff.1 hl).1;have hy:=run_yield (P:=P) (args:=encs x) hl (by rw[su];exact Hi x);rw[su] at hy;refine⟨fn,_,assign,body,hy,roundIn_of_wpIn KN (wpIn_mono (Hl pre x W _ hi gV hl) ?_)⟩;rintro e0 a' W' I6
   cases e0 with
   | exit _=>exact I6.elim
   | goto _=>exact I6.elim
   | ret=>exact I6.elim
   | panic _=>exact I6.elim
   | outgrown=>exact I6.elim
   | normal=> ?_
   obtain⟨⟨k1,k2⟩,UG,tA⟩:=I6;have fi:=k2.trans hl;have FA:=k1.trans hk;have uD:w.heap.size+1<W'.heap.size:=(Array.getElem?_eq_some_iff.1 fi).1;refine⟨_,run_beginRound fi (by rw[su]),?_⟩;have fy:(W'.putObj (w.heap.size+1) (.loop {rec .ready none with state:=.busy})).heap[w.heap.size+1]? =some (.loop {rec .ready none with state:=.busy}):=World.putObj_heap_same uD;have fP:(W'.putObj (w.heap.size+1) (.loop {rec .ready none with state:=.busy})).heap[w.heap.size]? =some (.deferred (some [])):=(World.putObj_heap_other (by omega)).trans FA;refine wpIn_mono (tA {rec .ready none with state:=.busy}) ?_
   have fin:∀(jump:Option Code) (W3:World),W3.heap[w.heap.size]? =(W'.putObj (w.heap.size+1) (.loop {rec .ready none with state:=.busy})).heap[w.heap.size]? ∧W3.heap[w.heap.size+1]? =(W'.putObj (w.heap.size+1) (.loop {rec .ready none with state:=.busy})).heap[w.heap.size+1]? →
    (Instr.endRound (w.heap.size+1) jump).run P W3=.ok (.bool jump.isNone) (W3.putObj (w.heap.size+1) (.loop (rec (if jump.isNone then .ready else .done) jump)))∧
    (W3.putObj (w.heap.size+1) (.loop (rec (if jump.isNone then .ready else .done) jump))).heap[w.heap.size+1]? =some (.loop (rec (if jump.isNone then .ready else .done) jump))∧
    (W3.putObj (w.heap.size+1) (.loop (rec (if jump.isNone then .ready else .done) jump))).heap[w.heap.size]? =some (.deferred (some [])):=fun jump W3 qd=>by
    have zp:=qd.2.trans fy;have:=run_endRound (P:=P) jump zp;rw[su] at this ⊢;exact⟨this,World.putObj_heap_same (Array.getElem?_eq_some_iff.1 zp).1,(World.putObj_heap_other (by omega)).trans (qd.1.trans fP)⟩
   rintro e a3 W3 hp
   cases e with
   | normal=>
    obtain⟨qd,OJ,BD⟩:=hp;obtain⟨hr,rf,sm⟩:=fin none W3 qd;exact⟨_,_,hr,.inl ⟨rfl,⟨fG hI BD,rf,sm⟩,NU (NU (NU UG (QZ _ _ _ fi)) OJ) (QZ _ _ _ (qd.2.trans fy))⟩⟩
   | ret=>
    obtain⟨qd,BD⟩:=hp;obtain⟨hr,rf,sm⟩:=fin (some .ret) W3 qd;exact⟨_,_,hr,.inr ⟨rfl,.ret,fG (Ap _) BD,rf,sm⟩⟩
   | exit id=>
    obtain⟨qd,BD⟩:=hp;obtain⟨hr,rf,sm⟩:=fin (some (.exit id)) W3 qd;exact⟨_,_,hr,.inr ⟨rfl,.exit id,fG (Ap _) BD,rf,sm⟩⟩
   | goto t=>
    obtain⟨qd,BD⟩:=hp;obtain⟨hr,rf,sm⟩:=fin (some (.goto t)) W3 qd;exact⟨_,_,hr,.inr ⟨rfl,.goto t,fG (Ap _) BD,rf,sm⟩⟩
   | panic ch=>exact hp.elim
   | outgrown=>exact hp.elim
  ·exact hI _ _ _ h0 (DA.mono (fun _ _ e=>e.elim))
  ·rintro e W2 ⟨⟨v,rfl⟩,(⟨xs,hS,hi,hl,hk⟩ |⟨pre,Ub,c,hi,hl,hk⟩)⟩
   ·exact⟨none,_,by have:=run_endLoop (P:=P) hl (by rw[su];simp);rw[su] at this;exact this,KF xs _ hS (fG hI hi) ((World.putObj_heap_other (by omega)).trans hk)⟩
   ·exact⟨some c,_,by have:=run_endLoop (P:=P) hl (by rw[su];simp);rw[su] at this;exact this,yf c pre _ Ub (fG (Ap c) hi) ((World.putObj_heap_other (by omega)).trans hk)⟩
theorem wpListIn_store_mid {F:Fence}{n:Nat}{P:Program} (O3:F.round=none) {ops:Array Oper}{rest:List Oper}{op:Oper}{a:Act}{w:World}{Q:Exit→Act→World→Prop} (BA:op.guard=none) (ty:TypeId) (x y:Operand) (ho:op.op=.store ty x y)
 (b o:Nat) (cells:Array Value) (hx:a.eval x=.pointer (some ⟨b,o,none⟩)) (hy:a.eval y=.agg cells)
 (ht:w.there b o cells.size) (hi:(P.info? ty).map (·.size)=some cells.size) (h1:cells.all (·.oneCell')=true)
 (h:wpListIn F n P ops Q rest (a.put op.dst undef) (w.setCells b o cells.toList)):wpListIn F n P ops Q (op::rest) a w:=
 wpListIn_plain BA fun K hK=>by
  refine⟨fun f hf=>by simp[Oper.about,ho] at hf,?_⟩
  have e:op.semAt F.round a.eval=execOp a.eval op:=by
   rw[O3];unfold Oper.semAt;split <;> simp_all
  rw[e];have hw:op.wp P a w K Q:=wp_store_mid ty x y ho b o cells hx hy ht hi h1 (hK _ _ h);unfold Oper.wp at hw;unfold execOp at hw ⊢;simp only[ho,hx,hy,Instr.storeAt,Instr.sureAddr,Sem.run_bind,Sem.run_pure,Result.andThen_ok,run_storeVar_mid w b o ty cells ht hi h1] at hw ⊢;exact hw
theorem wpListIn_load_mid {F:Fence}{n:Nat}{P:Program} (O3:F.round=none) {ops:Array Oper}{rest:List Oper}{op:Oper}{a:Act}{w:World}{Q:Exit→Act→World→Prop} (BA:op.guard=none) (ty:TypeId) (x:Operand) (ho:op.op=.load ty x)
 (b o:Nat) (hx:a.eval x=.pointer (some ⟨b,o,none⟩)) (cs:List Value) (d:TypeDesc) (hc:w.rangeAt b o cs)
 (hu:P.underlying ty=some d) (hd:d.isRow=true) (hi:(P.info? ty).map (·.size)=some cs.length)
 (h:wpListIn F n P ops Q rest (a.put op.dst (.agg cs.toArray)) w):wpListIn F n P ops Q (op::rest) a w:=
 wpListIn_plain BA fun K hK=>by
  refine⟨fun f hf=>by simp[Oper.about,ho] at hf,?_⟩
  have e:op.semAt F.round a.eval=execOp a.eval op:=by
   rw[O3];unfold Oper.semAt;split <;> simp_all
  rw[e];unfold execOp;simp only[ho,hx,Instr.loadAt,Instr.sureAddr,Sem.run_bind,Sem.run_pure,Result.andThen_ok,run_loadVar_mid w b o ty cs d hc hu hd hi];exact hK _ _ h
end
section
open Go.RowKit
attribute [local go_sem] Oper.semAt_some
def qg (B0:Nat) (W W':World):Prop:=
 ∃S:Nat→Prop,ae S W W'∧∀c,S c→(c<B0∧(aq W c 3∨aq W c 4∨aq W c 103))∨aq W c 21∨∃r,W.heap[c]? =some (.loop r)
theorem qg.trans {B0:Nat}{A B C:World} (h:qg B0 A B) (k:qg B0 B C):qg B0 A C:=by
 obtain⟨S,o1,h1⟩:=h;obtain⟨T,o2,h2⟩:=k;refine⟨fun c=>S c∨(T c∧¬S c∧c<A.heap.size),o1.trans o2 (fun c e=>Or.inl e) (fun c hc e=> ?_),fun c hc=> ?_⟩
 ·by_cases hs:S c
  ·exact Or.inl hs
  ·exact Or.inr ⟨e,hs,hc⟩
 ·rcases hc with hc |⟨ht,hn,hl⟩
  ·exact h1 c hc
  ·have e:=o1.block c hl hn
   have ty:∀ {T},aq B c T→aq A c T:=fun ⟨cur,fz,hb⟩=>⟨cur,fz,e.symm.trans hb⟩
   rcases h2 c ht with ⟨g1,g2⟩ | g |⟨r,hr⟩
   ·exact Or.inl ⟨g1,g2.imp ty (Or.imp ty ty)⟩
   ·exact Or.inr (Or.inl (ty g))
   ·exact Or.inr (Or.inr ⟨r,e.symm.trans hr⟩)
theorem qg.put {B0 L:Nat}{W:World}{r:Loop} (o:Obj) (h:W.heap[L]? =some (.loop r)):qg B0 W (W.putObj L o):=
 ⟨(·=L),dB W L o,fun c e=>by subst e;exact Or.inr (Or.inr ⟨r,h⟩)⟩
theorem qg.quiet {B0:Nat}{W W':World} (h:ae (fun _=>False) W W'):qg B0 W W':=⟨_,h,fun _ e=>e.elim⟩
theorem qg.only {B0:Nat}{W W':World} (h:qg B0 W W'):∃S:Nat→Prop,ae S W W'∧(∀c T,aq W c T→T≠3→T≠4→T≠103→T≠21→¬S c)∧(∀c,B0≤c→aq W c 3→¬S c):=by
 obtain⟨S,o,h⟩:=h;refine⟨S,o,fun c T hT n1 n2 n3 n4 hs=> ?_,fun c hc hT hs=> ?_⟩
 ·rcases h c hs with ⟨_,g | g | g⟩ | g |⟨r,hr⟩
  ·exact n1 (hT.one g)
  ·exact n2 (hT.one g)
  ·exact n3 (hT.one g)
  ·exact n4 (hT.one g)
  ·obtain⟨cur,fz,e⟩:=hT
   rw[hr] at e
   cases e
 ·rcases h c hs with ⟨g,_⟩ | g |⟨r,hr⟩
  ·omega
  ·exact absurd (hT.one g) (by decide)
  ·obtain⟨cur,fz,e⟩:=hT
   rw[hr] at e
   cases e
def LC (n:Nat):Value→Value→Nat
 | .int _ e,.int _ a=>Adz.left n e a
 | _,_=>0
structure Look (W:World) (sb ab base:Nat) (iv:Value) (ra:Option Addr) (rc:Nat) (sp:List Int) (xs:List Adz.Item):Prop where
 srch:Srch W sb iv (.slice ra sp.length rc) (.slice (some ⟨ab,0,none⟩) (xs.length+1) (xs.length+1))
 mat:Mat W ab base (xs.length+1) sp.length (Adz.fin sp xs)
 items:bN W iv xs
theorem Look.step {W W':World}{sb ab base:Nat}{iv:Value}{ra:Option Addr}{rc:Nat}{sp:List Int}{xs:List Adz.Item} (h:Look W sb ab base iv ra rc sp xs) (o:ae (·=sb) W W') (s:Srch W' sb iv (.slice ra sp.length rc) (.slice (some ⟨ab,0,none⟩) (xs.length+1) (xs.length+1))):Look W' sb ab base iv ra rc sp xs:=by
 have ty:∀ {T:TypeId} {c:Nat},aq W c T→T≠258→¬c=sb:=fun hc hT e=>by subst e;exact hT (hc.one h.srch.typ)
 exact⟨s,h.mat.keeps o (fun c hc=>ty hc (by decide)) (fun c hc=>ty hc (by decide)),h.items.keeps o (fun c hc=>ty hc (by decide)) (fun c hc=>ty hc (by decide))⟩
theorem Look.quiet {W W':World}{sb ab base:Nat}{iv:Value}{ra:Option Addr}{rc:Nat}{sp:List Int}{xs:List Adz.Item} (h:Look W sb ab base iv ra rc sp xs) (o:ae (fun _=>False) W W'):Look W' sb ab base iv ra rc sp xs:=
 ⟨h.srch.keeps o id,h.mat.keeps o (fun _ _=>id) (fun _ _=>id),h.items.keeps o (fun _ _=>id) (fun _ _=>id)⟩
theorem Look.round {W W':World}{B0 sb ab base:Nat}{iv:Value}{ra:Option Addr}{rc:Nat}{sp:List Int}{xs:List Adz.Item} (h:Look W sb ab base iv ra rc sp xs) (hb:B0≤base) (k:qg B0 W W'):Look W' sb ab base iv ra rc sp xs:=by
 obtain⟨S,o,g1,g2⟩:=k.only;refine⟨h.srch.keeps o (g1 _ _ h.srch.typ (by decide) (by decide) (by decide) (by decide)),?_,h.items.keeps o (fun c hc=>g1 c _ hc (by decide) (by decide) (by decide) (by decide)) (fun c hc=>g1 c _ hc (by decide) (by decide) (by decide) (by decide))⟩;have m:=h.mat;refine⟨m.typ.keeps o (g1 _ _ m.typ (by decide) (by decide) (by decide) (by decide)),fun j hj=>o.keeps (m.cell j hj) (g1 _ _ m.typ (by decide) (by decide) (by decide) (by decide)),fun j hj=>(m.rows j hj).keeps o (g2 _ (by omega) (m.rows j hj)),fun j t hj ht=> ?_⟩;have n:=g2 (base+j) (by omega) (m.rows j hj);exact⟨o.keeps (m.place j t hj ht).1 n,o.keepsFrozen (m.place j t hj ht).1 (m.place j t hj ht).2 n⟩
theorem rR (xs:List Adz.Item) (sp:List Int) (sb ab base:Nat) (iv:Value) (ra:Option Addr) (rc B0:Nat) (hk:xs.length≤1000) (hf:∀x∈xs,x.spans.length≤1000) (hn:sp.length≤1000000) (hg:∀x∈xs,1≤x.group∧x.group≤9∨(x.kind≠2∧x.kind≠3))
 (l:Nat) (J Jx:List (List Int)→World→Prop) (hJ:qL 258 B0 J) (Mo:qL 258 B0 Jx)
 (hY:∀pre x W1,J pre W1→(pre++ [x]) <+:Adz.matches_ sp xs→YieldAt Fence.wide 0 Tryz.prog l #[.agg (x.map (.int .i64)).toArray] W1 fun e W'=>(e=.returned (.bool true)∧J (pre++ [x]) W'∧qg B0 W1 W')∨(e=.returned (.bool false)∧Jx (pre++ [x]) W'))
 (W:World) (hL:Look W sb ab base iv ra rc sp xs) (iB:B0≤base) (BU:B0≤sb) (h0:J [] W):
 CallsIn Fence.wide 0 Tryz.prog 191 #[.pointer (some ⟨sb,0,none⟩),.func (.yield l) #[] #[]] W fun e W'=>(∃v,e=.returned v)∧
  ((∃ys,ys=Adz.matches_ sp xs∧J ys W')∨(∃pre,(pre <+:Adz.matches_ sp xs∧pre≠ [])∧Jx pre W')):=by
 refine callsIn_of_wp Tryz.func191 rfl trivial ?_ rfl;simp only[Tryz.ntmps191,List.size_toArray,List.length_cons,List.length_nil,Nat.reduceAdd,Nat.reduceSub,Array.replicate_succ,Array.replicate_zero,List.push_toArray,List.append_toArray,List.nil_append,List.cons_append];have c0:=ft sb ab base xs.length sp.length iv ra rc (Adz.fin sp xs) W hL.srch hL.mat (Adz.row0 sp xs) (Adz.row0_len sp xs) (fun t _=>Adz.row0_get sp xs t) hn 0 (by omega)
 gi_wp2
 refine⟨trivial,rfl,(callsIn_wide.2 c0).mono ?_⟩;clear c0;rintro e w1 ⟨rfl,bq,lG⟩;have kC:(Tryz.prog.info? 219).map (·.size)=some 20:=by kernel_rfl
 have hI:Hid ((Tryz.prog.info? 219).map (·.size)=some 20):=kC;clear kC;have CP:Hid (Adz.matches_ sp xs= []++Adz.eachGo (Adz.row0 sp xs) (Adz.matchAt (Adz.allEnds sp xs) xs) (2*sp.length+3) (Adz.firstFrom (Adz.row0 sp xs) 0) (-1)):=by show _=_;rfl
 have NM:Hid (Adz.firstFrom (Adz.row0 sp xs) 0= -1∨∃k:Nat,Adz.firstFrom (Adz.row0 sp xs) 0=k∧k≤sp.length∧Adz.fin sp xs 0 k≠ -1):=by
  rcases Adz.first_cases sp xs 0 (by omega) with h |⟨k,h1,_,h3,h4⟩
  ·exact Or.inl h
  ·exact Or.inr ⟨k,h1,h3,h4⟩
 have QQ:Hid (Adz.left sp.length (-1) (Adz.firstFrom (Adz.row0 sp xs) 0)≤2*sp.length+3):=by
  show _≤_
  rcases NM.out with h |⟨k,h,_,_⟩
  ·rw[h,Adz.left_none];omega
  ·rw[h,Adz.left_nat];split <;> omega
 have Kf:=hL.step bq lG;have Mn:J [] w1:=hJ _ _ _ h0 (bq.mono (fun c _ e=>by subst e;exact⟨hL.srch.typ,BU⟩));clear bq lG hL h0;generalize Adz.firstFrom (Adz.row0 sp xs) 0=a0 at*
 gi_wp2
 gi_loopw [4,5] (fun v u wr=>∃(pre:List (List Int)) (k:Nat) (ended at_:Int),v=.int .i64 ended∧u=.int .i64 at_∧Hid (Adz.matches_ sp xs=pre++Adz.eachGo (Adz.row0 sp xs) (Adz.matchAt (Adz.allEnds sp xs) xs) k at_ ended)∧Hid (Adz.left sp.length ended at_≤k)∧Hid (at_= -1∨∃k:Nat,at_=k∧k≤sp.length∧Adz.fin sp xs 0 k≠ -1)∧Hid (Look wr sb ab base iv ra rc sp xs)∧Hid (J pre wr)) (fun v u wr=>LC sp.length v u)
 case atStart=>exact ⟨[],_, -1,a0,rfl,rfl,CP,QQ,NM,Kf,Mn⟩
 case round=>
  clear CP QQ NM Kf Mn;obtain⟨pre,k,ended,at_,rfl,rfl,hM,hF,hA,h1,h2⟩:=hrel;have hL:Look wr sb ab base iv ra rc sp xs:=h1;have NS:J pre wr:=h2;clear h1 h2
  rcases hA.out with rfl |⟨a,rfl,ha,IV⟩
  ·have mX:Hid (Adz.matches_ sp xs=pre):=by
    show _=_;rw[hM.out]
    cases k <;> simp[Adz.eachGo]
   clear hM hF hA
   gi_wp2
   go_end0;exact⟨⟨_,rfl⟩,.inl ⟨pre,mX.out.symm,NS⟩⟩
  ·have d1:((a:Int) != -1)=true:=by simp
   have d2:decide ((a:Int)= -1)=false:=by simp
   have c1:=qC xs sb ab base wr iv ra rc sp.length hL.srch hL.items hk hf sp rfl hn hg hL.mat a ha IV;have hlen:=Adz.matchAt_len (Adz.allEnds sp xs) xs a;have By:=Adz.matchAt_from (Adz.allEnds sp xs) xs a;obtain⟨iA,Ja,mq,nU⟩:=Adz.matchAt_to sp xs a ha IV;have FI:=Adz.each_skip sp xs k a ended ha hF.out;have B3:=Adz.each_yield sp xs k a ended ha hF.out iA Ja mq nU;have Gg:Hid _:=FI;have Nc:Hid _:=B3;clear FI B3 hA;generalize hm:Adz.matchAt (Adz.allEnds sp xs) xs a=m at*
   gi_wp2
   refine⟨trivial,rfl,(callsIn_wide.2 c1).mono ?_⟩;clear c1;rintro e w2 ⟨rfl,aK,fm⟩;have Q2:=hL.step aK fm;have QS:J pre w2:=hJ _ _ _ NS (aK.mono (fun c _ e=>by subst e;exact⟨hL.srch.typ,BU⟩));clear aK fm hL NS;have uB:(Tryz.prog.info? 219).map (·.size)=some (m.map (Value.int .i64)).toArray.size:=by rw[List.size_toArray,List.length_map,hlen];exact hI.out
   have eF:((m.map (Value.int .i64)).toArray.all (·.oneCell'))=true:=all_oneCell_toArray (by intro v hv;simp at hv;obtain⟨a,_,rfl⟩:=hv;rfl);have GG:=MatchAt.new w2;have C3:=GG.there;rw[show (20:Nat)=(m.map (Value.int .i64)).toArray.size by rw[List.size_toArray,List.length_map,hlen]] at C3;have Gb:Hid _:=uB;have JK:Hid _:=C3;clear uB C3
   gi_wp2_with (refine wpListIn_store_mid rfl (by rfl) 219 _ _ (by rfl) w2.heap.size 0 (m.map (Value.int .i64)).toArray (by rfl) (by rfl) JK.out Gb.out eF ?_)
   have ly:=GG.store m hlen
   have o3:ae (fun _=>False) w2 ((w2.alloc (.cells bd 219)).setCells w2.heap.size 0 (m.map (.int .i64))):=by
    refine((ae.refl _ w2).alloc _).trans (cO w2.heap.size _ _ 0) (fun _ e=>e) (fun b hb e=>by omega)
   unfold bd at ly o3;generalize ((w2.alloc (.cells _ 219)).setCells w2.heap.size 0 (m.map (.int .i64)))=w3 at*
   have IN:=Q2.quiet o3;have QT:J pre w3:=hJ _ _ _ QS (o3.mono (fun _ _ e=>e.elim))
   have m0:w3.cell? ⟨w2.heap.size,0,none⟩=some (.int .i64 a):=by
    have:=ly.cells 0 (.int .i64 a) (by rw[List.getElem?_map,←By,List.getD_eq_getElem?_getD,List.getElem?_eq_getElem (by omega)];rfl)
    rwa [Nat.zero_add] at this
   have m1:w3.cell? ⟨w2.heap.size,1,none⟩=some (.int .i64 iA):=by
    have:=ly.cells 1 (.int .i64 iA) (by rw[List.getElem?_map,←Ja,List.getD_eq_getElem?_getD,List.getElem?_eq_getElem (by omega)];rfl)
    rwa [Nat.zero_add] at this
   have Le:=ly.typ;clear GG o3 JK Gb eF Q2 QS;have c2:=uf w2.heap.size a iA w3 m0 m1;refine⟨trivial,rfl,(callsIn_wide.2 c2).mono ?_⟩;clear c2;rintro e w4 ⟨rfl,dg⟩;have CO:=IN.quiet dg;have Ke:J pre w4:=hJ _ _ _ QT (dg.mono (fun _ _ e=>e.elim));have xV:=ly.keeps dg id;have m14:=dg.keeps m1 id;clear IN QT ly m0 m1 dg;by_cases jU:(a:Int)=iA∧(a:Int)=ended
   ·obtain⟨e1,e2⟩:=jU
    have b1:((a:Int)==iA)=true:=by simp[e1]
    have b2:((a:Int)==ended)=true:=by simp[e2]
    obtain⟨k',g1,g2,g3⟩:=Gg.out (by rw[By,Ja,e1]) e2;rw[b1];have KE:decide ((a:Int)=ended)=true:=by simp[e2]
    have hw:IntKind.i64.wrap ((a:Int)+1)=(a:Int)+1:=by rw[IntKind.wrap_i64];omega
    have c5:=ft sb ab base xs.length sp.length iv ra rc (Adz.fin sp xs) w4 CO.srch CO.mat (Adz.row0 sp xs) (Adz.row0_len sp xs) (fun t _=>Adz.row0_get sp xs t) hn (a+1) (by omega);rw[show (((a+1:Nat)):Int)=(a:Int)+1 by omega] at c5
    have Mk:Hid (Adz.firstFrom (Adz.row0 sp xs) (a+1)= -1∨∃k:Nat,Adz.firstFrom (Adz.row0 sp xs) (a+1)=k∧k≤sp.length∧Adz.fin sp xs 0 k≠ -1):=by
     rcases Adz.first_cases sp xs (a+1) (by omega) with h |⟨k,h1,_,h3,h4⟩
     ·exact Or.inl h
     ·exact Or.inr ⟨k,h1,h3,h4⟩
    have G1:Hid _:=g1;have G2:Hid _:=g2;have G3:Hid _:=g3;have E2:Hid _:=e2;clear g1 g2 g3 e1 e2 Gg Nc;generalize Adz.firstFrom (Adz.row0 sp xs) (a+1)=a5 at*
    gi_wp2
    refine⟨trivial,rfl,(callsIn_wide.2 c5).mono ?_⟩;clear c5;rintro e w5 ⟨rfl,I5,BT⟩;have xU:=CO.step I5 BT;have GD:J pre w5:=hJ _ _ _ Ke (I5.mono (fun c _ e=>by subst e;exact⟨CO.srch.typ,BU⟩));clear I5 BT CO Ke
    gi_wp2
    go_roundw
    case rel=>exact ⟨pre,k',ended,a5,rfl,rfl,by show _=_;rw[hM.out,G1.out],G2,Mk,xU,GD⟩
    case measure=>exact G3.out
   ·obtain⟨k',g1,g2,g3⟩:=Nc.out jU
    have hx:(pre++ [m]) <+:Adz.matches_ sp xs:=⟨Adz.eachGo (Adz.row0 sp xs) (Adz.matchAt (Adz.allEnds sp xs) xs) k' (Adz.firstFrom (Adz.row0 sp xs) iA) iA,by rw[hM.out,g1];simp⟩;have Uf:=hY pre m w4 Ke hx;obtain⟨fn,tmps,assign,body,hy,hR⟩:=Uf
    have Kq:(((a:Int)==iA)=true∧((a:Int)==ended)=false)∨((a:Int)==iA)=false:=by
     by_cases e1:(a:Int)=iA
     ·exact Or.inl ⟨by simp[e1],by simp;exact fun e2=>jU ⟨e1,e2⟩⟩
     ·exact Or.inr (by simp[e1])
    have c5:=fun (w5:World) (xU:Look w5 sb ab base iv ra rc sp xs)=>ft sb ab base xs.length sp.length iv ra rc (Adz.fin sp xs) w5 xU.srch xU.mat (Adz.row0 sp xs) (Adz.row0_len sp xs) (fun t _=>Adz.row0_get sp xs t) hn iA (by omega)
    have Mk:Hid (Adz.firstFrom (Adz.row0 sp xs) iA= -1∨∃k:Nat,Adz.firstFrom (Adz.row0 sp xs) iA=k∧k≤sp.length∧Adz.fin sp xs 0 k≠ -1):=by
     rcases Adz.first_cases sp xs iA (by omega) with h |⟨k,h1,_,h3,h4⟩
     ·exact Or.inl h
     ·exact Or.inr ⟨k,h1,h3,h4⟩
    have uA:(Tryz.prog.info? 219).map (·.size)=some (m.map (Value.int .i64)).length:=by rw[List.length_map,hlen];exact hI.out
    have Ju:Hid _:=uA;have MB:=xV.cells;have G1:Hid _:=g1;have G2:Hid _:=g2;have G3:Hid _:=g3;have HX:Hid _:=hx;clear g1 g2 g3 Gg Nc uA hx jU
    rcases Kq with ⟨b1,b2⟩ | b1
    ·rw[b1]
     have KE:decide ((a:Int)=ended)=false:=by simpa using b2
     gi_wp2_with (refine wpListIn_load_mid rfl (by rfl) 219 _ (by rfl) w2.heap.size 0 (by rfl) (m.map (Value.int .i64)) _ MB Tryz.underlying219 (by rfl) Ju.out ?_)
     refine⟨rfl,hR.mono ?_⟩;clear hR hy;rintro e w5 (⟨rfl,GD,vP⟩ |⟨rfl,GF⟩)
     ·have xU:=CO.round iB vP
      obtain⟨S,o5,g5,_⟩:=vP.only;have m15:=o5.keeps m14 (g5 _ _ xV.typ (by decide) (by decide) (by decide) (by decide));clear o5 g5 vP CO Ke xV m14 MB;have c6:=c5 w5 xU;clear c5;generalize Adz.firstFrom (Adz.row0 sp xs) iA=a5 at*
      gi_wp2
      refine⟨trivial,rfl,(callsIn_wide.2 c6).mono ?_⟩;clear c6;rintro e w6 ⟨rfl,He,C0⟩;have NV:=xU.step He C0;have NR:J (pre++ [m]) w6:=hJ _ _ _ GD (He.mono (fun c _ e=>by subst e;exact⟨xU.srch.typ,BU⟩));clear He C0 xU GD
      gi_wp2
      go_roundw
      case rel=>exact ⟨pre++ [m],k',iA,a5,rfl,rfl,by show _=_;rw[hM.out,G1.out];simp,G2,Mk,NV,NR⟩
      case measure=>exact G3.out
     ·gi_wp2
      refine bodyPost_ret (results_none rfl _ _ _) rfl ?_;exact⟨⟨_,rfl⟩,.inr ⟨pre++ [m],⟨HX.out,by simp⟩,GF⟩⟩
    ·rw[b1]
     gi_wp2_with (refine wpListIn_load_mid rfl (by rfl) 219 _ (by rfl) w2.heap.size 0 (by rfl) (m.map (Value.int .i64)) _ MB Tryz.underlying219 (by rfl) Ju.out ?_)
     refine⟨rfl,hR.mono ?_⟩;clear hR hy;rintro e w5 (⟨rfl,GD,vP⟩ |⟨rfl,GF⟩)
     ·have xU:=CO.round iB vP
      obtain⟨S,o5,g5,_⟩:=vP.only;have m15:=o5.keeps m14 (g5 _ _ xV.typ (by decide) (by decide) (by decide) (by decide));clear o5 g5 vP CO Ke xV m14 MB;have c6:=c5 w5 xU;clear c5;generalize Adz.firstFrom (Adz.row0 sp xs) iA=a5 at*
      gi_wp2
      refine⟨trivial,rfl,(callsIn_wide.2 c6).mono ?_⟩;clear c6;rintro e w6 ⟨rfl,He,C0⟩;have NV:=xU.step He C0;have NR:J (pre++ [m]) w6:=hJ _ _ _ GD (He.mono (fun c _ e=>by subst e;exact⟨xU.srch.typ,BU⟩));clear He C0 xU GD
      gi_wp2
      go_roundw
      case rel=>exact ⟨pre++ [m],k',iA,a5,rfl,rfl,by show _=_;rw[hM.out,G1.out];simp,G2,Mk,NV,NR⟩
      case measure=>exact G3.out
     ·gi_wp2
      refine bodyPost_ret (results_none rfl _ _ _) rfl ?_;exact⟨⟨_,rfl⟩,.inr ⟨pre++ [m],⟨HX.out,by simp⟩,GF⟩⟩
theorem uU (xs:List Adz.Item) (sp:List Int) (pb po:Nat) (iv:Value) (ra:Option Addr) (rc:Nat) (hk:xs.length≤1000) (hf:∀x∈xs,x.spans.length≤1000) (hn:sp.length≤1000000) (hg:∀x∈xs,1≤x.group∧x.group≤9∨(x.kind≠2∧x.kind≠3)) (b1 b2:Nat)
 (l:Nat) (J Jx:List (List Int)→World→Prop) (B0:Nat) (hJ:qL 258 B0 J) (Mo:qL 258 B0 Jx)
 (hY:∀pre x W1,J pre W1→(pre++ [x]) <+:Adz.matches_ sp xs→YieldAt Fence.wide 0 Tryz.prog l #[.agg (x.map (.int .i64)).toArray] W1 fun e W'=>(e=.returned (.bool true)∧J (pre++ [x]) W'∧qg B0 W1 W')∨(e=.returned (.bool false)∧Jx (pre++ [x]) W'))
 (W:World) (hB:B0≤W.heap.size) (h1:W.cell? ⟨b1,0,none⟩=some (.pointer (some ⟨pb,po,none⟩))) (h2:W.cell? ⟨b2,0,none⟩=some (.slice ra sp.length rc)) (hp:W.cell? ⟨pb,po,none⟩=some iv) (hi:bN W iv xs) (hr:bY W ra sp) (h0:J [] W):
 CallsIn Fence.wide 0 Tryz.prog 190 (#[.func (.yield l) #[] #[]]++ #[.pointer (some ⟨b1,0,none⟩),.pointer (some ⟨b2,0,none⟩)]) W fun e W'=>(∃v,e=.returned v)∧
  ((∃ys,ys=Adz.matches_ sp xs∧J ys W')∨(∃pre,(pre <+:Adz.matches_ sp xs∧pre≠ [])∧Jx pre W')):=by
 have c0:=sH xs pb po W iv hp hi hk hf ra rc sp hr hn;refine callsIn_of_wp Tryz.func190 rfl trivial ?_ rfl;simp only[Tryz.ntmps190,List.size_toArray,List.length_cons,List.length_nil,Nat.reduceAdd,Nat.reduceSub,Array.replicate_succ,Array.replicate_zero,List.push_toArray,List.append_toArray,List.nil_append,List.cons_append]
 gi_wp2
 refine⟨trivial,rfl,(callsIn_wide.2 c0).mono ?_⟩;clear c0;rintro e w1 ⟨sb,ab,base,rfl,hs,hM,ho,hb,dt⟩;have hL:Look w1 sb ab base iv ra rc sp xs:=⟨hs,hM,hi.keeps ho (fun _ _=>id) (fun _ _=>id)⟩;have Mn:J [] w1:=hJ _ _ _ h0 (ho.mono (fun _ _ e=>e.elim));have c1:=rR xs sp sb ab base iv ra rc B0 hk hf hn hg l J Jx hJ Mo hY w1 hL (by omega) (by omega) Mn
 gi_wp2
 refine⟨trivial,rfl,c1.mono ?_⟩;clear c1;rintro e w2 ⟨⟨v,rfl⟩,h⟩
 gi_wp2
 go_end0;exact⟨⟨_,rfl⟩,h⟩
theorem qE (pb po:Nat) (ra:Option Addr) (n rc:Nat) (w:World):
 Calls Tryz.prog 164 #[.pointer (some ⟨pb,po,none⟩),.slice ra n rc] w fun e w'=>∃b1 b2,e=.returned (.func (.func 190) #[] #[.pointer (some ⟨b1,0,none⟩),.pointer (some ⟨b2,0,none⟩)])∧
  w'.cell? ⟨b1,0,none⟩=some (.pointer (some ⟨pb,po,none⟩))∧w'.cell? ⟨b2,0,none⟩=some (.slice ra n rc)∧w.heap.size≤b1∧w.heap.size≤b2∧ae (fun _=>False) w w':=by
 go_enter Tryz.func164,Tryz.ntmps164;go_wp2;go_ret;refine⟨_,_,rfl,by simp[go_sem],by simp[go_sem],by simp,by simp,((ae.refl _ w).alloc _).alloc _⟩
end
end Go.Proofs.YtbiobhghnldckaaGreatDoor
