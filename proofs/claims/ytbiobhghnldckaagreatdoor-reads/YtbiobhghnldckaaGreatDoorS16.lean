/- Proved: what one s makes of the space. Conditions: the command and the editor lie in memory. -/
import Derived.Test.YtbiobhghnldckaaGreatDoorS15
namespace Go.Proofs.YtbiobhghnldckaaGreatDoor
set_option linter.unusedVariables false
set_option maxRecDepth 100000
set_option maxHeartbeats 6400000
section
open Go.RowKit
attribute [local go_sem] Oper.semAt_some
theorem kT {l:List Value}{j:Nat}{v:Value} (h:l[j]? =some v):l.set j v=l:=by
 apply List.ext_getElem?;intro i;by_cases e:j=i
 ·subst e;rw[List.getElem?_set_self',h];rfl
 ·rw[List.getElem?_set_ne e]
theorem Sl.of_row {w:World}{base:Nat}{a:Option Addr}{N c:Nat}{xs:List Int} (h:w.ownsRow base 21 1 (.slice a N c) N (xs.map (.int .i32))):Sl w a xs∧N≤c:=by
 rcases h.2 with ⟨e,h0⟩ |⟨g,cap,cur,hv,_,hg,ct,_,dr,fH⟩
 ·injection e with e1 e2 e3
  subst e1;subst e2;subst e3;have hl:=h.1;simp at hl;exact⟨Or.inl ⟨rfl,hl⟩,Nat.le_refl _⟩
 ·injection hv with e1 e2 e3
  subst e1;subst e3;have hl:=h.1;rw[List.length_map,Nat.mul_one] at hl;refine⟨Or.inr ⟨g,0,rfl,⟨cur,(0,0),hg⟩,fun j hj=> ?_⟩,ct⟩;rw[cell_of_row _ g (0+j) cur _ (0,0) hg,Nat.zero_add]
  have hx:(cur.toList.take (N*1))[j]? =some (.int .i32 (xs.getD j 0)):=by
   rw[fH,List.getElem?_map,List.getD_eq_getElem?_getD,List.getElem?_eq_getElem hj];rfl
  rw[List.getElem?_take,if_pos (by omega),Array.getElem?_toList] at hx;exact hx
theorem yO (w:World) (eb cb co:Nat):Boxes ((((((w.alloc (.cells #[.pointer (some ⟨eb,0,none⟩)] 98)).alloc (.cells #[.pointer (some ⟨cb,co,none⟩)] 190)).alloc (.cells #[.slice none 0 0] 103)).alloc (.cells #[.int .i64 0] 3)).alloc (.cells #[.int .i64 0] 3)).alloc (.cells #[.bool false] 4)) w.heap.size eb cb co none 0 0 0 0 false:=by
 have nx:∀(u:World) (v:Value) (T:TypeId) (b:Nat),b=u.heap.size→aq (u.alloc (.cells #[v] T)) b T∧(u.alloc (.cells #[v] T)).cell? ⟨b,0,none⟩=some v∧(u.alloc (.cells #[v] T)).frozen? ⟨b,0,none⟩=false:=fun u v T b e=>by
  subst e;exact⟨aq.new _ _ _ _,((ai.new u #[v] T) 0 v rfl).1,((ai.new u #[v] T) 0 v rfl).2⟩
 have up:∀(u:World) (o:Obj) {T:TypeId} {b:Nat} {v:Value},(aq u b T∧u.cell? ⟨b,0,none⟩=some v∧u.frozen? ⟨b,0,none⟩=false)→(aq (u.alloc o) b T∧(u.alloc o).cell? ⟨b,0,none⟩=some v∧(u.alloc o).frozen? ⟨b,0,none⟩=false):=fun u o T b v h=>by
  have oo:ae (fun _=>False) u (u.alloc o):=(ae.refl _ u).alloc o;exact⟨h.1.keeps oo id,oo.keeps h.2.1 id,oo.keepsFrozen h.2.1 h.2.2 id⟩
 have h0:=up _ (.cells #[.bool false] 4) (up _ (.cells #[.int .i64 0] 3) (up _ (.cells #[.int .i64 0] 3) (up _ (.cells #[.slice none 0 0] 103) (up _ (.cells #[.pointer (some ⟨cb,co,none⟩)] 190) (nx w (.pointer (some ⟨eb,0,none⟩)) 98 w.heap.size rfl)))));have h1:=up _ (.cells #[.bool false] 4) (up _ (.cells #[.int .i64 0] 3) (up _ (.cells #[.int .i64 0] 3) (up _ (.cells #[.slice none 0 0] 103) (nx (w.alloc (.cells #[.pointer (some ⟨eb,0,none⟩)] 98)) (.pointer (some ⟨cb,co,none⟩)) 190 (w.heap.size+1) (by simp)))));have h2:=up _ (.cells #[.bool false] 4) (up _ (.cells #[.int .i64 0] 3) (up _ (.cells #[.int .i64 0] 3) (nx ((w.alloc (.cells #[.pointer (some ⟨eb,0,none⟩)] 98)).alloc (.cells #[.pointer (some ⟨cb,co,none⟩)] 190)) (.slice none 0 0) 103 (w.heap.size+1+1) (by simp))));have h3:=up _ (.cells #[.bool false] 4) (up _ (.cells #[.int .i64 0] 3) (nx (((w.alloc (.cells #[.pointer (some ⟨eb,0,none⟩)] 98)).alloc (.cells #[.pointer (some ⟨cb,co,none⟩)] 190)).alloc (.cells #[.slice none 0 0] 103)) (.int .i64 0) 3 (w.heap.size+1+1+1) (by simp)));have h4:=up _ (.cells #[.bool false] 4) (nx ((((w.alloc (.cells #[.pointer (some ⟨eb,0,none⟩)] 98)).alloc (.cells #[.pointer (some ⟨cb,co,none⟩)] 190)).alloc (.cells #[.slice none 0 0] 103)).alloc (.cells #[.int .i64 0] 3)) (.int .i64 0) 3 (w.heap.size+1+1+1+1) (by simp));have h5:=nx (((((w.alloc (.cells #[.pointer (some ⟨eb,0,none⟩)] 98)).alloc (.cells #[.pointer (some ⟨cb,co,none⟩)] 190)).alloc (.cells #[.slice none 0 0] 103)).alloc (.cells #[.int .i64 0] 3)).alloc (.cells #[.int .i64 0] 3)) (.bool false) 4 (w.heap.size+1+1+1+1+1) (by simp)
 exact⟨h0.1,h0.2.1,h1.1,h1.2.1,h2.1,h2.2.1,h2.2.2,h3.1,h3.2.1,h3.2.2,h4.1,h4.2.1,h4.2.2,h5.1,h5.2.1,h5.2.2⟩
theorem lW (c:Adz.Cmd) (cb co:Nat) (eb:Nat) (w:World) (hc:SubAt w cb co c) (ra:Option Addr) (rc:Nat) (sp:List Int) (he:aq w eb 108) (l:List Value) (hE:ai w eb l) (rf:l[4]? =some (.slice ra sp.length rc)) (r8:Bool) (MA:l[8]? =some (.bool r8)) (tE:c.print=false) (fq:Sl w ra sp) (uI:sp.length≤rc)
 (hk:c.pat.items.length≤1000) (hf:∀x∈c.pat.items,x.spans.length≤1000) (hn:sp.length≤1000000) (hg:∀x∈c.pat.items,1≤x.group∧x.group≤9∨(x.kind≠2∧x.kind≠3)) (eX:c.repl.length≤1000)
 (gV:Adz.okRun sp c.nth c.all c.repl (Adz.matches_ sp c.pat.items) 0 0 []):
 CallsIn Fence.wide 0 Tryz.prog 135 #[.pointer (some ⟨eb,0,none⟩),.pointer (some ⟨cb,co,none⟩)] w fun e w'=>(∃v,e=.returned v)∧∃a' c' v8,ai w' eb ((l.set 4 (.slice a' (Adz.subst sp c).length c')).set 8 v8)∧(∃b,v8=.bool b)∧Sl w' a' (Adz.subst sp c)∧(Adz.subst sp c).length≤c'∧aq w' eb 108∧ae (fun b=>b=eb) w w'∧w'.shape? eb=w.shape? eb:=by
 have h4:w.cell? ⟨eb,4,none⟩=some (.slice ra sp.length rc):=(hE 4 _ rf).1;obtain⟨iv,i1,i2⟩:=hc.items;refine callsIn_of_wp_marks Tryz.func135 rfl trivial ?_ rfl;simp only[Tryz.ntmps135,List.size_toArray,List.length_cons,List.length_nil,Nat.reduceAdd,Nat.reduceSub,Array.replicate_succ,Array.replicate_zero,List.push_toArray,List.append_toArray,List.nil_append,List.cons_append]
 gi_wp2
 have o0:ae (fun _=>False) w ((((((w.alloc (.cells #[.pointer (some ⟨eb,0,none⟩)] 98)).alloc (.cells #[.pointer (some ⟨cb,co,none⟩)] 190)).alloc (.cells #[.slice none 0 0] 103)).alloc (.cells #[.int .i64 0] 3)).alloc (.cells #[.int .i64 0] 3)).alloc (.cells #[.bool false] 4)):=((((((ae.refl _ w).alloc _).alloc _).alloc _).alloc _).alloc _).alloc _;have tA:Boxes ((((((w.alloc (.cells #[.pointer (some ⟨eb,0,none⟩)] 98)).alloc (.cells #[.pointer (some ⟨cb,co,none⟩)] 190)).alloc (.cells #[.slice none 0 0] 103)).alloc (.cells #[.int .i64 0] 3)).alloc (.cells #[.int .i64 0] 3)).alloc (.cells #[.bool false] 4)) w.heap.size eb cb co none 0 0 0 0 false:=yO w eb cb co;have fQ:((((((w.alloc (.cells #[.pointer (some ⟨eb,0,none⟩)] 98)).alloc (.cells #[.pointer (some ⟨cb,co,none⟩)] 190)).alloc (.cells #[.slice none 0 0] 103)).alloc (.cells #[.int .i64 0] 3)).alloc (.cells #[.int .i64 0] 3)).alloc (.cells #[.bool false] 4)).heap.size=w.heap.size+6:=by simp
 generalize ((((((w.alloc (.cells #[.pointer (some ⟨eb,0,none⟩)] 98)).alloc (.cells #[.pointer (some ⟨cb,co,none⟩)] 190)).alloc (.cells #[.slice none 0 0] 103)).alloc (.cells #[.int .i64 0] 3)).alloc (.cells #[.int .i64 0] 3)).alloc (.cells #[.bool false] 4))=w0 at*
 have od:ae (fun _=>False) w w0.drew:=o0.drew;have q0:=tA.c0;have q1:=tA.c1;have q4:=o0.keeps h4 id;have cm:=qE cb co ra sp.length rc w0.drew;refine wpIn_wide.2 ?_
 go_region_held3 (fun u=>u.cell? ⟨w.heap.size,0,none⟩=some (.pointer (some ⟨eb,0,none⟩))∧u.cell? ⟨w.heap.size+1,0,none⟩=some (.pointer (some ⟨cb,co,none⟩))∧u.cell? ⟨eb,4,none⟩=some (.slice ra sp.length rc)) (first | exact⟨q0,q1,q4⟩ | exact⟨k0,k1,k4⟩) ((go_at_call 164;refine cm.mono ?_;clear cm;rintro e w1 ⟨b1,b2,rfl,g1,g2,g3,g4,o1⟩;have k0:=o1.keeps (p:=⟨w.heap.size,0,none⟩) q0 id;have k1:=o1.keeps (p:=⟨w.heap.size+1,0,none⟩) q1 id;have k4:=o1.keeps (p:=⟨eb,4,none⟩) q4 id))
 have Vn:w1.heap.size=w1.heap.size:=rfl;have FZ:ae (fun _=>False) w w1:=od.trans o1 (fun _ e=>e) (fun _ _ e=>e);have iB:=(tA.keeps (S:=fun _=>False) (((ae.refl _ w0).drew).trans o1 (fun _ e=>e) (fun _ _ e=>e)) (fun _ _ _=>id))
 have Fj:w.heap.size+5<w1.heap.size:=by
  have:=o1.size;have e:w0.drew.heap.size=w0.heap.size:=rfl;omega
 have uA:=FZ.keeps i1 id;have DN:=i2.keeps FZ (fun _ _=>id) (fun _ _=>id);have D3:=fq.keeps FZ (fun _ _ _=>id);clear k0 k1 k4 q0 q1 q4 od o0 tA fQ o1 g3 g4;generalize vQ:Adz.matches_ sp c.pat.items=ms at*
 have jA:∀ {b:Nat} {T:TypeId},aq w b T→T≠258→¬False:=fun _ _ h3=>h3
 gi_wp2
 rename_i Q0 K0 hK0 hHeld0
 clear hHeld0;obtain⟨I,hI⟩:∃I:List (List Int)→World→Prop,Hid (∀pre W,I pre W↔∃k ch f a N c',SI w W w.heap.size w1.heap.size eb cb co pre.length k ch f a N c'∧Adz.substGo sp c.nth c.all c.repl ms 0 0 [] false=Adz.substGo sp c.nth c.all c.repl (ms.drop pre.length) pre.length k ch f∧Adz.okRun sp c.nth c.all c.repl (ms.drop pre.length) pre.length k ch):=⟨fun pre W=>∃k ch f a N c',SI w W w.heap.size w1.heap.size eb cb co pre.length k ch f a N c'∧Adz.substGo sp c.nth c.all c.repl ms 0 0 [] false=Adz.substGo sp c.nth c.all c.repl (ms.drop pre.length) pre.length k ch f∧Adz.okRun sp c.nth c.all c.repl (ms.drop pre.length) pre.length k ch,fun _ _=>Iff.rfl⟩;obtain⟨Ix,Ap⟩:∃Ix:Code→List (List Int)→World→Prop,Hid (∀code pre W,Ix code pre W↔∃k ch f a N c',SI w W w.heap.size w1.heap.size eb cb co pre.length k ch f a N c'∧Adz.substGo sp c.nth c.all c.repl ms 0 0 [] false=(k,ch,f)∧code=.exit 0∧ch.length≤20000000∧k≤sp.length):=⟨fun code pre W=>∃k ch f a N c',SI w W w.heap.size w1.heap.size eb cb co pre.length k ch f a N c'∧Adz.substGo sp c.nth c.all c.repl ms 0 0 [] false=(k,ch,f)∧code=.exit 0∧ch.length≤20000000∧k≤sp.length,fun _ _ _=>Iff.rfl⟩
 refine zU (α:=List Int) (S:=fun ys=>ys=ms) (Sp:=fun pre=>pre <+:ms∧pre≠ []) (Ok:=fun pre=>pre <+:ms) (Kp:=qg w1.heap.size) (gf:=190) (lb:= #[.pointer (some ⟨b1,0,none⟩),.pointer (some ⟨b2,0,none⟩)]) (by first | rfl | simp[Act.eval]) (enters_of Tryz.func190 (by kernel_rfl) rfl) (encs:=fun x=> #[.agg (x.map (.int .i64)).toArray]) (fun _=>rfl) 258 ?_ (fun h k=>h.trans k) (fun W r o h=>qg.put o h)
  I Ix
  ?_ ?_ ?_ ?_ ?_ ?_
 ·-- the iterator
  intro l J Jx W hO hJ Mo hY h0;have:=uU c.pat.items sp cb co iv ra rc hk hf hn hg b1 b2 l J Jx w1.heap.size hJ Mo (by rw[vQ];exact hY) W hO.size (hO.keeps g1 id) (hO.keeps g2 id) (hO.keeps uA id) (DN.keeps hO (fun _ _=>id) (fun _ _=>id)) (D3.space.keeps hO (fun _ _=>id)) h0;rw[vQ] at this;exact this
 ·rintro s W W' hs ho
  obtain⟨k,ch,f,a,N,c',h1,h2,h3⟩:=(hI.out _ _).1 hs;exact(hI.out _ _).2 ⟨k,ch,f,a,N,c',h1.lets rfl Fj ho,h2,h3⟩
 ·rintro code s W W' hs ho
  obtain⟨k,ch,f,a,N,c',h1,h2,h3⟩:=(Ap.out _ _ _).1 hs;exact(Ap.out _ _ _).2 ⟨k,ch,f,a,N,c',h1.lets rfl Fj ho,h2,h3⟩
 ·refine(hI.out _ _).2 ⟨0,[],false,none,0,0,⟨iB,World.ownsRow_nil _ _ _ _,rfl,fun b hb=>by simp[Value.ownBlock] at hb,FZ.mono (fun _ _ e=>e.elim)⟩,?_,?_⟩
  ·simp
  ·simpa using gV
 ·-- a round
  rintro pre x W r Fk Hh hl;obtain⟨k,ch,f,a,N,c',rh,heq,iT⟩:=(hI.out _ _).1 Fk;clear Fk;obtain⟨tl,j7⟩:=Hh
  have KH:ms.drop pre.length=x::ms.drop (pre.length+1):=by
   rw[←j7];simp[List.append_assoc,List.drop_append]
  rw[KH] at heq iT;unfold Adz.okRun at iT;obtain⟨Ht,G5,BK,Kz,FB,vO⟩:=iT;have TZ:w1.heap.size+1<W.heap.size:=(Array.getElem?_eq_some_iff.1 hl).1;have GG:=MatchAt.new W;have kC:(Tryz.prog.info? 219).map (·.size)=some 20:=by kernel_rfl
  have uB:(Tryz.prog.info? 219).map (·.size)=some (x.map (Value.int .i64)).toArray.size:=by rw[List.size_toArray,List.length_map,Ht];exact kC
  have eF:((x.map (Value.int .i64)).toArray.all (·.oneCell'))=true:=all_oneCell_toArray (by intro v hv;simp at hv;obtain⟨a,_,rfl⟩:=hv;rfl);have C3:=GG.there;rw[show (20:Nat)=(x.map (Value.int .i64)).toArray.size by rw[List.size_toArray,List.length_map,Ht]] at C3;have Gb:Hid _:=uB;have JK:Hid _:=C3;clear uB C3 kC;simp only[List.zip_toArray,List.zip_cons_cons,List.zip_nil_right,List.size_toArray,List.foldl_toArray',List.foldl_cons,List.foldl_nil,List.setIfInBounds_toArray,List.set_cons_zero,List.set_cons_succ];refine cT rfl (fun⟨_,_,h⟩=>h) ?_;go_wp2_with (refine wpList_store_mid (by rfl) 219 _ _ (by rfl) W.heap.size 0 (x.map (Value.int .i64)).toArray (by rfl) (by rfl) JK.out Gb.out eF ?_);have ly:=GG.store x Ht
  have oV:ae (fun _=>False) W ((W.alloc (.cells bd 219)).setCells W.heap.size 0 (x.map (.int .i64))):=by
   refine((ae.refl _ W).alloc _).trans (cO W.heap.size _ _ 0) (fun _ e=>e) (fun b hb e=>by omega)
  unfold bd at ly oV;generalize ((W.alloc (.cells _ 219)).setCells W.heap.size 0 (x.map (.int .i64)))=V at*
  refine⟨⟨oV.block _ (by omega) id,oV.block _ (by omega) id⟩,qg.quiet oV,fun r'=> ?_⟩;have oP:=dB V (w1.heap.size+1) (.loop r');have hM:=ly.keeps oP (by omega);have zB:=rh.lets rfl Fj ((oV.trans oP (fun _ e=>e.elim) (fun _ _ e=>Or.inr (Or.inr e)):ae (fun b=>(aq W b 258∧w1.heap.size≤b)∨b=w1.heap.size∨b=w1.heap.size+1) W _));have dr:w1.heap.size+1<(V.putObj (w1.heap.size+1) (.loop r')).heap.size:=by have:=oV.size;simp;omega
  have Vd:W.heap.size<(V.putObj (w1.heap.size+1) (.loop r')).heap.size:=hM.typ.lt;clear rh oV oP ly GG Gb JK eF hl;generalize V.putObj (w1.heap.size+1) (.loop r')=U at*
  generalize Wm:W.heap.size=Bm at*
  have hlen:pre.length+1≤2000003:=by
   have h1:=Adz.matches_len sp c.pat.items;rw[vQ,←j7] at h1;simp only[List.length_append,List.length_cons,List.length_nil] at h1;omega
  have hw:IntKind.i64.wrap ((pre.length:Int)+1)=(pre.length:Int)+1:=by rw[IntKind.wrap_i64];omega
  have c4:=zB.box.c4;have f4:=zB.box.f4;refine wpIn_block ?_;refine wpIn_seq_k fun K1 QU=> ?_;refine cT rfl (fun⟨_,_,h⟩=>h) ?_;go_wp2;clear c4 f4;obtain⟨lG,R2⟩:=zB.upd rfl Fj (af U (w.heap.size+1+1+1+1) 0 (.int .i64 ((pre.length:Int)+1))) (by omega) (by omega) (Or.inl zB.box.t4) (zB.box.set4 ((pre.length:Int)+1));have CP:=hM.keeps (af U (w.heap.size+1+1+1+1) 0 (.int .i64 ((pre.length:Int)+1))) (by omega);have Np:=(af U (w.heap.size+1+1+1+1) 0 (.int .i64 ((pre.length:Int)+1))).block;have vA:(U.setCell ⟨w.heap.size+1+1+1+1,0,none⟩ (.int .i64 ((pre.length:Int)+1))).heap[w1.heap.size]? =U.heap[w1.heap.size]? ∧(U.setCell ⟨w.heap.size+1+1+1+1,0,none⟩ (.int .i64 ((pre.length:Int)+1))).heap[w1.heap.size+1]? =U.heap[w1.heap.size+1]? :=⟨Np _ (by omega) (by omega),Np _ (by omega) (by omega)⟩;clear Np hM zB;generalize U.setCell ⟨w.heap.size+1+1+1+1,0,none⟩ (.int .i64 ((pre.length:Int)+1))=U1 at*
  -- how many have TF, against the number that is asked
  have Oj:=hc.keeps lG.only (fun b hb=>jA hb (by decide)) (fun b hb=>jA hb (by decide)) (fun b hb=>jA hb (by decide)) (fun b hb=>jA hb (by decide));have hS:(fun u:World=>u.cell? ⟨w.heap.size+1+1+1+1,0,none⟩=some (.int .i64 ((pre.length:Int)+1))∧u.cell? ⟨w.heap.size+1,0,none⟩=some (.pointer (some ⟨cb,co,none⟩))∧u.cell? ⟨cb,co+5,none⟩=some (.int .i64 c.nth)) U1.drew:=⟨lG.box.c4,lG.box.c1,Oj.nth⟩;refine wpIn_seq_k fun K2 QV=> ?_;refine wpIn_seq_k fun K3 QW=> ?_;refine dW (by kernel_rfl) rfl (fun⟨_,_,h⟩=>h) ?_;refine wpAny_of_held (S:=fun u:World=>u.cell? ⟨w.heap.size+1+1+1+1,0,none⟩=some (.int .i64 ((pre.length:Int)+1))∧u.cell? ⟨w.heap.size+1,0,none⟩=some (.pointer (some ⟨cb,co,none⟩))∧u.cell? ⟨cb,co+5,none⟩=some (.int .i64 c.nth)) _ _ _ _ ?_;refine wpAnyH_take (i:=0) (v:= ?_) rfl (by kernel_rfl) (by kernel_rfl) (by kernel_rfl) (fun _ _ _ h=>h) (Or.inl ⟨by rfl,?_⟩) hS ?_
  rotate_left
  ·intro u hu
   obtain⟨s1,s2,s3⟩:=hu
   go_simp
   try with_reducible rfl
  simp only[Act.put,List.getElem_toArray,List.getElem_cons_zero,List.setIfInBounds_toArray,List.set_cons_zero,List.set_cons_succ];refine wpAnyH_take (i:=1) (v:= ?_) rfl (by kernel_rfl) (by kernel_rfl) (by kernel_rfl) (fun _ _ _ h=>h) (Or.inl ⟨by rfl,?_⟩) hS ?_
  rotate_left
  ·intro u hu
   obtain⟨s1,s2,s3⟩:=hu
   go_simp
   try with_reducible rfl
  simp only[Act.put,List.getElem_toArray,List.getElem_cons_zero,List.getElem_cons_succ,List.setIfInBounds_toArray,List.set_cons_zero,List.set_cons_succ];refine wpAnyH_take (i:=2) (v:= ?_) rfl (by kernel_rfl) (by kernel_rfl) (by kernel_rfl) (fun _ _ _ h=>h) (Or.inl ⟨by rfl,?_⟩) hS ?_
  rotate_left
  ·intro u hu
   obtain⟨s1,s2,s3⟩:=hu
   go_simp
   try with_reducible rfl
  simp only[Act.put,List.getElem_toArray,List.getElem_cons_zero,List.getElem_cons_succ,List.setIfInBounds_toArray,List.set_cons_zero,List.set_cons_succ];refine wpAnyH_take (i:=3) (v:= ?_) rfl (by kernel_rfl) (by kernel_rfl) (by kernel_rfl) (fun _ _ _ h=>h) (Or.inl ⟨by rfl,?_⟩) hS ?_
  rotate_left
  ·intro u hu
   obtain⟨s1,s2,s3⟩:=hu
   go_simp
   try with_reducible rfl
  simp only[Act.put,List.getElem_toArray,List.getElem_cons_zero,List.getElem_cons_succ,List.setIfInBounds_toArray,List.set_cons_zero,List.set_cons_succ];refine wpAnyH_take (i:=4) (v:= ?_) rfl (by kernel_rfl) (by kernel_rfl) (by kernel_rfl) (fun _ _ _ h=>h) (Or.inl ⟨by rfl,?_⟩) hS ?_
  rotate_left
  ·intro u hu
   obtain⟨s1,s2,s3⟩:=hu
   go_simp
   try with_reducible rfl
  simp only[Act.put,List.getElem_toArray,List.getElem_cons_zero,List.getElem_cons_succ,List.setIfInBounds_toArray,List.set_cons_zero,List.set_cons_succ];refine wpAnyH_take (i:=5) (v:= ?_) rfl (by kernel_rfl) (by kernel_rfl) (by kernel_rfl) (fun _ _ _ h=>h) (Or.inl ⟨by rfl,?_⟩) hS ?_
  rotate_left
  ·intro u hu
   obtain⟨s1,s2,s3⟩:=hu
   go_simp
   try with_reducible rfl
  simp only[Act.put,List.getElem_toArray,List.getElem_cons_zero,List.getElem_cons_succ,List.setIfInBounds_toArray,List.set_cons_zero,List.set_cons_succ];refine wpAnyH_done (by kernel_rfl) ?_ _;refine QW _ _ ?_;clear QW K3 hS;have wV:=lG.quiet ((ae.refl (fun _=>False) U1).drew);have Eb:=R2.trans (qg.quiet (B0:=w1.heap.size) ((ae.refl (fun _=>False) U1).drew));have EN:U1.drew.heap[w1.heap.size]? =U.heap[w1.heap.size]? ∧U1.drew.heap[w1.heap.size+1]? =U.heap[w1.heap.size+1]? :=vA;have Kh:=CP.keeps (S:=fun _=>False) ((ae.refl _ U1).drew) id;have Ky:=Oj.quiet ((ae.refl (fun _=>False) U1).drew);clear lG R2 vA CP Oj;generalize U1.drew=U2 at*
  by_cases BM:(pre.length:Int)+1<c.nth
  ·rw[if_pos BM] at vO
   have qx:=heq;simp only[Adz.substGo] at qx;rw[if_pos BM] at qx;refine wpIn_cond (t:=true) (by first | rfl | simp[Act.eval,BM]) ?_;refine wpIn_exit ?_;refine⟨EN,Eb,(hI.out _ _).2 ⟨k,ch,f,a,N,c',?_,?_,?_⟩⟩
   ·rw[List.length_append];exact wV
   ·rw[List.length_append];exact qx
   ·rw[List.length_append];exact vO
  ·rw[if_neg BM] at vO
   refine wpIn_cond (t:=false) (by first | rfl | simp[Act.eval,BM]) ?_;refine wpIn_skip ?_;refine QV _ _ ?_;clear QV K2;have c5:=wV.box.c5;have f5:=wV.box.f5;refine wpIn_seq_k fun K7 Wo=> ?_;refine cT rfl (fun⟨_,_,h⟩=>h) ?_;go_wp2;clear c5 f5;obtain⟨CZ,R3⟩:=wV.upd rfl Fj (af U2 (w.heap.size+1+1+1+1+1) 0 (.bool true)) (by omega) (by omega) (Or.inr wV.box.t5) (wV.box.set5 true);have ly:=Kh.keeps (af U2 (w.heap.size+1+1+1+1+1) 0 (.bool true)) (by omega);have eF:U.heap.size≤U2.heap.size:=by obtain⟨S,o,_⟩:=Eb;exact o.size
   have Nq:=(af U2 (w.heap.size+1+1+1+1+1) 0 (.bool true)).block;have LW:(U2.setCell ⟨w.heap.size+1+1+1+1+1,0,none⟩ (.bool true)).heap[w1.heap.size]? =U.heap[w1.heap.size]? ∧(U2.setCell ⟨w.heap.size+1+1+1+1+1,0,none⟩ (.bool true)).heap[w1.heap.size+1]? =U.heap[w1.heap.size+1]? :=⟨(Nq _ (by omega) (by omega)).trans EN.1,(Nq _ (by omega) (by omega)).trans EN.2⟩;have Lz:=Eb.trans R3;clear Nq R3 Eb EN Kh wV Ky;generalize U2.setCell ⟨w.heap.size+1+1+1+1+1,0,none⟩ (.bool true)=U3 at*
   -- what is ahead of the match is laid behind what was changed
   obtain⟨mf,Lc⟩:∃mf:Nat,x.getD 0 0=mf:=⟨(x.getD 0 0).toNat,by have:=BK.1;omega⟩;obtain⟨mt,Le⟩:∃mt:Nat,x.getD 1 0=mt:=⟨(x.getD 1 0).toNat,by have:=BK.1;have:=BK.2.1;omega⟩;have DL:=G5;rw[Lc] at DL;have DM:=BK;rw[Lc,Le] at DM;have B2:k≤mf:=by have:=DL.2.1;omega
   have MG:mf≤sp.length:=by have:=DL.2.2;omega
   have WN:mf≤mt:=by have:=DM.2.1;omega
   have Vj:mt≤sp.length:=by have:=DM.2.2;omega
   have WO:mf≤rc:=by omega
   clear DL DM;have mo:=Adz.seg_len sp k mf B2 MG;have Jj:ae (fun _=>False) U3 U3.drew:=(ae.refl _ U3).drew;have jE:=CZ.quiet Jj;have A8:=jE.only.keeps h4 (jA he (by decide))
   have pw:=fq.keeps jE.only (fun b o e=>by
    rcases fq with ⟨e2,_⟩ |⟨rb,ro,e2,ht,_⟩
    ·rw[e2] at e;cases e
    ·rw[e2] at e;injection e with e;injection e with e1 e2;subst e1;exact jA ht (by decide))
   have m0:U3.drew.cell? ⟨Bm,0,none⟩=some (.int .i64 mf):=by
    have:=(ly.keeps Jj id).cells 0 (.int .i64 mf) (by rw[List.getElem?_map,←Lc,List.getD_eq_getElem?_getD,List.getElem?_eq_getElem (by omega)];rfl)
    rwa [Nat.zero_add] at this
   have dm:=pw.cut rc k mf B2 MG uI;have aL:=jE.box.c2;have nU:=jE.box.t2;have hS:(fun u:World=>u.cell? ⟨w.heap.size,0,none⟩=some (.pointer (some ⟨eb,0,none⟩))∧u.cell? ⟨eb,4,none⟩=some (.slice ra sp.length rc)∧u.cell? ⟨w.heap.size+1+1+1,0,none⟩=some (.int .i64 k)∧u.cell? ⟨Bm,0,none⟩=some (.int .i64 mf)) U3.drew:=⟨jE.box.c0,A8,jE.box.c3,m0⟩;refine wpIn_seq_k fun K8 QX=> ?_;refine dW (by kernel_rfl) rfl (fun⟨_,_,h⟩=>h) ?_;refine wpAny_of_held (S:=fun u:World=>u.cell? ⟨w.heap.size,0,none⟩=some (.pointer (some ⟨eb,0,none⟩))∧u.cell? ⟨eb,4,none⟩=some (.slice ra sp.length rc)∧u.cell? ⟨w.heap.size+1+1+1,0,none⟩=some (.int .i64 k)∧u.cell? ⟨Bm,0,none⟩=some (.int .i64 mf)) _ _ _ _ ?_;refine wpAnyH_take (i:=1) (v:= ?_) rfl (by kernel_rfl) (by kernel_rfl) (by kernel_rfl) (fun _ _ _ h=>h) (Or.inl ⟨by rfl,?_⟩) hS ?_
   rotate_left
   ·intro u hu
    obtain⟨s1,s2,s3,s4⟩:=hu
    go_simp
    try with_reducible rfl
   simp only[Act.put,List.getElem_toArray,List.getElem_cons_zero,List.getElem_cons_succ,List.setIfInBounds_toArray,List.set_cons_zero,List.set_cons_succ];refine wpAnyH_take (i:=2) (v:= ?_) rfl (by kernel_rfl) (by kernel_rfl) (by kernel_rfl) (fun _ _ _ h=>h) (Or.inl ⟨by rfl,?_⟩) hS ?_
   rotate_left
   ·intro u hu
    obtain⟨s1,s2,s3,s4⟩:=hu
    go_simp
    try with_reducible rfl
   simp only[Act.put,List.getElem_toArray,List.getElem_cons_zero,List.getElem_cons_succ,List.setIfInBounds_toArray,List.set_cons_zero,List.set_cons_succ];refine wpAnyH_take (i:=3) (v:= ?_) rfl (by kernel_rfl) (by kernel_rfl) (by kernel_rfl) (fun _ _ _ h=>h) (Or.inl ⟨by rfl,?_⟩) hS ?_
   rotate_left
   ·intro u hu
    obtain⟨s1,s2,s3,s4⟩:=hu
    go_simp
    try with_reducible rfl
   simp only[Act.put,List.getElem_toArray,List.getElem_cons_zero,List.getElem_cons_succ,List.setIfInBounds_toArray,List.set_cons_zero,List.set_cons_succ];refine wpAnyH_take (i:=4) (v:= ?_) rfl (by kernel_rfl) (by kernel_rfl) (by kernel_rfl) (fun _ _ _ h=>h) (Or.inl ⟨by rfl,?_⟩) hS ?_
   rotate_left
   ·intro u hu
    obtain⟨s1,s2,s3,s4⟩:=hu
    go_simp
    try with_reducible rfl
   simp only[Act.put,List.getElem_toArray,List.getElem_cons_zero,List.getElem_cons_succ,List.setIfInBounds_toArray,List.set_cons_zero,List.set_cons_succ];refine wpAnyH_take (i:=5) (v:= ?_) rfl (by kernel_rfl) (by kernel_rfl) (by kernel_rfl) (fun _ _ _ h=>h) (Or.inl ⟨by rfl,?_⟩) hS ?_
   rotate_left
   ·intro u hu
    obtain⟨s1,s2,s3,s4⟩:=hu
    go_simp
    try with_reducible rfl
   simp only[Act.put,List.getElem_toArray,List.getElem_cons_zero,List.getElem_cons_succ,List.setIfInBounds_toArray,List.set_cons_zero,List.set_cons_succ];refine wpAnyH_take (i:=6) (v:= ?_) rfl (by kernel_rfl) (by kernel_rfl) (by kernel_rfl) (fun _ _ _ h=>h) (Or.inl ⟨by rfl,?_⟩) hS ?_
   rotate_left
   ·intro u hu
    obtain⟨s1,s2,s3,s4⟩:=hu
    go_simp
    try with_reducible rfl
   simp only[Act.put,List.getElem_toArray,List.getElem_cons_zero,List.getElem_cons_succ,List.setIfInBounds_toArray,List.set_cons_zero,List.set_cons_succ];refine wpAnyH_take (i:=7) (v:= ?_) rfl (by kernel_rfl) (by kernel_rfl) (by kernel_rfl) (fun _ _ _ h=>h) (Or.inl ⟨by rfl,?_⟩) hS ?_
   rotate_left
   ·intro u hu
    obtain⟨s1,s2,s3,s4⟩:=hu
    go_simp
    try with_reducible rfl
   simp only[Act.put,List.getElem_toArray,List.getElem_cons_zero,List.getElem_cons_succ,List.setIfInBounds_toArray,List.set_cons_zero,List.set_cons_succ];refine wpAnyH_take (i:=8) (v:= ?_) rfl (by kernel_rfl) (by kernel_rfl) (by kernel_rfl) (fun _ _ _ h=>h) (Or.inl ⟨by rfl,?_⟩) hS ?_
   rotate_left
   ·intro u hu
    obtain⟨s1,s2,s3,s4⟩:=hu
    go_simp
    try with_reducible rfl
   simp only[Act.put,List.getElem_toArray,List.getElem_cons_zero,List.getElem_cons_succ,List.setIfInBounds_toArray,List.set_cons_zero,List.set_cons_succ];refine wpAnyH_take (i:=9) (v:= ?_) rfl (by kernel_rfl) (by kernel_rfl) (by kernel_rfl) (fun _ _ _ h=>h) (Or.inl ⟨by rfl,?_⟩) hS ?_
   rotate_left
   ·intro u hu
    obtain⟨s1,s2,s3,s4⟩:=hu
    go_simp
    try with_reducible rfl
   simp only[Act.put,List.getElem_toArray,List.getElem_cons_zero,List.getElem_cons_succ,List.setIfInBounds_toArray,List.set_cons_zero,List.set_cons_succ];refine wpAnyH_ready (rs:= [0]) (by kernel_rfl) (by simp) (AllReadyH.cons rfl (fun K' fE=> ?_) AllReadyH.nil)
   go_simp
   refine fE.out _ _ hS (fun hS=> ?_);clear fE K';refine wpAnyH_ready (rs:= [10]) (by kernel_rfl) (by simp) (AllReadyH.cons rfl (fun K' fE=> ?_) AllReadyH.nil);refine cM _ (by rfl) _ _ (by rfl) w.heap.size (.slice a N c') N ch (by rfl) jE.row _ _ (Adz.seg sp k mf) _ (by rfl) mo.symm dm (by have:=jE.len;omega) (by have:=jE.only.size;omega) ?_;intro a2 c2 w2 ay aK bH;generalize (if rc=k then ra else Option.map (fun x=>x.add k) ra)=sa at*
   have gx:∀b,(Value.slice a N c').ownBlock=some b→w1.heap.size+1<b:=jE.own;have iP:=jE.box.keeps aK (fun b h1 h2 e=>by have:=gx b e;omega);have MS:∀ {b:Nat} {T:TypeId},aq U3.drew b T→T≠21→¬(Value.slice a N c').ownBlock=some b:=fun h1 h2 e=>h2 (h1.one (aq.of_row jE.row e));have KJ:=he.keeps jE.only (jA he (by decide));have NJ:=aK.keeps A8 (MS KJ (by decide));have nP:=ly.keeps Jj id;have Q6:=nP.keeps aK (MS nP.typ (by decide));have PE:=aK.keeps m0 (MS nP.typ (by decide));refine fE.out _ _ ⟨iP.c0,NJ,iP.c3,PE⟩ (fun hS=> ?_);clear fE K';simp only[Act.put,List.getElem_toArray,List.getElem_cons_zero,List.getElem_cons_succ,List.setIfInBounds_toArray,List.set_cons_zero,List.set_cons_succ];refine wpAnyH_ready (rs:= [11]) (by kernel_rfl) (by simp) (AllReadyH.cons rfl (fun K' fE=> ?_) AllReadyH.nil);have Nl:=iP.c2;have Nn:=iP.f2
   have zh:∀b,(Value.slice a2 (N+(mf - k)) c2).ownBlock=some b→(Value.slice a N c').ownBlock=some b∨w1.heap.size+1<b:=fun b hb=>by
    rcases bH with e | e
    ·exact Or.inl (e ▸ hb)
    ·rw[e] at hb;injection hb with hb;right
     have e3:U3.drew.heap.size=U3.heap.size:=rfl;have:=(Array.getElem?_eq_some_iff.1 (show U3.heap[w1.heap.size+1]? =some _ from LW.2.trans (Array.getElem?_eq_getElem dr))).1;omega
   obtain⟨mn,R4⟩:=jE.append rfl Fj aK ay (by rw[List.length_append,mo,jE.len]) zh;have mV:=(af w2 (w.heap.size+1+1) 0 (.slice a2 (N+(mf - k)) c2)).keeps NJ (by have e3:=he.lt;simp;omega);have xV:=Q6.keeps (af w2 (w.heap.size+1+1) 0 (.slice a2 (N+(mf - k)) c2)) (by omega);have R8:=(af w2 (w.heap.size+1+1) 0 (.slice a2 (N+(mf - k)) c2)).keeps PE (by simp;omega)
   go_simp
   refine fE.out _ _ ⟨mn.box.c0,mV,mn.box.c3,R8⟩ (fun hS=> ?_);clear fE K';refine wpAnyH_done (by kernel_rfl) ?_ _;refine QX _ _ ?_;clear QX K8 hS;have Ig:=(Lz.trans (qg.quiet (B0:=w1.heap.size) Jj)).trans R4;have MH:U.heap.size≤(w2.setCell ⟨w.heap.size+1+1,0,none⟩ (.slice a2 (N+(mf - k)) c2)).heap.size:=by obtain⟨S,o,_⟩:=Ig;exact o.size
   have sK:ae (fun b=>b≠w1.heap.size∧b≠w1.heap.size+1) U3 (w2.setCell ⟨w.heap.size+1+1,0,none⟩ (.slice a2 (N+(mf - k)) c2)):=by
    refine Jj.trans ((aK.trans (af w2 (w.heap.size+1+1) 0 (.slice a2 (N+(mf - k)) c2)) (fun _ e=>Or.inl e) (fun _ _ e=>Or.inr e):ae (fun b=>(Value.slice a N c').ownBlock=some b∨b=w.heap.size+1+1) _ _)) (fun _ e=>e.elim) (fun b hb e=> ?_)
    rcases e with e | e
    ·have:=gx b e;omega
    ·omega
   have Wr:w1.heap.size+1<U3.heap.size:=(Array.getElem?_eq_some_iff.1 (show U3.heap[w1.heap.size+1]? =some _ from LW.2.trans (Array.getElem?_eq_getElem dr))).1;have MP:(w2.setCell ⟨w.heap.size+1+1,0,none⟩ (.slice a2 (N+(mf - k)) c2)).heap[w1.heap.size]? =U.heap[w1.heap.size]? ∧(w2.setCell ⟨w.heap.size+1+1,0,none⟩ (.slice a2 (N+(mf - k)) c2)).heap[w1.heap.size+1]? =U.heap[w1.heap.size+1]? :=⟨(sK.block _ (by omega) (by omega)).trans LW.1,(sK.block _ (by omega) (by omega)).trans LW.2⟩;clear sK R4 Lz LW CZ jE ly nP Q6 PE m0 NJ mV R8 A8 pw iP Nl Nn ay aK bH zh KJ MS gx aL nU Jj;generalize Wq:N+(mf - k)=N2 at*
   generalize w2.setCell ⟨w.heap.size+1+1,0,none⟩ (.slice a2 N2 c2)=U4 at*
   generalize ky:ch++Adz.seg sp k mf=yP at*
   -- the match's replacement
   have LK:ae (fun _=>False) U4 U4.drew:=(ae.refl _ U4).drew;have jF:=mn.quiet LK;have A8:=jF.only.keeps h4 (jA he (by decide))
   have pw:=fq.keeps jF.only (fun b o e=>by
    rcases fq with ⟨e2,_⟩ |⟨rb,ro,e2,ht,_⟩
    ·rw[e2] at e;cases e
    ·rw[e2] at e;injection e with e;injection e with e1 e2;subst e1;exact jA ht (by decide))
   have Ky:=hc.keeps jF.only (fun b hb=>jA hb (by decide)) (fun b hb=>jA hb (by decide)) (fun b hb=>jA hb (by decide)) (fun b hb=>jA hb (by decide));obtain⟨pa,pc,p1,p2⟩:=Ky.parts;have nP:=xV.keeps LK id;have aL:=jF.box.c2;obtain⟨KL,WD,Br,lB⟩:=vO;rw[Lc,ky] at Br lB;have K5:=jF.len;subst K5
   have D0:∀b o,ra=some ⟨b,o,none⟩→(Value.slice a2 yP.length c2).ownBlock≠some b:=fun b o e e2=>by
    have:=jF.own b e2
    rcases fq with ⟨e3,_⟩ |⟨rb,ro,e3,ht,_⟩
    ·rw[e3] at e;cases e
    ·rw[e3] at e;injection e with e;injection e with e1 e4;subst e1
     have:=ht.lt;omega
   have bF:=qJ c.repl pa pc U4.drew p2 eX w.heap.size (by have:=jF.only.size;omega) a2 c2 yP jF.row ra rc sp pw uI D0 Bm x nP KL BK (by simp only[List.length_append] at Br;omega);have hS:(fun u:World=>u.cell? ⟨w.heap.size+1,0,none⟩=some (.pointer (some ⟨cb,co,none⟩))∧u.cell? ⟨cb,co+2,none⟩=some (.slice pa c.repl.length pc)∧u.cell? ⟨w.heap.size,0,none⟩=some (.pointer (some ⟨eb,0,none⟩))∧u.cell? ⟨eb,4,none⟩=some (.slice ra sp.length rc)) U4.drew:=⟨jF.box.c1,p1,jF.box.c0,A8⟩;refine wpIn_seq_k fun K9 QY=> ?_;refine dW (by kernel_rfl) rfl (fun⟨_,_,h⟩=>h) ?_;refine wpAny_of_held (S:=fun u:World=>u.cell? ⟨w.heap.size+1,0,none⟩=some (.pointer (some ⟨cb,co,none⟩))∧u.cell? ⟨cb,co+2,none⟩=some (.slice pa c.repl.length pc)∧u.cell? ⟨w.heap.size,0,none⟩=some (.pointer (some ⟨eb,0,none⟩))∧u.cell? ⟨eb,4,none⟩=some (.slice ra sp.length rc)) _ _ _ _ ?_;refine wpAnyH_take (i:=1) (v:= ?_) rfl (by kernel_rfl) (by kernel_rfl) (by kernel_rfl) (fun _ _ _ h=>h) (Or.inl ⟨by rfl,?_⟩) hS ?_
   rotate_left
   ·intro u hu
    obtain⟨s1,s2,s3,s4⟩:=hu
    go_simp
    try with_reducible rfl
   simp only[Act.put,List.getElem_toArray,List.getElem_cons_zero,List.getElem_cons_succ,List.setIfInBounds_toArray,List.set_cons_zero,List.set_cons_succ];refine wpAnyH_take (i:=2) (v:= ?_) rfl (by kernel_rfl) (by kernel_rfl) (by kernel_rfl) (fun _ _ _ h=>h) (Or.inl ⟨by rfl,?_⟩) hS ?_
   rotate_left
   ·intro u hu
    obtain⟨s1,s2,s3,s4⟩:=hu
    go_simp
    try with_reducible rfl
   simp only[Act.put,List.getElem_toArray,List.getElem_cons_zero,List.getElem_cons_succ,List.setIfInBounds_toArray,List.set_cons_zero,List.set_cons_succ];refine wpAnyH_take (i:=3) (v:= ?_) rfl (by kernel_rfl) (by kernel_rfl) (by kernel_rfl) (fun _ _ _ h=>h) (Or.inl ⟨by rfl,?_⟩) hS ?_
   rotate_left
   ·intro u hu
    obtain⟨s1,s2,s3,s4⟩:=hu
    go_simp
    try with_reducible rfl
   simp only[Act.put,List.getElem_toArray,List.getElem_cons_zero,List.getElem_cons_succ,List.setIfInBounds_toArray,List.set_cons_zero,List.set_cons_succ];refine wpAnyH_take (i:=4) (v:= ?_) rfl (by kernel_rfl) (by kernel_rfl) (by kernel_rfl) (fun _ _ _ h=>h) (Or.inl ⟨by rfl,?_⟩) hS ?_
   rotate_left
   ·intro u hu
    obtain⟨s1,s2,s3,s4⟩:=hu
    go_simp
    try with_reducible rfl
   simp only[Act.put,List.getElem_toArray,List.getElem_cons_zero,List.getElem_cons_succ,List.setIfInBounds_toArray,List.set_cons_zero,List.set_cons_succ];refine wpAnyH_take (i:=5) (v:= ?_) rfl (by kernel_rfl) (by kernel_rfl) (by kernel_rfl) (fun _ _ _ h=>h) (Or.inl ⟨by rfl,?_⟩) hS ?_
   rotate_left
   ·intro u hu
    obtain⟨s1,s2,s3,s4⟩:=hu
    go_simp
    try with_reducible rfl
   simp only[Act.put,List.getElem_toArray,List.getElem_cons_zero,List.getElem_cons_succ,List.setIfInBounds_toArray,List.set_cons_zero,List.set_cons_succ];refine wpAnyH_take (i:=6) (v:= ?_) rfl (by kernel_rfl) (by kernel_rfl) (by kernel_rfl) (fun _ _ _ h=>h) (Or.inl ⟨by rfl,?_⟩) hS ?_
   rotate_left
   ·intro u hu
    obtain⟨s1,s2,s3,s4⟩:=hu
    go_simp
    try with_reducible rfl
   simp only[Act.put,List.getElem_toArray,List.getElem_cons_zero,List.getElem_cons_succ,List.setIfInBounds_toArray,List.set_cons_zero,List.set_cons_succ];refine wpAnyH_take (i:=7) (v:= ?_) rfl (by kernel_rfl) (by kernel_rfl) (by kernel_rfl) (fun _ _ _ h=>h) (Or.inl ⟨by rfl,?_⟩) hS ?_
   rotate_left
   ·intro u hu
    obtain⟨s1,s2,s3,s4⟩:=hu
    go_simp
    try with_reducible rfl
   simp only[Act.put,List.getElem_toArray,List.getElem_cons_zero,List.getElem_cons_succ,List.setIfInBounds_toArray,List.set_cons_zero,List.set_cons_succ];refine wpAnyH_take (i:=8) (v:= ?_) rfl (by kernel_rfl) (by kernel_rfl) (by kernel_rfl) (fun _ _ _ h=>h) (Or.inl ⟨by rfl,?_⟩) hS ?_
   rotate_left
   ·intro u hu
    obtain⟨s1,s2,s3,s4⟩:=hu
    go_simp
    try with_reducible rfl
   simp only[Act.put,List.getElem_toArray,List.getElem_cons_zero,List.getElem_cons_succ,List.setIfInBounds_toArray,List.set_cons_zero,List.set_cons_succ];refine wpAnyH_ready (rs:= [0]) (by kernel_rfl) (by simp) (AllReadyH.cons rfl (fun K' fE=> ?_) AllReadyH.nil)
   go_simp
   refine fE.out _ _ hS (fun hS=> ?_);clear fE K';refine wpAnyH_ready (rs:= [9]) (by kernel_rfl) (by simp) (AllReadyH.cons rfl (fun K' fE=> ?_) AllReadyH.nil)
   go_simp
   refine bF.mono ?_;clear bF;rintro e w3 ⟨a3,c3,N3,Q9,rfl,ix,uF,zh⟩;have gx:∀b,(Value.slice a2 yP.length c2).ownBlock=some b→w1.heap.size+1<b:=jF.own;have MT:∀ {b:Nat} {T:TypeId},aq U4.drew b T→T≠21→¬(Value.slice a2 yP.length c2).ownBlock=some b:=fun h1 h2 e=>h2 (h1.one (aq.of_row jF.row e));have gT:=jF.box.keeps uF (fun b h1 h2 e=>by have:=gx b e;omega);have KJ:=he.keeps jF.only (jA he (by decide));have NK:=uF.keeps A8 (MT KJ (by decide));have LN:=uF.keeps p1 (MT Ky.typ (by decide));have ly:=nP.keeps uF (MT nP.typ (by decide));refine fE.out _ _ ⟨gT.c1,LN,gT.c0,NK⟩ (fun hS=> ?_);clear fE K';refine wpAnyH_ready (rs:= [10]) (by kernel_rfl) (by simp) (AllReadyH.cons rfl (fun K' fE=> ?_) AllReadyH.nil);have SK:Hid _:=Q9;clear Q9;have Nl:=gT.c2;have Nn:=gT.f2;have Ud:w1.heap.size+1<U4.drew.heap.size:=(Array.getElem?_eq_some_iff.1 (show U4.heap[w1.heap.size+1]? =some _ from MP.2.trans (Array.getElem?_eq_getElem dr))).1
   obtain⟨BT,R5⟩:=jF.append rfl Fj uF ix (by rw[List.length_append];exact SK.out) (fun b hb=>by
    rcases zh b hb with e | e
    ·exact Or.inl e
    ·right;omega)
   have LL:=af w3 (w.heap.size+1+1) 0 (.slice a3 N3 c3);have nO:=LL.keeps NK (by have e3:=he.lt;simp;omega);have Sk:=LL.keeps LN (by have e3:=hc.typ.lt;simp;omega);have Q7:=ly.keeps LL (by omega)
   go_simp
   refine fE.out _ _ ⟨BT.box.c1,Sk,BT.box.c0,nO⟩ (fun hS=> ?_);clear fE K';refine wpAnyH_done (by kernel_rfl) ?_ _;refine QY _ _ ?_;clear QY K9 hS;have Ih:=(Ig.trans (qg.quiet (B0:=w1.heap.size) LK)).trans R5
   have sK:ae (fun b=>b≠w1.heap.size∧b≠w1.heap.size+1) U4 (w3.setCell ⟨w.heap.size+1+1,0,none⟩ (.slice a3 N3 c3)):=by
    refine LK.trans ((uF.trans LL (fun _ e=>Or.inl e) (fun _ _ e=>Or.inr e):ae (fun b=>(Value.slice a2 yP.length c2).ownBlock=some b∨b=w.heap.size+1+1) _ _)) (fun _ e=>e.elim) (fun b hb e=> ?_)
    rcases e with e | e
    ·have:=gx b e;omega
    ·omega
   have e4:U4.drew.heap.size=U4.heap.size:=rfl;have PV:(w3.setCell ⟨w.heap.size+1+1,0,none⟩ (.slice a3 N3 c3)).heap[w1.heap.size]? =U.heap[w1.heap.size]? ∧(w3.setCell ⟨w.heap.size+1+1,0,none⟩ (.slice a3 N3 c3)).heap[w1.heap.size+1]? =U.heap[w1.heap.size+1]? :=⟨(sK.block _ (by omega) (by omega)).trans MP.1,(sK.block _ (by omega) (by omega)).trans MP.2⟩;have RQ:U.heap.size≤(w3.setCell ⟨w.heap.size+1+1,0,none⟩ (.slice a3 N3 c3)).heap.size:=by obtain⟨S,o,_⟩:=Ih;exact o.size
   clear sK R5 Ig MP mn jF xV nP ly NK nO A8 pw gT Nl Nn ix uF zh KJ MT gx aL LK p1 p2 LN Sk LL Ky D0 e4 Ud MH;generalize w3.setCell ⟨w.heap.size+1+1,0,none⟩ (.slice a3 N3 c3)=U5 at*
   -- up to where all is told
   have m1:U5.cell? ⟨Bm,1,none⟩=some (.int .i64 mt):=by
    have:=Q7.cells 1 (.int .i64 mt) (by rw[List.getElem?_map,←Le,List.getD_eq_getElem?_getD,List.getElem?_eq_getElem (by omega)];rfl)
    rwa [Nat.zero_add] at this
   have TC:=BT.box.c3;have Mf:=BT.box.f3;refine wpIn_seq_k fun V5 TY=> ?_;refine cT rfl (fun⟨_,_,h⟩=>h) ?_;go_wp2;clear TC Mf m1;obtain⟨C0,LA⟩:=BT.upd (k':=mt) rfl Fj (af U5 (w.heap.size+1+1+1) 0 (.int .i64 mt)) (by omega) (by omega) (Or.inl BT.box.t3) (BT.box.set3 mt);have PD:=Ih.trans LA;have Nr:=(af U5 (w.heap.size+1+1+1) 0 (.int .i64 mt)).block;have Sr:(U5.setCell ⟨w.heap.size+1+1+1,0,none⟩ (.int .i64 mt)).heap[w1.heap.size]? =U.heap[w1.heap.size]? ∧(U5.setCell ⟨w.heap.size+1+1+1,0,none⟩ (.int .i64 mt)).heap[w1.heap.size+1]? =U.heap[w1.heap.size+1]? :=⟨(Nr _ (by omega) (by omega)).trans PV.1,(Nr _ (by omega) (by omega)).trans PV.2⟩;clear Nr LA Ih PV BT Q7;generalize U5.setCell ⟨w.heap.size+1+1+1,0,none⟩ (.int .i64 mt)=U6 at*
   have p8:=hc.keeps C0.only (fun b hb=>jA hb (by decide)) (fun b hb=>jA hb (by decide)) (fun b hb=>jA hb (by decide)) (fun b hb=>jA hb (by decide));have a6:=p8.all;have b6:=C0.box.c1;have qx:=heq;simp only[Adz.substGo] at qx;rw[if_neg (by omega),Lc,Le,ky,Int.toNat_natCast] at qx;rw[Le,Int.toNat_natCast] at lB
   rcases qq:c.all with _ | _
   ·rw[qq] at a6
    have e9:Adz.substGo sp c.nth c.all c.repl ms 0 0 [] false=(mt,yP++Adz.replAll sp x c.repl,true):=by
     rw[qx,qq];rfl
    have H9:Hid _:=e9;have AD:Hid _:=qq;clear e9 qx heq qq;refine wpIn_seq_k fun Th NT=> ?_;refine cT rfl (fun⟨_,_,h⟩=>h) ?_;go_wp2;refine wpIn_cond (t:=true) (by first | rfl | simp[Act.eval]) ?_;refine wpIn_exit ?_;refine⟨Sr,(Ap.out _ _ _).2 ⟨mt,yP++Adz.replAll sp x c.repl,true,a3,N3,c3,?_,H9.out,rfl,Br,Vj⟩⟩;rw[List.length_append];exact C0
   ·rw[qq] at a6
    have e9:Adz.substGo sp c.nth c.all c.repl ms 0 0 [] false=Adz.substGo sp c.nth c.all c.repl (ms.drop (pre.length+1)) ((pre.length:Int)+1) mt (yP++Adz.replAll sp x c.repl) true:=by
     rw[qx,if_pos qq]
    have h9:=lB qq;have H9:Hid _:=e9;have AD:Hid _:=qq;have SP:Hid _:=h9;clear e9 qx heq qq h9 lB;refine wpIn_seq_k fun Th NT=> ?_;refine cT rfl (fun⟨_,_,h⟩=>h) ?_;go_wp2;refine wpIn_cond (t:=false) (by first | rfl | simp[Act.eval]) ?_;refine wpIn_skip ?_;refine⟨Sr,PD,(hI.out _ _).2 ⟨mt,yP++Adz.replAll sp x c.repl,true,a3,N3,c3,?_,?_,?_⟩⟩
    ·rw[List.length_append];exact C0
    ·rw[List.length_append];exact H9.out
    ·rw[List.length_append];exact SP.out
 ·intro xs W Vl Fk hD
  subst Vl;obtain⟨k,ch,f,a,N,c',rh,heq,iT⟩:=(hI.out _ _).1 Fk;rw[List.drop_length] at heq iT;simp only[Adz.substGo] at heq;obtain⟨FB,Kz⟩:=iT;refine hK0 _ _ ?_;clear hK0 K0 hI Ap I Ix Fk;have c5:=rh.box.c5;have DI:=he.keeps rh.only (jA he (by decide));have Kc:=hE.keeps rh.only (jA he (by decide));have zq:eb<w.heap.size:=he.lt
  rcases f with _ | _
  ·have lH:Adz.subst sp c=sp:=by unfold Adz.subst;rw[vQ,heq];rfl
   gi_wp2
   refine⟨by simp,.inl ⟨_,_,rfl,run_takeDeferred hD,?_⟩⟩;have oP:=dB W w1.heap.size (.deferred none);refine⟨_,results_none rfl _ _ _,⟨_,rfl⟩,ra,rc,.bool r8,?_,⟨_,rfl⟩,?_,?_,DI.keeps oP (by omega),?_,(bX oP DI.lt (by omega)).trans (bX rh.only he.lt (jA he (by decide)))⟩
   ·rw[lH,kT rf,kT MA];exact Kc.keeps oP (by omega)
   ·rw[lH]
    refine(fq.keeps rh.only (fun b o e=> ?_)).keeps oP (fun b o e=> ?_)
    ·rcases fq with ⟨e2,_⟩ |⟨rb,ro,e2,ht,_⟩
     ·rw[e2] at e;cases e
     ·rw[e2] at e;injection e with e;injection e with e1 e2;subst e1;exact jA ht (by decide)
    ·rcases fq with ⟨e2,_⟩ |⟨rb,ro,e2,ht,_⟩
     ·rw[e2] at e;cases e
     ·rw[e2] at e;injection e with e;injection e with e1 e2;subst e1;have:=ht.lt;omega
   ·rw[lH];exact uI
   ·exact rh.only.trans oP (fun _ e=>e.elim) (fun b hb e=>by omega)
  ·have lH:Adz.subst sp c=ch++Adz.seg sp k sp.length:=by
    unfold Adz.subst;rw[vQ,heq];simp only[Adz.seg,Int.toNat_natCast,if_true];rw[List.take_of_length_le (by simp)]
   have Kl:=lH;clear lH;have Gf:Hid _:=Kl;clear Kl heq
   gi_wp2
   have mo:=Adz.seg_len sp k sp.length FB (Nat.le_refl _);have od:ae (fun _=>False) W W.drew:=(ae.refl _ W).drew;have kG:=rh.quiet od;have A8:=kG.only.keeps h4 (jA he (by decide))
   have pw:=fq.keeps kG.only (fun b o e=>by
    rcases fq with ⟨e2,_⟩ |⟨rb,ro,e2,ht,_⟩
    ·rw[e2] at e;cases e
    ·rw[e2] at e;injection e with e;injection e with e1 e2;subst e1;exact jA ht (by decide))
   have dm:=pw.cut rc k sp.length FB (Nat.le_refl _) uI;have UH:k≤sp.length:=FB;have hS:(fun u:World=>u.cell? ⟨w.heap.size,0,none⟩=some (.pointer (some ⟨eb,0,none⟩))∧u.cell? ⟨w.heap.size+1+1,0,none⟩=some (.slice a N c')∧u.cell? ⟨w.heap.size+1+1+1,0,none⟩=some (.int .i64 k)) W.drew:=⟨kG.box.c0,kG.box.c2,kG.box.c3⟩;refine wpIn_wide.2 ?_;refine wp_region_noPanic ?_;refine wp_region_held (S:=fun u:World=>u.cell? ⟨w.heap.size,0,none⟩=some (.pointer (some ⟨eb,0,none⟩))∧u.cell? ⟨w.heap.size+1+1,0,none⟩=some (.slice a N c')∧u.cell? ⟨w.heap.size+1+1+1,0,none⟩=some (.int .i64 k)) (by kernel_rfl) ?_
   change wpAnyH _ _ _ _ _ _ _ _ W.drew
   refine wpAnyH_take (i:=0) (v:= ?_) rfl (by kernel_rfl) (by kernel_rfl) (by kernel_rfl) (fun _ _ _ h=>h) (Or.inl ⟨by rfl,?_⟩) hS ?_
   rotate_left
   ·intro u hu
    obtain⟨s1,s2,s3⟩:=hu
    go_simp
    try with_reducible rfl
   simp only[Act.put,List.getElem_toArray,List.getElem_cons_zero,List.setIfInBounds_toArray,List.set_cons_zero,List.set_cons_succ];refine wpAnyH_take (i:=1) (v:= ?_) rfl (by kernel_rfl) (by kernel_rfl) (by kernel_rfl) (fun _ _ _ h=>h) (Or.inl ⟨by rfl,?_⟩) hS ?_
   rotate_left
   ·intro u hu
    obtain⟨s1,s2,s3⟩:=hu
    go_simp
    try with_reducible rfl
   simp only[Act.put,List.getElem_toArray,List.getElem_cons_zero,List.getElem_cons_succ,List.setIfInBounds_toArray,List.set_cons_zero,List.set_cons_succ];refine wpAnyH_take (i:=2) (v:= ?_) rfl (by kernel_rfl) (by kernel_rfl) (by kernel_rfl) (fun _ _ _ h=>h) (Or.inl ⟨by rfl,?_⟩) hS ?_
   rotate_left
   ·intro u hu
    obtain⟨s1,s2,s3⟩:=hu
    go_simp
    try with_reducible rfl
   simp only[Act.put,List.getElem_toArray,List.getElem_cons_zero,List.getElem_cons_succ,List.setIfInBounds_toArray,List.set_cons_zero,List.set_cons_succ];refine wpAnyH_take (i:=3) (v:= ?_) rfl (by kernel_rfl) (by kernel_rfl) (by kernel_rfl) (fun _ _ _ h=>h) (Or.inl ⟨by rfl,?_⟩) hS ?_
   rotate_left
   ·intro u hu
    obtain⟨s1,s2,s3⟩:=hu
    go_simp
    try with_reducible rfl
   simp only[Act.put,List.getElem_toArray,List.getElem_cons_zero,List.getElem_cons_succ,List.setIfInBounds_toArray,List.set_cons_zero,List.set_cons_succ];refine wpAnyH_take (i:=4) (v:= ?_) rfl (by kernel_rfl) (by kernel_rfl) (by kernel_rfl) (fun _ _ _ h=>h) (Or.inl ⟨by rfl,?_⟩) hS ?_
   rotate_left
   ·intro u hu
    obtain⟨s1,s2,s3⟩:=hu
    go_simp
    try with_reducible rfl
   simp only[Act.put,List.getElem_toArray,List.getElem_cons_zero,List.getElem_cons_succ,List.setIfInBounds_toArray,List.set_cons_zero,List.set_cons_succ];refine wpAnyH_take (i:=6) (v:= ?_) rfl (by kernel_rfl) (by kernel_rfl) (by kernel_rfl) (fun _ _ _ h=>h) (Or.inl ⟨by rfl,?_⟩) hS ?_
   rotate_left
   ·intro u hu
    obtain⟨s1,s2,s3⟩:=hu
    go_simp
    try with_reducible rfl
   simp only[Act.put,List.getElem_toArray,List.getElem_cons_zero,List.getElem_cons_succ,List.setIfInBounds_toArray,List.set_cons_zero,List.set_cons_succ];refine wpAnyH_ready (rs:= [5]) (by kernel_rfl) (by simp) (AllReadyH.cons rfl (fun K' fE=> ?_) AllReadyH.nil)
   go_simp
   refine fE.out _ _ hS (fun hS=> ?_);clear fE K';refine wpAnyH_take (i:=7) (v:= ?_) rfl (by kernel_rfl) (by kernel_rfl) (by kernel_rfl) (fun _ _ _ h=>h) (Or.inl ⟨by rfl,?_⟩) hS ?_
   rotate_left
   ·intro u hu
    obtain⟨s1,s2,s3⟩:=hu
    go_simp
    try with_reducible rfl
   simp only[Act.put,List.getElem_toArray,List.getElem_cons_zero,List.getElem_cons_succ,List.setIfInBounds_toArray,List.set_cons_zero,List.set_cons_succ];refine wpAnyH_ready (rs:= [8]) (by kernel_rfl) (by simp) (AllReadyH.cons rfl (fun K' fE=> ?_) AllReadyH.nil);refine cM _ (by rfl) _ _ (by rfl) w.heap.size (.slice a N c') N ch (by rfl) kG.row _ _ (Adz.seg sp k sp.length) _ (by rfl) mo.symm dm (by have:=kG.len;omega) (by have:=kG.only.size;omega) ?_;intro a2 c2 w2 ay aK bH;generalize (if rc=k then ra else Option.map (fun x=>x.add k) ra)=sa at*
   have gx:∀b,(Value.slice a N c').ownBlock=some b→w1.heap.size+1<b:=kG.own;have iP:=kG.box.keeps aK (fun b h1 h2 e=>by have:=gx b e;omega);refine fE.out _ _ ⟨iP.c0,iP.c2,iP.c3⟩ (fun hS=> ?_);clear fE K';simp only[Act.put,List.getElem_toArray,List.getElem_cons_zero,List.getElem_cons_succ,List.setIfInBounds_toArray,List.set_cons_zero,List.set_cons_succ];refine wpAnyH_take (i:=9) (v:= ?_) rfl (by kernel_rfl) (by kernel_rfl) (by kernel_rfl) (fun _ _ _ h=>h) (Or.inl ⟨by rfl,?_⟩) hS ?_
   rotate_left
   ·intro u hu
    obtain⟨s1,s2,s3⟩:=hu
    go_simp
    try with_reducible rfl
   simp only[Act.put,List.getElem_toArray,List.getElem_cons_zero,List.getElem_cons_succ,List.setIfInBounds_toArray,List.set_cons_zero,List.set_cons_succ];refine wpAnyH_take (i:=10) (v:= ?_) rfl (by kernel_rfl) (by kernel_rfl) (by kernel_rfl) (fun _ _ _ h=>h) (Or.inl ⟨by rfl,?_⟩) hS ?_
   rotate_left
   ·intro u hu
    obtain⟨s1,s2,s3⟩:=hu
    go_simp
    try with_reducible rfl
   simp only[Act.put,List.getElem_toArray,List.getElem_cons_zero,List.getElem_cons_succ,List.setIfInBounds_toArray,List.set_cons_zero,List.set_cons_succ];have nb:∀b,(Value.slice a N c').ownBlock=some b→¬b=eb:=fun b e=>by have:=gx b e;omega
   have Dw:=Kc.keeps od id;have qV:=Dw.keeps aK (fun e=>nb eb e rfl);have e4:=qV 4 _ rf;have g4:=e4.1;have f4:=e4.2;refine wpAnyH_ready (rs:= [11]) (by kernel_rfl) (by simp) (AllReadyH.cons rfl (fun K' fE=> ?_) AllReadyH.nil);have Ev:=af w2 eb 4 (.slice a2 (N+(sp.length - k)) c2);have gT:=iP.keeps Ev (fun b h1 h2 e=>by omega)
   go_simp
   refine fE.out _ _ ⟨gT.c0,gT.c2,gT.c3⟩ (fun hS=> ?_);clear fE K' e4 g4 f4;refine wpAnyH_done (by kernel_rfl) ?_ _;refine NoPanic.normal ?_
   have Il:∀b,(Value.slice a2 (N+(sp.length - k)) c2).ownBlock=some b→b≠eb∧b≠w1.heap.size:=fun b hb=>by
    have Kb:=(Array.getElem?_eq_some_iff.1 hD).1;have ez:W.drew.heap.size=W.heap.size:=rfl
    rcases bH with e | e
    ·have:=gx b (e ▸ hb);omega
    ·rw[e] at hb;injection hb with hb;omega
   have wX:=Sl.of_row ay;have qp:=qV.set 4 (.slice a2 (N+(sp.length - k)) c2);have A9:(l.set 4 (.slice a2 (N+(sp.length - k)) c2))[8]? =some (.bool r8):=by rw[List.getElem?_set_ne (by omega)];exact MA
   have Ba:=qp.set 8 (.bool true);have g8:=(qp 8 _ A9).1;have f8:=(qp 8 _ A9).2;have uL:=wX.1.keeps Ev (fun b o e=>by subst e;exact(Il b rfl).1);have Ew:=af (w2.setCell ⟨eb,4,none⟩ (.slice a2 (N+(sp.length - k)) c2)) eb 8 (.bool true);have wY:=uL.keeps Ew (fun b o e=>by subst e;exact(Il b rfl).1);have KI:aq ((w2.setCell ⟨eb,4,none⟩ (.slice a2 (N+(sp.length - k)) c2)).setCell ⟨eb,8,none⟩ (.bool true)) eb 108:=(((DI.keeps od id).keeps aK (fun e=>nb eb e rfl)).setCell _ _).setCell _ _;have Bq:=gT.keeps Ew (fun b h1 h2 e=>by omega)
   have Ck:ae (fun b=>b=eb∨False) w ((w2.setCell ⟨eb,4,none⟩ (.slice a2 (N+(sp.length - k)) c2)).setCell ⟨eb,8,none⟩ (.bool true)):=by
    have h1:ae (fun b=>b=eb∨False) w w2:=kG.only.trans aK (fun _ e=>Or.inr e) (fun b hb e=>by have:=gx b e;omega);exact ae.setCell (p:=⟨eb,8,none⟩) (ae.setCell (p:=⟨eb,4,none⟩) h1 (fun _=>Or.inl rfl) _) (fun _=>Or.inl rfl) _
   have NO:((w2.setCell ⟨eb,4,none⟩ (.slice a2 (N+(sp.length - k)) c2)).setCell ⟨eb,8,none⟩ (.bool true)).heap[w1.heap.size]? =some (.deferred (some [])):=by
    have Kb:=(Array.getElem?_eq_some_iff.1 hD).1;have h1:w2.heap[w1.heap.size]? =some (.deferred (some [])):=(aK.block _ Kb (fun e=>by have:=gx _ e;omega)).trans hD;have h2:=(Ev.block w1.heap.size (Array.getElem?_eq_some_iff.1 h1).1 (by omega)).trans h1;exact(Ew.block w1.heap.size (Array.getElem?_eq_some_iff.1 h2).1 (by omega)).trans h2
   have eu:((w2.setCell ⟨eb,4,none⟩ (.slice a2 (N+(sp.length - k)) c2)).setCell ⟨eb,8,none⟩ (.bool true)).cell? ⟨cb,co+4,none⟩=some (.bool c.print):=Ck.keeps hc.print (fun e=>by
    rcases e with e | e
    ·exact(he.ne hc.typ (by decide)) e.symm
    ·exact jA hc.typ (by decide) e)
   rw[tE] at eu;have Ki:Hid ((Adz.subst sp c).length=N+(sp.length - k)):=by show _=_;rw[Gf.out,List.length_append,mo,kG.len]
   have ct:=wX.2;have Hm:Hid (((w2.setCell ⟨eb,4,none⟩ (.slice a2 (N+(sp.length - k)) c2)).setCell ⟨eb,8,none⟩ (.bool true)).shape? eb=w.shape? eb):=eh.trans (eh.trans ((bX aK (DI.keeps od id).lt (fun e=>nb eb e rfl)).trans (bX kG.only he.lt (jA he (by decide)))));have q0:=gT.c0;have q1:=Bq.c1;clear qV qp Dw iP gT Bq kG rh ay aK bH wX uL gx nb od Ev Ew hS c5 dm pw A8
   gi_wp2
   refine⟨by simp,.inl ⟨_,_,rfl,run_takeDeferred NO,?_⟩⟩;have oP:=dB ((w2.setCell ⟨eb,4,none⟩ (.slice a2 (N+(sp.length - k)) c2)).setCell ⟨eb,8,none⟩ (.bool true)) w1.heap.size (.deferred none);refine⟨_,results_none rfl _ _ _,⟨_,rfl⟩,a2,c2,.bool true,?_,(by first | exact⟨_,rfl⟩ | exact Or.inr rfl),?_,?_,KI.keeps oP (by omega),?_,(bX oP KI.lt (by omega)).trans Hm.out⟩
   ·rw[Ki.out];exact Ba.keeps oP (by omega)
   ·rw[Gf.out];exact wY.keeps oP (fun b o e=>by subst e;exact(Il b rfl).2)
   ·rw[Ki.out];exact ct
   ·exact Ck.trans oP (fun _ e=>e.elim id False.elim) (fun b hb e=>by omega)
 ·intro code pre W iD Fk hD
  obtain⟨k,ch,f,a,N,c',rh,heq,rfl,Kz,FB⟩:=(Ap.out _ _ _).1 Fk;refine wpIn_exit ?_;refine hK0 _ _ ?_;clear hK0 K0 hI Ap I Ix Fk;have c5:=rh.box.c5;have DI:=he.keeps rh.only (jA he (by decide));have Kc:=hE.keeps rh.only (jA he (by decide));have zq:eb<w.heap.size:=he.lt
  rcases f with _ | _
  ·have lH:Adz.subst sp c=sp:=by unfold Adz.subst;rw[vQ,heq];rfl
   gi_wp2
   refine⟨by simp,.inl ⟨_,_,rfl,run_takeDeferred hD,?_⟩⟩;have oP:=dB W w1.heap.size (.deferred none);refine⟨_,results_none rfl _ _ _,⟨_,rfl⟩,ra,rc,.bool r8,?_,⟨_,rfl⟩,?_,?_,DI.keeps oP (by omega),?_,(bX oP DI.lt (by omega)).trans (bX rh.only he.lt (jA he (by decide)))⟩
   ·rw[lH,kT rf,kT MA];exact Kc.keeps oP (by omega)
   ·rw[lH]
    refine(fq.keeps rh.only (fun b o e=> ?_)).keeps oP (fun b o e=> ?_)
    ·rcases fq with ⟨e2,_⟩ |⟨rb,ro,e2,ht,_⟩
     ·rw[e2] at e;cases e
     ·rw[e2] at e;injection e with e;injection e with e1 e2;subst e1;exact jA ht (by decide)
    ·rcases fq with ⟨e2,_⟩ |⟨rb,ro,e2,ht,_⟩
     ·rw[e2] at e;cases e
     ·rw[e2] at e;injection e with e;injection e with e1 e2;subst e1;have:=ht.lt;omega
   ·rw[lH];exact uI
   ·exact rh.only.trans oP (fun _ e=>e.elim) (fun b hb e=>by omega)
  ·have lH:Adz.subst sp c=ch++Adz.seg sp k sp.length:=by
    unfold Adz.subst;rw[vQ,heq];simp only[Adz.seg,Int.toNat_natCast,if_true];rw[List.take_of_length_le (by simp)]
   have Kl:=lH;clear lH;have Gf:Hid _:=Kl;clear Kl heq
   gi_wp2
   have mo:=Adz.seg_len sp k sp.length FB (Nat.le_refl _);have od:ae (fun _=>False) W W.drew:=(ae.refl _ W).drew;have kG:=rh.quiet od;have A8:=kG.only.keeps h4 (jA he (by decide))
   have pw:=fq.keeps kG.only (fun b o e=>by
    rcases fq with ⟨e2,_⟩ |⟨rb,ro,e2,ht,_⟩
    ·rw[e2] at e;cases e
    ·rw[e2] at e;injection e with e;injection e with e1 e2;subst e1;exact jA ht (by decide))
   have dm:=pw.cut rc k sp.length FB (Nat.le_refl _) uI;have UH:k≤sp.length:=FB;have hS:(fun u:World=>u.cell? ⟨w.heap.size,0,none⟩=some (.pointer (some ⟨eb,0,none⟩))∧u.cell? ⟨w.heap.size+1+1,0,none⟩=some (.slice a N c')∧u.cell? ⟨w.heap.size+1+1+1,0,none⟩=some (.int .i64 k)) W.drew:=⟨kG.box.c0,kG.box.c2,kG.box.c3⟩;refine wpIn_wide.2 ?_;refine wp_region_noPanic ?_;refine wp_region_held (S:=fun u:World=>u.cell? ⟨w.heap.size,0,none⟩=some (.pointer (some ⟨eb,0,none⟩))∧u.cell? ⟨w.heap.size+1+1,0,none⟩=some (.slice a N c')∧u.cell? ⟨w.heap.size+1+1+1,0,none⟩=some (.int .i64 k)) (by kernel_rfl) ?_
   change wpAnyH _ _ _ _ _ _ _ _ W.drew
   refine wpAnyH_take (i:=0) (v:= ?_) rfl (by kernel_rfl) (by kernel_rfl) (by kernel_rfl) (fun _ _ _ h=>h) (Or.inl ⟨by rfl,?_⟩) hS ?_
   rotate_left
   ·intro u hu
    obtain⟨s1,s2,s3⟩:=hu
    go_simp
    try with_reducible rfl
   simp only[Act.put,List.getElem_toArray,List.getElem_cons_zero,List.setIfInBounds_toArray,List.set_cons_zero,List.set_cons_succ];refine wpAnyH_take (i:=1) (v:= ?_) rfl (by kernel_rfl) (by kernel_rfl) (by kernel_rfl) (fun _ _ _ h=>h) (Or.inl ⟨by rfl,?_⟩) hS ?_
   rotate_left
   ·intro u hu
    obtain⟨s1,s2,s3⟩:=hu
    go_simp
    try with_reducible rfl
   simp only[Act.put,List.getElem_toArray,List.getElem_cons_zero,List.getElem_cons_succ,List.setIfInBounds_toArray,List.set_cons_zero,List.set_cons_succ];refine wpAnyH_take (i:=2) (v:= ?_) rfl (by kernel_rfl) (by kernel_rfl) (by kernel_rfl) (fun _ _ _ h=>h) (Or.inl ⟨by rfl,?_⟩) hS ?_
   rotate_left
   ·intro u hu
    obtain⟨s1,s2,s3⟩:=hu
    go_simp
    try with_reducible rfl
   simp only[Act.put,List.getElem_toArray,List.getElem_cons_zero,List.getElem_cons_succ,List.setIfInBounds_toArray,List.set_cons_zero,List.set_cons_succ];refine wpAnyH_take (i:=3) (v:= ?_) rfl (by kernel_rfl) (by kernel_rfl) (by kernel_rfl) (fun _ _ _ h=>h) (Or.inl ⟨by rfl,?_⟩) hS ?_
   rotate_left
   ·intro u hu
    obtain⟨s1,s2,s3⟩:=hu
    go_simp
    try with_reducible rfl
   simp only[Act.put,List.getElem_toArray,List.getElem_cons_zero,List.getElem_cons_succ,List.setIfInBounds_toArray,List.set_cons_zero,List.set_cons_succ];refine wpAnyH_take (i:=4) (v:= ?_) rfl (by kernel_rfl) (by kernel_rfl) (by kernel_rfl) (fun _ _ _ h=>h) (Or.inl ⟨by rfl,?_⟩) hS ?_
   rotate_left
   ·intro u hu
    obtain⟨s1,s2,s3⟩:=hu
    go_simp
    try with_reducible rfl
   simp only[Act.put,List.getElem_toArray,List.getElem_cons_zero,List.getElem_cons_succ,List.setIfInBounds_toArray,List.set_cons_zero,List.set_cons_succ];refine wpAnyH_take (i:=6) (v:= ?_) rfl (by kernel_rfl) (by kernel_rfl) (by kernel_rfl) (fun _ _ _ h=>h) (Or.inl ⟨by rfl,?_⟩) hS ?_
   rotate_left
   ·intro u hu
    obtain⟨s1,s2,s3⟩:=hu
    go_simp
    try with_reducible rfl
   simp only[Act.put,List.getElem_toArray,List.getElem_cons_zero,List.getElem_cons_succ,List.setIfInBounds_toArray,List.set_cons_zero,List.set_cons_succ];refine wpAnyH_ready (rs:= [5]) (by kernel_rfl) (by simp) (AllReadyH.cons rfl (fun K' fE=> ?_) AllReadyH.nil)
   go_simp
   refine fE.out _ _ hS (fun hS=> ?_);clear fE K';refine wpAnyH_take (i:=7) (v:= ?_) rfl (by kernel_rfl) (by kernel_rfl) (by kernel_rfl) (fun _ _ _ h=>h) (Or.inl ⟨by rfl,?_⟩) hS ?_
   rotate_left
   ·intro u hu
    obtain⟨s1,s2,s3⟩:=hu
    go_simp
    try with_reducible rfl
   simp only[Act.put,List.getElem_toArray,List.getElem_cons_zero,List.getElem_cons_succ,List.setIfInBounds_toArray,List.set_cons_zero,List.set_cons_succ];refine wpAnyH_ready (rs:= [8]) (by kernel_rfl) (by simp) (AllReadyH.cons rfl (fun K' fE=> ?_) AllReadyH.nil);refine cM _ (by rfl) _ _ (by rfl) w.heap.size (.slice a N c') N ch (by rfl) kG.row _ _ (Adz.seg sp k sp.length) _ (by rfl) mo.symm dm (by have:=kG.len;omega) (by have:=kG.only.size;omega) ?_;intro a2 c2 w2 ay aK bH;generalize (if rc=k then ra else Option.map (fun x=>x.add k) ra)=sa at*
   have gx:∀b,(Value.slice a N c').ownBlock=some b→w1.heap.size+1<b:=kG.own;have iP:=kG.box.keeps aK (fun b h1 h2 e=>by have:=gx b e;omega);refine fE.out _ _ ⟨iP.c0,iP.c2,iP.c3⟩ (fun hS=> ?_);clear fE K';simp only[Act.put,List.getElem_toArray,List.getElem_cons_zero,List.getElem_cons_succ,List.setIfInBounds_toArray,List.set_cons_zero,List.set_cons_succ];refine wpAnyH_take (i:=9) (v:= ?_) rfl (by kernel_rfl) (by kernel_rfl) (by kernel_rfl) (fun _ _ _ h=>h) (Or.inl ⟨by rfl,?_⟩) hS ?_
   rotate_left
   ·intro u hu
    obtain⟨s1,s2,s3⟩:=hu
    go_simp
    try with_reducible rfl
   simp only[Act.put,List.getElem_toArray,List.getElem_cons_zero,List.getElem_cons_succ,List.setIfInBounds_toArray,List.set_cons_zero,List.set_cons_succ];refine wpAnyH_take (i:=10) (v:= ?_) rfl (by kernel_rfl) (by kernel_rfl) (by kernel_rfl) (fun _ _ _ h=>h) (Or.inl ⟨by rfl,?_⟩) hS ?_
   rotate_left
   ·intro u hu
    obtain⟨s1,s2,s3⟩:=hu
    go_simp
    try with_reducible rfl
   simp only[Act.put,List.getElem_toArray,List.getElem_cons_zero,List.getElem_cons_succ,List.setIfInBounds_toArray,List.set_cons_zero,List.set_cons_succ];have nb:∀b,(Value.slice a N c').ownBlock=some b→¬b=eb:=fun b e=>by have:=gx b e;omega
   have Dw:=Kc.keeps od id;have qV:=Dw.keeps aK (fun e=>nb eb e rfl);have e4:=qV 4 _ rf;have g4:=e4.1;have f4:=e4.2;refine wpAnyH_ready (rs:= [11]) (by kernel_rfl) (by simp) (AllReadyH.cons rfl (fun K' fE=> ?_) AllReadyH.nil);have Ev:=af w2 eb 4 (.slice a2 (N+(sp.length - k)) c2);have gT:=iP.keeps Ev (fun b h1 h2 e=>by omega)
   go_simp
   refine fE.out _ _ ⟨gT.c0,gT.c2,gT.c3⟩ (fun hS=> ?_);clear fE K' e4 g4 f4;refine wpAnyH_done (by kernel_rfl) ?_ _;refine NoPanic.normal ?_
   have Il:∀b,(Value.slice a2 (N+(sp.length - k)) c2).ownBlock=some b→b≠eb∧b≠w1.heap.size:=fun b hb=>by
    have Kb:=(Array.getElem?_eq_some_iff.1 hD).1;have ez:W.drew.heap.size=W.heap.size:=rfl
    rcases bH with e | e
    ·have:=gx b (e ▸ hb);omega
    ·rw[e] at hb;injection hb with hb;omega
   have wX:=Sl.of_row ay;have qp:=qV.set 4 (.slice a2 (N+(sp.length - k)) c2);have A9:(l.set 4 (.slice a2 (N+(sp.length - k)) c2))[8]? =some (.bool r8):=by rw[List.getElem?_set_ne (by omega)];exact MA
   have Ba:=qp.set 8 (.bool true);have g8:=(qp 8 _ A9).1;have f8:=(qp 8 _ A9).2;have uL:=wX.1.keeps Ev (fun b o e=>by subst e;exact(Il b rfl).1);have Ew:=af (w2.setCell ⟨eb,4,none⟩ (.slice a2 (N+(sp.length - k)) c2)) eb 8 (.bool true);have wY:=uL.keeps Ew (fun b o e=>by subst e;exact(Il b rfl).1);have KI:aq ((w2.setCell ⟨eb,4,none⟩ (.slice a2 (N+(sp.length - k)) c2)).setCell ⟨eb,8,none⟩ (.bool true)) eb 108:=(((DI.keeps od id).keeps aK (fun e=>nb eb e rfl)).setCell _ _).setCell _ _;have Bq:=gT.keeps Ew (fun b h1 h2 e=>by omega)
   have Ck:ae (fun b=>b=eb∨False) w ((w2.setCell ⟨eb,4,none⟩ (.slice a2 (N+(sp.length - k)) c2)).setCell ⟨eb,8,none⟩ (.bool true)):=by
    have h1:ae (fun b=>b=eb∨False) w w2:=kG.only.trans aK (fun _ e=>Or.inr e) (fun b hb e=>by have:=gx b e;omega);exact ae.setCell (p:=⟨eb,8,none⟩) (ae.setCell (p:=⟨eb,4,none⟩) h1 (fun _=>Or.inl rfl) _) (fun _=>Or.inl rfl) _
   have NO:((w2.setCell ⟨eb,4,none⟩ (.slice a2 (N+(sp.length - k)) c2)).setCell ⟨eb,8,none⟩ (.bool true)).heap[w1.heap.size]? =some (.deferred (some [])):=by
    have Kb:=(Array.getElem?_eq_some_iff.1 hD).1;have h1:w2.heap[w1.heap.size]? =some (.deferred (some [])):=(aK.block _ Kb (fun e=>by have:=gx _ e;omega)).trans hD;have h2:=(Ev.block w1.heap.size (Array.getElem?_eq_some_iff.1 h1).1 (by omega)).trans h1;exact(Ew.block w1.heap.size (Array.getElem?_eq_some_iff.1 h2).1 (by omega)).trans h2
   have eu:((w2.setCell ⟨eb,4,none⟩ (.slice a2 (N+(sp.length - k)) c2)).setCell ⟨eb,8,none⟩ (.bool true)).cell? ⟨cb,co+4,none⟩=some (.bool c.print):=Ck.keeps hc.print (fun e=>by
    rcases e with e | e
    ·exact(he.ne hc.typ (by decide)) e.symm
    ·exact jA hc.typ (by decide) e)
   rw[tE] at eu;have Ki:Hid ((Adz.subst sp c).length=N+(sp.length - k)):=by show _=_;rw[Gf.out,List.length_append,mo,kG.len]
   have ct:=wX.2;have Hm:Hid (((w2.setCell ⟨eb,4,none⟩ (.slice a2 (N+(sp.length - k)) c2)).setCell ⟨eb,8,none⟩ (.bool true)).shape? eb=w.shape? eb):=eh.trans (eh.trans ((bX aK (DI.keeps od id).lt (fun e=>nb eb e rfl)).trans (bX kG.only he.lt (jA he (by decide)))));have q0:=gT.c0;have q1:=Bq.c1;clear qV qp Dw iP gT Bq kG rh ay aK bH wX uL gx nb od Ev Ew hS c5 dm pw A8
   gi_wp2
   refine⟨by simp,.inl ⟨_,_,rfl,run_takeDeferred NO,?_⟩⟩;have oP:=dB ((w2.setCell ⟨eb,4,none⟩ (.slice a2 (N+(sp.length - k)) c2)).setCell ⟨eb,8,none⟩ (.bool true)) w1.heap.size (.deferred none);refine⟨_,results_none rfl _ _ _,⟨_,rfl⟩,a2,c2,.bool true,?_,(by first | exact⟨_,rfl⟩ | exact Or.inr rfl),?_,?_,KI.keeps oP (by omega),?_,(bX oP KI.lt (by omega)).trans Hm.out⟩
   ·rw[Ki.out];exact Ba.keeps oP (by omega)
   ·rw[Gf.out];exact wY.keeps oP (fun b o e=>by subst e;exact(Il b rfl).2)
   ·rw[Ki.out];exact ct
   ·exact Ck.trans oP (fun _ e=>e.elim id False.elim) (fun b hb e=>by omega)
end
end Go.Proofs.YtbiobhghnldckaaGreatDoor
