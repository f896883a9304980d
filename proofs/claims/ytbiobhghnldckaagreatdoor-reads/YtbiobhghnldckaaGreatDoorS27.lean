/- Proved: a text of one line is parted; what was put out is told. Conditions: as told in each theorem. -/
import Derived.Test.YtbiobhghnldckaaGreatDoorS26
import Derived.Test.YtbiobhghnldckaaGreatDoorS21
import Derived.Deep.RegionWith
namespace Go.Proofs.YtbiobhghnldckaaGreatDoor
set_option linter.unusedVariables false
set_option maxRecDepth 100000
set_option maxHeartbeats 6400000
section
open Go.RowKit
structure Tabs (w:World):Prop where
 f:w.cell? ⟨0,195,none⟩=some (.int .u8 2)
 r0:w.cell? ⟨1,0,none⟩=some (.int .u8 128)
 r1:w.cell? ⟨1,1,none⟩=some (.int .u8 191)
 m:∃m,w.cell? ⟨2,0,none⟩=some (.int .i64 m)
theorem Tabs.keeps {w w':World} (h:Tabs w) (o:ae (fun _=>False) w w'):Tabs w':=by
 obtain⟨m,hm⟩:=h.m;exact⟨o.keeps h.f id,o.keeps h.r0 id,o.keeps h.r1 id,⟨m,o.keeps hm id⟩⟩
def lineOf (s:ByteArray):ByteArray:=⟨(Lib.trimSuffix s.data.toList [10]).toArray⟩
theorem Ag (s:ByteArray) (w:World) (ht:Tabs w) (h0:0<s.size) (hs:s.size≤3000) (hl:(lineOf s).size≤3000) (h1:Lib.countB (lineOf s) ⟨#[10]⟩=0) (h2:Lib.splitB ⟨#[10]⟩ 0 0 (lineOf s)= [lineOf s]):
 Calls Tryz.prog 43 #[.string s] w fun e w'=>e=.returned (.slice (some ⟨w.heap.size,0,none⟩) 1 1)∧w'=w.alloc (.cells #[.string (lineOf s)] 9):=by
 obtain⟨m,hm⟩:=ht.m
 have aJ:s.toList.isEmpty=false:=by
  rw[Lib.toList_data]
  cases hd:s.data.toList with
  | nil=>have:s.data.toList.length=s.size:=Array.length_toList;rw[hd] at this;simp at this;omega
  | cons b t=>rfl
 have c1:=Tryz.strings_TrimSuffix s ⟨#[10]⟩ w (by omega);have c2:=Tryz.strings_Split (lineOf s) ⟨#[10]⟩ m w (by omega) hm (by decide);rw[h1,h2] at c2;have e1:(⟨(Lib.trimSuffix s.data.toList (⟨#[10]⟩:ByteArray).data.toList).toArray⟩:ByteArray)=lineOf s:=rfl;rw[e1] at c1;generalize lineOf s=ln at*
 go_enter Tryz.func43,Tryz.ntmps43;go_wp2_with fail;refine c1.mono ?_;rintro e w1 ⟨rfl,rfl⟩;go_wp2_with fail;refine c2.mono ?_;rintro e w2 ⟨rfl,rfl⟩;go_wp2;go_ret;exact⟨rfl,rfl⟩
theorem fx (eb:Nat) (w:World) (l:List Value) (out:List UInt8) (h:Ed w eb l out):
 Calls Tryz.prog 47 #[.pointer (some ⟨eb,13,none⟩)] w fun e w'=>e=.returned (.string ⟨out.toArray⟩)∧ae (fun b=>eb≤b) w w':=by
 obtain⟨p,a,c,g1,g2,g3⟩:=h.cells;have hl:=h.len;have xH:=(g1 14 _ (by rw[List.getElem?_set_self (by rw[List.length_set];omega)])).1;by_cases h0:out= []
 ·subst h0
  simp only[List.length_nil] at xH;have Gl:w.drew.cell? ⟨eb,14,none⟩=some (.slice a 0 c):=xH
  have Rc:∃q wq,(Builtin.unsafeSliceData_ #[64] 142 #[.slice a 0 c]).run Tryz.prog w.drew=.ok (.pointer q) wq∧wq.cell? ⟨eb,14,none⟩=some (.slice a 0 c)∧ae (fun _=>False) w wq:=by
   rcases g3.2 with ⟨e,_⟩ |⟨g,cap,cur,hv,_,hg,ct,_,dr,_⟩
   ·injection e with e1 e2 e3;subst e1;subst e3
    exact⟨none,_,Lib.run_unsafeSliceData_nil _ _ _ _ _,Gl,(ae.refl _ w).drew⟩
   ·injection hv with e1 e2 e3;subst e1;subst e3
    by_cases gC:c=0
    ·subst gC
     have OB:w.drew.heap[g]? =some (.cells cur 5 (0,0)):=hg;have:=Lib.run_unsafeSliceData_zero (P:=Tryz.prog) w.drew #[64] 142 5 Tryz.underlying142 ⟨g,0,none⟩ 0 (5,cur.size) (by simp[World.shape?,OB]);have oq:ae (fun _=>False) w (w.drew.alloc (.view ⟨g,0,none⟩ 5)):=((ae.refl _ w).drew).alloc _;exact⟨_,_,this,oq.keeps xH id,oq⟩
    ·exact⟨some ⟨g,0,none⟩,_,Lib.run_unsafeSliceData_row _ _ _ _ _ _ gC,Gl,(ae.refl _ w).drew⟩
  obtain⟨q,wq,hq,Tx,oq⟩:=Rc;have Ue:=Lib.run_unsafeString_none (P:=Tryz.prog) wq 142 3 9 q;go_enter Tryz.func47,Tryz.ntmps47;go_wp2_with fail
  go_region
  all_goals
   go_wp2;go_ret;exact⟨rfl,oq.mono (fun _ _ e=>e.elim)⟩
 ·have KY:out.length≠0:=by simpa using h0
  obtain⟨g,cap,cur,hv,tg,hg,DU,fN,dm,fH⟩:∃g cap cur,Value.slice a out.length c=.slice (some ⟨g,0,none⟩) out.length cap∧eb≤g∧w.heap[g]? =some (.cells cur 5 (0,0))∧out.length≤cap∧cap≤maxLen∧cur.size=cap*1∧cur.toList.take (out.length*1)=Lib.byteCells out:=by
   rcases g3.2 with ⟨_,hz⟩ | r
   ·exact absurd hz KY
   ·exact r
  injection hv with e1 e2 e3;subst e1;subst e3;have Gl:w.drew.cell? ⟨eb,14,none⟩=some (.slice (some ⟨g,0,none⟩) out.length c):=xH
  have Rc:(Builtin.unsafeSliceData_ #[64] 142 #[.slice (some ⟨g,0,none⟩) out.length c]).run Tryz.prog w.drew=.ok (.pointer (some ⟨g,0,none⟩)) w.drew:=
   Lib.run_unsafeSliceData_row _ _ _ _ _ _ (by omega)
  have Ue:(Builtin.unsafeString_ #[142,3] 9 #[.pointer (some ⟨g,0,none⟩),.int .i64 out.length]).run Tryz.prog w.drew=.ok (.string ⟨out.toArray⟩) (w.drew.freeze ⟨g,0,none⟩ out.length):=by
   refine Lib.run_unsafeString_row w.drew 142 3 9 5 Tryz.underlying142 (by kernel_rfl) g cur.size (by have OB:w.drew.heap[g]? =some (.cells cur 5 (0,0)):=hg;simp[World.shape?,OB]) out h0 (by omega) (by unfold maxLen at fN;omega) ?_;intro j x hx;exact g3.cells (g:=g) rfl j (.int .u8 x.toNat) (by simp[Lib.byteCells,hx])
  have VH:ae (·=g) w (w.drew.freeze ⟨g,0,none⟩ out.length):=by
   unfold World.freeze;rw[if_neg KY]
   exact⟨rfl,rfl,rfl,by simp,fun k hk aJ=>by
    simp only[Array.getElem?_modify];rw[if_neg (fun e=>aJ e.symm)];rfl⟩
  go_enter Tryz.func47,Tryz.ntmps47;go_wp2_with fail
  go_region
  all_goals
   go_wp2;go_ret;exact⟨rfl,VH.mono (fun b _ e=>by subst e;exact tg)⟩
theorem eV (eb k n lc:Nat) (la:Option Addr) (w:World) (h2:w.cell? ⟨eb,2,none⟩=some (.slice la n lc)) (h3:w.cell? ⟨eb,3,none⟩=some (.int .i64 k)):
 Calls Tryz.prog 45 #[.pointer (some ⟨eb,0,none⟩)] w fun e w'=>e=.returned (.bool (decide ((k:Int)<n)))∧ae (fun _=>False) w w':=by
 go_enter Tryz.func45,Tryz.ntmps45;go_wp2_with fail
 go_quiet (fail)
 go_wp2;go_ret;exact⟨by first | rfl | simp,(ae.refl _ w).drewN _⟩
theorem Ej (u:World):(Instr.makeSlice 92 (.int .i64 1) (.int .i64 1)).run Tryz.prog u=.ok (.slice (some ⟨u.heap.size,0,none⟩) 1 1) (u.alloc (.cells #[.bool false] 4)):=by
 have h:=run_make (P:=Tryz.prog) (w:=u) 92 4 _ (.bool false) (by rfl) (by rfl) (by rfl) .i64 .i64 1 1 (by omega) (by omega) (by show(1:Int)*1≤_;omega) (by omega);have e:Tryz.prog.types[4].size=1:=by rfl
 rw[h,e];have hm:madeCells (Value.bool false).cells (Int.toNat 1*1)= #[.bool false]:=Array.toList_inj.1 (by rw[show (Value.bool false).cells= #[Value.bool false] from rfl,toList_madeCells_one];rfl);rw[hm]
 rfl
theorem AW (u:World) (v0 v1 v2 v7:Value):
 Ed (u.alloc (.cells #[v0,v1,v2,.int .i64 0,.slice none 0 0,.slice none 0 0,.slice none 0 0,v7,.bool false,.int .i64 0,.bool false,.bool false,.int .i64 0,.pointer none,.slice none 0 0,.int .i64 0] 108)) u.heap.size
  [v0,v1,v2,.int .i64 0,.slice none 0 0,.slice none 0 0,.slice none 0 0,v7,.bool false,.int .i64 0,.bool false,.bool false,.int .i64 0,.pointer none,.slice none 0 0,.int .i64 0] []:=by
 have hc:=ai.new u #[v0,v1,v2,.int .i64 0,.slice none 0 0,.slice none 0 0,.slice none 0 0,v7,.bool false,.int .i64 0,.bool false,.bool false,.int .i64 0,.pointer none,.slice none 0 0,.int .i64 0] 108;refine⟨⟨.pointer none,none,0,hc,Or.inl rfl,World.ownsRow_nil _ _ _ _⟩,?_,aq.new _ _ _ _,rfl⟩;unfold World.shape?;rw[heap_alloc_new]
 rfl
structure OneLine (s:ByteArray) (c:Adz.Cmd):Prop where
 simple:simple s.data.toList=true
 size:s.size≤24
 some:0<s.size
 lsize:(lineOf s).size≤3000
 count:Lib.countB (lineOf s) ⟨#[10]⟩=0
 split:Lib.splitB ⟨#[10]⟩ 0 0 (lineOf s)= [lineOf s]
 fine:Fine (Adz.runes (lineOf s)) c
 less:(runesBytes (Adz.subst (Adz.runes (lineOf s)) c)).size+1≤8000
theorem LV (c:Adz.Cmd) (pb g cap:Nat) (w:World) (ht:Tabs w) (hp:w.cell? ⟨pb,0,none⟩=some (.slice (some ⟨g,0,none⟩) 1 cap)) (hc:OneCmd w g c) (s:ByteArray) (q:Bool) (h1:OneLine s c):
 Calls Tryz.prog 31 #[.pointer (some ⟨pb,0,none⟩),.string s,.bool q] w fun e w'=>e=.returned (.tuple #[.string ⟨(Adz.told q [] (Adz.subst (Adz.runes (lineOf s)) c)).toArray⟩,.int .i64 0])∧ae (fun _=>False) w w':=by
 have dr:=h1.size;have d1:¬((3000:Int)<(s.size:Int)):=by omega
 have qB:=kX s w h1.simple h1.size ht.f ht.r0 ht.r1;have xY:=h1.fine;have FC:=h1.less;have wZ:=fun (u:World) (hu:Tabs u)=>Ag s u hu h1.some (by omega) h1.lsize h1.count h1.split;have zp:=h1.lsize;clear h1;generalize lineOf s=ln at*
 go_enter Tryz.func31,Tryz.ntmps31;go_wp2_with fail;refine qB.mono ?_;clear qB;rintro e w1 ⟨rfl,o1⟩;have FF:=o1.keeps hp id;have lp:pb<w1.heap.size:=World.block_lt_of_cell? w1 _ FF
 have FG:∀(u:World) (o:Obj),u.cell? ⟨pb,0,none⟩=some (.slice (some ⟨g,0,none⟩) 1 cap)→(u.alloc o).cell? ⟨pb,0,none⟩=some (.slice (some ⟨g,0,none⟩) 1 cap):=fun u o hu=>by
  have oo:ae (fun _=>False) u (u.alloc o):=(ae.refl _ u).alloc o;exact oo.keeps hu id
 have zv:=Ej;have mq:Tabs w1.drew:=(ht.keeps o1).keeps ((ae.refl _ w1).drew);have Pj:∀o:Obj,Tabs (w1.drew.alloc o):=fun o=>mq.keeps ((ae.refl _ w1.drew).alloc o);go_wp2_with fail
 go_region_held3 (fun u=>u.cell? ⟨pb,0,none⟩=some (.slice (some ⟨g,0,none⟩) 1 cap)) (first | exact FF | exact FG _ _ (by assumption) | assumption) ((go_at_call 43;refine(wZ _ (by first | exact mq | exact Pj _)).mono ?_;rintro e wS ⟨rfl,rfl⟩))
 ·have GB:=AW ((w1.alloc (.cells #[.string ln] 9)).alloc (.cells #[.bool false] 4)) (.slice (some ⟨g,0,none⟩) 1 cap) (.bool q) (.slice (some ⟨w1.heap.size,0,none⟩) 1 1) (.slice (some ⟨w1.heap.size+1,0,none⟩) 1 1)
  simp only[World.size_alloc] at GB;have oW:ae (fun _=>False) w1 (((w1.alloc (.cells #[.string ln] 9)).alloc (.cells #[.bool false] 4)).alloc (.cells #[.slice (some ⟨g,0,none⟩) 1 cap,.bool q,.slice (some ⟨w1.heap.size,0,none⟩) 1 1,.int .i64 0,.slice none 0 0,.slice none 0 0,.slice none 0 0,.slice (some ⟨w1.heap.size+1,0,none⟩) 1 1,.bool false,.int .i64 0,.bool false,.bool false,.int .i64 0,.pointer none,.slice none 0 0,.int .i64 0] 108)).drew:=((((ae.refl _ w1).alloc _).alloc _).alloc _).drew;have xT:=GB.keeps (S:=fun _=>False) ((ae.refl _ (((w1.alloc (.cells #[.string ln] 9)).alloc (.cells #[.bool false] 4)).alloc (.cells #[.slice (some ⟨g,0,none⟩) 1 cap,.bool q,.slice (some ⟨w1.heap.size,0,none⟩) 1 1,.int .i64 0,.slice none 0 0,.slice none 0 0,.slice none 0 0,.slice (some ⟨w1.heap.size+1,0,none⟩) 1 1,.bool false,.int .i64 0,.bool false,.bool false,.int .i64 0,.pointer none,.slice none 0 0,.int .i64 0] 108))).drew) id (fun _ _=>id);have BJ:((w1.alloc (.cells #[.string ln] 9)).alloc (.cells #[.bool false] 4)).cell? ⟨w1.heap.size,0,none⟩=some (.string ln):=((ae.refl (fun _=>False) (w1.alloc (.cells #[.string ln] 9))).alloc (.cells #[.bool false] 4)).keeps ((ai.new w1 #[.string ln] 9) 0 _ rfl).1 id;have zt:(((w1.alloc (.cells #[.string ln] 9)).alloc (.cells #[.bool false] 4)).alloc (.cells #[.slice (some ⟨g,0,none⟩) 1 cap,.bool q,.slice (some ⟨w1.heap.size,0,none⟩) 1 1,.int .i64 0,.slice none 0 0,.slice none 0 0,.slice none 0 0,.slice (some ⟨w1.heap.size+1,0,none⟩) 1 1,.bool false,.int .i64 0,.bool false,.bool false,.int .i64 0,.pointer none,.slice none 0 0,.int .i64 0] 108)).drew.cell? ⟨w1.heap.size,0,none⟩=some (.string ln):=(((ae.refl (fun _=>False) ((w1.alloc (.cells #[.string ln] 9)).alloc (.cells #[.bool false] 4))).alloc (.cells #[.slice (some ⟨g,0,none⟩) 1 cap,.bool q,.slice (some ⟨w1.heap.size,0,none⟩) 1 1,.int .i64 0,.slice none 0 0,.slice none 0 0,.slice none 0 0,.slice (some ⟨w1.heap.size+1,0,none⟩) 1 1,.bool false,.int .i64 0,.bool false,.bool false,.int .i64 0,.pointer none,.slice none 0 0,.int .i64 0] 108)).drew).keeps BJ id
  have tG:ae (fun _=>False) w (((w1.alloc (.cells #[.string ln] 9)).alloc (.cells #[.bool false] 4)).alloc (.cells #[.slice (some ⟨g,0,none⟩) 1 cap,.bool q,.slice (some ⟨w1.heap.size,0,none⟩) 1 1,.int .i64 0,.slice none 0 0,.slice none 0 0,.slice none 0 0,.slice (some ⟨w1.heap.size+1,0,none⟩) 1 1,.bool false,.int .i64 0,.bool false,.bool false,.int .i64 0,.pointer none,.slice none 0 0,.int .i64 0] 108)).drew:=o1.trans oW (fun _ e=>e) (fun _ _ e=>e);have jO:=hc.keeps tG (fun _ _=>id) (fun _ _=>id) (fun _ _=>id) (fun _ _=>id);clear GB BJ oW wZ Pj mq FG zv;have e0: [.slice (some ⟨g,0,none⟩) 1 cap,.bool q,.slice (some ⟨w1.heap.size,0,none⟩) 1 1,.int .i64 0,.slice none 0 0,.slice none 0 0,.slice none 0 0,.slice (some ⟨w1.heap.size+1,0,none⟩) 1 1,.bool false,.int .i64 0,.bool false,.bool false,.int .i64 0,.pointer none,.slice none 0 0,.int .i64 0][0]? =some (Value.slice (some ⟨g,0,none⟩) 1 cap):=rfl;have e1: [.slice (some ⟨g,0,none⟩) 1 cap,.bool q,.slice (some ⟨w1.heap.size,0,none⟩) 1 1,.int .i64 0,.slice none 0 0,.slice none 0 0,.slice none 0 0,.slice (some ⟨w1.heap.size+1,0,none⟩) 1 1,.bool false,.int .i64 0,.bool false,.bool false,.int .i64 0,.pointer none,.slice none 0 0,.int .i64 0][1]? =some (Value.bool q):=rfl;have e2: [.slice (some ⟨g,0,none⟩) 1 cap,.bool q,.slice (some ⟨w1.heap.size,0,none⟩) 1 1,.int .i64 0,.slice none 0 0,.slice none 0 0,.slice none 0 0,.slice (some ⟨w1.heap.size+1,0,none⟩) 1 1,.bool false,.int .i64 0,.bool false,.bool false,.int .i64 0,.pointer none,.slice none 0 0,.int .i64 0][2]? =some (Value.slice (some ⟨w1.heap.size,0,none⟩) 1 1):=rfl
  have e3: [.slice (some ⟨g,0,none⟩) 1 cap,.bool q,.slice (some ⟨w1.heap.size,0,none⟩) 1 1,.int .i64 0,.slice none 0 0,.slice none 0 0,.slice none 0 0,.slice (some ⟨w1.heap.size+1,0,none⟩) 1 1,.bool false,.int .i64 0,.bool false,.bool false,.int .i64 0,.pointer none,.slice none 0 0,.int .i64 0][3]? =some (Value.int .i64 (0:Nat)):=rfl;have e5: [.slice (some ⟨g,0,none⟩) 1 cap,.bool q,.slice (some ⟨w1.heap.size,0,none⟩) 1 1,.int .i64 0,.slice none 0 0,.slice none 0 0,.slice none 0 0,.slice (some ⟨w1.heap.size+1,0,none⟩) 1 1,.bool false,.int .i64 0,.bool false,.bool false,.int .i64 0,.pointer none,.slice none 0 0,.int .i64 0][5]? =some (Value.slice none 0 0):=rfl;have e6: [.slice (some ⟨g,0,none⟩) 1 cap,.bool q,.slice (some ⟨w1.heap.size,0,none⟩) 1 1,.int .i64 0,.slice none 0 0,.slice none 0 0,.slice none 0 0,.slice (some ⟨w1.heap.size+1,0,none⟩) 1 1,.bool false,.int .i64 0,.bool false,.bool false,.int .i64 0,.pointer none,.slice none 0 0,.int .i64 0][6]? =some (Value.slice none 0 0):=rfl;have e8: [.slice (some ⟨g,0,none⟩) 1 cap,.bool q,.slice (some ⟨w1.heap.size,0,none⟩) 1 1,.int .i64 0,.slice none 0 0,.slice none 0 0,.slice none 0 0,.slice (some ⟨w1.heap.size+1,0,none⟩) 1 1,.bool false,.int .i64 0,.bool false,.bool false,.int .i64 0,.pointer none,.slice none 0 0,.int .i64 0][8]? =some (Value.bool false):=rfl;have Gs: [.slice (some ⟨g,0,none⟩) 1 cap,.bool q,.slice (some ⟨w1.heap.size,0,none⟩) 1 1,.int .i64 0,.slice none 0 0,.slice none 0 0,.slice none 0 0,.slice (some ⟨w1.heap.size+1,0,none⟩) 1 1,.bool false,.int .i64 0,.bool false,.bool false,.int .i64 0,.pointer none,.slice none 0 0,.int .i64 0][11]? =some (Value.bool false):=rfl
  have NH: [.slice (some ⟨g,0,none⟩) 1 cap,.bool q,.slice (some ⟨w1.heap.size,0,none⟩) 1 1,.int .i64 0,.slice none 0 0,.slice none 0 0,.slice none 0 0,.slice (some ⟨w1.heap.size+1,0,none⟩) 1 1,.bool false,.int .i64 0,.bool false,.bool false,.int .i64 0,.pointer none,.slice none 0 0,.int .i64 0][12]? =some (Value.int .i64 (0:Nat)):=rfl;have CK: [.slice (some ⟨g,0,none⟩) 1 cap,.bool q,.slice (some ⟨w1.heap.size,0,none⟩) 1 1,.int .i64 0,.slice none 0 0,.slice none 0 0,.slice none 0 0,.slice (some ⟨w1.heap.size+1,0,none⟩) 1 1,.bool false,.int .i64 0,.bool false,.bool false,.int .i64 0,.pointer none,.slice none 0 0,.int .i64 0][15]? =some (Value.int .i64 0):=rfl;have Lr:w.heap.size≤w1.heap.size+1+1:=by have:=o1.size;omega
  generalize ([.slice (some ⟨g,0,none⟩) 1 cap,.bool q,.slice (some ⟨w1.heap.size,0,none⟩) 1 1,.int .i64 0,.slice none 0 0,.slice none 0 0,.slice none 0 0,.slice (some ⟨w1.heap.size+1,0,none⟩) 1 1,.bool false,.int .i64 0,.bool false,.bool false,.int .i64 0,.pointer none,.slice none 0 0,.int .i64 0]:List Value)=l at*
  generalize (((w1.alloc (.cells #[.string ln] 9)).alloc (.cells #[.bool false] 4)).alloc (.cells l.toArray 108)).drew=W5 at*
  go_wp2_with fail
  go_loopg [] 1 (fun k wr=>(k=1∧wr=W5)∨(k=0∧∃l',Hid (Ed wr (w1.heap.size+1+1) l' (Adz.told q [] (Adz.subst (Adz.runes ln) c)))∧Hid (l'[15]? =some (.int .i64 0))∧Hid (l'[3]? =some (.int .i64 1))∧Hid (l'[2]? =some (.slice (some ⟨w1.heap.size,0,none⟩) 1 1))∧Hid (l'[11]? =some (.bool false))∧Hid (ae (fun _=>False) w wr)))
  case atStart=>exact Or.inl ⟨rfl,rfl⟩
  case round=>
   rcases hrel with ⟨rfl,rfl⟩ |⟨rfl,l',J4,Fh,Gx,J8,CM,NL⟩
   ·have d15:=(xT.get 15 (by omega) _ CK).1
    have d11:=(xT.get 11 (by omega) _ Gs).1;have d2:=(xT.get 2 (by omega) _ e2).1;have d3:=(xT.get 3 (by omega) _ e3).1;have eP:=eV (w1.heap.size+1+1) 0 1 1 (some ⟨w1.heap.size,0,none⟩) wr d2 d3;have KD:=fun (u:World) (ou:ae (fun _=>False) wr u)=>xI c g cap (w1.heap.size+1+1) u l [] (xT.keeps ou id (fun _ _=>id)) (jO.keeps ou (fun _ _=>id) (fun _ _=>id) (fun _ _=>id) (fun _ _=>id)) e0 q e1 CK 0 NH (by omega) none 0 0 e5 (by omega) none 0 e6 w1.heap.size 0 1 1 0 ln e2 e3 (by omega) (by omega) (ou.keeps (p:=⟨w1.heap.size,0+0,none⟩) zt id) zp false e8 xY (by simp only[List.length_nil];omega);go_wp2_with fail;refine(bP (w1.heap.size+1+1) _ 0 d15).mono ?_;rintro e w3 ⟨rfl,rfl⟩;go_wp2_with fail;refine eP.mono ?_;clear eP;rintro e w4 ⟨rfl,o4⟩;have mW:decide (((0:Nat):Int)<((1:Nat):Int))=true:=by decide
    rw[mW];go_wp2_with fail;refine(KD w4 o4).mono ?_;clear KD;rintro e w6 ⟨⟨v6,rfl⟩,l',r1,r2,r3,r4,r5,r6⟩
    have oF:ae (fun _=>False) w w6:=by
     have o5:=tG.trans o4 (fun _ e=>e) (fun _ _ e=>e);refine o5.trans r6 (fun _ e=>e.elim) (fun b hb e=> ?_)
     rcases e with e | e | e
     ·omega
     ·have:=e.2;omega
     ·have:=e.2;omega
    go_wp2;go_roundg 0
    case measure=>omega
    case rel=>exact Or.inr ⟨rfl,l',r1,r2,r3,r4.trans e2,r5.trans Gs,oF⟩
   ·have Bc:Ed wr (w1.heap.size+1+1) l' (Adz.told q [] (Adz.subst (Adz.runes ln) c)):=J4
    have d15:=(Bc.get 15 (by omega) _ Fh.out).1;have d11:=(Bc.get 11 (by omega) _ CM.out).1;have d2:=(Bc.get 2 (by omega) _ J8.out).1;have d3:=(Bc.get 3 (by omega) _ Gx.out).1;have eP:=eV (w1.heap.size+1+1) 1 1 1 (some ⟨w1.heap.size,0,none⟩) wr d2 d3;have bZ:=fun (u:World) (ou:ae (fun _=>False) wr u)=>fx (w1.heap.size+1+1) u l' _ (Bc.keeps ou id (fun _ _=>id));have Gm:=fun (u:World) (ou:ae (fun _=>False) wr u)=>ou.keeps d15 id;clear J4 Fh Gx J8 CM zt xY FC;go_wp2_with fail;refine(bP (w1.heap.size+1+1) _ 0 d15).mono ?_;rintro e w3 ⟨rfl,rfl⟩;go_wp2_with fail;refine eP.mono ?_;clear eP;rintro e w4 ⟨rfl,o4⟩;have mW:decide (((1:Nat):Int)<((1:Nat):Int))=false:=by decide
    rw[mW];have Vs:=Gm w4 o4;go_wp2_with fail;refine(bZ w4 o4).mono ?_;rintro e w5 ⟨rfl,o5⟩;go_wp2;go_ret2;refine⟨rfl,?_⟩;have PJ:=NL.out.trans o4 (fun _ e=>e) (fun _ _ e=>e.elim);refine PJ.trans o5 (fun _ e=>e) (fun b hb e=> ?_);omega
 ·have GB:=AW ((w1.alloc (.cells #[.bool false] 4)).alloc (.cells #[.string ln] 9)) (.slice (some ⟨g,0,none⟩) 1 cap) (.bool q) (.slice (some ⟨(w1.heap.size+1),0,none⟩) 1 1) (.slice (some ⟨w1.heap.size,0,none⟩) 1 1)
  simp only[World.size_alloc] at GB;have oW:ae (fun _=>False) w1 (((w1.alloc (.cells #[.bool false] 4)).alloc (.cells #[.string ln] 9)).alloc (.cells #[.slice (some ⟨g,0,none⟩) 1 cap,.bool q,.slice (some ⟨(w1.heap.size+1),0,none⟩) 1 1,.int .i64 0,.slice none 0 0,.slice none 0 0,.slice none 0 0,.slice (some ⟨w1.heap.size,0,none⟩) 1 1,.bool false,.int .i64 0,.bool false,.bool false,.int .i64 0,.pointer none,.slice none 0 0,.int .i64 0] 108)).drew:=((((ae.refl _ w1).alloc _).alloc _).alloc _).drew;have xT:=GB.keeps (S:=fun _=>False) ((ae.refl _ (((w1.alloc (.cells #[.bool false] 4)).alloc (.cells #[.string ln] 9)).alloc (.cells #[.slice (some ⟨g,0,none⟩) 1 cap,.bool q,.slice (some ⟨(w1.heap.size+1),0,none⟩) 1 1,.int .i64 0,.slice none 0 0,.slice none 0 0,.slice none 0 0,.slice (some ⟨w1.heap.size,0,none⟩) 1 1,.bool false,.int .i64 0,.bool false,.bool false,.int .i64 0,.pointer none,.slice none 0 0,.int .i64 0] 108))).drew) id (fun _ _=>id);have BJ:((w1.alloc (.cells #[.bool false] 4)).alloc (.cells #[.string ln] 9)).cell? ⟨(w1.heap.size+1),0,none⟩=some (.string ln):=by have:=((ai.new (w1.alloc (.cells #[.bool false] 4)) #[.string ln] 9) 0 _ rfl).1;simp only[World.size_alloc] at this;exact this
  have zt:(((w1.alloc (.cells #[.bool false] 4)).alloc (.cells #[.string ln] 9)).alloc (.cells #[.slice (some ⟨g,0,none⟩) 1 cap,.bool q,.slice (some ⟨(w1.heap.size+1),0,none⟩) 1 1,.int .i64 0,.slice none 0 0,.slice none 0 0,.slice none 0 0,.slice (some ⟨w1.heap.size,0,none⟩) 1 1,.bool false,.int .i64 0,.bool false,.bool false,.int .i64 0,.pointer none,.slice none 0 0,.int .i64 0] 108)).drew.cell? ⟨(w1.heap.size+1),0,none⟩=some (.string ln):=(((ae.refl (fun _=>False) ((w1.alloc (.cells #[.bool false] 4)).alloc (.cells #[.string ln] 9))).alloc (.cells #[.slice (some ⟨g,0,none⟩) 1 cap,.bool q,.slice (some ⟨(w1.heap.size+1),0,none⟩) 1 1,.int .i64 0,.slice none 0 0,.slice none 0 0,.slice none 0 0,.slice (some ⟨w1.heap.size,0,none⟩) 1 1,.bool false,.int .i64 0,.bool false,.bool false,.int .i64 0,.pointer none,.slice none 0 0,.int .i64 0] 108)).drew).keeps BJ id;have tG:ae (fun _=>False) w (((w1.alloc (.cells #[.bool false] 4)).alloc (.cells #[.string ln] 9)).alloc (.cells #[.slice (some ⟨g,0,none⟩) 1 cap,.bool q,.slice (some ⟨(w1.heap.size+1),0,none⟩) 1 1,.int .i64 0,.slice none 0 0,.slice none 0 0,.slice none 0 0,.slice (some ⟨w1.heap.size,0,none⟩) 1 1,.bool false,.int .i64 0,.bool false,.bool false,.int .i64 0,.pointer none,.slice none 0 0,.int .i64 0] 108)).drew:=o1.trans oW (fun _ e=>e) (fun _ _ e=>e);have jO:=hc.keeps tG (fun _ _=>id) (fun _ _=>id) (fun _ _=>id) (fun _ _=>id);clear GB BJ oW wZ Pj mq FG zv;have e0: [.slice (some ⟨g,0,none⟩) 1 cap,.bool q,.slice (some ⟨(w1.heap.size+1),0,none⟩) 1 1,.int .i64 0,.slice none 0 0,.slice none 0 0,.slice none 0 0,.slice (some ⟨w1.heap.size,0,none⟩) 1 1,.bool false,.int .i64 0,.bool false,.bool false,.int .i64 0,.pointer none,.slice none 0 0,.int .i64 0][0]? =some (Value.slice (some ⟨g,0,none⟩) 1 cap):=rfl
  have e1: [.slice (some ⟨g,0,none⟩) 1 cap,.bool q,.slice (some ⟨(w1.heap.size+1),0,none⟩) 1 1,.int .i64 0,.slice none 0 0,.slice none 0 0,.slice none 0 0,.slice (some ⟨w1.heap.size,0,none⟩) 1 1,.bool false,.int .i64 0,.bool false,.bool false,.int .i64 0,.pointer none,.slice none 0 0,.int .i64 0][1]? =some (Value.bool q):=rfl;have e2: [.slice (some ⟨g,0,none⟩) 1 cap,.bool q,.slice (some ⟨(w1.heap.size+1),0,none⟩) 1 1,.int .i64 0,.slice none 0 0,.slice none 0 0,.slice none 0 0,.slice (some ⟨w1.heap.size,0,none⟩) 1 1,.bool false,.int .i64 0,.bool false,.bool false,.int .i64 0,.pointer none,.slice none 0 0,.int .i64 0][2]? =some (Value.slice (some ⟨(w1.heap.size+1),0,none⟩) 1 1):=rfl;have e3: [.slice (some ⟨g,0,none⟩) 1 cap,.bool q,.slice (some ⟨(w1.heap.size+1),0,none⟩) 1 1,.int .i64 0,.slice none 0 0,.slice none 0 0,.slice none 0 0,.slice (some ⟨w1.heap.size,0,none⟩) 1 1,.bool false,.int .i64 0,.bool false,.bool false,.int .i64 0,.pointer none,.slice none 0 0,.int .i64 0][3]? =some (Value.int .i64 (0:Nat)):=rfl;have e5: [.slice (some ⟨g,0,none⟩) 1 cap,.bool q,.slice (some ⟨(w1.heap.size+1),0,none⟩) 1 1,.int .i64 0,.slice none 0 0,.slice none 0 0,.slice none 0 0,.slice (some ⟨w1.heap.size,0,none⟩) 1 1,.bool false,.int .i64 0,.bool false,.bool false,.int .i64 0,.pointer none,.slice none 0 0,.int .i64 0][5]? =some (Value.slice none 0 0):=rfl;have e6: [.slice (some ⟨g,0,none⟩) 1 cap,.bool q,.slice (some ⟨(w1.heap.size+1),0,none⟩) 1 1,.int .i64 0,.slice none 0 0,.slice none 0 0,.slice none 0 0,.slice (some ⟨w1.heap.size,0,none⟩) 1 1,.bool false,.int .i64 0,.bool false,.bool false,.int .i64 0,.pointer none,.slice none 0 0,.int .i64 0][6]? =some (Value.slice none 0 0):=rfl
  have e8: [.slice (some ⟨g,0,none⟩) 1 cap,.bool q,.slice (some ⟨(w1.heap.size+1),0,none⟩) 1 1,.int .i64 0,.slice none 0 0,.slice none 0 0,.slice none 0 0,.slice (some ⟨w1.heap.size,0,none⟩) 1 1,.bool false,.int .i64 0,.bool false,.bool false,.int .i64 0,.pointer none,.slice none 0 0,.int .i64 0][8]? =some (Value.bool false):=rfl;have Gs: [.slice (some ⟨g,0,none⟩) 1 cap,.bool q,.slice (some ⟨(w1.heap.size+1),0,none⟩) 1 1,.int .i64 0,.slice none 0 0,.slice none 0 0,.slice none 0 0,.slice (some ⟨w1.heap.size,0,none⟩) 1 1,.bool false,.int .i64 0,.bool false,.bool false,.int .i64 0,.pointer none,.slice none 0 0,.int .i64 0][11]? =some (Value.bool false):=rfl;have NH: [.slice (some ⟨g,0,none⟩) 1 cap,.bool q,.slice (some ⟨(w1.heap.size+1),0,none⟩) 1 1,.int .i64 0,.slice none 0 0,.slice none 0 0,.slice none 0 0,.slice (some ⟨w1.heap.size,0,none⟩) 1 1,.bool false,.int .i64 0,.bool false,.bool false,.int .i64 0,.pointer none,.slice none 0 0,.int .i64 0][12]? =some (Value.int .i64 (0:Nat)):=rfl;have CK: [.slice (some ⟨g,0,none⟩) 1 cap,.bool q,.slice (some ⟨(w1.heap.size+1),0,none⟩) 1 1,.int .i64 0,.slice none 0 0,.slice none 0 0,.slice none 0 0,.slice (some ⟨w1.heap.size,0,none⟩) 1 1,.bool false,.int .i64 0,.bool false,.bool false,.int .i64 0,.pointer none,.slice none 0 0,.int .i64 0][15]? =some (Value.int .i64 0):=rfl;have Lr:w.heap.size≤w1.heap.size+1+1:=by have:=o1.size;omega
  generalize ([.slice (some ⟨g,0,none⟩) 1 cap,.bool q,.slice (some ⟨(w1.heap.size+1),0,none⟩) 1 1,.int .i64 0,.slice none 0 0,.slice none 0 0,.slice none 0 0,.slice (some ⟨w1.heap.size,0,none⟩) 1 1,.bool false,.int .i64 0,.bool false,.bool false,.int .i64 0,.pointer none,.slice none 0 0,.int .i64 0]:List Value)=l at*
  generalize (((w1.alloc (.cells #[.bool false] 4)).alloc (.cells #[.string ln] 9)).alloc (.cells l.toArray 108)).drew=W5 at*
  go_wp2_with fail
  go_loopg [] 1 (fun k wr=>(k=1∧wr=W5)∨(k=0∧∃l',Hid (Ed wr (w1.heap.size+1+1) l' (Adz.told q [] (Adz.subst (Adz.runes ln) c)))∧Hid (l'[15]? =some (.int .i64 0))∧Hid (l'[3]? =some (.int .i64 1))∧Hid (l'[2]? =some (.slice (some ⟨(w1.heap.size+1),0,none⟩) 1 1))∧Hid (l'[11]? =some (.bool false))∧Hid (ae (fun _=>False) w wr)))
  case atStart=>exact Or.inl ⟨rfl,rfl⟩
  case round=>
   rcases hrel with ⟨rfl,rfl⟩ |⟨rfl,l',J4,Fh,Gx,J8,CM,NL⟩
   ·have d15:=(xT.get 15 (by omega) _ CK).1
    have d11:=(xT.get 11 (by omega) _ Gs).1;have d2:=(xT.get 2 (by omega) _ e2).1;have d3:=(xT.get 3 (by omega) _ e3).1;have eP:=eV (w1.heap.size+1+1) 0 1 1 (some ⟨(w1.heap.size+1),0,none⟩) wr d2 d3;have KD:=fun (u:World) (ou:ae (fun _=>False) wr u)=>xI c g cap (w1.heap.size+1+1) u l [] (xT.keeps ou id (fun _ _=>id)) (jO.keeps ou (fun _ _=>id) (fun _ _=>id) (fun _ _=>id) (fun _ _=>id)) e0 q e1 CK 0 NH (by omega) none 0 0 e5 (by omega) none 0 e6 (w1.heap.size+1) 0 1 1 0 ln e2 e3 (by omega) (by omega) (ou.keeps (p:=⟨(w1.heap.size+1),0+0,none⟩) zt id) zp false e8 xY (by simp only[List.length_nil];omega);go_wp2_with fail;refine(bP (w1.heap.size+1+1) _ 0 d15).mono ?_;rintro e w3 ⟨rfl,rfl⟩;go_wp2_with fail;refine eP.mono ?_;clear eP;rintro e w4 ⟨rfl,o4⟩;have mW:decide (((0:Nat):Int)<((1:Nat):Int))=true:=by decide
    rw[mW];go_wp2_with fail;refine(KD w4 o4).mono ?_;clear KD;rintro e w6 ⟨⟨v6,rfl⟩,l',r1,r2,r3,r4,r5,r6⟩
    have oF:ae (fun _=>False) w w6:=by
     have o5:=tG.trans o4 (fun _ e=>e) (fun _ _ e=>e);refine o5.trans r6 (fun _ e=>e.elim) (fun b hb e=> ?_)
     rcases e with e | e | e
     ·omega
     ·have:=e.2;omega
     ·have:=e.2;omega
    go_wp2;go_roundg 0
    case measure=>omega
    case rel=>exact Or.inr ⟨rfl,l',r1,r2,r3,r4.trans e2,r5.trans Gs,oF⟩
   ·have Bc:Ed wr (w1.heap.size+1+1) l' (Adz.told q [] (Adz.subst (Adz.runes ln) c)):=J4
    have d15:=(Bc.get 15 (by omega) _ Fh.out).1;have d11:=(Bc.get 11 (by omega) _ CM.out).1;have d2:=(Bc.get 2 (by omega) _ J8.out).1;have d3:=(Bc.get 3 (by omega) _ Gx.out).1;have eP:=eV (w1.heap.size+1+1) 1 1 1 (some ⟨(w1.heap.size+1),0,none⟩) wr d2 d3;have bZ:=fun (u:World) (ou:ae (fun _=>False) wr u)=>fx (w1.heap.size+1+1) u l' _ (Bc.keeps ou id (fun _ _=>id));have Gm:=fun (u:World) (ou:ae (fun _=>False) wr u)=>ou.keeps d15 id;clear J4 Fh Gx J8 CM zt xY FC;go_wp2_with fail;refine(bP (w1.heap.size+1+1) _ 0 d15).mono ?_;rintro e w3 ⟨rfl,rfl⟩;go_wp2_with fail;refine eP.mono ?_;clear eP;rintro e w4 ⟨rfl,o4⟩;have mW:decide (((1:Nat):Int)<((1:Nat):Int))=false:=by decide
    rw[mW];have Vs:=Gm w4 o4;go_wp2_with fail;refine(bZ w4 o4).mono ?_;rintro e w5 ⟨rfl,o5⟩;go_wp2;go_ret2;refine⟨rfl,?_⟩;have PJ:=NL.out.trans o4 (fun _ e=>e) (fun _ _ e=>e.elim);refine PJ.trans o5 (fun _ e=>e) (fun b hb e=> ?_);omega
theorem pQ {w:World}{base:Nat}{T:TypeId}{a:Option Addr}{n c:Nat}{xs:List Value} (h:w.ownsRow base T 1 (.slice a n c) n xs) (hn:0<n):∃g,a=some ⟨g,0,none⟩∧base≤g∧aq w g T∧∀k v,xs[k]? =some v→w.cell? ⟨g,k,none⟩=some v:=by
 rcases h.2 with ⟨_,e⟩ |⟨g,cap,cur,hv,hb,hg,_,_,dr,fH⟩
 ·omega
 ·injection hv with e1 e2 e3
  refine⟨g,e1,hb,⟨cur,(0,0),hg⟩,fun k v hk=> ?_⟩;rw[cell_of_row _ g k cur _ (0,0) hg];rw[←fH,List.getElem?_take] at hk;split at hk
  ·rw[Array.getElem?_toList] at hk;exact hk
  ·cases hk
end
section
open Go.RowKit
attribute [local go_sem ↓] Go.wp_at_zero Go.wp_at_succ
def JM (xs:List Int) (r v:Int):Prop:=(∃j:Nat,j<xs.length∧v=j∧xs.getD j 0=r∧∀k,k<j→xs.getD k 0≠r)∨(v= -1∧∀k,k<xs.length→xs.getD k 0≠r)
theorem mw (w:World) (sa:Option Addr) (sc:Nat) (xs:List Int) (h:bY w sa xs) (hx:xs.length≤1000000) (r:Int):
 Calls Tryz.prog 163 #[.slice sa xs.length sc,.int .i32 r] w fun e w'=>(∃v:Int,e=.returned (.int .i64 v)∧JM xs r v)∧w'=w:=by
 go_enter Tryz.func163,Tryz.ntmps163;go_wp2_with fail
 go_loopg [8] xs.length (fun k v wr=>∃j:Nat,v=.int .i64 j∧j+k=xs.length∧Hid (∀k,k<j→xs.getD k 0≠r)∧wr=w)
 case atStart=>exact ⟨0,rfl,by omega,fun k hk=>by omega,rfl⟩
 case round=>
  obtain⟨j,rfl,jt,hA,rfl⟩:=hrel;have HJ:Hid (j+gk=xs.length):=jt;have mi:j≤xs.length:=by omega
  clear jt;by_cases aw:j<xs.length
  ·obtain⟨rb,ro,rfl,ht,hc⟩:=h (by intro e;simp[e] at aw)
   have y1:=hc j aw;have HC:Hid _:=hc;clear hc;have hw:IntKind.i64.wrap ((j:Int)+1)=(j:Int)+1:=by rw[IntKind.wrap_i64];omega
   have HQ:Hid (∀k,k<j→xs.getD k 0≠r):=hA;clear hA;generalize hp:xs.getD j 0=p at*
   have HP:Hid (xs.getD j 0=p):=hp;clear hp;by_cases hr:r=p
   ·subst hr
    go_wp2;go_ret;exact⟨⟨_,rfl,Or.inl ⟨j,aw,rfl,HP.out,HQ.out⟩⟩,rfl⟩
   ·have hb:(r==p)=false:=by simpa using hr
    go_wp2;go_roundg (gk - 1)
    case measure=>have:=HJ.out;omega
    case rel=>exact ⟨j+1,by first | rfl | simp[hw],by have:=HJ.out;omega,fun k hk=>by
     rcases Nat.lt_succ_iff_lt_or_eq.1 hk with h1 | h1
     ·exact HQ.out k h1
     ·subst h1;rw[HP.out];exact fun e=>hr e.symm,rfl⟩
  ·have he:j=xs.length:=by omega
   subst he;have HQ:Hid (∀k,k<xs.length→xs.getD k 0≠r):=hA;clear hA;go_wp2;go_ret;exact⟨⟨_,rfl,Or.inr ⟨rfl,HQ.out⟩⟩,rfl⟩
theorem iI (w:World) (sa:Option Addr) (sc:Nat) (xs:List Int) (h:bY w sa xs) (hx:xs.length≤1000000) (r:Int) (eO:∀k,k<xs.length→xs.getD k 0≠r):
 Calls Tryz.prog 198 #[.slice sa xs.length sc,.int .i32 r] w fun e w'=>e=.returned (.bool false)∧w'=w:=by
 go_enter Tryz.func198,Tryz.ntmps198;go_wp2_with fail;refine(mw w sa sc xs h hx r).mono ?_;rintro e w1 ⟨⟨v,rfl,hv⟩,rfl⟩
 have RM:v= -1:=by
  rcases hv with ⟨j,h1,h2,h3,h4⟩ |⟨h1,_⟩
  ·exact absurd h3 (eO j h1)
  ·exact h1
 subst RM;go_wp2;go_ret;exact⟨rfl,rfl⟩
theorem kl:Asc ⟨#[47,92]⟩ Adz.sideSpecial:=⟨by decide,by decide,by decide⟩
theorem mM (g:CG) (pp:Nat) (w:World) (i:Nat) (h:Cur g w i) (hp:Lead g pp w) (r:Int) (i':Nat) (hr:Adz.sideRune g.L g.pl i=.ok (r,i')):
 Calls Tryz.prog 197 #[.pointer (some ⟨pp,0,none⟩)] w fun e w'=>e=.returned (.tuple #[.int .i32 r,.pointer none])∧Cur g w' i'∧ae (·=g.c) w w':=by
 unfold Adz.sideRune at hr;have q0:=hp.at0;by_cases c2:Adz.peek g.L i=92
 ·have b2:(Adz.peek g.L i==92)=true:=by simp[c2]
  rw[b2] at hr;simp only[if_true] at hr;have HE:Hid (Adz.escaped g.L g.pl Adz.sideSpecial (i+1)=.ok (r,i')):=hr;clear hr b2;go_enter Tryz.func197,Tryz.ntmps197;go_wp2_with fail;refine(aC g w i 92 h c2 (by omega)).mono ?_;rintro e w1 ⟨rfl,cC,bq⟩;have q1:=(hp.moved bq).at0;go_wp2_with fail;refine(gP g _ (i+1) _ _ kl cC r i' HE.out).mono ?_;rintro e w2 ⟨rfl,aL,aK⟩;go_wp2;go_ret2;exact⟨rfl,aL,aW bq aK⟩
 ·have b2:(Adz.peek g.L i==92)=false:=by simpa using c2
  rw[b2] at hr;simp only[Bool.false_eq_true,if_false] at hr;have HE:Hid (Adz.plain g.L g.pl Adz.sideSpecial i=.ok (r,i')):=hr;clear hr b2;go_enter Tryz.func197,Tryz.ntmps197;go_wp2_with fail;refine(aH g w i 92 h c2).mono ?_;rintro e w1 ⟨rfl,n1,rfl⟩;go_wp2_with fail;refine(pM g _ i _ _ kl (h.drewN n1) r i' HE.out).mono ?_;rintro e w2 ⟨rfl,aL,aK⟩;go_wp2;go_ret2;exact⟨rfl,aL,((ae.refl (·=g.c) w).drewN n1).trans aK (fun _ e=>e) (fun _ _ e=>e)⟩
theorem jh {L pl:List Int}{i i':Nat}{r:Int} (h:Adz.sideRune L pl i=.ok (r,i')):i<i':=by
 unfold Adz.sideRune Adz.escaped Adz.plain at h;split at h
 ·split at h
  ·injection h with h;injection h with h1 h2;omega
  ·split at h
   ·injection h with h;injection h with h1 h2;omega
   ·cases h
 ·split at h
  ·cases h
  ·injection h with h;injection h with h1 h2;omega
theorem gZ (g:CG) (pp:Nat) (w:World) (i:Nat) (h:Cur g w i) (hp:Lead g pp w) (rs:List Int) (i':Nat) (hr:Adz.side g.L g.pl (g.L.length+1) [] i=.ok (rs,i')):
 Calls Tryz.prog 177 #[.pointer (some ⟨pp,0,none⟩)] w fun e w'=>∃rv,e=.returned (.tuple #[rv,.pointer none])∧cX w' rv rs∧rs.length≤g.L.length∧Cur g w' i'∧ae (·=g.c) w w':=by
 have HR:Hid (Adz.side g.L g.pl (g.L.length+1) [] i=.ok (rs,i')):=hr;clear hr;have eN:=h.le;have dy:=h.small;have cR:=h.lt;go_enter Tryz.func177,Tryz.ntmps177;go_wp2_with fail
 go_loopg [4] (g.L.length - i) (fun k v wr=>∃j qs m ra rc,v=.slice ra qs.length rc∧Hid (Cur g wr j)∧Hid (Lead g pp wr)∧Hid (wr.ownsRow w.heap.size 21 1 (.slice ra qs.length rc) qs.length (qs.map (.int .i32)))∧j+k=g.L.length∧Hid (g.L.length<m+j∧qs.length≤j∧Adz.side g.L g.pl m qs j=.ok (rs,i'))∧Hid (ae (fun b=>b=g.c∨w.heap.size≤b) w wr))
 case atStart=>exact ⟨i,[],g.L.length+1,none,0,rfl,h,hp,World.ownsRow_nil _ _ _ _,by omega,⟨by omega,by simp,HR.out⟩,ae.refl _ _⟩
 case round=>
  obtain⟨j,qs,m,ra,rc,rfl,hc,hl,hw,hk,hI,hO⟩:=hrel;obtain⟨hm,jW,hit⟩:=hI.out;have aU:Cur g wr j:=hc;have fi:Lead g pp wr:=hl;have bQ:ae (fun b=>b=g.c∨w.heap.size≤b) w wr:=hO;have HK:Hid (j+gk=g.L.length):=hk;have q1:=fi.at0;clear hk hc hl hI hO
  cases m with
  | zero=>have:=aU.le;omega
  | succ m=>
   unfold Adz.side at hit;by_cases bK:Adz.peek g.L j=47
   ·simp only[bK,beq_self_eq_true,if_true,Except.ok.injEq,Prod.mk.injEq] at hit
    obtain⟨rfl,rfl⟩:=hit;have mi:=aU.le;go_wp2_with fail;refine(aC g wr j 47 aU bK (by omega)).mono ?_;rintro e w1 ⟨rfl,cC,bq⟩;go_wp2;go_ret2;refine⟨_,rfl,jf (ag (Hid.out hw) bq (fun b hb e=>(aq.of_row (Hid.out hw) hb).ne aU.tc (by decide) e)) (Nat.zero_le _),by omega,cC,?_⟩;exact(bQ.trans bq (fun _ e=>e) (fun _ _ e=>Or.inl e):ae (fun b=>b=g.c∨w.heap.size≤b) w w1).mono (fun b hb e=>by rcases e with e | e;exact e;omega)
   ·have fs:(Adz.peek g.L j==47)=false:=by simpa using bK
    rw[fs] at hit;simp only[Bool.false_eq_true,if_false] at hit
    cases jD:Adz.sideRune g.L g.pl j with
    | error f=>rw [jD] at hit;cases hit
    | ok q=>
     obtain⟨p,j1⟩:=q;rw[jD] at hit;simp only at hit;have HP:Hid (Adz.sideRune g.L g.pl j=.ok (p,j1)):=jD;have HT:Hid (Adz.side g.L g.pl m (qs++ [p]) j1=.ok (rs,i')):=hit;have aw:=jh jD;have mi:=aU.le;clear jD hit fs;go_wp2_with fail;refine(aH g wr j 47 aU bK).mono ?_;rintro e w1 ⟨rfl,n1,rfl⟩;go_wp2_with fail;refine(mM g pp _ j (aU.drewN n1) (fi.drewN n1) p j1 HP.out).mono ?_;rintro e w2 ⟨rfl,aL,aK⟩;have o2:ae (·=g.c) wr w2:=((ae.refl (·=g.c) wr).drewN n1).trans aK (fun _ e=>e) (fun _ _ e=>e);have eH:=ag (Hid.out hw) o2 (fun b hb e=>(aq.of_row (Hid.out hw) hb).ne aU.tc (by decide) e);have CU:=aL.le;have dr:w.heap.size≤w2.heap.size:=Nat.le_trans bQ.size o2.size;have oa:ae (fun _=>False) w2 (w2.alloc (.cells #[.int .i32 p] 21)):=(ae.refl _ w2).alloc _;have ga:=ag eH oa (fun _ _=>id)
     have iD:bY (w2.alloc (.cells #[.int .i32 p] 21)) (some ⟨w2.heap.size,0,none⟩) [p]:=fun _=>⟨w2.heap.size,0,rfl,aq.new _ _ _ _,fun j hj=>by
      have:j=0:=by simp at hj;omega
      subst this;exact(ai.new w2 #[.int .i32 p] 21 0 _ rfl).1⟩
     have BY:(w2.alloc (.cells #[.int .i32 p] 21)).heap.size=w2.heap.size+1:=by simp
     go_wp2_with (at_builtin;refine wpList_append_runes _ (by rfl) _ _ (by rfl) w.heap.size (.slice ra qs.length rc) qs.length qs (by rfl) ga (some ⟨w2.heap.size,0,none⟩) 1 [p] 1 (by rfl) rfl iD (by omega) (by rw[BY];omega) ?_;intro a1 c1 w3 br o1 DF);go_roundg (g.L.length - j1)
     case measure=>have:=HK.out;omega
     case rel=>
      have o3:ae (fun b=>(Value.slice ra qs.length rc).ownBlock=some b) w2 w3:=oa.trans o1 (fun _ e=>e.elim) (fun _ _ e=>e);refine⟨j1,qs++ [p],m,a1,c1,by simp,?_,?_,?_,by omega,⟨by omega,by simp;omega,HT.out⟩,?_⟩
      ·exact aL.keeps o3 (aG eH aL.tc (by decide)) (fun hn e=>by
        have t1:=aL.tr hn;have t2:=eH.lt _ e;have t3:=h.tr hn;have:=t3.lt;omega) (aG eH aL.tp (by decide))
      ·have fy:Lead g pp w2:=fi.moved o2
       exact fy.keeps o3 (aG eH fy.typ (by decide))
      ·rw[List.length_append]
       exact br
      ·exact(bQ.trans o2 (fun _ e=>e) (fun _ _ e=>Or.inl e):ae (fun b=>b=g.c∨w.heap.size≤b) w w2).trans o3 (fun _ e=>e) (fun b hb e=>Or.inr (eH.lt b e).1)
theorem vF:∀(l:List Int),Adz.hasTwice l=false→∀i j,i<j→j<l.length→l.getD i 0≠l.getD j 0
 | [],_,i,j,_,hj=>by simp at hj
 | r::l,h,i,j,IY,hj=>by
  simp only[Adz.hasTwice,Bool.or_eq_false_iff] at h;obtain⟨h1,h2⟩:=h
  cases j with
  | zero=>omega
  | succ j=>
   simp only[List.length_cons] at hj
   cases i with
   | zero=>
    simp only[List.getD_cons_zero,List.getD_cons_succ];intro e
    have hm:r∈l:=by
     rw[e,List.getD_eq_getElem?_getD,List.getElem?_eq_getElem (by omega)];exact List.getElem_mem _
    simp[hm] at h1
   | succ i=>
    simp only[List.getD_cons_succ];exact vF l h2 i j (by omega) (by omega)
theorem uq (w:World) (sa:Option Addr) (sc:Nat) (xs:List Int) (h:bY w sa xs) (hx:xs.length≤1000000) (cU:xs.length≤sc) (eO:Adz.hasTwice xs=false):
 Calls Tryz.prog 178 #[.slice sa xs.length sc] w fun e w'=>e=.returned (.bool false)∧∃m,w'=w.drewN m:=by
 have ht:=vF xs eO;clear eO;have HT:Hid _:=ht;clear ht;go_enter Tryz.func178,Tryz.ntmps178;go_wp2_with fail
 go_loopg [7] xs.length (fun k v wr=>∃j:Nat,v=.int .i64 j∧j+k=xs.length∧∃m,wr=w.drewN m)
 case atStart=>exact ⟨0,rfl,by omega,0,rfl⟩
 case round=>
  obtain⟨j,rfl,jt,m,rfl⟩:=hrel;have HJ:Hid (j+gk=xs.length):=jt;have mi:j≤xs.length:=by omega
  clear jt;by_cases aw:j<xs.length
  ·obtain⟨rb,ro,rfl,ht,hc⟩:=h (by intro e;simp[e] at aw)
   have y1:=((ae.refl (fun _=>False) w).drewN m).keeps (hc j aw) id;have HC:Hid _:=hc;clear hc;have hw:IntKind.i64.wrap ((j:Int)+1)=(j:Int)+1:=by rw[IntKind.wrap_i64];omega
   generalize hp:xs.getD j 0=p at*
   have HP:Hid (xs.getD j 0=p):=hp;clear hp;have hlen:(xs.take j).length=j:=by rw[List.length_take];omega
   have bF:=iI (w.drewN m) (some ⟨rb,ro,none⟩) sc (xs.take j) (fun aJ=>⟨rb,ro,rfl,ht.keeps ((ae.refl (fun _=>False) w).drewN m) id,fun k hk=>by
    rw[hlen] at hk;have e1:(xs.take j).getD k 0=xs.getD k 0:=by rw[List.getD_eq_getElem?_getD,List.getD_eq_getElem?_getD,List.getElem?_take,if_pos hk]
    rw[e1];exact((ae.refl (fun _=>False) w).drewN m).keeps (HC.out k (by omega)) id⟩) (by omega) p (fun k hk=>by
    rw[hlen] at hk;have e1:(xs.take j).getD k 0=xs.getD k 0:=by rw[List.getD_eq_getElem?_getD,List.getD_eq_getElem?_getD,List.getElem?_take,if_pos hk]
    rw[e1,←HP.out];exact HT.out k j hk aw)
   rw[hlen] at bF;go_wp2_with fail;refine bF.mono ?_;clear bF;rintro e w1 ⟨rfl,rfl⟩;go_wp2;go_roundg (gk - 1)
   case measure=>have:=HJ.out;omega
   case rel=>exact ⟨j+1,by first | rfl | simp[hw],by have:=HJ.out;omega,m,rfl⟩
  ·have he:j=xs.length:=by omega
   subst he;go_wp2;go_ret;exact⟨rfl,m,rfl⟩
theorem ui (g:CG) (pp cb:Nat) (w:World) (i:Nat) (at_:Int) (h:Cur g w i) (hp:Lead g pp w) (c:Adz.Cmd) (hc:CmdAt w cb c) (c':Adz.Cmd) (i':Nat) (hr:Adz.exchange g.L g.pl c at_ i=.ok (c',i')):
 Calls Tryz.prog 151 #[.pointer (some ⟨pp,0,none⟩),.pointer (some ⟨cb,0,none⟩),.int .i64 at_] w fun e w'=>e=.returned (.pointer none)∧CmdAt w' cb c'∧Cur g w' i'∧ae (fun b=>b=g.c∨b=cb) w w':=by
 unfold Adz.exchange at hr;by_cases bK:Adz.peek g.L i=47
 ·have fs:(Adz.peek g.L i !=47)=false:=by simp[bK]
  rw[fs] at hr;simp only[Bool.false_eq_true,if_false] at hr
  cases lG:Adz.side g.L g.pl (g.L.length+1) [] (i+1) with
  | error f=>rw [lG] at hr;cases hr
  | ok q=>
   obtain⟨a,i1⟩:=q;rw[lG] at hr;simp only at hr
   cases fm:Adz.side g.L g.pl (g.L.length+1) [] i1 with
   | error f=>rw [fm] at hr;cases hr
   | ok q=>
    obtain⟨b,i2⟩:=q;rw[fm] at hr;simp only at hr
    cases cl:(a.length !=b.length || Adz.hasTwice a) with
    | true=>rw [cl] at hr;cases hr
    | false=>
     rw[cl] at hr;simp only[Bool.false_eq_true,if_false,Except.ok.injEq,Prod.mk.injEq] at hr;obtain⟨rfl,rfl⟩:=hr;simp only[Bool.or_eq_false_iff,bne_eq_false_iff_eq] at cl;obtain⟨hlen,Au⟩:=cl;have H1:Hid (Adz.side g.L g.pl (g.L.length+1) [] (i+1)=.ok (a,i1)):=lG;have H2:Hid (Adz.side g.L g.pl (g.L.length+1) [] i1=.ok (b,i2)):=fm;have q0:=hp.at0;have bM:cb≠g.c:=hc.typ.ne h.tc (by decide);have gH:pp≠cb:=hp.typ.ne hc.typ (by decide);have dy:=h.small;have Na:Hid _:=Au;clear lG fm fs Au;go_enter Tryz.func151,Tryz.ntmps151;go_wp2_with fail;refine(aC g w i 47 h bK (by omega)).mono ?_;rintro e w1 ⟨rfl,cC,bq⟩;have l1:=hp.moved bq;have q1:=l1.at0;have m1:=hc.keeps bq h.spares bM;go_wp2_with fail;refine(gZ g pp w1 (i+1) cC l1 a i1 H1.out).mono ?_;rintro e w2 ⟨rv,rfl,sw,xW,aL,aK⟩;obtain⟨ra,rc,rfl⟩:=ak sw;have l2:=l1.moved aK;have m2:=m1.keeps aK cC.spares bM;obtain⟨av,iv,om,fv,tv,k2,d2⟩:=m2.deep;have B8:=k2 12 _ rfl;rw[hlen] at sw;have o3:ae (·=cb) w2 (w2.setCell ⟨cb,12,none⟩ (.slice ra b.length rc)):=af _ _ _ _;have rB:Spares w2 (·=cb):=aS m2.typ (by decide);have k3:ai (w2.setCell ⟨cb,12,none⟩ (.slice ra b.length rc)) cb (aA {c with old:=a} av iv om (.slice ra b.length rc) tv):=k2.set 12 _;have t3:aq (w2.setCell ⟨cb,12,none⟩ (.slice ra b.length rc)) cb 167:=m2.typ.set;have dJ:=aL.aside o3 m2.typ;have l3:=l2.keeps o3 gH;have d3:=d2.keeps o3 rB;have r3:cX (w2.setCell ⟨cb,12,none⟩ (.slice ra b.length rc)) (.slice ra b.length rc) a:=sw.keeps o3 rB.rune
     go_wp2_with fail;generalize w2.setCell ⟨cb,12,none⟩ (.slice ra b.length rc)=w3 at*
     clear B8 k2 d2;refine(gZ g pp w3 i1 dJ l3 b i2 H2.out).mono ?_;rintro e w4 ⟨rv,rfl,zA,lC,eu,dg⟩;obtain⟨rb,vh,rfl⟩:=ak zA;have l4:=l3.moved dg;have t4:=t3.keeps dg bM;have k4:=k3.keeps dg bM;have d4:=d3.keeps dg dJ.spares;have r4:=r3.keeps dg dJ.spares.rune;have Jh:=k4 13 _ rfl;have o5:ae (·=cb) w4 (w4.setCell ⟨cb,13,none⟩ (.slice rb b.length vh)):=af _ _ _ _;have vx:Spares w4 (·=cb):=aS t4 (by decide);have k5:ai (w4.setCell ⟨cb,13,none⟩ (.slice rb b.length vh)) cb (aA {c with old:=a,new:=b} av iv om (.slice ra b.length rc) (.slice rb b.length vh)):=k4.set 13 _;have t5:aq (w4.setCell ⟨cb,13,none⟩ (.slice rb b.length vh)) cb 167:=t4.set;have jO:=eu.aside o5 t4;have l5:=l4.keeps o5 gH;have d5:=d4.keeps o5 vx;have r5:=r4.keeps o5 vx.rune;have s5:cX (w4.setCell ⟨cb,13,none⟩ (.slice rb b.length vh)) (.slice rb b.length vh) b:=zA.keeps o5 vx.rune;have jG:=(k5 12 _ rfl).1;have jH:=(k5 13 _ rfl).1;go_wp2_with fail;generalize w4.setCell ⟨cb,13,none⟩ (.slice rb b.length vh)=w5 at*
     have cD:w5.ownsRow 0 21 1 (.slice ra a.length rc) a.length (a.map (.int .i32)):=by
      have:=r5;unfold cX at this
      rwa [←hlen] at this
     have qA:=Sl.of_row cD;have bF:=fun m=>uq (w5.drewN m) ra rc a (qA.1.space.keeps ((ae.refl (fun _=>False) _).drewN m) (fun _ _=>id)) (by omega) qA.2 Na.out;rw[hlen] at bF;have HD:Hid _:=d5;have SF:Hid _:=k5;have SZ:Hid _:=r5;have M7:Hid _:=s5;clear d5 k5 r5 s5 qA cD k3 k4 d3 d4 r3 r4
     go_quiet ((go_at_call 178;exact Calls.quiet_of (bF _)))
     go_wp2;go_ret;have oq:ae (fun _=>False) w5 (w5.drewN nq):=(ae.refl _ w5).drewN nq;have dq:=HD.out.keeps oq ⟨fun _ _=>id,fun _ _=>id,fun _ _=>id,fun _ _=>id,fun _ _=>id⟩
     have sK:ae (fun b=>b=g.c∨b=cb) w w5:=by
      have e1:ae (fun b=>b=g.c∨b=cb) w w2:=(aW bq aK).mono (fun _ _ e=>Or.inl e);have e2:ae (fun b=>b=g.c∨b=cb) w w3:=e1.trans o3 (fun _ e=>e) (fun _ _ e=>Or.inr e);have e3:ae (fun b=>b=g.c∨b=cb) w w4:=e2.trans dg (fun _ e=>e) (fun _ _ e=>Or.inl e);exact e3.trans o5 (fun _ e=>e) (fun _ _ e=>Or.inr e)
     exact⟨rfl,⟨t5.keeps oq id,av,iv,om,_,_,ai.keeps SF.out oq id,⟨dq.a,dq.i,dq.r,cX.keeps SZ.out oq (fun _ _=>id),cX.keeps M7.out oq (fun _ _=>id)⟩⟩,jO.drewN nq,sK.drewN nq⟩
 ·have fs:(Adz.peek g.L i !=47)=true:=by simpa[bne] using bK
  rw[fs] at hr
  cases hr
theorem Dk (g:CG) (pp n i:Nat) (c:Adz.Cmd) (hk:Adz.behindKind c.what=some 6) (c':Adz.Cmd) (i':Nat) (hr:∀at_,Adz.exchange g.L g.pl c at_ i=.ok (c',i')):tI g pp n c i c' i':=fun w cb at_ h hp ht hc=>by
 obtain⟨mb,m1,m2⟩:=ht.map;obtain⟨av,iv,rv,fv,tv,kk,dd⟩:=hc.deep;have k0:=(kk 0 _ rfl).1;have q0:=hp.at0
 have kD:∀m,(Instr.lookup 115 (.map (some mb)) (.int .i32 c.what) false).run Tryz.prog (w.drewN m)=.ok (.int .i64 6) (w.drewN m):=fun m=>by
  have:=bj (w.drewN m) mb c.what m2;rw[hk] at this;exact this
 have bF:=fun m=>ui g pp cb (w.drewN m) i at_ (h.drewN m) (hp.drewN m) c (hc.keeps ((ae.refl (·=g.c) w).drewN m) h.spares (hc.typ.ne h.tc (by decide))) c' i' (hr at_);clear kk dd hr;generalize c.what=wh at*
 go_enter Tryz.func103,Tryz.ntmps103;go_wp2_with fail
 go_quiet (fail)
 go_wp2_with fail;have o1:ae (·=g.c) w (w.drewN nq):=(ae.refl _ w).drewN nq;refine(bF nq).mono ?_;rintro e w2 ⟨rfl,aL,Hp,aK⟩;go_wp2;go_ret;exact⟨rfl,aL,Hp,o1.trans aK (fun _ e=>Or.inl e) (fun _ _ e=>e)⟩
end
end Go.Proofs.YtbiobhghnldckaaGreatDoor
