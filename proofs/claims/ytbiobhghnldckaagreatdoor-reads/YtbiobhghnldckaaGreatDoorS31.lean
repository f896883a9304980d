/- Proved: source.New of a text all of whose runes are well-formed. Condition: 'DecW': what the text's runes and places are. -/
import Derived.Test.YtbiobhghnldckaaGreatDoorS30
import Derived.Lib.DecodeN
namespace Go.Proofs.YtbiobhghnldckaaGreatDoor
set_option linter.unusedVariables false
set_option maxRecDepth 100000
set_option maxHeartbeats 6400000
section
open Go.RowKit
structure DecW (s:ByteArray) (L pl:List Int):Prop where
 len:pl.length=L.length+1
 zero:Adz.place pl 0=0
 last:Adz.place pl L.length=s.size
 step:∀k,k<L.length→∃p q:Nat,Adz.place pl k=p∧Adz.place pl (k+1)=q∧p<s.size∧((Utf8.decode s p).1:Int)=Adz.peek L k∧p+(Utf8.decode s p).2=q
 small:s.size≤500
 few:L.length≤500
 good:∀k,k<L.length→0≤Adz.peek L k∧Adz.peek L k≤1114111∧Lib.validRune (Adz.peek L k)=true
 sp:∀k,k<L.length→Adz.peek L k=65533→∀p:Nat,Adz.place pl k=p→Lib.hasPrefix (s.extract p s.size).data.toList [239,191,189]=true
theorem NewSt.cur3 {s:ByteArray}{L pl:List Int}{c ib base:Nat}{w:World}{k:Nat} (h:NewSt s L pl c ib base w k L.length (L.length+1)) (hd:DecW s L pl):∃g:CG,g.L=L∧g.pl=pl∧g.c=c∧Cur g w 0∧g.L.length≤g.rcap:=by
 obtain⟨rv,r1,r2⟩:=h.r;obtain⟨pv,p1,p2⟩:=h.p
 obtain⟨pb,pc,rfl⟩:∃pb pc,pv=.slice (some ⟨pb,0,none⟩) (L.length+1) pc:=by
  rcases p2.2 with ⟨_,h0⟩ |⟨gb,cap,cur,q,_⟩
  ·omega
  ·exact⟨gb,cap,q⟩
 have tp:=aq.of_row p2 (b:=pb) rfl
 have F0:∀j,j≤L.length→w.cell? ⟨pb,j,none⟩=some (.int .i64 (Adz.place pl j)):=by
  intro j hj;rw[p2.cellAt j (by omega)];have hlen:=hd.len;simp[Adz.place,show j<L.length+1 by omega,show j<pl.length by omega]
 by_cases hL:L.length=0
 ·obtain⟨ra,rc,rfl⟩:=ak r2
  exact⟨⟨c,c+1,rc,pb,pc,L,pl⟩,rfl,rfl,rfl,⟨⟨ra,r1,fun e=>absurd hL e⟩,p1,h.c2,h.f2,fun j hj=>by simp only at hj;omega,F0,h.tc,fun e=>absurd hL e,tp,by simp,tp.ne h.tc (by decide),by simp,hd.few,fun k hk=>⟨(hd.good k hk).1,(hd.good k hk).2.1,(hd.good k hk).2.2⟩⟩,by show L.length≤rc;omega⟩
 ·obtain⟨rb,rc,rfl,ct⟩:∃pb pc,rv=.slice (some ⟨pb,0,none⟩) L.length pc∧L.length≤pc:=by
   rcases r2.2 with ⟨_,h0⟩ |⟨gb,cap,cur,q,_,_,hc,_⟩
   ·omega
   ·exact⟨gb,cap,q,hc⟩
  have tr:=aq.of_row r2 (b:=rb) rfl;refine⟨⟨c,rb,rc,pb,pc,L,pl⟩,rfl,rfl,rfl,⟨⟨some ⟨rb,0,none⟩,r1,fun _=>rfl⟩,p1,h.c2,h.f2,fun j hj=> ?_,F0,h.tc,fun _=>tr,tp,tr.ne h.tc (by decide),tp.ne h.tc (by decide),by simp,hd.few,fun k hk=>⟨(hd.good k hk).1,(hd.good k hk).2.1,(hd.good k hk).2.2⟩⟩,ct⟩;simp only at hj;rw[r2.cellAt j (by omega)];simp[Adz.peek,hj]
theorem Em (s:ByteArray) (L pl:List Int) (hd:DecW s L pl) (w:World):
 Calls Tryz.prog 49 #[.string s] w fun e w'=>∃g:CG,g.L=L∧g.pl=pl∧e=.returned (.tuple #[.pointer (some ⟨g.c,0,none⟩),.pointer none])∧Cur g w' 0∧ae (fun _=>False) w w'∧w.heap.size≤g.c∧g.L.length≤g.rcap:=by
 have dy:=hd.small;have Rt:=hd.few;obtain⟨i0,dZ,fQ,eJ,eF⟩:=info_parts kI;obtain⟨j0,BG,Je,Jf,Jg⟩:=info_parts eY;go_enter Tryz.func49,Tryz.ntmps49;go_wp2_with fail
 have bZ:NewSt s L pl w.heap.size (w.heap.size+1) (w.heap.size+2) ((w.alloc (.cells #[.slice none 0 0,.slice none 0 0,.int .i64 0] 144)).iter s 0) 0 0 0:=by
  have hk:=(ai.new w #[.slice none 0 0,.slice none 0 0,.int .i64 0] 144).alloc (.stringIter s 0);refine⟨?_,⟨_,(hk 0 _ rfl).1,World.ownsRow_nil _ _ _ _⟩,⟨_,(hk 1 _ rfl).1,World.ownsRow_nil _ _ _ _⟩,(hk 2 _ rfl).1,(hk 0 _ rfl).2,(hk 1 _ rfl).2,(hk 2 _ rfl).2,(aq.new _ _ _ _).alloc _,?_,by omega,by omega⟩
  ·rw[hd.zero]
   have:=World.iter_heap (w.alloc (.cells #[.slice none 0 0,.slice none 0 0,.int .i64 0] 144)) s 0;simpa using this
  ·simp[World.iter]
 have oo:ae (fun _=>False) w ((w.alloc (.cells #[.slice none 0 0,.slice none 0 0,.int .i64 0] 144)).iter s 0):=((ae.refl _ w).alloc _).alloc _;generalize (w.alloc (.cells #[.slice none 0 0,.slice none 0 0,.int .i64 0] 144)).iter s 0=w0 at*
 go_loopg [] L.length (fun k wr=>∃j,j+k=L.length∧Hid (NewSt s L pl w.heap.size (w.heap.size+1) (w.heap.size+2) wr j j j)∧Hid (ae (fun b=>w.heap.size≤b) w wr))
 case atStart=>exact ⟨0,by omega,bZ,oo.mono (fun _ _ e=>e.elim)⟩
 case round=>
  obtain⟨j,jt,hS,hO⟩:=hrel;have jC:NewSt s L pl w.heap.size (w.heap.size+1) (w.heap.size+2) wr j j j:=hS;have bQ:ae (fun b=>w.heap.size≤b) w wr:=hO;have HJ:Hid (j+gk=L.length):=jt;clear hS hO bZ;by_cases aw:j<L.length
  ·obtain⟨p,q,e1,e2,e3,e4,e5⟩:=hd.step j aw
   by_cases d2:Adz.peek L j=65533
   case neg=>
    have Nj:(Adz.peek L j==65533)=false:=by simpa using d2
    have eP:∀ty,(Instr.next (.pointer (some ⟨w.heap.size+1,0,none⟩)) true ty).run Tryz.prog wr=.ok (.tuple #[.bool true,.int .i64 (Adz.place pl j),.int .i32 (Adz.peek L j)]) (wr.iterAt (w.heap.size+1) s (Adz.place pl (j+1)).toNat):=fun ty=>by
     have hit:=jC.it;rw[e1] at hit;have:=Lib.run_next_any_at (P:=Tryz.prog) wr (w.heap.size+1) s p ty hit e3;rw[e4,e5] at this;rw[e1,e2];simpa using this
    have h1:=jC.next (j+1);have o1:=dA wr (w.heap.size+1) s (Adz.place pl (j+1)).toNat;generalize wr.iterAt (w.heap.size+1) s (Adz.place pl (j+1)).toNat=w1 at*
    obtain⟨rv,r1,r2⟩:=h1.r;have f0:=h1.f0;have lr:w.heap.size<w1.heap.size:=h1.tc.lt;have aJ:rv.ownBlock≠some w.heap.size:=aG r2 h1.tc (by decide);have CR:=h1.bs;have hlen:((L.take j).map (Value.int .i32)).length=j*1:=by simp;omega
    have HD:Hid (DecW s L pl):=hd;clear hd e1 e2 e3 e4 e5;go_upto_region 8 with (at_builtin;refine wpList_append_lies _ (by rfl) _ _ _ (by rfl) (w.heap.size+2) 21 i0 _ 1 4 Tryz.underlying103 dZ fQ eJ eF rfl (by omega) rv j ((L.take j).map (Value.int .i32)) (by rfl) (r2.alloc _) ⟨w1.heap.size,0,none⟩ 1 1 [.int .i32 (Adz.peek L j)] (by rfl) (by rfl) (World.news_of_block (cs:= #[.int .i32 (Adz.peek L j)]) (t:=21) (fr:=(0,0)) (heap_alloc_new w1 _)) (by simp[Value.oneCell']) (by omega) (by unfold maxLen;omega) (by omega) (by simp;omega) (w1.heap.size+1) (by simp) ?_;intro g1 cap w2 br aI bJ eG;have kc:=(aI.cell_far ⟨w.heap.size,0,none⟩ (by simp;omega) (Ne.symm aJ)).trans ((World.cell?_alloc_past _ _ _ lr).trans r1);have kf:=(aI.frozen_far ⟨w.heap.size,0,none⟩ (by simp;omega) (Ne.symm aJ)).trans ((World.frozen?_alloc_past _ _ _ lr).trans f0))
    have hv:(Value.slice (some ⟨g1,0,none⟩) (j+1) cap).ownBlock≠some w.heap.size:=by
     rcases bJ with h | h
     ·intro e
      simp[Value.ownBlock] at e;exact aJ (by rw[h,e])
     ·intro e
      simp[Value.ownBlock] at e;omega
    obtain⟨u1,u2,u3,u4⟩:=bg ((ae.refl _ w1).alloc _) aI kc br hv lr aJ;have h2:=h1.rune (kr':=j+1) r1 u1 (by rw[jz aw];simpa using u2) u3 u4
    have o2:ae (fun b=>w.heap.size≤b) w (w2.setCell ⟨w.heap.size,0,none⟩ (.slice (some ⟨g1,0,none⟩) (j+1) cap)):=(bQ.trans o1 (fun _ e=>e) (fun b _ e=>by omega):ae (fun b=>w.heap.size≤b) w w1).trans u3 (fun _ e=>e) (fun b _ e=>by
     rcases e with e | e
     ·omega
     ·have:=(r2.lt b e).1;omega)
    generalize w2.setCell ⟨w.heap.size,0,none⟩ (.slice (some ⟨g1,0,none⟩) (j+1) cap)=w3 at*
    obtain⟨pv,p1,p2⟩:=h2.p;have f1:=h2.f1;have sI:w.heap.size<w3.heap.size:=h2.tc.lt;have bu:pv.ownBlock≠some w.heap.size:=aG p2 h2.tc (by decide);have DG:=h2.bs;clear u1 u2 u3 u4 br aI bJ eG kc kf r1 r2 f0;go_wp2_with (at_builtin;refine wpList_append_lies _ (by rfl) _ _ _ (by rfl) (w.heap.size+2) 3 j0 _ 1 8 Tryz.underlying35 BG Je Jf Jg rfl (by omega) pv j ((pl.take j).map (Value.int .i64)) (by rfl) (p2.alloc _) ⟨w3.heap.size,0,none⟩ 1 1 [.int .i64 (Adz.place pl j)] (by rfl) (by rfl) (World.news_of_block (cs:= #[.int .i64 (Adz.place pl j)]) (t:=3) (fr:=(0,0)) (heap_alloc_new w3 _)) (by simp[Value.oneCell']) (by omega) (by unfold maxLen;omega) (by omega) (by simp;omega) (w3.heap.size+1) (by simp) ?_;intro g2 aT w4 ay ao bH dM;have gq:=(ao.cell_far ⟨w.heap.size,1,none⟩ (by simp;omega) (Ne.symm bu)).trans ((World.cell?_alloc_past _ _ _ sI).trans p1);have sA:=(ao.frozen_far ⟨w.heap.size,1,none⟩ (by simp;omega) (Ne.symm bu)).trans ((World.frozen?_alloc_past _ _ _ sI).trans f1))
    have uN:(Value.slice (some ⟨g2,0,none⟩) (j+1) aT).ownBlock≠some w.heap.size:=by
     rcases bH with h | h
     ·intro e
      simp[Value.ownBlock] at e;exact bu (by rw[h,e])
     ·intro e
      simp[Value.ownBlock] at e;omega
    obtain⟨v1,v2,v3,v4⟩:=bg ((ae.refl _ w3).alloc _) ao gq ay uN sI bu;have eX:=HD.out.len;have h3:=h2.place (kp':=j+1) p1 v1 (by rw[fM (by omega)];simpa using v2) v3 v4
    have o3:=o2.trans v3 (fun _ e=>e) (fun b _ e=>by
     rcases e with e | e
     ·omega
     ·have:=(p2.lt b e).1;omega)
    go_roundg (gk - 1)
    case measure=>have:=HJ.out;omega
    case rel=>exact ⟨j+1,by have:=HJ.out;omega,h3,o3⟩
   case pos=>
    have Nj:(Adz.peek L j==65533)=true:=by simp[d2]
    have Gh:Hid _:=hd.sp j aw d2 p e1;have E1:Hid _:=e1;have M5:Hid _:=e3;have D2:Hid _:=d2;clear d2
    have eP:∀ty,(Instr.next (.pointer (some ⟨w.heap.size+1,0,none⟩)) true ty).run Tryz.prog wr=.ok (.tuple #[.bool true,.int .i64 (Adz.place pl j),.int .i32 (Adz.peek L j)]) (wr.iterAt (w.heap.size+1) s (Adz.place pl (j+1)).toNat):=fun ty=>by
     have hit:=jC.it;rw[e1] at hit;have:=Lib.run_next_any_at (P:=Tryz.prog) wr (w.heap.size+1) s p ty hit e3;rw[e4,e5] at this;rw[e1,e2];simpa using this
    have h1:=jC.next (j+1);have o1:=dA wr (w.heap.size+1) s (Adz.place pl (j+1)).toNat;generalize wr.iterAt (w.heap.size+1) s (Adz.place pl (j+1)).toNat=w1 at*
    obtain⟨rv,r1,r2⟩:=h1.r;have f0:=h1.f0;have lr:w.heap.size<w1.heap.size:=h1.tc.lt;have aJ:rv.ownBlock≠some w.heap.size:=aG r2 h1.tc (by decide);have CR:=h1.bs;have hlen:((L.take j).map (Value.int .i32)).length=j*1:=by simp;omega
    have HD:Hid (DecW s L pl):=hd;clear hd e1 e2 e3 e4 e5;have BW:Lib.hasPrefix (s.extract p s.size).data.toList [239,191,189]=true:=Gh.out;have Bk:Adz.place pl j=(p:Int):=E1.out;have Hi:p<s.size:=M5.out;rw[Bk] at eP;clear Bk;go_wp2_with fail;refine(gy _ _).mono ?_;rintro e w' ⟨rfl,qe⟩;rw[BW,qe,←E1.out];clear qe w' BW;go_upto_region 8 with (at_builtin;refine wpList_append_lies _ (by rfl) _ _ _ (by rfl) (w.heap.size+2) 21 i0 _ 1 4 Tryz.underlying103 dZ fQ eJ eF rfl (by omega) rv j ((L.take j).map (Value.int .i32)) (by rfl) (r2.alloc _) ⟨w1.heap.size,0,none⟩ 1 1 [.int .i32 (Adz.peek L j)] (by rfl) (by rfl) (World.news_of_block (cs:= #[.int .i32 (Adz.peek L j)]) (t:=21) (fr:=(0,0)) (heap_alloc_new w1 _)) (by simp[Value.oneCell']) (by omega) (by unfold maxLen;omega) (by omega) (by simp;omega) (w1.heap.size+1) (by simp) ?_;intro g1 cap w2 br aI bJ eG;have kc:=(aI.cell_far ⟨w.heap.size,0,none⟩ (by simp;omega) (Ne.symm aJ)).trans ((World.cell?_alloc_past _ _ _ lr).trans r1);have kf:=(aI.frozen_far ⟨w.heap.size,0,none⟩ (by simp;omega) (Ne.symm aJ)).trans ((World.frozen?_alloc_past _ _ _ lr).trans f0))
    have hv:(Value.slice (some ⟨g1,0,none⟩) (j+1) cap).ownBlock≠some w.heap.size:=by
     rcases bJ with h | h
     ·intro e
      simp[Value.ownBlock] at e;exact aJ (by rw[h,e])
     ·intro e
      simp[Value.ownBlock] at e;omega
    obtain⟨u1,u2,u3,u4⟩:=bg ((ae.refl _ w1).alloc _) aI kc br hv lr aJ;have h2:=h1.rune (kr':=j+1) r1 u1 (by rw[jz aw];simpa using u2) u3 u4
    have o2:ae (fun b=>w.heap.size≤b) w (w2.setCell ⟨w.heap.size,0,none⟩ (.slice (some ⟨g1,0,none⟩) (j+1) cap)):=(bQ.trans o1 (fun _ e=>e) (fun b _ e=>by omega):ae (fun b=>w.heap.size≤b) w w1).trans u3 (fun _ e=>e) (fun b _ e=>by
     rcases e with e | e
     ·omega
     ·have:=(r2.lt b e).1;omega)
    generalize w2.setCell ⟨w.heap.size,0,none⟩ (.slice (some ⟨g1,0,none⟩) (j+1) cap)=w3 at*
    obtain⟨pv,p1,p2⟩:=h2.p;have f1:=h2.f1;have sI:w.heap.size<w3.heap.size:=h2.tc.lt;have bu:pv.ownBlock≠some w.heap.size:=aG p2 h2.tc (by decide);have DG:=h2.bs;clear u1 u2 u3 u4 br aI bJ eG kc kf r1 r2 f0;go_wp2_with (at_builtin;refine wpList_append_lies _ (by rfl) _ _ _ (by rfl) (w.heap.size+2) 3 j0 _ 1 8 Tryz.underlying35 BG Je Jf Jg rfl (by omega) pv j ((pl.take j).map (Value.int .i64)) (by rfl) (p2.alloc _) ⟨w3.heap.size,0,none⟩ 1 1 [.int .i64 (Adz.place pl j)] (by rfl) (by rfl) (World.news_of_block (cs:= #[.int .i64 (Adz.place pl j)]) (t:=3) (fr:=(0,0)) (heap_alloc_new w3 _)) (by simp[Value.oneCell']) (by omega) (by unfold maxLen;omega) (by omega) (by simp;omega) (w3.heap.size+1) (by simp) ?_;intro g2 aT w4 ay ao bH dM;have gq:=(ao.cell_far ⟨w.heap.size,1,none⟩ (by simp;omega) (Ne.symm bu)).trans ((World.cell?_alloc_past _ _ _ sI).trans p1);have sA:=(ao.frozen_far ⟨w.heap.size,1,none⟩ (by simp;omega) (Ne.symm bu)).trans ((World.frozen?_alloc_past _ _ _ sI).trans f1))
    have uN:(Value.slice (some ⟨g2,0,none⟩) (j+1) aT).ownBlock≠some w.heap.size:=by
     rcases bH with h | h
     ·intro e
      simp[Value.ownBlock] at e;exact bu (by rw[h,e])
     ·intro e
      simp[Value.ownBlock] at e;omega
    obtain⟨v1,v2,v3,v4⟩:=bg ((ae.refl _ w3).alloc _) ao gq ay uN sI bu;have eX:=HD.out.len;have h3:=h2.place (kp':=j+1) p1 v1 (by rw[fM (by omega)];simpa using v2) v3 v4
    have o3:=o2.trans v3 (fun _ e=>e) (fun b _ e=>by
     rcases e with e | e
     ·omega
     ·have:=(p2.lt b e).1;omega)
    go_roundg (gk - 1)
    case measure=>have:=HJ.out;omega
    case rel=>exact ⟨j+1,by have:=HJ.out;omega,h3,o3⟩
  ·have IZ:j=L.length:=by have:=HJ.out;omega
   subst IZ
   have fO:∀ty,(Instr.next (.pointer (some ⟨w.heap.size+1,0,none⟩)) true ty).run Tryz.prog wr=.ok (.tuple #[.bool false]) wr:=fun ty=>
    Lib.run_next_end_at (P:=Tryz.prog) wr (w.heap.size+1) s _ ty jC.it (by rw[hd.last];simp)
   obtain⟨pv,p1,p2⟩:=jC.p;have f1:=jC.f1;have sI:w.heap.size<wr.heap.size:=jC.tc.lt;have bu:pv.ownBlock≠some w.heap.size:=aG p2 jC.tc (by decide);have DG:=jC.bs;have HD:Hid (DecW s L pl):=hd;clear hd aw jt;go_wp2_with (at_builtin;refine wpList_append_lies _ (by rfl) _ _ _ (by rfl) (w.heap.size+2) 3 j0 _ 1 8 Tryz.underlying35 BG Je Jf Jg rfl (by omega) pv L.length ((pl.take L.length).map (Value.int .i64)) (by rfl) (p2.alloc _) ⟨wr.heap.size,0,none⟩ 1 1 [.int .i64 (s.size:Int)] (by rfl) (by rfl) (World.news_of_block (cs:= #[.int .i64 (s.size:Int)]) (t:=3) (fr:=(0,0)) (heap_alloc_new wr _)) (by simp[Value.oneCell']) (by omega) (by unfold maxLen;omega) (by omega) (by simp;omega) (wr.heap.size+1) (by simp) ?_;intro g2 aT w4 ay ao bH dM;have gq:=(ao.cell_far ⟨w.heap.size,1,none⟩ (by simp;omega) (Ne.symm bu)).trans ((World.cell?_alloc_past _ _ _ sI).trans p1);have sA:=(ao.frozen_far ⟨w.heap.size,1,none⟩ (by simp;omega) (Ne.symm bu)).trans ((World.frozen?_alloc_past _ _ _ sI).trans f1))
   have uN:(Value.slice (some ⟨g2,0,none⟩) (L.length+1) aT).ownBlock≠some w.heap.size:=by
    rcases bH with h | h
    ·intro e
     simp[Value.ownBlock] at e;exact bu (by rw[h,e])
    ·intro e
     simp[Value.ownBlock] at e;omega
   obtain⟨v1,v2,v3,v4⟩:=bg ((ae.refl _ wr).alloc _) ao gq ay uN sI bu;have eX:=HD.out.len;have iS:=HD.out.last;have h3:=jC.place (kp':=L.length+1) p1 v1 (by rw[fM (by omega),iS];simpa using v2) v3 v4
   have o3:=bQ.trans v3 (fun _ e=>e) (fun b _ e=>by
    rcases e with e | e
    ·omega
    ·have:=(p2.lt b e).1;omega)
   obtain⟨g,g1,TU,g3,g4,g5⟩:=h3.cur3 HD.out;go_ret2;refine⟨g,g1,TU,by rw[g3];rfl,g4,o3.mono (fun b hb e=>by omega),by omega,g5⟩
theorem uY {s:ByteArray}{L pl:List Int} (hd:DecW s L pl):tN s L pl:=fun w=>Em s L pl hd w
structure DecE (s:ByteArray) (L pl:List Int) (at_:Nat):Prop where
 len:pl.length=L.length+1
 zero:Adz.place pl 0=0
 last:Adz.place pl L.length=(at_:Int)
 lt:at_<s.size
 bad:(Utf8.decode s at_).1=65533
 nosp:Lib.hasPrefix (s.extract at_ s.size).data.toList [239,191,189]=false
 step:∀k,k<L.length→∃p q:Nat,Adz.place pl k=p∧Adz.place pl (k+1)=q∧p<s.size∧((Utf8.decode s p).1:Int)=Adz.peek L k∧p+(Utf8.decode s p).2=q
 small:s.size≤500
 few:L.length≤500
 sp:∀k,k<L.length→Adz.peek L k=65533→∀p:Nat,Adz.place pl k=p→Lib.hasPrefix (s.extract p s.size).data.toList [239,191,189]=true
theorem El (s:ByteArray) (L pl:List Int) (at_:Nat) (hd:DecE s L pl at_) (w:World):
 Calls Tryz.prog 49 #[.string s] w fun e w'=>∃v,e=.returned (.tuple #[.pointer none,v])∧ck w w' v (2,(at_:Int))∧ae (fun _=>False) w w':=by
 have dy:=hd.small;have Rt:=hd.few;obtain⟨i0,dZ,fQ,eJ,eF⟩:=info_parts kI;obtain⟨j0,BG,Je,Jf,Jg⟩:=info_parts eY;go_enter Tryz.func49,Tryz.ntmps49;go_wp2_with fail
 have bZ:NewSt s L pl w.heap.size (w.heap.size+1) (w.heap.size+2) ((w.alloc (.cells #[.slice none 0 0,.slice none 0 0,.int .i64 0] 144)).iter s 0) 0 0 0:=by
  have hk:=(ai.new w #[.slice none 0 0,.slice none 0 0,.int .i64 0] 144).alloc (.stringIter s 0);refine⟨?_,⟨_,(hk 0 _ rfl).1,World.ownsRow_nil _ _ _ _⟩,⟨_,(hk 1 _ rfl).1,World.ownsRow_nil _ _ _ _⟩,(hk 2 _ rfl).1,(hk 0 _ rfl).2,(hk 1 _ rfl).2,(hk 2 _ rfl).2,(aq.new _ _ _ _).alloc _,?_,by omega,by omega⟩
  ·rw[hd.zero]
   have:=World.iter_heap (w.alloc (.cells #[.slice none 0 0,.slice none 0 0,.int .i64 0] 144)) s 0;simpa using this
  ·simp[World.iter]
 have oo:ae (fun _=>False) w ((w.alloc (.cells #[.slice none 0 0,.slice none 0 0,.int .i64 0] 144)).iter s 0):=((ae.refl _ w).alloc _).alloc _;generalize (w.alloc (.cells #[.slice none 0 0,.slice none 0 0,.int .i64 0] 144)).iter s 0=w0 at*
 go_loopg [] L.length (fun k wr=>∃j,j+k=L.length∧Hid (NewSt s L pl w.heap.size (w.heap.size+1) (w.heap.size+2) wr j j j)∧Hid (ae (fun b=>w.heap.size≤b) w wr))
 case atStart=>exact ⟨0,by omega,bZ,oo.mono (fun _ _ e=>e.elim)⟩
 case round=>
  obtain⟨j,jt,hS,hO⟩:=hrel;have jC:NewSt s L pl w.heap.size (w.heap.size+1) (w.heap.size+2) wr j j j:=hS;have bQ:ae (fun b=>w.heap.size≤b) w wr:=hO;have HJ:Hid (j+gk=L.length):=jt;clear hS hO bZ;by_cases aw:j<L.length
  ·obtain⟨p,q,e1,e2,e3,e4,e5⟩:=hd.step j aw
   by_cases d2:Adz.peek L j=65533
   case neg=>
    have Nj:(Adz.peek L j==65533)=false:=by simpa using d2
    have eP:∀ty,(Instr.next (.pointer (some ⟨w.heap.size+1,0,none⟩)) true ty).run Tryz.prog wr=.ok (.tuple #[.bool true,.int .i64 (Adz.place pl j),.int .i32 (Adz.peek L j)]) (wr.iterAt (w.heap.size+1) s (Adz.place pl (j+1)).toNat):=fun ty=>by
     have hit:=jC.it;rw[e1] at hit;have:=Lib.run_next_any_at (P:=Tryz.prog) wr (w.heap.size+1) s p ty hit e3;rw[e4,e5] at this;rw[e1,e2];simpa using this
    have h1:=jC.next (j+1);have o1:=dA wr (w.heap.size+1) s (Adz.place pl (j+1)).toNat;generalize wr.iterAt (w.heap.size+1) s (Adz.place pl (j+1)).toNat=w1 at*
    obtain⟨rv,r1,r2⟩:=h1.r;have f0:=h1.f0;have lr:w.heap.size<w1.heap.size:=h1.tc.lt;have aJ:rv.ownBlock≠some w.heap.size:=aG r2 h1.tc (by decide);have CR:=h1.bs;have hlen:((L.take j).map (Value.int .i32)).length=j*1:=by simp;omega
    have HD:Hid (DecE s L pl at_):=hd;clear hd e1 e2 e3 e4 e5;go_upto_region 8 with (at_builtin;refine wpList_append_lies _ (by rfl) _ _ _ (by rfl) (w.heap.size+2) 21 i0 _ 1 4 Tryz.underlying103 dZ fQ eJ eF rfl (by omega) rv j ((L.take j).map (Value.int .i32)) (by rfl) (r2.alloc _) ⟨w1.heap.size,0,none⟩ 1 1 [.int .i32 (Adz.peek L j)] (by rfl) (by rfl) (World.news_of_block (cs:= #[.int .i32 (Adz.peek L j)]) (t:=21) (fr:=(0,0)) (heap_alloc_new w1 _)) (by simp[Value.oneCell']) (by omega) (by unfold maxLen;omega) (by omega) (by simp;omega) (w1.heap.size+1) (by simp) ?_;intro g1 cap w2 br aI bJ eG;have kc:=(aI.cell_far ⟨w.heap.size,0,none⟩ (by simp;omega) (Ne.symm aJ)).trans ((World.cell?_alloc_past _ _ _ lr).trans r1);have kf:=(aI.frozen_far ⟨w.heap.size,0,none⟩ (by simp;omega) (Ne.symm aJ)).trans ((World.frozen?_alloc_past _ _ _ lr).trans f0))
    have hv:(Value.slice (some ⟨g1,0,none⟩) (j+1) cap).ownBlock≠some w.heap.size:=by
     rcases bJ with h | h
     ·intro e
      simp[Value.ownBlock] at e;exact aJ (by rw[h,e])
     ·intro e
      simp[Value.ownBlock] at e;omega
    obtain⟨u1,u2,u3,u4⟩:=bg ((ae.refl _ w1).alloc _) aI kc br hv lr aJ;have h2:=h1.rune (kr':=j+1) r1 u1 (by rw[jz aw];simpa using u2) u3 u4
    have o2:ae (fun b=>w.heap.size≤b) w (w2.setCell ⟨w.heap.size,0,none⟩ (.slice (some ⟨g1,0,none⟩) (j+1) cap)):=(bQ.trans o1 (fun _ e=>e) (fun b _ e=>by omega):ae (fun b=>w.heap.size≤b) w w1).trans u3 (fun _ e=>e) (fun b _ e=>by
     rcases e with e | e
     ·omega
     ·have:=(r2.lt b e).1;omega)
    generalize w2.setCell ⟨w.heap.size,0,none⟩ (.slice (some ⟨g1,0,none⟩) (j+1) cap)=w3 at*
    obtain⟨pv,p1,p2⟩:=h2.p;have f1:=h2.f1;have sI:w.heap.size<w3.heap.size:=h2.tc.lt;have bu:pv.ownBlock≠some w.heap.size:=aG p2 h2.tc (by decide);have DG:=h2.bs;clear u1 u2 u3 u4 br aI bJ eG kc kf r1 r2 f0;go_wp2_with (at_builtin;refine wpList_append_lies _ (by rfl) _ _ _ (by rfl) (w.heap.size+2) 3 j0 _ 1 8 Tryz.underlying35 BG Je Jf Jg rfl (by omega) pv j ((pl.take j).map (Value.int .i64)) (by rfl) (p2.alloc _) ⟨w3.heap.size,0,none⟩ 1 1 [.int .i64 (Adz.place pl j)] (by rfl) (by rfl) (World.news_of_block (cs:= #[.int .i64 (Adz.place pl j)]) (t:=3) (fr:=(0,0)) (heap_alloc_new w3 _)) (by simp[Value.oneCell']) (by omega) (by unfold maxLen;omega) (by omega) (by simp;omega) (w3.heap.size+1) (by simp) ?_;intro g2 aT w4 ay ao bH dM;have gq:=(ao.cell_far ⟨w.heap.size,1,none⟩ (by simp;omega) (Ne.symm bu)).trans ((World.cell?_alloc_past _ _ _ sI).trans p1);have sA:=(ao.frozen_far ⟨w.heap.size,1,none⟩ (by simp;omega) (Ne.symm bu)).trans ((World.frozen?_alloc_past _ _ _ sI).trans f1))
    have uN:(Value.slice (some ⟨g2,0,none⟩) (j+1) aT).ownBlock≠some w.heap.size:=by
     rcases bH with h | h
     ·intro e
      simp[Value.ownBlock] at e;exact bu (by rw[h,e])
     ·intro e
      simp[Value.ownBlock] at e;omega
    obtain⟨v1,v2,v3,v4⟩:=bg ((ae.refl _ w3).alloc _) ao gq ay uN sI bu;have eX:=HD.out.len;have h3:=h2.place (kp':=j+1) p1 v1 (by rw[fM (by omega)];simpa using v2) v3 v4
    have o3:=o2.trans v3 (fun _ e=>e) (fun b _ e=>by
     rcases e with e | e
     ·omega
     ·have:=(p2.lt b e).1;omega)
    go_roundg (gk - 1)
    case measure=>have:=HJ.out;omega
    case rel=>exact ⟨j+1,by have:=HJ.out;omega,h3,o3⟩
   case pos=>
    have Nj:(Adz.peek L j==65533)=true:=by simp[d2]
    have Gh:Hid _:=hd.sp j aw d2 p e1;have E1:Hid _:=e1;have M5:Hid _:=e3;have D2:Hid _:=d2;clear d2
    have eP:∀ty,(Instr.next (.pointer (some ⟨w.heap.size+1,0,none⟩)) true ty).run Tryz.prog wr=.ok (.tuple #[.bool true,.int .i64 (Adz.place pl j),.int .i32 (Adz.peek L j)]) (wr.iterAt (w.heap.size+1) s (Adz.place pl (j+1)).toNat):=fun ty=>by
     have hit:=jC.it;rw[e1] at hit;have:=Lib.run_next_any_at (P:=Tryz.prog) wr (w.heap.size+1) s p ty hit e3;rw[e4,e5] at this;rw[e1,e2];simpa using this
    have h1:=jC.next (j+1);have o1:=dA wr (w.heap.size+1) s (Adz.place pl (j+1)).toNat;generalize wr.iterAt (w.heap.size+1) s (Adz.place pl (j+1)).toNat=w1 at*
    obtain⟨rv,r1,r2⟩:=h1.r;have f0:=h1.f0;have lr:w.heap.size<w1.heap.size:=h1.tc.lt;have aJ:rv.ownBlock≠some w.heap.size:=aG r2 h1.tc (by decide);have CR:=h1.bs;have hlen:((L.take j).map (Value.int .i32)).length=j*1:=by simp;omega
    have HD:Hid (DecE s L pl at_):=hd;clear hd e1 e2 e3 e4 e5;have BW:Lib.hasPrefix (s.extract p s.size).data.toList [239,191,189]=true:=Gh.out;have Bk:Adz.place pl j=(p:Int):=E1.out;have Hi:p<s.size:=M5.out;rw[Bk] at eP;clear Bk;go_wp2_with fail;refine(gy _ _).mono ?_;rintro e w' ⟨rfl,qe⟩;rw[BW,qe,←E1.out];clear qe w' BW;go_upto_region 8 with (at_builtin;refine wpList_append_lies _ (by rfl) _ _ _ (by rfl) (w.heap.size+2) 21 i0 _ 1 4 Tryz.underlying103 dZ fQ eJ eF rfl (by omega) rv j ((L.take j).map (Value.int .i32)) (by rfl) (r2.alloc _) ⟨w1.heap.size,0,none⟩ 1 1 [.int .i32 (Adz.peek L j)] (by rfl) (by rfl) (World.news_of_block (cs:= #[.int .i32 (Adz.peek L j)]) (t:=21) (fr:=(0,0)) (heap_alloc_new w1 _)) (by simp[Value.oneCell']) (by omega) (by unfold maxLen;omega) (by omega) (by simp;omega) (w1.heap.size+1) (by simp) ?_;intro g1 cap w2 br aI bJ eG;have kc:=(aI.cell_far ⟨w.heap.size,0,none⟩ (by simp;omega) (Ne.symm aJ)).trans ((World.cell?_alloc_past _ _ _ lr).trans r1);have kf:=(aI.frozen_far ⟨w.heap.size,0,none⟩ (by simp;omega) (Ne.symm aJ)).trans ((World.frozen?_alloc_past _ _ _ lr).trans f0))
    have hv:(Value.slice (some ⟨g1,0,none⟩) (j+1) cap).ownBlock≠some w.heap.size:=by
     rcases bJ with h | h
     ·intro e
      simp[Value.ownBlock] at e;exact aJ (by rw[h,e])
     ·intro e
      simp[Value.ownBlock] at e;omega
    obtain⟨u1,u2,u3,u4⟩:=bg ((ae.refl _ w1).alloc _) aI kc br hv lr aJ;have h2:=h1.rune (kr':=j+1) r1 u1 (by rw[jz aw];simpa using u2) u3 u4
    have o2:ae (fun b=>w.heap.size≤b) w (w2.setCell ⟨w.heap.size,0,none⟩ (.slice (some ⟨g1,0,none⟩) (j+1) cap)):=(bQ.trans o1 (fun _ e=>e) (fun b _ e=>by omega):ae (fun b=>w.heap.size≤b) w w1).trans u3 (fun _ e=>e) (fun b _ e=>by
     rcases e with e | e
     ·omega
     ·have:=(r2.lt b e).1;omega)
    generalize w2.setCell ⟨w.heap.size,0,none⟩ (.slice (some ⟨g1,0,none⟩) (j+1) cap)=w3 at*
    obtain⟨pv,p1,p2⟩:=h2.p;have f1:=h2.f1;have sI:w.heap.size<w3.heap.size:=h2.tc.lt;have bu:pv.ownBlock≠some w.heap.size:=aG p2 h2.tc (by decide);have DG:=h2.bs;clear u1 u2 u3 u4 br aI bJ eG kc kf r1 r2 f0;go_wp2_with (at_builtin;refine wpList_append_lies _ (by rfl) _ _ _ (by rfl) (w.heap.size+2) 3 j0 _ 1 8 Tryz.underlying35 BG Je Jf Jg rfl (by omega) pv j ((pl.take j).map (Value.int .i64)) (by rfl) (p2.alloc _) ⟨w3.heap.size,0,none⟩ 1 1 [.int .i64 (Adz.place pl j)] (by rfl) (by rfl) (World.news_of_block (cs:= #[.int .i64 (Adz.place pl j)]) (t:=3) (fr:=(0,0)) (heap_alloc_new w3 _)) (by simp[Value.oneCell']) (by omega) (by unfold maxLen;omega) (by omega) (by simp;omega) (w3.heap.size+1) (by simp) ?_;intro g2 aT w4 ay ao bH dM;have gq:=(ao.cell_far ⟨w.heap.size,1,none⟩ (by simp;omega) (Ne.symm bu)).trans ((World.cell?_alloc_past _ _ _ sI).trans p1);have sA:=(ao.frozen_far ⟨w.heap.size,1,none⟩ (by simp;omega) (Ne.symm bu)).trans ((World.frozen?_alloc_past _ _ _ sI).trans f1))
    have uN:(Value.slice (some ⟨g2,0,none⟩) (j+1) aT).ownBlock≠some w.heap.size:=by
     rcases bH with h | h
     ·intro e
      simp[Value.ownBlock] at e;exact bu (by rw[h,e])
     ·intro e
      simp[Value.ownBlock] at e;omega
    obtain⟨v1,v2,v3,v4⟩:=bg ((ae.refl _ w3).alloc _) ao gq ay uN sI bu;have eX:=HD.out.len;have h3:=h2.place (kp':=j+1) p1 v1 (by rw[fM (by omega)];simpa using v2) v3 v4
    have o3:=o2.trans v3 (fun _ e=>e) (fun b _ e=>by
     rcases e with e | e
     ·omega
     ·have:=(p2.lt b e).1;omega)
    go_roundg (gk - 1)
    case measure=>have:=HJ.out;omega
    case rel=>exact ⟨j+1,by have:=HJ.out;omega,h3,o3⟩
  ·have IZ:j=L.length:=by have:=HJ.out;omega
   subst IZ;have hit:=jC.it;rw[hd.last,show((at_:Int)).toNat=at_ from rfl] at hit
   have eP:∀ty,(Instr.next (.pointer (some ⟨w.heap.size+1,0,none⟩)) true ty).run Tryz.prog wr=.ok (.tuple #[.bool true,.int .i64 (at_:Int),.int .i32 65533]) (wr.iterAt (w.heap.size+1) s (at_+(Utf8.decode s at_).2)):=fun ty=>by
    have:=Lib.run_next_any_at (P:=Tryz.prog) wr (w.heap.size+1) s at_ ty hit hd.lt;rw[hd.bad] at this;exact this
   have o1:=dA wr (w.heap.size+1) s (at_+(Utf8.decode s at_).2);have Hi:=hd.lt;have SO:Hid _:=hd.nosp;have hz:=bQ.size;generalize wr.iterAt (w.heap.size+1) s (at_+(Utf8.decode s at_).2)=w1 at*
   clear hd hit aw jt;go_wp2_with fail;refine(gy _ _).mono ?_;rintro e w' ⟨rfl,qe⟩;rw[SO.out,qe];clear qe w';have eJ:=o1.size;go_wp2_with fail;refine(aV 2 _ _).mono ?_;rintro e w5 ⟨rfl,C4⟩;rw[C4];go_wp2;go_ret2;have o3:ae (fun b=>w.heap.size≤b) w w1:=bQ.trans o1 (fun _ e=>e) (fun b _ e=>by omega);exact⟨_,rfl,⟨_,rfl,by omega,db.new _ _ _⟩,(o3.mono (fun b hb e=>by omega):ae (fun _=>False) w w1).alloc _⟩
end
section
open Go.RowKit
attribute [local go_sem ↓] Go.wp_at_zero Go.wp_at_succ
theorem Cr (s:ByteArray) (L pl:List Int) (at_:Nat) (hd:DecE s L pl at_):nE s (2,(at_:Int)):=fun w=>by
 have dy:=hd.small;have Bo:decide ((500:Int)<(s.size:Int))=false:=decide_eq_false (by omega);have bW:=El s L pl at_ hd w;clear hd;go_enter Tryz.func32,Tryz.ntmps32;go_wp2_with fail;refine bW.mono ?_;rintro e w1 ⟨v,rfl,⟨fb,rfl,eW,hf⟩,ho⟩;go_wp2;go_ret2;exact⟨_,rfl,⟨fb,rfl,eW,hf⟩,ho⟩
end
section
open Go.RowKit
def cL (s:ByteArray) (p:Nat):Bool:=Lib.hasPrefix (s.extract p s.size).data.toList [239,191,189]
structure Runs (s:ByteArray) (pos:Nat) (L pl:List Int) (e:Nat):Prop where
 len:pl.length=L.length+1
 zero:Adz.place pl 0=pos
 last:Adz.place pl L.length=e
 step:∀k,k<L.length→∃p q:Nat,Adz.place pl k=p∧Adz.place pl (k+1)=q∧p<s.size∧((Utf8.decode s p).1:Int)=Adz.peek L k∧p+(Utf8.decode s p).2=q
 few:L.length+pos≤s.size
 good:∀k,k<L.length→0≤Adz.peek L k∧Adz.peek L k≤1114111∧Lib.validRune (Adz.peek L k)=true
 sp:∀k,k<L.length→Adz.peek L k=65533→∀p:Nat,Adz.place pl k=p→cL s p=true
 nn:∀k,0≤Adz.place pl k
theorem fA (s:ByteArray) (i:Nat) (hi:i<s.size):1≤(Utf8.decode s i).2∧i+(Utf8.decode s i).2≤s.size∧(Utf8.decode s i).1≤1114111∧Lib.validRune ((Utf8.decode s i).1:Int)=true:=by
 rw[Lib.decode_at];have h0:(s.get! i).toNat<256:=UInt8.toNat_lt _;have hn:1≤s.size - i:=by omega
 have sq:i+(s.size - i)=s.size:=by omega
 generalize (s.get! i).toNat=b0 at*
 generalize (s.get! (i+1)).toNat=b1;generalize (s.get! (i+2)).toNat=b2;generalize (s.get! (i+3)).toNat=b3;generalize s.size - i=n at*
 have key:1≤(Lib.decodeN n b0 b1 b2 b3).2∧(Lib.decodeN n b0 b1 b2 b3).2≤n∧(Lib.decodeN n b0 b1 b2 b3).1≤1114111∧((Lib.decodeN n b0 b1 b2 b3).1<55296∨57343<(Lib.decodeN n b0 b1 b2 b3).1):=by
  unfold Lib.decodeN
  repeat' split
  all_goals (simp only;omega)
 obtain⟨k1,k2,k3,k4⟩:=key;refine⟨k1,by omega,k3,?_⟩;unfold Lib.validRune;rw[decide_eq_true_eq];omega
theorem Runs.nil (s:ByteArray) (e:Nat) (h:e≤s.size):Runs s e [] [(e:Int)] e:=
 ⟨rfl,rfl,rfl,fun k hk=>absurd hk (Nat.not_lt_zero _),by simpa using h,fun k hk=>absurd hk (Nat.not_lt_zero _),fun k hk=>absurd hk (Nat.not_lt_zero _),fun k=>by
  cases k with
  | zero=>show (0:Int)≤e;omega
  | succ k=>simp [Adz.place]⟩
theorem Runs.cons {s:ByteArray}{pos:Nat}{L pl:List Int}{e:Nat} (hp:pos<s.size) (hs:(Utf8.decode s pos).1=65533→cL s pos=true) (h:Runs s (pos+(Utf8.decode s pos).2) L pl e):Runs s pos (((Utf8.decode s pos).1:Int)::L) ((pos:Int)::pl) e:=by
 obtain⟨f1,f2,f3,f4⟩:=fA s pos hp;refine⟨by simp[h.len],rfl,h.last,fun k hk=> ?_,?_,fun k hk=> ?_,fun k hk QM p eX=> ?_,fun k=> ?_⟩
 ·cases k with
  | zero=>exact ⟨pos,_,rfl,h.zero,hp,rfl,rfl⟩
  | succ k=>exact h.step k (by simpa using hk)
 ·have:=h.few
  simp only[List.length_cons];omega
 ·cases k with
  | zero=>exact ⟨by show(0:Int)≤((Utf8.decode s pos).1:Int);omega,by show((Utf8.decode s pos).1:Int)≤1114111;omega,f4⟩
  | succ k=>exact h.good k (by simpa using hk)
 ·cases k with
  | zero=>
   have e1:((Utf8.decode s pos).1:Int)=65533:=QM;have e2:(pos:Int)=(p:Int):=eX;have e3:pos=p:=by omega
   subst e3;exact hs (by omega)
  | succ k=>exact h.sp k (by simpa using hk) QM p eX
 ·cases k with
  | zero=>show (0:Int)≤(pos:Int);omega
  | succ k=>exact h.nn k
theorem yy (s:ByteArray):∀(fuel pos:Nat),pos≤s.size→s.size - pos≤fuel→(∃L pl,Runs s pos L pl s.size)∨(∃L pl a,Runs s pos L pl a∧a<s.size∧(Utf8.decode s a).1=65533∧cL s a=false)
 | fuel,pos,hp,hf=>by
  by_cases aw:pos<s.size
  ·by_cases hb:(Utf8.decode s pos).1=65533∧cL s pos=false
   ·exact Or.inr ⟨[],[(pos:Int)],pos,Runs.nil s pos hp,aw,hb.1,hb.2⟩
   ·have hs:(Utf8.decode s pos).1=65533→cL s pos=true:=fun e=>by
     cases hc:cL s pos with
     | true=>rfl
     | false=>exact absurd ⟨e,hc⟩ hb
    obtain⟨f1,f2,f3,f4⟩:=fA s pos aw
    cases fuel with
    | zero=>omega
    | succ fuel=>
     rcases yy s fuel (pos+(Utf8.decode s pos).2) f2 (by omega) with ⟨L,pl,h⟩ |⟨L,pl,a,h,h1,h2,h3⟩
     ·exact Or.inl ⟨_,_,h.cons aw hs⟩
     ·exact Or.inr ⟨_,_,a,h.cons aw hs,h1,h2,h3⟩
  ·have:pos=s.size:=by omega
   subst this;exact Or.inl ⟨[],_,Runs.nil s s.size (Nat.le_refl _)⟩
theorem Runs.decW {s:ByteArray}{L pl:List Int} (h:Runs s 0 L pl s.size) (hs:s.size≤500):DecW s L pl:=
 ⟨h.len,h.zero,h.last,h.step,hs,by have:=h.few;omega,h.good,h.sp⟩
theorem Runs.decE {s:ByteArray}{L pl:List Int}{a:Nat} (h:Runs s 0 L pl a) (hs:s.size≤500) (h1:a<s.size) (h2:(Utf8.decode s a).1=65533) (h3:cL s a=false):DecE s L pl a:=
 ⟨h.len,h.zero,h.last,h1,h2,h3,h.step,hs,by have:=h.few;omega,h.sp⟩
def Xk (s:ByteArray) (r:Except Adz.Flt (List Adz.Cmd)):Prop:=
 (500<s.size∧r=.error (1,0))∨(∃L pl a,s.size≤500∧Runs s 0 L pl a∧a<s.size∧(Utf8.decode s a).1=65533∧cL s a=false∧r=.error (2,(a:Int)))∨(∃L pl,s.size≤500∧Runs s 0 L pl s.size∧r=Adz.readAll L pl)
theorem Xk.long {s:ByteArray} (h:500<s.size):Xk s (.error (1,0)):=Or.inl ⟨h,rfl⟩
theorem Xk.bad {s:ByteArray} (L pl:List Int) (a:Nat) (h1:s.size≤500) (h2:Runs s 0 L pl a) (h3:a<s.size) (h4:(Utf8.decode s a).1=65533) (h5:cL s a=false):Xk s (.error (2,(a:Int))):=Or.inr (Or.inl ⟨L,pl,a,h1,h2,h3,h4,h5,rfl⟩)
theorem Xk.read {s:ByteArray} (L pl:List Int) (h1:s.size≤500) (h2:Runs s 0 L pl s.size):Xk s (Adz.readAll L pl):=Or.inr (Or.inr ⟨L,pl,h1,h2,rfl⟩)
theorem zP (s:ByteArray):∃r,Xk s r:=by
 by_cases h:s.size≤500
 ·rcases yy s s.size 0 (Nat.zero_le _) (by omega) with ⟨L,pl,h1⟩ |⟨L,pl,a,h1,h2,h3,h4⟩
  ·exact⟨_,.read L pl h h1⟩
  ·exact⟨_,.bad L pl a h h1 h2 h3 h4⟩
 ·exact⟨_,.long (by omega)⟩
theorem rm (s:ByteArray) (hs:s.size≤9223372036854775807) (r:Except Adz.Flt (List Adz.Cmd)) (h:Xk s r) (w:World):
 (∀f,r=.error f→Calls Tryz.prog 28 #[.string s] w fun e w'=>e=.returned (.tuple #[.pointer none,.int .i64 f.1,.int .i64 f.2])∧ae (fun _=>False) w w')∧
 (∀cs,r=.ok cs→Calls Tryz.prog 28 #[.string s] w fun e w'=>∃sb,e=.returned (.tuple #[.pointer (some ⟨sb,0,none⟩),.int .i64 0,.int .i64 0])∧ScriptAt w' sb cs∧ae (fun _=>False) w w'∧w.heap.size≤sb):=by
 rcases h with ⟨hl,rfl⟩ |⟨L,pl,a,h1,h2,h3,h4,h5,rfl⟩ |⟨L,pl,h1,h2,rfl⟩
 ·exact⟨fun f e=>by injection e with e;subst e;exact lP s _ (zX s hl hs) w,fun cs e=>by cases e⟩
 ·exact⟨fun f e=>by injection e with e;subst e;exact lP s _ (Cr s L pl a (h2.decE h1 h3 h4 h5)) w,fun cs e=>by cases e⟩
 ·exact⟨fun f e=>lP s f (vj s L pl (uY (h2.decW h1)) h1 h2.nn f e) w,fun cs e=>zO s L pl (uY (h2.decW h1)) h1 h2.nn cs e w⟩
theorem vz (b:ByteArray) (a:Nat) (ha:a≤b.size):cL b a=true↔a+3≤b.size∧bt b a=239∧bt b (a+1)=191∧bt b (a+2)=189:=by
 have hg:∀k,a+k<b.size→((b.extract a b.size).data.toList)[k]? =some (b.get! (a+k)):=by
  intro k hk
  have hl:k<(b.extract a b.size).data.toList.length:=by
   simp;omega
  rw[List.getElem?_eq_getElem hl,uk];have fy:a+k<b.data.toList.length:=by simpa using hk
  rw[List.getElem?_eq_getElem fy];simp[ByteArray.data_extract]
 have hlen:(b.extract a b.size).data.toList.length=b.size - a:=by simp
 unfold cL Lib.hasPrefix;generalize (b.extract a b.size).data.toList=l at*
 have eb:∀k:Nat,∀v:UInt8,v.toNat=k→∀x:UInt8,(x.toNat=k↔x=v):=fun k v hv x=>⟨fun e=>UInt8.toNat_inj.1 (by rw[e,hv]),fun e=>by rw[e,hv]⟩;unfold bt;rw[eb 239 239 rfl,eb 191 191 rfl,eb 189 189 rfl]
 match l,hlen,hg with
 | [],hlen,hg=>
  simp at hlen;simp[List.isPrefixOf];omega
 | [x],hlen,hg=>
  simp at hlen;simp[List.isPrefixOf];omega
 | [x,y],hlen,hg=>
  simp at hlen;simp[List.isPrefixOf];omega
 | x::y::z::t,hlen,hg=>
  simp at hlen;have g0:=hg 0 (by omega);have g1:=hg 1 (by omega);have g2:=hg 2 (by omega);simp at g0 g1 g2;rw[←g0,←g1,←g2];have h3:a+3≤b.size:=by omega
  simp only[List.isPrefixOf,Bool.and_eq_true,beq_iff_eq,and_true];constructor
  ·rintro⟨e1,e2,e3⟩
   exact⟨h3,e1.symm,e2.symm,e3.symm⟩
  ·rintro⟨_,e1,e2,e3⟩
   exact⟨e1.symm,e2.symm,e3.symm⟩
theorem zZ (b:ByteArray) (a:Nat) (ha:a<b.size) (c n:Int) (h:RV b a c n):
 (n=0∧(Utf8.decode b a).1=65533∧(Utf8.decode b a).2=1)∨(n=((Utf8.decode b a).2:Int)∧0<n∧c=((Utf8.decode b a).1:Int)∧((Utf8.decode b a).1=65533→a+3≤b.size∧bt b a=239∧bt b (a+1)=191∧bt b (a+2)=189)):=by
 rw[Lib.decode_at];have h0:=dc b a;have h1:=dc b (a+1);have h2:=dc b (a+2);have h3:=dc b (a+3);unfold RV at h;have e0:(b.get! a).toNat=bt b a:=rfl;have e1:(b.get! (a+1)).toNat=bt b (a+1):=rfl;have e2:(b.get! (a+2)).toNat=bt b (a+2):=rfl;have e3:(b.get! (a+3)).toNat=bt b (a+3):=rfl;rw[e0,e1,e2,e3]
 rcases h with ⟨x1,rfl,rfl⟩ |⟨m,lo,hi,c0,hC,hT⟩ |⟨x1,rfl,rfl⟩
 ·right
  unfold Lib.decodeN;rw[if_pos x1];refine⟨rfl,by decide,rfl,fun e=> ?_⟩;simp only at e;omega
 ·unfold Db at hC
  have IT:∀m lo hi,Tl b (a+1) m lo hi↔(a+1+m≤b.size∧lo≤bt b (a+1)∧bt b (a+1)≤hi∧∀k,a+1<k→k<a+1+m→128≤bt b k∧bt b k≤191):=fun _ _ _=>Iff.rfl
  rcases hC with ⟨y1,y2,rfl,rfl,rfl,rfl⟩ |⟨y1,y2,rfl,rfl,rfl,rfl⟩ |⟨y1,y2,rfl,rfl,rfl,rfl⟩
  ·-- two bytes
   have Bh:Tl b (a+1) 1 128 191↔(a+2≤b.size∧128≤bt b (a+1)∧bt b (a+1)≤191):=by
    rw[IT];constructor
    ·rintro⟨p1,p2,p3,_⟩;exact⟨by omega,p2,p3⟩
    ·rintro⟨p1,p2,p3⟩;exact⟨by omega,p2,p3,fun k k1 k2=>by omega⟩
   rw[Bh] at hT;simp only[acc] at hT;clear IT Bh e0 e1 e2 e3;simp only[Nat.add_zero] at hT;generalize bt b a=b0 at*
   generalize bt b (a+1)=b1 at*
   generalize bt b (a+2)=b2 at*
   generalize bt b (a+3)=b3 at*
   rcases hT with ⟨⟨p1,p2,p3⟩,rfl,rfl⟩ |⟨pn,rfl,rfl⟩
   ·right
    have hd:Lib.decodeN (b.size - a) b0 b1 b2 b3=(b0 % 32*64+b1 % 64,2):=by
     unfold Lib.decodeN;rw[if_neg (by omega),if_pos ⟨by omega,by omega,by omega⟩,if_pos (by omega)]
    rw[hd];refine⟨rfl,by decide,?_,fun e=> ?_⟩
    ·simp only;omega
    ·simp only at e;omega
   ·left
    refine⟨rfl,?_⟩
    have hd:Lib.decodeN (b.size - a) b0 b1 b2 b3=(65533,1):=by
     unfold Lib.decodeN;rw[if_neg (by omega),if_neg (by omega),if_neg (by omega),if_neg (by omega)]
    rw[hd];exact⟨rfl,rfl⟩
  ·-- three bytes
   have Bh:∀lo hi,Tl b (a+1) 2 lo hi↔(a+3≤b.size∧lo≤bt b (a+1)∧bt b (a+1)≤hi∧128≤bt b (a+2)∧bt b (a+2)≤191):=by
    intro lo hi;rw[IT];constructor
    ·rintro⟨p1,p2,p3,p4⟩
     have:=p4 (a+2) (by omega) (by omega);exact⟨by omega,p2,p3,this⟩
    ·rintro⟨p1,p2,p3,p4⟩
     exact⟨by omega,p2,p3,fun k k1 k2=>by
      have:k=a+2:=by omega
      subst this;exact p4⟩
   simp only[Bh] at hT;simp only[acc] at hT;clear IT Bh e0 e1 e2 e3;simp only[Nat.add_zero,Nat.add_assoc,Nat.reduceAdd] at hT;generalize bt b a=b0 at*
   generalize bt b (a+1)=b1 at*
   generalize bt b (a+2)=b2 at*
   generalize bt b (a+3)=b3 at*
   obtain⟨lo,nQ⟩:∃lo,lo=(if b0=224 then 160 else 128):=⟨_,rfl⟩;obtain⟨hi,xZ⟩:∃hi,hi=(if b0=237 then 159 else 191):=⟨_,rfl⟩;rw[←nQ,←xZ] at hT
   have l1:(b0=224∧lo=160)∨(b0≠224∧lo=128):=by
    by_cases e:b0=224
    ·left;rw[if_pos e] at nQ;exact⟨e,nQ⟩
    ·right;rw[if_neg e] at nQ;exact⟨e,nQ⟩
   have l2:(b0=237∧hi=159)∨(b0≠237∧hi=191):=by
    by_cases e:b0=237
    ·left;rw[if_pos e] at xZ;exact⟨e,xZ⟩
    ·right;rw[if_neg e] at xZ;exact⟨e,xZ⟩
   clear nQ xZ
   rcases hT with ⟨⟨p1,p2,p3,p4,p5⟩,rfl,rfl⟩ |⟨pn,rfl,rfl⟩
   ·right
    have hd:Lib.decodeN (b.size - a) b0 b1 b2 b3=(b0 % 16*4096+b1 % 64*64+b2 % 64,3):=by
     unfold Lib.decodeN;rw[if_neg (by omega),if_neg (by omega),if_pos ⟨by omega,⟨by omega,by omega⟩,by omega,by omega⟩,if_pos (by omega)]
    rw[hd];refine⟨rfl,by decide,?_,fun e=> ?_⟩
    ·simp only;omega
    ·simp only at e;omega
   ·left
    refine⟨rfl,?_⟩
    have hd:Lib.decodeN (b.size - a) b0 b1 b2 b3=(65533,1):=by
     unfold Lib.decodeN;rw[if_neg (by omega),if_neg (by omega)];by_cases hq:b0 / 16=14∧(1<b.size - a∧b1 / 64=2)∧2<b.size - a∧b2 / 64=2
     ·rw[if_pos hq,if_neg (by omega)]
     ·rw[if_neg hq,if_neg (by omega)]
    rw[hd];exact⟨rfl,rfl⟩
  ·-- four bytes
   have Bh:∀lo hi,Tl b (a+1) 3 lo hi↔(a+4≤b.size∧lo≤bt b (a+1)∧bt b (a+1)≤hi∧(128≤bt b (a+2)∧bt b (a+2)≤191)∧128≤bt b (a+3)∧bt b (a+3)≤191):=by
    intro lo hi;rw[IT];constructor
    ·rintro⟨p1,p2,p3,p4⟩
     have q1:=p4 (a+2) (by omega) (by omega);have q2:=p4 (a+3) (by omega) (by omega);exact⟨by omega,p2,p3,q1,q2⟩
    ·rintro⟨p1,p2,p3,p4,p5⟩
     exact⟨by omega,p2,p3,fun k k1 k2=>by
      by_cases e:k=a+2
      ·subst e;exact p4
      ·have:k=a+3:=by omega
       subst this;exact p5⟩
   simp only[Bh] at hT;simp only[acc] at hT;clear IT Bh e0 e1 e2 e3;simp only[Nat.add_zero,Nat.add_assoc,Nat.reduceAdd] at hT;generalize bt b a=b0 at*
   generalize bt b (a+1)=b1 at*
   generalize bt b (a+2)=b2 at*
   generalize bt b (a+3)=b3 at*
   obtain⟨lo,nQ⟩:∃lo,lo=(if b0=240 then 144 else 128):=⟨_,rfl⟩;obtain⟨hi,xZ⟩:∃hi,hi=(if b0=244 then 143 else 191):=⟨_,rfl⟩;rw[←nQ,←xZ] at hT
   have l1:(b0=240∧lo=144)∨(b0≠240∧lo=128):=by
    by_cases e:b0=240
    ·left;rw[if_pos e] at nQ;exact⟨e,nQ⟩
    ·right;rw[if_neg e] at nQ;exact⟨e,nQ⟩
   have l2:(b0=244∧hi=143)∨(b0≠244∧hi=191):=by
    by_cases e:b0=244
    ·left;rw[if_pos e] at xZ;exact⟨e,xZ⟩
    ·right;rw[if_neg e] at xZ;exact⟨e,xZ⟩
   clear nQ xZ
   rcases hT with ⟨⟨p1,p2,p3,p4,p5⟩,rfl,rfl⟩ |⟨pn,rfl,rfl⟩
   ·right
    have hd:Lib.decodeN (b.size - a) b0 b1 b2 b3=(b0 % 8*262144+b1 % 64*4096+b2 % 64*64+b3 % 64,4):=by
     unfold Lib.decodeN;rw[if_neg (by omega),if_neg (by omega),if_neg (by omega),if_pos ⟨by omega,⟨by omega,by omega⟩,⟨by omega,by omega⟩,by omega,by omega⟩,if_pos (by omega)]
    rw[hd];refine⟨rfl,by decide,?_,fun e=> ?_⟩
    ·simp only;omega
    ·simp only at e;omega
   ·left
    refine⟨rfl,?_⟩
    have hd:Lib.decodeN (b.size - a) b0 b1 b2 b3=(65533,1):=by
     unfold Lib.decodeN;rw[if_neg (by omega),if_neg (by omega),if_neg (by omega)];by_cases hq:b0 / 8=30∧(1<b.size - a∧b1 / 64=2)∧(2<b.size - a∧b2 / 64=2)∧3<b.size - a∧b3 / 64=2
     ·rw[if_pos hq,if_neg (by omega)]
     ·rw[if_neg hq]
    rw[hd];exact⟨rfl,rfl⟩
 ·left
  unfold Lib.decodeN;generalize bt b a=b0 at*
  generalize bt b (a+1)=b1 at*
  generalize bt b (a+2)=b2 at*
  generalize bt b (a+3)=b3 at*
  clear e0 e1 e2 e3
  have key:∀x:Nat×Nat,x=Lib.decodeN (b.size - a) b0 b1 b2 b3→x=(65533,1):=by
   intro x hx;rw[hx];unfold Lib.decodeN
   repeat' split
   all_goals first
    | rfl
    | (exfalso;omega)
  have k2:=key _ rfl;unfold Lib.decodeN at k2;rw[k2];exact⟨rfl,rfl,rfl⟩
end
end Go.Proofs.YtbiobhghnldckaaGreatDoor
