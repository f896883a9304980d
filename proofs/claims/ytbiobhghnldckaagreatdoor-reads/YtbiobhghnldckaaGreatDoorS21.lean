/- Proved: utf8.ValidString of a short text of ASCII and of one other rune (195, 169). Conditions: what three places of the library's tables hold. -/
import Derived.Laws.Bits64b
import Derived.Test.YtbiobhghnldckaaGreatDoorS6
namespace Go.Proofs.YtbiobhghnldckaaGreatDoor
set_option linter.unusedVariables false
set_option maxRecDepth 100000
set_option maxHeartbeats 6400000
section
open Go.RowKit
def aP (s:ByteArray) (i:Nat):Nat:=((s.data[i]?).getD 0).toNat
theorem aM (s:ByteArray) (i:Nat):aP s i<256:=UInt8.toNat_lt _
theorem idx (s:ByteArray) (i:Int) (u:World) (h0:0≤i) (h1:i<s.size):(Instr.index 9 (.string s) (.int .i64 i)).run Tryz.prog u=.ok (.int .u8 (aP s i.toNat)) u:=by
 rw[run_index_string u _ s _ i Tryz.underlying9,dif_pos ⟨h0,h1⟩];have h2:i.toNat<s.data.size:=by have:i<s.data.size:=h1;omega
 unfold aP;rw[Array.getElem?_eq_getElem h2]
 rfl
def gF:Nat:=9259542123273814144
def pY (b0 b1 b2 b3 b4 b5 b6 b7:Nat):Nat:=((((((b0 ||| b1*256) ||| b2*65536) ||| b3*16777216) ||| b4*4294967296) ||| b5*1099511627776) ||| b6*281474976710656) ||| b7*72057594037927936
theorem m0:∀b,b<256→(b &&& gF)=0→b<128:=by decide+kernel
theorem m1:∀b,b<256→(b*256 &&& gF)=0→b<128:=by decide+kernel
theorem m2:∀b,b<256→(b*65536 &&& gF)=0→b<128:=by decide+kernel
theorem m3:∀b,b<256→(b*16777216 &&& gF)=0→b<128:=by decide+kernel
theorem m4:∀b,b<256→(b*4294967296 &&& gF)=0→b<128:=by decide+kernel
theorem m5:∀b,b<256→(b*1099511627776 &&& gF)=0→b<128:=by decide+kernel
theorem m6:∀b,b<256→(b*281474976710656 &&& gF)=0→b<128:=by decide+kernel
theorem m7:∀b,b<256→(b*72057594037927936 &&& gF)=0→b<128:=by decide+kernel
theorem gG {a b:Nat} (ha:a<18446744073709551616) (hb:b<18446744073709551616):a ||| b<18446744073709551616:=by
 have h:(18446744073709551616:Nat)=2 ^ 64:=by decide
 rw[h] at*
 exact Nat.or_lt_two_pow ha hb
theorem Am {b0 b1 b2 b3 b4 b5 b6 b7:Nat} (h0:b0<256) (h1:b1<256) (h2:b2<256) (h3:b3<256) (h4:b4<256) (h5:b5<256) (h6:b6<256) (h7:b7<256) (h:pY b0 b1 b2 b3 b4 b5 b6 b7 &&& gF=0):
 b0<128∧b1<128∧b2<128∧b3<128∧b4<128∧b5<128∧b6<128∧b7<128:=by
 unfold pY at h;simp only[Nat.and_or_distrib_right,Nat.or_eq_zero_iff] at h;obtain⟨⟨⟨⟨⟨⟨⟨g0,g1⟩,g2⟩,g3⟩,g4⟩,g5⟩,g6⟩,g7⟩:=h;exact⟨m0 _ h0 g0,m1 _ h1 g1,m2 _ h2 g2,m3 _ h3 g3,m4 _ h4 g4,m5 _ h5 g5,m6 _ h6 g6,m7 _ h7 g7⟩
theorem CE {b0 b1 b2 b3 b4 b5 b6 b7:Nat} (h0:b0<256) (h1:b1<256) (h2:b2<256) (h3:b3<256) (h4:b4<256) (h5:b5<256) (h6:b6<256) (h7:b7<256):pY b0 b1 b2 b3 b4 b5 b6 b7<18446744073709551616:=by
 unfold pY;exact gG (gG (gG (gG (gG (gG (gG (by omega) (by omega)) (by omega)) (by omega)) (by omega)) (by omega)) (by omega)) (by omega)
theorem xA (s:ByteArray) (w:World) (h:8≤s.size):
 Calls Tryz.prog 67 #[.string s] w fun e w'=>e=.returned (.int .u64 (pY (aP s 0) (aP s 1) (aP s 2) (aP s 3) (aP s 4) (aP s 5) (aP s 6) (aP s 7):Nat))∧∃k,w'=w.drewN k:=by
 have l0:=aM s 0;have l1:=aM s 1;have l2:=aM s 2;have l3:=aM s 3;have l4:=aM s 4;have l5:=aM s 5;have l6:=aM s 6;have l7:=aM s 7;have x0:∀u,(Instr.index 9 (.string s) (.int .i64 0)).run Tryz.prog u=.ok (.int .u8 (aP s 0)) u:=fun u=>idx s 0 u (by omega) (by omega);have x1:∀u,(Instr.index 9 (.string s) (.int .i64 1)).run Tryz.prog u=.ok (.int .u8 (aP s 1)) u:=fun u=>idx s 1 u (by omega) (by omega);have x2:∀u,(Instr.index 9 (.string s) (.int .i64 2)).run Tryz.prog u=.ok (.int .u8 (aP s 2)) u:=fun u=>idx s 2 u (by omega) (by omega);have x3:∀u,(Instr.index 9 (.string s) (.int .i64 3)).run Tryz.prog u=.ok (.int .u8 (aP s 3)) u:=fun u=>idx s 3 u (by omega) (by omega);have x4:∀u,(Instr.index 9 (.string s) (.int .i64 4)).run Tryz.prog u=.ok (.int .u8 (aP s 4)) u:=fun u=>idx s 4 u (by omega) (by omega);have x5:∀u,(Instr.index 9 (.string s) (.int .i64 5)).run Tryz.prog u=.ok (.int .u8 (aP s 5)) u:=fun u=>idx s 5 u (by omega) (by omega);have x6:∀u,(Instr.index 9 (.string s) (.int .i64 6)).run Tryz.prog u=.ok (.int .u8 (aP s 6)) u:=fun u=>idx s 6 u (by omega) (by omega);have x7:∀u,(Instr.index 9 (.string s) (.int .i64 7)).run Tryz.prog u=.ok (.int .u8 (aP s 7)) u:=fun u=>idx s 7 u (by omega) (by omega);generalize aP s 0=b0 at*
 generalize aP s 1=b1 at*
 generalize aP s 2=b2 at*
 generalize aP s 3=b3 at*
 generalize aP s 4=b4 at*
 generalize aP s 5=b5 at*
 generalize aP s 6=b6 at*
 generalize aP s 7=b7 at*
 have e1:(b1:Int)*256=((b1*256:Nat):Int):=by omega
 have e2:(b2:Int)*65536=((b2*65536:Nat):Int):=by omega
 have e3:(b3:Int)*16777216=((b3*16777216:Nat):Int):=by omega
 have e4:(b4:Int)*4294967296=((b4*4294967296:Nat):Int):=by omega
 have e5:(b5:Int)*1099511627776=((b5*1099511627776:Nat):Int):=by omega
 have e6:(b6:Int)*281474976710656=((b6*281474976710656:Nat):Int):=by omega
 have e7:(b7:Int)*72057594037927936=((b7*72057594037927936:Nat):Int):=by omega
 have qB:(bits BinOp.or IntKind.u64 (bits BinOp.or IntKind.u64 (bits BinOp.or IntKind.u64 (bits BinOp.or IntKind.u64 (bits BinOp.or IntKind.u64 (bits BinOp.or IntKind.u64 (bits BinOp.or IntKind.u64 (b0:Int) ((b1:Int)*256)) ((b2:Int)*65536)) ((b3:Int)*16777216)) ((b4:Int)*4294967296)) ((b5:Int)*1099511627776)) ((b6:Int)*281474976710656)) ((b7:Int)*72057594037927936))=((pY b0 b1 b2 b3 b4 b5 b6 b7:Nat):Int):=by
  rw[e1,e2,e3,e4,e5,e6,e7]
  have g1:b0 ||| b1*256<18446744073709551616:=gG (by omega) (by omega)
  have g2:=gG g1 (show b2*65536<18446744073709551616 by omega);have g3:=gG g2 (show b3*16777216<18446744073709551616 by omega);have g4:=gG g3 (show b4*4294967296<18446744073709551616 by omega);have g5:=gG g4 (show b5*1099511627776<18446744073709551616 by omega);have g6:=gG g5 (show b6*281474976710656<18446744073709551616 by omega);rw[bits_or_u64_nat _ _ (by omega) (by omega),bits_or_u64_nat _ _ g1 (by omega),bits_or_u64_nat _ _ g2 (by omega),bits_or_u64_nat _ _ g3 (by omega),bits_or_u64_nat _ _ g4 (by omega),bits_or_u64_nat _ _ g5 (by omega),bits_or_u64_nat _ _ g6 (by omega)]
  rfl
 have HV:Hid _:=qB;clear qB e1 e2 e3 e4 e5 e6 e7;go_enter Tryz.func67,Tryz.ntmps67;go_wp2_with fail
 go_quiet (fail)
 go_wp2;go_ret;exact⟨by rw[←HV.out];rfl,_,rfl⟩
def simple:List UInt8→Bool
 | []=>true
 | 195::169::t=>simple t
 | b::t=>decide (b.toNat<128) && simple t
theorem pS {b:UInt8}{t:List UInt8} (h:simple (b::t)=true) (hb:b.toNat<128):simple t=true:=by
 unfold simple at h;split at h
 ·rename_i e;cases e
 ·rename_i e
  injection e with e1 e2;subst e1;exact absurd hb (by decide)
 ·rename_i e
  injection e with e1 e2;subst e1;subst e2;simp at h;exact h.2
theorem vu {b:UInt8}{t:List UInt8} (h:simple (b::t)=true) (hb:¬b.toNat<128):b=195∧∃t',t=169::t'∧simple t'=true:=by
 unfold simple at h;split at h
 ·rename_i e;cases e
 ·rename_i e
  injection e with e1 e2;subst e1;subst e2;exact⟨rfl,_,rfl,h⟩
 ·rename_i e
  injection e with e1 e2;subst e1;subst e2;simp at h;exact absurd h.1 hb
theorem mN:∀(k:Nat) (l:List UInt8),simple l=true→k≤l.length→(∀i,i<k→((l[i]?).getD 0).toNat<128)→simple (l.drop k)=true
 | 0,l,h,_,_=>by simpa using h
 | k+1,[],h,hk,_=>by simp at hk
 | k+1,b::t,h,hk,hb=>by
  have h0:=hb 0 (by omega);simp at h0;have:=mN k t (pS h h0) (by simpa using hk) (fun i hi=>by have:=hb (i+1) (by omega);simpa using this);simpa using this
theorem gQ (s:ByteArray) (i:Nat):(s.extract i s.size).data.toList=s.data.toList.drop i:=by
 rw[ByteArray.data_extract,Array.toList_extract,List.extract_eq_take_drop];exact List.take_of_length_le (by rw[List.length_drop,Array.length_toList];exact Nat.le_refl _)
theorem extract_size (s:ByteArray) (i:Nat):(s.extract i s.size).size=s.size - i:=by
 rw[ByteArray.size_extract];omega
theorem iH (s:ByteArray) (i:Nat):aP s i=((s.data.toList[i]?).getD 0).toNat:=by
 unfold aP;rw[Array.getElem?_toList]
theorem kX (s:ByteArray) (w:World) (hs:simple s.data.toList=true) (hn:s.size≤24) (hF:w.cell? ⟨0,195,none⟩=some (.int .u8 2)) (ze:w.cell? ⟨1,0,none⟩=some (.int .u8 128)) (IQ:w.cell? ⟨1,1,none⟩=some (.int .u8 191)):
 Calls Tryz.prog 42 #[.string s] w fun e w'=>e=.returned (.bool true)∧ae (fun _=>False) w w':=by
 have l0:0<w.heap.size:=World.block_lt_of_cell? w _ hF;have l1:1<w.heap.size:=World.block_lt_of_cell? w _ ze;go_enter Tryz.func42,Tryz.ntmps42;go_wp2_with fail
 go_loopg [0] (s.size+1) (fun k v wr=>∃r:ByteArray,v=.string r∧r.size<k∧r.size≤24∧Hid (simple r.data.toList=true)∧Hid (ae (fun _=>False) w wr))
 case atStart=>exact ⟨s,rfl,by omega,hn,hs,ae.refl _ _⟩
 case round=>
  obtain⟨r,rfl,hk,hr,hS,hO⟩:=hrel;have bQ:ae (fun _=>False) w wr:=hO;by_cases h0:0<r.size
  ·obtain⟨b,t,Aq⟩:∃b t,r.data.toList=b::t:=by
    cases hd:r.data.toList with
    | nil=>have:r.data.toList.length=r.size:=Array.length_toList;rw[hd] at this;simp at this;omega
    | cons b t=>exact ⟨b,t,rfl⟩
   have tA:aP r 0=b.toNat:=by rw[iH,Aq];rfl
   have x0:∀u,(Instr.index 9 (.string r) (.int .i64 0)).run Tryz.prog u=.ok (.int .u8 (aP r 0)) u:=fun u=>idx r 0 u (by omega) (by omega);have jC:=hS.out;rw[Aq] at jC;have d0:(0:Int)<(r.size:Int):=by omega
   by_cases DQ:b.toNat<128
   ·have dl:(aP r 0:Int)<128:=by rw[tA];omega
    have bZ:=pS jC DQ;have xd:simple (r.extract 1 r.size).data.toList=true:=by rw[gQ,Aq];exact bZ
    have eJ:=extract_size r 1;have Wi:1≤r.size:=by omega
    have M6:Hid _:=xd;clear xd bZ jC Aq tA hS;generalize wU:r.extract 1 r.size=r1 at*
    have U0:r1.size≤23:=by omega
    have UZ:r1.size<r.size:=by omega
    clear eJ;by_cases h8:8<r1.size
    ·have d8:(8:Int)<(r1.size:Int):=by omega
     have hc:=xA r1 wr (by omega);have hW:= @Am _ _ _ _ _ _ _ _ (aM r1 0) (aM r1 1) (aM r1 2) (aM r1 3) (aM r1 4) (aM r1 5) (aM r1 6) (aM r1 7);have Ob:= @CE _ _ _ _ _ _ _ _ (aM r1 0) (aM r1 1) (aM r1 2) (aM r1 3) (aM r1 4) (aM r1 5) (aM r1 6) (aM r1 7);generalize pY (aP r1 0) (aP r1 1) (aP r1 2) (aP r1 3) (aP r1 4) (aP r1 5) (aP r1 6) (aP r1 7)=W at*
     have HW:Hid _:=hW;clear hW;have hand:=bits_and_u64_nat W gF Ob (by decide);have Bi:bits .and .u64 (W:Int) 9259542123273814144=((W &&& gF:Nat):Int):=hand;clear hand;by_cases hz:W &&& gF=0
     ·have nQ:=HW.out hz
      have eF:simple (r1.extract 8 r1.size).data.toList=true:=by
       rw[gQ];refine mN 8 _ M6.out (by rw[Array.length_toList];have:r1.data.size=r1.size:=rfl;omega) (fun i hi=> ?_);rw[←iH];have:i=0∨i=1∨i=2∨i=3∨i=4∨i=5∨i=6∨i=7:=by omega
       rcases this with rfl | rfl | rfl | rfl | rfl | rfl | rfl | rfl
       ·exact nQ.1
       ·exact nQ.2.1
       ·exact nQ.2.2.1
       ·exact nQ.2.2.2.1
       ·exact nQ.2.2.2.2.1
       ·exact nQ.2.2.2.2.2.1
       ·exact nQ.2.2.2.2.2.2.1
       ·exact nQ.2.2.2.2.2.2.2
      have JL:Hid _:=eF;have Pu:=extract_size r1 8;rw[hz] at Bi;have Wk:8≤r1.size:=by omega
      clear eF nQ HW Ob hz;generalize DZ:r1.extract 8 r1.size=r2 at*
      have d16:¬((16:Int)<(r2.size:Int)):=by omega
      have O0:r2.size<r.size:=by omega
      clear Pu;have TH:decide ((16:Int)<(r2.size:Int))=false:=by simp;omega
      go_wp2_with fail;refine hc.mono ?_;clear hc;rintro e VT ⟨rfl,k2,rfl⟩;go_wp2_with fail
      go_quiet (fail)
      go_wp2;go_roundg (gk - 1)
      case measure=>omega
      case rel=>exact ⟨r2,rfl,by omega,by omega,JL,((bQ.drewN _).drewN _)⟩
     ·have RD:((W &&& gF:Nat):Int)≠0:=by omega
      rw[←Bi] at RD;have We:(bits .and .u64 (W:Int) 9259542123273814144==0)=false:=by simpa using RD
      clear HW Ob hz Bi;go_wp2_with fail;refine hc.mono ?_;clear hc;rintro e VT ⟨rfl,k2,rfl⟩;go_wp2;go_roundg (gk - 1)
      case measure=>omega
      case rel=>exact ⟨r1,rfl,by omega,by omega,M6,(bQ.drewN _)⟩
    ·have d8:¬((8:Int)<(r1.size:Int)):=by omega
     go_wp2;go_roundg (gk - 1)
     case measure=>omega
     case rel=>exact ⟨r1,rfl,by omega,by omega,M6,bQ⟩
   ·obtain⟨rfl,t',rfl,bZ⟩:=vu jC DQ
    have zt:r.data.toList.length=r.size:=Array.length_toList;have Wj:2≤r.size:=by rw[Aq] at zt;simp at zt;omega
    have iB:aP r 1=169:=by rw[iH,Aq];rfl
    have x1:∀u,(Instr.index 9 (.string r) (.int .i64 1)).run Tryz.prog u=.ok (.int .u8 169) u:=fun u=>by have:=idx r 1 u (by omega) (by omega);rw[show (1:Int).toNat=1 from rfl,iB] at this;exact this
    have Kn:aP r 0=195:=tA;rw[Kn] at x0;have Lo:simple (r.extract 2 r.size).data.toList=true:=by rw[gQ,Aq];exact bZ
    have Pu:=extract_size r 2;have CH:Hid _:=Lo;have Wd:¬((r.size:Int)<2):=by omega
    have TJ:decide ((r.size:Int)<2)=false:=by simp;omega
    have q0:=bQ.keeps hF id;have q1:=bQ.keeps ze id;have q2:=bQ.keeps IQ id;have WV:0<wr.heap.size:=World.block_lt_of_cell? wr _ q0;have WW:1<wr.heap.size:=World.block_lt_of_cell? wr _ q1;have tB:0≠wr.heap.size:=by omega
    have FD:1≠wr.heap.size:=by omega
    clear Lo bZ jC Aq tA Kn iB hS zt DQ;generalize DZ:r.extract 2 r.size=r2 at*
    have O0:r2.size<r.size:=by omega
    have U7:r2.size≤24:=by omega
    clear Pu;go_wp2_with fail
    go_quiet (fail)
    go_wp2;go_roundg (gk - 1)
    case measure=>omega
    case rel=>exact ⟨r2,rfl,by omega,by omega,CH,((bQ.alloc _).drewN _)⟩
  ·have e0:r.size=0:=by omega
   have d0:¬((0:Int)<(r.size:Int)):=by omega
   clear hS hO;go_wp2;go_ret;exact⟨rfl,bQ⟩
theorem uk (s:ByteArray) (i:Nat):s.get! i=(s.data.toList[i]?).getD 0:=by
 obtain⟨⟨l⟩⟩:=s;show(⟨l⟩:Array UInt8)[i]! =_;rw[getElem!_def];simp only[List.getElem?_toArray]
 cases l[i]? <;> rfl
end
section
open Go.RowKit
attribute [local go_sem ↓] Go.wp_at_zero Go.wp_at_succ
def bt (b:ByteArray) (k:Nat):Nat:=(b.get! k).toNat
theorem fh (b:ByteArray) (k:Nat) (h:k<b.size):(b[k].toNat:Int)=(bt b k:Int):=by
 unfold bt;rw[uk];have hl:k<b.data.toList.length:=by simpa using h
 rw[List.getElem?_eq_getElem hl]
 rfl
theorem dc (b:ByteArray) (k:Nat):bt b k<256:=UInt8.toNat_lt _
def Tl (b:ByteArray) (a n lo hi:Nat):Prop:=a+n≤b.size∧lo≤bt b a∧bt b a≤hi∧∀k,a<k→k<a+n→128≤bt b k∧bt b k≤191
def Nh (b:ByteArray) (a n lo hi:Nat) (w:World) (e:Ending) (w':World):Prop:=(∃t,e=.returned (.bool t)∧(t=true↔Tl b a n lo hi))∧w'=w
theorem pX {b:ByteArray}{a n lo hi:Nat}{w w':World} (h:¬Tl b a n lo hi) (hw:w'=w):Nh b a n lo hi w (.returned (.bool false)) w':=⟨⟨false,rfl,⟨fun e=>(by cases e),fun e=>absurd e h⟩⟩,hw⟩
theorem EU {b:ByteArray}{a n lo hi:Nat}{w w':World} (h:Tl b a n lo hi) (hw:w'=w):Nh b a n lo hi w (.returned (.bool true)) w':=⟨⟨true,rfl,⟨fun _=>h,fun _=>rfl⟩⟩,hw⟩
theorem dE (w:World) (b:ByteArray) (hb:b.size≤1000) (a n lo hi:Nat) (hn:1≤n∧n≤3) (ha:a≤b.size) (nQ:lo<256) (xZ:hi<256):
 Calls Tryz.prog 81 #[.string b,.int .i64 (a:Int),.int .i64 (n:Int),.int .u8 (lo:Int),.int .u8 (hi:Int)] w (Nh b a n lo hi w):=by
 have FD:=hn.1;have sq:=hn.2;clear hn;by_cases h1:a+n≤b.size
 ·have d1:¬(b.size:Int)<(a:Int)+(n:Int):=by omega
  have aw:a<b.size:=by omega
  have uD:(a:Int)<(b.size:Int):=by omega
  have e1:=fh b a aw;by_cases h2:bt b a<lo
  ·have d2:(b[a].toNat:Int)<(lo:Int):=by omega
   have hf:Hid (¬Tl b a n lo hi):=fun h=>absurd h.2.1 (by omega);clear e1;go_enter Tryz.func81,Tryz.ntmps81;go_wp2;go_ret;exact pX hf.out rfl
  ·have d2:¬(b[a].toNat:Int)<(lo:Int):=by omega
   by_cases h3:hi<bt b a
   ·have d3:(hi:Int)<(b[a].toNat:Int):=by omega
    have hf:Hid (¬Tl b a n lo hi):=fun h=>absurd h.2.2.1 (by omega);clear e1;go_enter Tryz.func81,Tryz.ntmps81;go_wp2;go_ret;exact pX hf.out rfl
   ·have d3:¬(hi:Int)<(b[a].toNat:Int):=by omega
    have HA:Hid (a+n≤b.size∧lo≤bt b a∧bt b a≤hi):=⟨h1,by omega,by omega⟩;clear e1 h2 h3;go_enter Tryz.func81,Tryz.ntmps81;go_wp2_with fail
    go_loopg [11] (n - 1) (fun k v wr=>∃j:Nat,v=.int .i64 (j:Int)∧k+j=a+n∧a<j∧Hid (wr=w)∧Hid (∀i,a<i→i<j→128≤bt b i∧bt b i≤191))
    case atStart=>exact ⟨a+1,by simp,by omega,by omega,(rfl:w=w),fun i h1 h2=>by omega⟩
    case round=>
     obtain⟨j,rfl,hk,Rk,hw,hB⟩:=hrel;have HK:Hid _:=hk;clear hk;by_cases hj:j<a+n
     ·have dj:(j:Int)<(a:Int)+(n:Int):=by omega
      have UD:j<b.size:=by omega
      have UE:(j:Int)<(b.size:Int):=by omega
      have ej:=fh b j UD;by_cases k1:bt b j<128
      ·have c1:(b[j].toNat:Int)<128:=by omega
       have hf:Hid (¬Tl b a n lo hi):=fun h=>absurd (h.2.2.2 j Rk hj).1 (by omega);clear ej k1 hB;go_wp2;go_ret;exact pX hf.out hw.out
      ·have c1:¬(b[j].toNat:Int)<128:=by omega
       by_cases k2:191<bt b j
       ·have c2:(191:Int)<(b[j].toNat:Int):=by omega
        have hf:Hid (¬Tl b a n lo hi):=fun h=>absurd (h.2.2.2 j Rk hj).2 (by omega);clear ej k1 k2 hB;go_wp2;go_ret;exact pX hf.out hw.out
       ·have c2:¬(191:Int)<(b[j].toNat:Int):=by omega
        have HX:Hid (∀i,a<i→i<j+1→128≤bt b i∧bt b i≤191):=fun i h1 h2=>by
         by_cases e:i=j
         ·subst e;omega
         ·exact hB.out i h1 (by omega)
        clear ej k1 k2 hB;go_wp2;go_roundg (gk - 1)
        case measure=>have:=HK.out;omega
        case rel=>exact ⟨j+1,by simp,by have:=HK.out;omega,by omega,hw,HX.out⟩
     ·have dj:¬(j:Int)<(a:Int)+(n:Int):=by omega
      have hf:Hid (Tl b a n lo hi):=⟨HA.out.1,HA.out.2.1,HA.out.2.2,fun k h1 h2=>hB.out k h1 (by omega)⟩;clear hB;go_wp2;go_ret;exact EU hf.out hw.out
 ·have d1:(b.size:Int)<(a:Int)+(n:Int):=by omega
  have hf:Hid (¬Tl b a n lo hi):=fun h=>absurd h.1 (by omega);go_enter Tryz.func81,Tryz.ntmps81;go_wp2;go_ret;exact pX hf.out rfl
def acc (b:ByteArray) (a:Nat) (c0:Int):Nat→Int
 | 0=>c0
 | n+1=>64*acc b a c0 n+(bt b (a+n):Int) - 128
def Db (x n lo hi:Nat) (c0:Int):Prop:=
 (194≤x∧x≤223∧n=1∧lo=128∧hi=191∧c0=(x:Int) - 192)∨
 (224≤x∧x≤239∧n=2∧lo=(if x=224 then 160 else 128)∧hi=(if x=237 then 159 else 191)∧c0=(x:Int) - 224)∨
 (240≤x∧x≤244∧n=3∧lo=(if x=240 then 144 else 128)∧hi=(if x=244 then 143 else 191)∧c0=(x:Int) - 240)
def RV (b:ByteArray) (a:Nat) (c n:Int):Prop:=
 (bt b a<128∧c=bt b a∧n=1)∨
 (∃m lo hi c0,Db (bt b a) m lo hi c0∧((Tl b (a+1) m lo hi∧c=acc b (a+1) c0 m∧n=(m:Int)+1)∨(¬Tl b (a+1) m lo hi∧c=0∧n=0)))∨
 (((128≤bt b a∧bt b a<194)∨244<bt b a)∧c=0∧n=0)
def nF (b:ByteArray) (a:Nat) (w:World) (e:Ending) (w':World):Prop:=∃c n,e=.returned (.tuple #[.int .i64 c,.int .i64 n])∧RV b a c n∧w'=w
theorem eK (b:ByteArray) (a:Nat) (c0:Int) (h0:0≤c0∧c0≤31):∀n,n≤3→ -100000000≤acc b a c0 n∧acc b a c0 n≤100000000
 | 0,_=>by unfold acc;omega
 | 1,_=>by have h1:=dc b (a+0);simp only[acc];omega
 | 2,_=>by have h1:=dc b (a+0);have h2:=dc b (a+1);simp only[acc];omega
 | 3,_=>by have h1:=dc b (a+0);have h2:=dc b (a+1);have h3:=dc b (a+2);simp only[acc];omega
 | n+4,h=>by omega
theorem ED (w:World) (b:ByteArray) (hb:b.size≤1000) (a:Nat) (ha:a<b.size) (hy:194≤bt b a∧bt b a≤223):
 Calls Tryz.prog 54 #[.string b,.int .i64 (a:Int)] w (nF b a w):=by
 have e1:=fh b a ha;have hx:=dc b a;have qf:=bT b[a];have Fs:(a:Int)<(b.size:Int):=by omega
 have d1:¬(b[a].toNat:Int)<128:=by omega
 have HC:Hid (Db (bt b a) 1 128 191 ((b[a].toNat:Int) - 192)):=Or.inl ⟨by omega,by omega,rfl,rfl,rfl,by omega⟩;have k1:(194:Int)≤(b[a].toNat:Int):=by omega
 have k2:(b[a].toNat:Int)≤223:=by omega
 have j7:=dE w b hb (a+1) 1 128 191 (by omega) (by omega) (by omega) (by omega);have zb:0≤(b[a].toNat:Int) - 192∧(b[a].toNat:Int) - 192≤31:=by omega
 clear e1;go_enter Tryz.func54,Tryz.ntmps54;go_wp2_with fail;refine j7.mono ?_;rintro e w1 ⟨⟨t,rfl,ht⟩,rfl⟩
 cases t with
 | false=>
  have hf:Hid (nF b a w1 (.returned (.tuple #[.int .i64 0,.int .i64 0])) w1):=⟨_,_,rfl,Or.inr (Or.inl ⟨_,_,_,_,HC.out,Or.inr ⟨fun h=>(by have:=ht.2 h;cases this),rfl,rfl⟩⟩),rfl⟩;clear ht;go_wp2;go_ret2;exact hf.out
 | true=>
  have hT:=ht.1 rfl;obtain⟨A,hA⟩:∃A:Nat→Int,A=acc b (a+1) ((b[a].toNat:Int) - 192):=⟨_,rfl⟩;have hf:Hid (nF b a w1 (.returned (.tuple #[.int .i64 (A 1),.int .i64 2])) w1):=⟨_,_,rfl,Or.inr (Or.inl ⟨_,_,_,_,HC.out,Or.inl ⟨hT,by rw[hA],rfl⟩⟩),rfl⟩;have zf:=hT.1;have yE:Hid (∀q:Nat,q≤3→ -100000000≤A q∧A q≤100000000):=by rw[hA];exact eK b (a+1) _ zb
  have vU:Hid (∀q,A (q+1)=64*A q+(bt b (a+1+q):Int) - 128):=by rw[hA];exact fun q=>rfl
  have H0:Hid (Value.int .i64 ((b[a].toNat:Int) - 192)=.int .i64 (A 0)):=by rw[hA];rfl
  clear ht hT HC hA qf;go_wp2_with fail
  go_loopg [6,11] 1 (fun k vc vi wr=>∃j q:Nat,vc=.int .i64 (A j)∧vi=.int .i64 (q:Int)∧Hid (q=a+1+j∧k+j=1)∧Hid (wr=w1))
  case atStart=>exact ⟨0,a+1,H0.out,by simp,⟨rfl,by omega⟩,(rfl:w1=w1)⟩
  case round=>
   obtain⟨j,q,rfl,rfl,HJ,hw⟩:=hrel;obtain⟨jW,hk⟩:=HJ.out;have dG:=yE.out j (by omega);by_cases hj:j<1
   ·have hq:q<b.size:=by omega
    have I7:(q:Int)<(b.size:Int):=by omega
    have dj:(q:Int)≤(a:Int)+1:=by omega
    have eq:=fh b q hq;have mZ:=dc b q;have bZ:=vU.out j;rw[←jW,←eq] at bZ;have HX:Hid _:=bZ.symm;clear bZ;have Jc:0≤(b[q].toNat:Int):=Int.natCast_nonneg _;have Jd:(b[q].toNat:Int)<256:=by have:=UInt8.toNat_lt b[q];omega
    have iB:=dG.1;have dt:=dG.2;have I8:q≤2000:=by omega
    clear eq dG jW hk mZ zf;have ri:=bT b[q];generalize A j=cc at*
    go_wp2;go_roundg (gk - 1)
    case measure=>have:=HJ.out;omega
    case rel=>exact ⟨j+1,q+1,by rw[←HX.out],by simp,(by have:=HJ.out;exact⟨by omega,by omega⟩:q+1=a+1+(j+1)∧gk - 1+(j+1)=1),hw⟩
   ·have dj:¬(q:Int)≤(a:Int)+1:=by omega
    have zo:j=1:=by omega
    subst zo;have qe:=hw.out;clear jW hk dG;go_wp2;go_ret2
    first | exact hf.out | (rw[qe];exact hf.out)
theorem EE (w:World) (b:ByteArray) (hb:b.size≤1000) (a:Nat) (ha:a<b.size) (hy:bt b a=224):
 Calls Tryz.prog 54 #[.string b,.int .i64 (a:Int)] w (nF b a w):=by
 have e1:=fh b a ha;have hx:=dc b a;have qf:=bT b[a];have Fs:(a:Int)<(b.size:Int):=by omega
 have d1:¬(b[a].toNat:Int)<128:=by omega
 have HC:Hid (Db (bt b a) 2 160 191 ((b[a].toNat:Int) - 224)):=Or.inr (Or.inl ⟨by omega,by omega,rfl,by rw[if_pos (by omega)],by rw[if_neg (by omega)],by omega⟩);have k1:(194:Int)≤(b[a].toNat:Int):=by omega
 have k2:¬(b[a].toNat:Int)≤223:=by omega
 have k3:(224:Int)≤(b[a].toNat:Int):=by omega
 have k4:(b[a].toNat:Int)≤239:=by omega
 have k5:((b[a].toNat:Int)==224)=true:=by rw[e1];simp;omega
 have k6:((b[a].toNat:Int)==237)=false:=by simp;omega
 have j7:=dE w b hb (a+1) 2 160 191 (by omega) (by omega) (by omega) (by omega);have zb:0≤(b[a].toNat:Int) - 224∧(b[a].toNat:Int) - 224≤31:=by omega
 clear e1;go_enter Tryz.func54,Tryz.ntmps54;go_wp2_with fail;refine j7.mono ?_;rintro e w1 ⟨⟨t,rfl,ht⟩,rfl⟩
 cases t with
 | false=>
  have hf:Hid (nF b a w1 (.returned (.tuple #[.int .i64 0,.int .i64 0])) w1):=⟨_,_,rfl,Or.inr (Or.inl ⟨_,_,_,_,HC.out,Or.inr ⟨fun h=>(by have:=ht.2 h;cases this),rfl,rfl⟩⟩),rfl⟩;clear ht;go_wp2;go_ret2;exact hf.out
 | true=>
  have hT:=ht.1 rfl;obtain⟨A,hA⟩:∃A:Nat→Int,A=acc b (a+1) ((b[a].toNat:Int) - 224):=⟨_,rfl⟩;have hf:Hid (nF b a w1 (.returned (.tuple #[.int .i64 (A 2),.int .i64 3])) w1):=⟨_,_,rfl,Or.inr (Or.inl ⟨_,_,_,_,HC.out,Or.inl ⟨hT,by rw[hA],rfl⟩⟩),rfl⟩;have zf:=hT.1;have yE:Hid (∀q:Nat,q≤3→ -100000000≤A q∧A q≤100000000):=by rw[hA];exact eK b (a+1) _ zb
  have vU:Hid (∀q,A (q+1)=64*A q+(bt b (a+1+q):Int) - 128):=by rw[hA];exact fun q=>rfl
  have H0:Hid (Value.int .i64 ((b[a].toNat:Int) - 224)=.int .i64 (A 0)):=by rw[hA];rfl
  clear ht hT HC hA qf;go_wp2_with fail
  go_loopg [6,11] 2 (fun k vc vi wr=>∃j q:Nat,vc=.int .i64 (A j)∧vi=.int .i64 (q:Int)∧Hid (q=a+1+j∧k+j=2)∧Hid (wr=w1))
  case atStart=>exact ⟨0,a+1,H0.out,by simp,⟨rfl,by omega⟩,(rfl:w1=w1)⟩
  case round=>
   obtain⟨j,q,rfl,rfl,HJ,hw⟩:=hrel;obtain⟨jW,hk⟩:=HJ.out;have dG:=yE.out j (by omega);by_cases hj:j<2
   ·have hq:q<b.size:=by omega
    have I7:(q:Int)<(b.size:Int):=by omega
    have dj:(q:Int)≤(a:Int)+2:=by omega
    have eq:=fh b q hq;have mZ:=dc b q;have bZ:=vU.out j;rw[←jW,←eq] at bZ;have HX:Hid _:=bZ.symm;clear bZ;have Jc:0≤(b[q].toNat:Int):=Int.natCast_nonneg _;have Jd:(b[q].toNat:Int)<256:=by have:=UInt8.toNat_lt b[q];omega
    have iB:=dG.1;have dt:=dG.2;have I8:q≤2000:=by omega
    clear eq dG jW hk mZ zf;have ri:=bT b[q];generalize A j=cc at*
    go_wp2;go_roundg (gk - 1)
    case measure=>have:=HJ.out;omega
    case rel=>exact ⟨j+1,q+1,by rw[←HX.out],by simp,(by have:=HJ.out;exact⟨by omega,by omega⟩:q+1=a+1+(j+1)∧gk - 1+(j+1)=2),hw⟩
   ·have dj:¬(q:Int)≤(a:Int)+2:=by omega
    have zo:j=2:=by omega
    subst zo;have qe:=hw.out;clear jW hk dG;go_wp2;go_ret2
    first | exact hf.out | (rw[qe];exact hf.out)
theorem EF (w:World) (b:ByteArray) (hb:b.size≤1000) (a:Nat) (ha:a<b.size) (hy:bt b a=237):
 Calls Tryz.prog 54 #[.string b,.int .i64 (a:Int)] w (nF b a w):=by
 have e1:=fh b a ha;have hx:=dc b a;have qf:=bT b[a];have Fs:(a:Int)<(b.size:Int):=by omega
 have d1:¬(b[a].toNat:Int)<128:=by omega
 have HC:Hid (Db (bt b a) 2 128 159 ((b[a].toNat:Int) - 224)):=Or.inr (Or.inl ⟨by omega,by omega,rfl,by rw[if_neg (by omega)],by rw[if_pos (by omega)],by omega⟩);have k1:(194:Int)≤(b[a].toNat:Int):=by omega
 have k2:¬(b[a].toNat:Int)≤223:=by omega
 have k3:(224:Int)≤(b[a].toNat:Int):=by omega
 have k4:(b[a].toNat:Int)≤239:=by omega
 have k5:((b[a].toNat:Int)==224)=false:=by simp;omega
 have k6:((b[a].toNat:Int)==237)=true:=by rw[e1];simp;omega
 have j7:=dE w b hb (a+1) 2 128 159 (by omega) (by omega) (by omega) (by omega);have zb:0≤(b[a].toNat:Int) - 224∧(b[a].toNat:Int) - 224≤31:=by omega
 clear e1;go_enter Tryz.func54,Tryz.ntmps54;go_wp2_with fail;refine j7.mono ?_;rintro e w1 ⟨⟨t,rfl,ht⟩,rfl⟩
 cases t with
 | false=>
  have hf:Hid (nF b a w1 (.returned (.tuple #[.int .i64 0,.int .i64 0])) w1):=⟨_,_,rfl,Or.inr (Or.inl ⟨_,_,_,_,HC.out,Or.inr ⟨fun h=>(by have:=ht.2 h;cases this),rfl,rfl⟩⟩),rfl⟩;clear ht;go_wp2;go_ret2;exact hf.out
 | true=>
  have hT:=ht.1 rfl;obtain⟨A,hA⟩:∃A:Nat→Int,A=acc b (a+1) ((b[a].toNat:Int) - 224):=⟨_,rfl⟩;have hf:Hid (nF b a w1 (.returned (.tuple #[.int .i64 (A 2),.int .i64 3])) w1):=⟨_,_,rfl,Or.inr (Or.inl ⟨_,_,_,_,HC.out,Or.inl ⟨hT,by rw[hA],rfl⟩⟩),rfl⟩;have zf:=hT.1;have yE:Hid (∀q:Nat,q≤3→ -100000000≤A q∧A q≤100000000):=by rw[hA];exact eK b (a+1) _ zb
  have vU:Hid (∀q,A (q+1)=64*A q+(bt b (a+1+q):Int) - 128):=by rw[hA];exact fun q=>rfl
  have H0:Hid (Value.int .i64 ((b[a].toNat:Int) - 224)=.int .i64 (A 0)):=by rw[hA];rfl
  clear ht hT HC hA qf;go_wp2_with fail
  go_loopg [6,11] 2 (fun k vc vi wr=>∃j q:Nat,vc=.int .i64 (A j)∧vi=.int .i64 (q:Int)∧Hid (q=a+1+j∧k+j=2)∧Hid (wr=w1))
  case atStart=>exact ⟨0,a+1,H0.out,by simp,⟨rfl,by omega⟩,(rfl:w1=w1)⟩
  case round=>
   obtain⟨j,q,rfl,rfl,HJ,hw⟩:=hrel;obtain⟨jW,hk⟩:=HJ.out;have dG:=yE.out j (by omega);by_cases hj:j<2
   ·have hq:q<b.size:=by omega
    have I7:(q:Int)<(b.size:Int):=by omega
    have dj:(q:Int)≤(a:Int)+2:=by omega
    have eq:=fh b q hq;have mZ:=dc b q;have bZ:=vU.out j;rw[←jW,←eq] at bZ;have HX:Hid _:=bZ.symm;clear bZ;have Jc:0≤(b[q].toNat:Int):=Int.natCast_nonneg _;have Jd:(b[q].toNat:Int)<256:=by have:=UInt8.toNat_lt b[q];omega
    have iB:=dG.1;have dt:=dG.2;have I8:q≤2000:=by omega
    clear eq dG jW hk mZ zf;have ri:=bT b[q];generalize A j=cc at*
    go_wp2;go_roundg (gk - 1)
    case measure=>have:=HJ.out;omega
    case rel=>exact ⟨j+1,q+1,by rw[←HX.out],by simp,(by have:=HJ.out;exact⟨by omega,by omega⟩:q+1=a+1+(j+1)∧gk - 1+(j+1)=2),hw⟩
   ·have dj:¬(q:Int)≤(a:Int)+2:=by omega
    have zo:j=2:=by omega
    subst zo;have qe:=hw.out;clear jW hk dG;go_wp2;go_ret2
    first | exact hf.out | (rw[qe];exact hf.out)
theorem EG (w:World) (b:ByteArray) (hb:b.size≤1000) (a:Nat) (ha:a<b.size) (hy:224<bt b a∧bt b a≤239∧bt b a≠237):
 Calls Tryz.prog 54 #[.string b,.int .i64 (a:Int)] w (nF b a w):=by
 have e1:=fh b a ha;have hx:=dc b a;have qf:=bT b[a];have Fs:(a:Int)<(b.size:Int):=by omega
 have d1:¬(b[a].toNat:Int)<128:=by omega
 have HC:Hid (Db (bt b a) 2 128 191 ((b[a].toNat:Int) - 224)):=Or.inr (Or.inl ⟨by omega,by omega,rfl,by rw[if_neg (by omega)],by rw[if_neg (by omega)],by omega⟩);have k1:(194:Int)≤(b[a].toNat:Int):=by omega
 have k2:¬(b[a].toNat:Int)≤223:=by omega
 have k3:(224:Int)≤(b[a].toNat:Int):=by omega
 have k4:(b[a].toNat:Int)≤239:=by omega
 have k5:((b[a].toNat:Int)==224)=false:=by simp;omega
 have k6:((b[a].toNat:Int)==237)=false:=by simp;omega
 have j7:=dE w b hb (a+1) 2 128 191 (by omega) (by omega) (by omega) (by omega);have zb:0≤(b[a].toNat:Int) - 224∧(b[a].toNat:Int) - 224≤31:=by omega
 clear e1;go_enter Tryz.func54,Tryz.ntmps54;go_wp2_with fail;refine j7.mono ?_;rintro e w1 ⟨⟨t,rfl,ht⟩,rfl⟩
 cases t with
 | false=>
  have hf:Hid (nF b a w1 (.returned (.tuple #[.int .i64 0,.int .i64 0])) w1):=⟨_,_,rfl,Or.inr (Or.inl ⟨_,_,_,_,HC.out,Or.inr ⟨fun h=>(by have:=ht.2 h;cases this),rfl,rfl⟩⟩),rfl⟩;clear ht;go_wp2;go_ret2;exact hf.out
 | true=>
  have hT:=ht.1 rfl;obtain⟨A,hA⟩:∃A:Nat→Int,A=acc b (a+1) ((b[a].toNat:Int) - 224):=⟨_,rfl⟩;have hf:Hid (nF b a w1 (.returned (.tuple #[.int .i64 (A 2),.int .i64 3])) w1):=⟨_,_,rfl,Or.inr (Or.inl ⟨_,_,_,_,HC.out,Or.inl ⟨hT,by rw[hA],rfl⟩⟩),rfl⟩;have zf:=hT.1;have yE:Hid (∀q:Nat,q≤3→ -100000000≤A q∧A q≤100000000):=by rw[hA];exact eK b (a+1) _ zb
  have vU:Hid (∀q,A (q+1)=64*A q+(bt b (a+1+q):Int) - 128):=by rw[hA];exact fun q=>rfl
  have H0:Hid (Value.int .i64 ((b[a].toNat:Int) - 224)=.int .i64 (A 0)):=by rw[hA];rfl
  clear ht hT HC hA qf;go_wp2_with fail
  go_loopg [6,11] 2 (fun k vc vi wr=>∃j q:Nat,vc=.int .i64 (A j)∧vi=.int .i64 (q:Int)∧Hid (q=a+1+j∧k+j=2)∧Hid (wr=w1))
  case atStart=>exact ⟨0,a+1,H0.out,by simp,⟨rfl,by omega⟩,(rfl:w1=w1)⟩
  case round=>
   obtain⟨j,q,rfl,rfl,HJ,hw⟩:=hrel;obtain⟨jW,hk⟩:=HJ.out;have dG:=yE.out j (by omega);by_cases hj:j<2
   ·have hq:q<b.size:=by omega
    have I7:(q:Int)<(b.size:Int):=by omega
    have dj:(q:Int)≤(a:Int)+2:=by omega
    have eq:=fh b q hq;have mZ:=dc b q;have bZ:=vU.out j;rw[←jW,←eq] at bZ;have HX:Hid _:=bZ.symm;clear bZ;have Jc:0≤(b[q].toNat:Int):=Int.natCast_nonneg _;have Jd:(b[q].toNat:Int)<256:=by have:=UInt8.toNat_lt b[q];omega
    have iB:=dG.1;have dt:=dG.2;have I8:q≤2000:=by omega
    clear eq dG jW hk mZ zf;have ri:=bT b[q];generalize A j=cc at*
    go_wp2;go_roundg (gk - 1)
    case measure=>have:=HJ.out;omega
    case rel=>exact ⟨j+1,q+1,by rw[←HX.out],by simp,(by have:=HJ.out;exact⟨by omega,by omega⟩:q+1=a+1+(j+1)∧gk - 1+(j+1)=2),hw⟩
   ·have dj:¬(q:Int)≤(a:Int)+2:=by omega
    have zo:j=2:=by omega
    subst zo;have qe:=hw.out;clear jW hk dG;go_wp2;go_ret2
    first | exact hf.out | (rw[qe];exact hf.out)
theorem EH (w:World) (b:ByteArray) (hb:b.size≤1000) (a:Nat) (ha:a<b.size) (hy:bt b a=240):
 Calls Tryz.prog 54 #[.string b,.int .i64 (a:Int)] w (nF b a w):=by
 have e1:=fh b a ha;have hx:=dc b a;have qf:=bT b[a];have Fs:(a:Int)<(b.size:Int):=by omega
 have d1:¬(b[a].toNat:Int)<128:=by omega
 have HC:Hid (Db (bt b a) 3 144 191 ((b[a].toNat:Int) - 240)):=Or.inr (Or.inr ⟨by omega,by omega,rfl,by rw[if_pos (by omega)],by rw[if_neg (by omega)],by omega⟩);have k1:(194:Int)≤(b[a].toNat:Int):=by omega
 have k2:¬(b[a].toNat:Int)≤223:=by omega
 have k3:(224:Int)≤(b[a].toNat:Int):=by omega
 have k4:¬(b[a].toNat:Int)≤239:=by omega
 have k5:(240:Int)≤(b[a].toNat:Int):=by omega
 have k6:(b[a].toNat:Int)≤244:=by omega
 have k7:((b[a].toNat:Int)==240)=true:=by rw[e1];simp;omega
 have k8:((b[a].toNat:Int)==244)=false:=by simp;omega
 have j7:=dE w b hb (a+1) 3 144 191 (by omega) (by omega) (by omega) (by omega);have zb:0≤(b[a].toNat:Int) - 240∧(b[a].toNat:Int) - 240≤31:=by omega
 clear e1;go_enter Tryz.func54,Tryz.ntmps54;go_wp2_with fail;refine j7.mono ?_;rintro e w1 ⟨⟨t,rfl,ht⟩,rfl⟩
 cases t with
 | false=>
  have hf:Hid (nF b a w1 (.returned (.tuple #[.int .i64 0,.int .i64 0])) w1):=⟨_,_,rfl,Or.inr (Or.inl ⟨_,_,_,_,HC.out,Or.inr ⟨fun h=>(by have:=ht.2 h;cases this),rfl,rfl⟩⟩),rfl⟩;clear ht;go_wp2;go_ret2;exact hf.out
 | true=>
  have hT:=ht.1 rfl;obtain⟨A,hA⟩:∃A:Nat→Int,A=acc b (a+1) ((b[a].toNat:Int) - 240):=⟨_,rfl⟩;have hf:Hid (nF b a w1 (.returned (.tuple #[.int .i64 (A 3),.int .i64 4])) w1):=⟨_,_,rfl,Or.inr (Or.inl ⟨_,_,_,_,HC.out,Or.inl ⟨hT,by rw[hA],rfl⟩⟩),rfl⟩;have zf:=hT.1;have yE:Hid (∀q:Nat,q≤3→ -100000000≤A q∧A q≤100000000):=by rw[hA];exact eK b (a+1) _ zb
  have vU:Hid (∀q,A (q+1)=64*A q+(bt b (a+1+q):Int) - 128):=by rw[hA];exact fun q=>rfl
  have H0:Hid (Value.int .i64 ((b[a].toNat:Int) - 240)=.int .i64 (A 0)):=by rw[hA];rfl
  clear ht hT HC hA qf;go_wp2_with fail
  go_loopg [6,11] 3 (fun k vc vi wr=>∃j q:Nat,vc=.int .i64 (A j)∧vi=.int .i64 (q:Int)∧Hid (q=a+1+j∧k+j=3)∧Hid (wr=w1))
  case atStart=>exact ⟨0,a+1,H0.out,by simp,⟨rfl,by omega⟩,(rfl:w1=w1)⟩
  case round=>
   obtain⟨j,q,rfl,rfl,HJ,hw⟩:=hrel;obtain⟨jW,hk⟩:=HJ.out;have dG:=yE.out j (by omega);by_cases hj:j<3
   ·have hq:q<b.size:=by omega
    have I7:(q:Int)<(b.size:Int):=by omega
    have dj:(q:Int)≤(a:Int)+3:=by omega
    have eq:=fh b q hq;have mZ:=dc b q;have bZ:=vU.out j;rw[←jW,←eq] at bZ;have HX:Hid _:=bZ.symm;clear bZ;have Jc:0≤(b[q].toNat:Int):=Int.natCast_nonneg _;have Jd:(b[q].toNat:Int)<256:=by have:=UInt8.toNat_lt b[q];omega
    have iB:=dG.1;have dt:=dG.2;have I8:q≤2000:=by omega
    clear eq dG jW hk mZ zf;have ri:=bT b[q];generalize A j=cc at*
    go_wp2;go_roundg (gk - 1)
    case measure=>have:=HJ.out;omega
    case rel=>exact ⟨j+1,q+1,by rw[←HX.out],by simp,(by have:=HJ.out;exact⟨by omega,by omega⟩:q+1=a+1+(j+1)∧gk - 1+(j+1)=3),hw⟩
   ·have dj:¬(q:Int)≤(a:Int)+3:=by omega
    have zo:j=3:=by omega
    subst zo;have qe:=hw.out;clear jW hk dG;go_wp2;go_ret2
    first | exact hf.out | (rw[qe];exact hf.out)
theorem EI (w:World) (b:ByteArray) (hb:b.size≤1000) (a:Nat) (ha:a<b.size) (hy:bt b a=244):
 Calls Tryz.prog 54 #[.string b,.int .i64 (a:Int)] w (nF b a w):=by
 have e1:=fh b a ha;have hx:=dc b a;have qf:=bT b[a];have Fs:(a:Int)<(b.size:Int):=by omega
 have d1:¬(b[a].toNat:Int)<128:=by omega
 have HC:Hid (Db (bt b a) 3 128 143 ((b[a].toNat:Int) - 240)):=Or.inr (Or.inr ⟨by omega,by omega,rfl,by rw[if_neg (by omega)],by rw[if_pos (by omega)],by omega⟩);have k1:(194:Int)≤(b[a].toNat:Int):=by omega
 have k2:¬(b[a].toNat:Int)≤223:=by omega
 have k3:(224:Int)≤(b[a].toNat:Int):=by omega
 have k4:¬(b[a].toNat:Int)≤239:=by omega
 have k5:(240:Int)≤(b[a].toNat:Int):=by omega
 have k6:(b[a].toNat:Int)≤244:=by omega
 have k7:((b[a].toNat:Int)==240)=false:=by simp;omega
 have k8:((b[a].toNat:Int)==244)=true:=by rw[e1];simp;omega
 have j7:=dE w b hb (a+1) 3 128 143 (by omega) (by omega) (by omega) (by omega);have zb:0≤(b[a].toNat:Int) - 240∧(b[a].toNat:Int) - 240≤31:=by omega
 clear e1;go_enter Tryz.func54,Tryz.ntmps54;go_wp2_with fail;refine j7.mono ?_;rintro e w1 ⟨⟨t,rfl,ht⟩,rfl⟩
 cases t with
 | false=>
  have hf:Hid (nF b a w1 (.returned (.tuple #[.int .i64 0,.int .i64 0])) w1):=⟨_,_,rfl,Or.inr (Or.inl ⟨_,_,_,_,HC.out,Or.inr ⟨fun h=>(by have:=ht.2 h;cases this),rfl,rfl⟩⟩),rfl⟩;clear ht;go_wp2;go_ret2;exact hf.out
 | true=>
  have hT:=ht.1 rfl;obtain⟨A,hA⟩:∃A:Nat→Int,A=acc b (a+1) ((b[a].toNat:Int) - 240):=⟨_,rfl⟩;have hf:Hid (nF b a w1 (.returned (.tuple #[.int .i64 (A 3),.int .i64 4])) w1):=⟨_,_,rfl,Or.inr (Or.inl ⟨_,_,_,_,HC.out,Or.inl ⟨hT,by rw[hA],rfl⟩⟩),rfl⟩;have zf:=hT.1;have yE:Hid (∀q:Nat,q≤3→ -100000000≤A q∧A q≤100000000):=by rw[hA];exact eK b (a+1) _ zb
  have vU:Hid (∀q,A (q+1)=64*A q+(bt b (a+1+q):Int) - 128):=by rw[hA];exact fun q=>rfl
  have H0:Hid (Value.int .i64 ((b[a].toNat:Int) - 240)=.int .i64 (A 0)):=by rw[hA];rfl
  clear ht hT HC hA qf;go_wp2_with fail
  go_loopg [6,11] 3 (fun k vc vi wr=>∃j q:Nat,vc=.int .i64 (A j)∧vi=.int .i64 (q:Int)∧Hid (q=a+1+j∧k+j=3)∧Hid (wr=w1))
  case atStart=>exact ⟨0,a+1,H0.out,by simp,⟨rfl,by omega⟩,(rfl:w1=w1)⟩
  case round=>
   obtain⟨j,q,rfl,rfl,HJ,hw⟩:=hrel;obtain⟨jW,hk⟩:=HJ.out;have dG:=yE.out j (by omega);by_cases hj:j<3
   ·have hq:q<b.size:=by omega
    have I7:(q:Int)<(b.size:Int):=by omega
    have dj:(q:Int)≤(a:Int)+3:=by omega
    have eq:=fh b q hq;have mZ:=dc b q;have bZ:=vU.out j;rw[←jW,←eq] at bZ;have HX:Hid _:=bZ.symm;clear bZ;have Jc:0≤(b[q].toNat:Int):=Int.natCast_nonneg _;have Jd:(b[q].toNat:Int)<256:=by have:=UInt8.toNat_lt b[q];omega
    have iB:=dG.1;have dt:=dG.2;have I8:q≤2000:=by omega
    clear eq dG jW hk mZ zf;have ri:=bT b[q];generalize A j=cc at*
    go_wp2;go_roundg (gk - 1)
    case measure=>have:=HJ.out;omega
    case rel=>exact ⟨j+1,q+1,by rw[←HX.out],by simp,(by have:=HJ.out;exact⟨by omega,by omega⟩:q+1=a+1+(j+1)∧gk - 1+(j+1)=3),hw⟩
   ·have dj:¬(q:Int)≤(a:Int)+3:=by omega
    have zo:j=3:=by omega
    subst zo;have qe:=hw.out;clear jW hk dG;go_wp2;go_ret2
    first | exact hf.out | (rw[qe];exact hf.out)
theorem EJ (w:World) (b:ByteArray) (hb:b.size≤1000) (a:Nat) (ha:a<b.size) (hy:240<bt b a∧bt b a<244):
 Calls Tryz.prog 54 #[.string b,.int .i64 (a:Int)] w (nF b a w):=by
 have e1:=fh b a ha;have hx:=dc b a;have qf:=bT b[a];have Fs:(a:Int)<(b.size:Int):=by omega
 have d1:¬(b[a].toNat:Int)<128:=by omega
 have HC:Hid (Db (bt b a) 3 128 191 ((b[a].toNat:Int) - 240)):=Or.inr (Or.inr ⟨by omega,by omega,rfl,by rw[if_neg (by omega)],by rw[if_neg (by omega)],by omega⟩);have k1:(194:Int)≤(b[a].toNat:Int):=by omega
 have k2:¬(b[a].toNat:Int)≤223:=by omega
 have k3:(224:Int)≤(b[a].toNat:Int):=by omega
 have k4:¬(b[a].toNat:Int)≤239:=by omega
 have k5:(240:Int)≤(b[a].toNat:Int):=by omega
 have k6:(b[a].toNat:Int)≤244:=by omega
 have k7:((b[a].toNat:Int)==240)=false:=by simp;omega
 have k8:((b[a].toNat:Int)==244)=false:=by simp;omega
 have j7:=dE w b hb (a+1) 3 128 191 (by omega) (by omega) (by omega) (by omega);have zb:0≤(b[a].toNat:Int) - 240∧(b[a].toNat:Int) - 240≤31:=by omega
 clear e1;go_enter Tryz.func54,Tryz.ntmps54;go_wp2_with fail;refine j7.mono ?_;rintro e w1 ⟨⟨t,rfl,ht⟩,rfl⟩
 cases t with
 | false=>
  have hf:Hid (nF b a w1 (.returned (.tuple #[.int .i64 0,.int .i64 0])) w1):=⟨_,_,rfl,Or.inr (Or.inl ⟨_,_,_,_,HC.out,Or.inr ⟨fun h=>(by have:=ht.2 h;cases this),rfl,rfl⟩⟩),rfl⟩;clear ht;go_wp2;go_ret2;exact hf.out
 | true=>
  have hT:=ht.1 rfl;obtain⟨A,hA⟩:∃A:Nat→Int,A=acc b (a+1) ((b[a].toNat:Int) - 240):=⟨_,rfl⟩;have hf:Hid (nF b a w1 (.returned (.tuple #[.int .i64 (A 3),.int .i64 4])) w1):=⟨_,_,rfl,Or.inr (Or.inl ⟨_,_,_,_,HC.out,Or.inl ⟨hT,by rw[hA],rfl⟩⟩),rfl⟩;have zf:=hT.1;have yE:Hid (∀q:Nat,q≤3→ -100000000≤A q∧A q≤100000000):=by rw[hA];exact eK b (a+1) _ zb
  have vU:Hid (∀q,A (q+1)=64*A q+(bt b (a+1+q):Int) - 128):=by rw[hA];exact fun q=>rfl
  have H0:Hid (Value.int .i64 ((b[a].toNat:Int) - 240)=.int .i64 (A 0)):=by rw[hA];rfl
  clear ht hT HC hA qf;go_wp2_with fail
  go_loopg [6,11] 3 (fun k vc vi wr=>∃j q:Nat,vc=.int .i64 (A j)∧vi=.int .i64 (q:Int)∧Hid (q=a+1+j∧k+j=3)∧Hid (wr=w1))
  case atStart=>exact ⟨0,a+1,H0.out,by simp,⟨rfl,by omega⟩,(rfl:w1=w1)⟩
  case round=>
   obtain⟨j,q,rfl,rfl,HJ,hw⟩:=hrel;obtain⟨jW,hk⟩:=HJ.out;have dG:=yE.out j (by omega);by_cases hj:j<3
   ·have hq:q<b.size:=by omega
    have I7:(q:Int)<(b.size:Int):=by omega
    have dj:(q:Int)≤(a:Int)+3:=by omega
    have eq:=fh b q hq;have mZ:=dc b q;have bZ:=vU.out j;rw[←jW,←eq] at bZ;have HX:Hid _:=bZ.symm;clear bZ;have Jc:0≤(b[q].toNat:Int):=Int.natCast_nonneg _;have Jd:(b[q].toNat:Int)<256:=by have:=UInt8.toNat_lt b[q];omega
    have iB:=dG.1;have dt:=dG.2;have I8:q≤2000:=by omega
    clear eq dG jW hk mZ zf;have ri:=bT b[q];generalize A j=cc at*
    go_wp2;go_roundg (gk - 1)
    case measure=>have:=HJ.out;omega
    case rel=>exact ⟨j+1,q+1,by rw[←HX.out],by simp,(by have:=HJ.out;exact⟨by omega,by omega⟩:q+1=a+1+(j+1)∧gk - 1+(j+1)=3),hw⟩
   ·have dj:¬(q:Int)≤(a:Int)+3:=by omega
    have zo:j=3:=by omega
    subst zo;have qe:=hw.out;clear jW hk dG;go_wp2;go_ret2
    first | exact hf.out | (rw[qe];exact hf.out)
theorem vo (w:World) (b:ByteArray) (hb:b.size≤1000) (a:Nat) (ha:a<b.size):
 Calls Tryz.prog 54 #[.string b,.int .i64 (a:Int)] w (nF b a w):=by
 have e1:=fh b a ha;have hx:=dc b a;have qf:=bT b[a];have Fs:(a:Int)<(b.size:Int):=by omega
 by_cases h1:bt b a<128
 ·have d1:(b[a].toNat:Int)<128:=by omega
  have hf:Hid (nF b a w (.returned (.tuple #[.int .i64 (b[a].toNat:Int),.int .i64 1])) w):=⟨_,_,rfl,Or.inl ⟨h1,e1,rfl⟩,rfl⟩;clear e1;go_enter Tryz.func54,Tryz.ntmps54;go_wp2;go_ret2;exact hf.out
 ·have d1:¬(b[a].toNat:Int)<128:=by omega
  by_cases eO:bt b a<194∨244<bt b a
  ·have hf:Hid (nF b a w (.returned (.tuple #[.int .i64 0,.int .i64 0])) w):=⟨_,_,rfl,Or.inr (Or.inr ⟨by omega,rfl,rfl⟩),rfl⟩
   rcases eO with h2 | h2
   ·have d2:(b[a].toNat:Int)<194:=by omega
    clear e1;go_enter Tryz.func54,Tryz.ntmps54;go_wp2;go_ret2;exact hf.out
   ·have d2:(244:Int)<(b[a].toNat:Int):=by omega
    clear e1;go_enter Tryz.func54,Tryz.ntmps54;go_wp2;go_ret2;exact hf.out
  ·by_cases x1:bt b a≤223
   ·exact ED w b hb a ha ⟨by omega,x1⟩
   ·by_cases x2:bt b a≤239
    ·by_cases y1:bt b a=224
     ·exact EE w b hb a ha y1
     ·by_cases y2:bt b a=237
      ·exact EF w b hb a ha y2
      ·exact EG w b hb a ha ⟨by omega,x2,y2⟩
    ·by_cases y1:bt b a=240
     ·exact EH w b hb a ha y1
     ·by_cases y2:bt b a=244
      ·exact EI w b hb a ha y2
      ·exact EJ w b hb a ha ⟨by omega,by omega⟩
end
end Go.Proofs.YtbiobhghnldckaaGreatDoor
