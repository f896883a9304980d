/- Proved: adzeref's piece: a set. Conditions: the Scan lies in memory as 'Scn' says. -/
import Derived.Test.YtbiobhghnldckaaGreatDoorS10
namespace Go.Proofs.YtbiobhghnldckaaGreatDoor
set_option linter.unusedVariables false
set_option maxRecDepth 100000
set_option maxHeartbeats 6400000
section
open Go.RowKit
attribute [local go_sem ↓] Go.wp_at_zero Go.wp_at_succ
theorem xp (g:SG) (w:World) (s:SS) (h:Scn g w s) (CN:Rf.now g.L s=91):
 Calls Tryz.prog 152 #[.pointer (some ⟨g.x,0,none⟩)] w fun e w'=>∃v,e=.returned v∧xF v∧Scn g w' (Rf.piece g.L g.pl s)∧ae (·=g.x) w w':=by
 have hle:=h.le;have dy:=h.small;obtain⟨F,hF⟩:∃F,Rf.piece g.L g.pl s=F:=⟨_,rfl⟩;rw[hF];unfold Rf.piece Rf.single at hF;obtain⟨lx,ll,lp⟩:=h.lts;have hP:=PcS.new h;have mq:=aQ g _ s hP.scn 46 (by decide);unfold Rf.take at mq;have xS:Rf.now g.L s≠46:=by omega
 have Ou:s.e=0:=Rf.now_e (L:=g.L) (by omega);have UI:=(cr h (by omega)).2.1;rw[if_neg xS,if_pos CN] at hF;rw[if_neg xS] at mq;have nU:=fun w1 (h1:Scn g w1 s)=>aQ g w1 s h1 91 (by decide);unfold Rf.take at nU;simp only[if_pos CN] at nU;have RJ:=fun w1 (h1:Scn g w1 {s with i:=s.i+1})=>aQ g w1 _ h1 94 (by decide);have CW:=Rf.take_mon g.L {s with i:=s.i+1} 94;generalize (Rf.take g.L {s with i:=s.i+1} 94).1=b3 at*
 generalize (Rf.take g.L {s with i:=s.i+1} 94).2=s3 at*
 obtain⟨T,hT⟩:∃T,Rf.members g.L g.pl (g.L.length+1) false s3=T:=⟨_,rfl⟩;rw[hT] at hF;have HT:Hid _:=hT;have H2:Hid _:=nU;have H3:Hid _:=RJ;have HF:Hid _:=hF;have HM:Hid _:=CW;obtain⟨s0,uK,Ai,Aj,Ak⟩:=info_parts eY;clear hF xS CN nU RJ hT CW;go_enter Tryz.func152,Tryz.ntmps152;go_wp2_with fail;refine mq.mono ?_;rintro e w1 ⟨rfl,h1,o1⟩;have P1:=hP.moved lx h1 o1;go_wp2_with fail;refine(H2.out _ h1).mono ?_;rintro e w2 ⟨rfl,h2,o2⟩;have P2:=P1.moved lx h2 o2;go_wp2_with fail;refine(H3.out _ h2).mono ?_;rintro e w3 ⟨rfl,h3,o3⟩;have P3:=P2.moved lx h3 o3;have P4:=P3.mark (Or.inr trivial) lx ll lp b3;obtain⟨Nk,Bf⟩:=P3.it;have k3:=Bf 3 _ rfl;clear Bf hP P1 P2 P3 h1 o1 h2 o2 h3 o3;go_wp2_with fail;generalize w3.setCell ⟨w.heap.size+1,3,none⟩ (.bool b3)=wy at*
 go_loopg [] (g.L.length+1) (fun k wr=>∃(sj:SS) (n m:Nat) (sa:Option Addr) (sc:Nat) (xs:List Value),Hid (PcS g w wr sj (.slice sa (2*n) sc))∧Hid (wr.ownsRow (w.heap.size+2) 3 1 (.slice sa (2*n) sc) (2*n) xs)∧Hid (n≤501∧(sj.e=0→g.L.length<m+sj.i∧g.L.length+1≤sj.i+k∧n≤sj.i)∧Rf.members g.L g.pl m (decide (0<n)) sj=T))
 case atStart=>exact ⟨s3,0,g.L.length+1,none,0,[],P4,World.ownsRow_nil _ _ _ _,⟨by omega,fun e=>⟨by omega,by omega,by omega⟩,HT.out⟩⟩
 case round=>
  obtain⟨sj,n,m,sa,sc,xs,HP,HW,HI⟩:=hrel;have P:=HP.out;obtain⟨CX,lD,au⟩:=HI.out;have cU:=P.scn;obtain⟨la,pc,k1,k2⟩:=cU.cells;have ce:=(k1 3 _ rfl).1;have c2:=(k1 2 _ rfl).1;obtain⟨Nk,Bf⟩:=P.it;have kp:=Bf 2 _ rfl;clear k1 k2 HP HI Bf P4 HT;by_cases he:sj.e=0
  ·obtain⟨wO,vN,qZ⟩:=lD he
   have yc:=cU.le;obtain⟨m,rfl⟩:∃m',m=m'+1:=⟨m - 1,by omega⟩;unfold Rf.members at au;rw[if_pos he] at au;have b0:(sj.e==0)=true:=by simpa using he
   have HQ:Hid (1≤gk∧g.L.length<m+1+sj.i∧g.L.length+1≤sj.i+gk∧n≤sj.i):=⟨by omega,wO,vN,qZ⟩;have HE:Hid _:=he;have HW:=HW.out;clear lD wO vN qZ he;have dR:=aQ g wr sj cU 93 (by decide);unfold Rf.take at dR;by_cases fO:decide (0<n)=true∧Rf.now g.L sj=93
   ·-- the set's end
    rw[if_pos fO] at au;rw[if_pos fO.2] at dR;have tB:0<n:=by simpa using fO.1
    have FD:(0:Int)<((2*n:Nat):Int):=by omega
    subst au;clear fO;go_wp2_with fail;refine dR.mono ?_;rintro e wz ⟨rfl,h1,o1⟩;have P:=P.moved lx h1 o1;go_wp2_with fail;have h1:=P.scn;obtain⟨AN,hN⟩:=P.it;have lA:=P.res;have oW:=P.o;have lz:=P.lt;obtain⟨MJ,MN,xe,Hz⟩:=h1.cells;have Nw:=(xe 2 _ rfl).1;have f92:=(xe 2 _ rfl).2;have m0:=hN 0 _ rfl;have m1:=hN 1 _ rfl;have m2:=hN 2 _ rfl;have m3:=hN 3 _ rfl;have m4:=hN 4 _ rfl;have v0:=lA 0 _ rfl;have v1:=lA 1 _ rfl;have v2:=lA 2 _ rfl;have v3:=lA 3 _ rfl;have v4:=lA 4 _ rfl;have gU:=h1.le;have ng:=h1.small;have pg:=az g _ _ h1;have oB:=HF.out;unfold Rf.many at oB;clear xe Hz HF P hN lA;have n1:¬(w.heap.size+1=g.x):=by omega
    have n2:¬(w.heap.size=g.x):=by omega
    by_cases mY:Rf.now g.L {sj with i:=sj.i+1}=42∨Rf.now g.L {sj with i:=sj.i+1}=43∨Rf.now g.L {sj with i:=sj.i+1}=63
    ·rw[if_pos mY] at oB
     subst oB;have wT:=(cr h1 (by omega)).2.1;have HO:Hid _:=oW;have HX:Hid _:=h1;generalize Rf.now g.L {sj with i:=sj.i+1}=r9 at*
     clear h1
     rcases mY with rfl | rfl | rfl
     all_goals
      go_wp2_with fail;refine pg.mono ?_;rintro e w9 ⟨rfl,n9,rfl⟩;go_wp2;have Hj:=fun m=>Scn.high (HX.out.drewN n9) w.heap.size lx ll lp (ae.setCell (S:=fun b=>w.heap.size≤b) (p:=⟨w.heap.size+1,4,none⟩) (ae.refl _ _) (fun _=>Nat.le_succ _) (.int .u8 m));have mZ:=fun m=>(Hj m).step wT;refine bodyPost_ret (v:=.agg #[.int .u8 120,.int .i64 0,.slice sa (2*n) sc,.bool AN,.int .u8 _]) (by simp[results,Tryz.results152,go_sem,v0,v1,v2,v3,v4];rfl) rfl ⟨_,rfl,⟨_,_,_,_,_,_,_,rfl⟩,Scn.high (mZ _).1 w.heap.size lx ll lp (bS _ _ _ _ _ _ _),?_⟩;exact(((HO.out.drewN n9).setCell (p:=⟨w.heap.size+1,4,none⟩) (fun e=>absurd e (by show ¬w.heap.size+1<w.heap.size;omega)) _).trans (mZ _).2 (fun _ e=>e) (fun _ _ e=>e)).trans (bS _ _ _ _ _ _ _) (fun _ e=>e) (fun b hb e=>absurd e (by omega))
    ·rw[if_neg mY] at oB
     subst oB;have q1:(Rf.now g.L {sj with i:=sj.i+1}==42)=false:=by simp;omega
     have q2:(Rf.now g.L {sj with i:=sj.i+1}==43)=false:=by simp;omega
     have q3:(Rf.now g.L {sj with i:=sj.i+1}==63)=false:=by simp;omega
     generalize Rf.now g.L {sj with i:=sj.i+1}=r9 at*
     go_wp2_with fail;refine pg.mono ?_;rintro e w9 ⟨rfl,n9,rfl⟩;go_wp2;refine bodyPost_ret (v:=.agg #[.int .u8 120,.int .i64 0,.slice sa (2*n) sc,.bool AN,.int .u8 49]) (by simp[results,Tryz.results152,go_sem,v0,v1,v2,v3,v4]) rfl ⟨_,rfl,⟨_,_,_,_,_,_,_,rfl⟩,Scn.high (h1.drewN n9) w.heap.size lx ll lp (bS _ _ _ _ _ _ _),?_⟩;exact(oW.drewN n9).trans (bS _ _ _ _ _ _ _) (fun _ e=>e) (fun b hb e=>absurd e (by omega))
   ·rw[if_neg fO] at au
    have E5:Hid _:=au;clear au;by_cases tB:0<n
    all_goals first
     | (have Dv:¬Rf.now g.L sj=93:=fun e=>fO ⟨by simpa using tB,e⟩
        rw[if_neg Dv] at dR;have FD:(0:Int)<((2*n:Nat):Int):=by omega
        clear fO Dv tB;go_wp2_with fail;refine dR.mono ?_;rintro e wq ⟨rfl,h1,o1⟩;have Tf:=ag HW o1 (fun b hb e=>by have:=(HW.lt b hb).1;omega);have P:=P.moved lx h1 o1;clear FD HW;have HW:=Tf;obtain⟨la,pc,k1,k2⟩:=P.scn.cells;have Tz:=(k1 2 _ rfl).1;clear k1 k2;go_wp2_with fail)
     | (have FD:¬(0:Int)<((2*n:Nat):Int):=by omega
        clear fO tB;obtain⟨wq,ri⟩:∃wq,wq=wr:=⟨_,rfl⟩;rw[←ri] at HW P;have Tz:=c2;go_wp2_with fail;rw[←ri];clear FD ri)
    all_goals
     clear dR ce c2 kp cU;have eX:=gY g wq sj P.scn ⟨#[93,94,45,91,47,10]⟩ (by decide);rw[qN] at eX;have uE:=E5.out;unfold Rf.member Rf.upto at uE;have GJ:Hid _:=Rf.member_adv g.L g.pl sj;have wK:=GJ.out;unfold Rf.member Rf.upto at wK;clear E5 GJ;generalize (Rf.plain g.L g.pl Rf.setBut sj).1=r1 at*
     generalize (Rf.plain g.L g.pl Rf.setBut sj).2=s1 at*
     have C2:=fun w5 (h5:Scn g w5 s1)=>aQ g w5 s1 h5 45 (by decide);unfold Rf.take at C2 uE wK;have Qm:Hid _:=uE;have Jq:Hid _:=wK;have H5:Hid _:=C2;clear uE wK C2;refine eX.mono ?_;rintro e w5 ⟨rfl,h5,o5⟩;have II:=ag HW o5 (fun b hb e=>by have:=(HW.lt b hb).1;omega);have P5:=P.moved lx h5 o5;clear HW P;have uE:=Qm.out;have wK:=Jq.out;have C2:=H5.out w5 h5;clear Qm Jq H5;by_cases nO:Rf.now g.L s1=45
     ·rw[if_pos nO] at C2
      simp only[if_pos nO,if_true] at uE wK;have Hg:=fun w6 (h6:Scn g w6 {s1 with i:=s1.i+1})=>gY g w6 _ h6 ⟨#[93,94,45,91,47,10]⟩ (by decide);simp only[qN] at Hg;generalize (Rf.plain g.L g.pl Rf.setBut {s1 with i:=s1.i+1}).1=r2 at*
      generalize (Rf.plain g.L g.pl Rf.setBut {s1 with i:=s1.i+1}).2=s2 at*
      have H6:Hid _:=Hg;clear Hg nO;go_wp2_with fail;refine C2.mono ?_;rintro e w6 ⟨rfl,h6,o6⟩;have Nb:=ag II o6 (fun b hb e=>by have:=(II.lt b hb).1;omega);have P6:=P5.moved lx h6 o6;clear II P5 C2;go_wp2_with fail;refine(H6.out _ h6).mono ?_;rintro e w7 ⟨rfl,h7,o7⟩;have HW:=ag Nb o7 (fun b hb e=>by have:=(Nb.lt b hb).1;omega);have P:=P6.moved lx h7 o7;clear Nb P6 H6 h6 o6 h5 o5 o7;by_cases aw:r2<r1
      ·rw[if_pos aw] at uE wK
       have bG:Hid _:=uE;have fY:Hid _:=wK;clear uE wK;have eO:=aB g w7 s2 h7 4 sj.i yc;clear h7;go_wp2_with fail;refine eO.mono ?_;rintro e w8 ⟨rfl,h8,o8⟩;have Te:=ag HW o8 (fun b hb e=>by have:=(HW.lt b hb).1;omega);have P:=P.moved lx h8 o8;clear HW eO h8 o8 aw;have HW:=Te;have Eg:=P.lt;have LD:w.heap.size+1<w8.heap.size:=by omega
       obtain⟨Qx,gB⟩:=P.it;have kv:=gB 2 _ rfl;have j8:=kv.1;have sC:=kv.2;clear kv gB;have bu:(Value.slice sa (2*n) sc).ownBlock≠some (w.heap.size+1):=fun e=>by have:=(HW.lt _ e).1;omega
       have aO:(w8.alloc (.cells #[.int .i64 r1,.int .i64 r2] 3)).heap.size=w8.heap.size+1:=by simp
       have oa:ae (fun _=>False) w8 (w8.alloc (.cells #[.int .i64 r1,.int .i64 r2] 3)):=(ae.refl _ w8).alloc _;have cq:=ag HW oa (fun _ _=>id);have gD:=oa.keeps j8 id;have gE:=oa.keepsFrozen j8 sC id;go_wp2_with (at_builtin;refine wpList_append_lies _ (by rfl) _ _ _ (by rfl) (w.heap.size+2) 3 s0 _ 1 8 Tryz.underlying35 uK Ai Aj Ak rfl (by omega) (.slice sa (2*n) sc) (2*n) xs (by rfl) cq ⟨w8.heap.size,0,none⟩ 2 2 [.int .i64 r1,.int .i64 r2] (by rfl) (by rfl) (World.news_of_block (cs:= #[.int .i64 r1,.int .i64 r2]) (t:=3) (fr:=(0,0)) (heap_alloc_new _ _)) (by simp[Value.oneCell']) (by omega) (by unfold maxLen;omega) (by omega) (by rw[aO];omega) (w8.heap.size+1) aO ?_;intro g2 aT w4 ay ao bH dM;have gq:=(ao.cell_far ⟨w.heap.size+1,2,none⟩ (by rw[aO];show w.heap.size+1<_;omega) (Ne.symm bu)).trans gD;have sA:=(ao.frozen_far ⟨w.heap.size+1,2,none⟩ (by rw[aO];show w.heap.size+1<_;omega) (Ne.symm bu)).trans gE);have ob:ae (fun b=>w.heap.size+2≤b) w8 w4:=(oa.mono (fun _ _ e=>e.elim)).trans (ae.of_grown ao) (fun _ e=>e) (fun b hb e=>(HW.lt b e).1);have Pn:=P.pairs lx ll lp ob (.slice (some ⟨g2,0,none⟩) (2*n+2) aT);have CY:(w4.setCell ⟨w.heap.size+1,2,none⟩ (.slice (some ⟨g2,0,none⟩) (2*n+2) aT)).ownsRow (w.heap.size+2) 3 1 (.slice (some ⟨g2,0,none⟩) (2*n+2) aT) (2*n+2) (xs++ [.int .i64 r1,.int .i64 r2]):=ag ay (af _ _ _ _) (fun b hb e=>by have:=(ay.lt b hb).1;omega);go_roundg (gk - 1)
       case measure=>have:=HQ.out.1;omega
       case rel=>exact ⟨(Rf.no g.pl s2 4 sj.i),n+1,m,some ⟨g2,0,none⟩,aT,_,Pn,CY,⟨by have:=HQ.out;have:=yc;omega,fun e=>by have h9:=fY.out e;have:=HQ.out;exact⟨by omega,by omega,by omega⟩,by rw[show decide (0<n+1)=true by simp];exact bG.out⟩⟩
      ·rw[if_neg aw] at uE wK
       have bG:Hid _:=uE;have fY:Hid _:=wK;clear uE wK h7;have Eg:=P.lt;have LD:w.heap.size+1<w7.heap.size:=by omega
       obtain⟨Qx,gB⟩:=P.it;have kv:=gB 2 _ rfl;have j8:=kv.1;have sC:=kv.2;clear kv gB;have bu:(Value.slice sa (2*n) sc).ownBlock≠some (w.heap.size+1):=fun e=>by have:=(HW.lt _ e).1;omega
       have aO:(w7.alloc (.cells #[.int .i64 r1,.int .i64 r2] 3)).heap.size=w7.heap.size+1:=by simp
       have oa:ae (fun _=>False) w7 (w7.alloc (.cells #[.int .i64 r1,.int .i64 r2] 3)):=(ae.refl _ w7).alloc _;have cq:=ag HW oa (fun _ _=>id);have gD:=oa.keeps j8 id;have gE:=oa.keepsFrozen j8 sC id;go_wp2_with (at_builtin;refine wpList_append_lies _ (by rfl) _ _ _ (by rfl) (w.heap.size+2) 3 s0 _ 1 8 Tryz.underlying35 uK Ai Aj Ak rfl (by omega) (.slice sa (2*n) sc) (2*n) xs (by rfl) cq ⟨w7.heap.size,0,none⟩ 2 2 [.int .i64 r1,.int .i64 r2] (by rfl) (by rfl) (World.news_of_block (cs:= #[.int .i64 r1,.int .i64 r2]) (t:=3) (fr:=(0,0)) (heap_alloc_new _ _)) (by simp[Value.oneCell']) (by omega) (by unfold maxLen;omega) (by omega) (by rw[aO];omega) (w7.heap.size+1) aO ?_;intro g2 aT w4 ay ao bH dM;have gq:=(ao.cell_far ⟨w.heap.size+1,2,none⟩ (by rw[aO];show w.heap.size+1<_;omega) (Ne.symm bu)).trans gD;have sA:=(ao.frozen_far ⟨w.heap.size+1,2,none⟩ (by rw[aO];show w.heap.size+1<_;omega) (Ne.symm bu)).trans gE);have ob:ae (fun b=>w.heap.size+2≤b) w7 w4:=(oa.mono (fun _ _ e=>e.elim)).trans (ae.of_grown ao) (fun _ e=>e) (fun b hb e=>(HW.lt b e).1);have Pn:=P.pairs lx ll lp ob (.slice (some ⟨g2,0,none⟩) (2*n+2) aT);have CY:(w4.setCell ⟨w.heap.size+1,2,none⟩ (.slice (some ⟨g2,0,none⟩) (2*n+2) aT)).ownsRow (w.heap.size+2) 3 1 (.slice (some ⟨g2,0,none⟩) (2*n+2) aT) (2*n+2) (xs++ [.int .i64 r1,.int .i64 r2]):=ag ay (af _ _ _ _) (fun b hb e=>by have:=(ay.lt b hb).1;omega);go_roundg (gk - 1)
       case measure=>have:=HQ.out.1;omega
       case rel=>exact ⟨s2,n+1,m,some ⟨g2,0,none⟩,aT,_,Pn,CY,⟨by have:=HQ.out;have:=yc;omega,fun e=>by have h9:=fY.out e;have:=HQ.out;exact⟨by omega,by omega,by omega⟩,by rw[show decide (0<n+1)=true by simp];exact bG.out⟩⟩
     ·rw[if_neg nO] at C2
      simp only[if_neg nO,Bool.false_eq_true,if_false,Int.lt_irrefl] at uE wK;have bG:Hid _:=uE;have fY:Hid _:=wK;clear uE wK nO;go_wp2_with fail;refine C2.mono ?_;rintro e w6 ⟨rfl,h6,o6⟩;have HW:=ag II o6 (fun b hb e=>by have:=(II.lt b hb).1;omega);have P:=P5.moved lx h6 o6;have UJ:¬r1<r1:=Int.lt_irrefl _;clear II P5 C2 h6 o6 h5 o5;have Eg:=P.lt;have LD:w.heap.size+1<w6.heap.size:=by omega
      obtain⟨Qx,gB⟩:=P.it;have kv:=gB 2 _ rfl;have j8:=kv.1;have sC:=kv.2;clear kv gB;have bu:(Value.slice sa (2*n) sc).ownBlock≠some (w.heap.size+1):=fun e=>by have:=(HW.lt _ e).1;omega
      have aO:(w6.alloc (.cells #[.int .i64 r1,.int .i64 r1] 3)).heap.size=w6.heap.size+1:=by simp
      have oa:ae (fun _=>False) w6 (w6.alloc (.cells #[.int .i64 r1,.int .i64 r1] 3)):=(ae.refl _ w6).alloc _;have cq:=ag HW oa (fun _ _=>id);have gD:=oa.keeps j8 id;have gE:=oa.keepsFrozen j8 sC id;go_wp2_with (at_builtin;refine wpList_append_lies _ (by rfl) _ _ _ (by rfl) (w.heap.size+2) 3 s0 _ 1 8 Tryz.underlying35 uK Ai Aj Ak rfl (by omega) (.slice sa (2*n) sc) (2*n) xs (by rfl) cq ⟨w6.heap.size,0,none⟩ 2 2 [.int .i64 r1,.int .i64 r1] (by rfl) (by rfl) (World.news_of_block (cs:= #[.int .i64 r1,.int .i64 r1]) (t:=3) (fr:=(0,0)) (heap_alloc_new _ _)) (by simp[Value.oneCell']) (by omega) (by unfold maxLen;omega) (by omega) (by rw[aO];omega) (w6.heap.size+1) aO ?_;intro g2 aT w4 ay ao bH dM;have gq:=(ao.cell_far ⟨w.heap.size+1,2,none⟩ (by rw[aO];show w.heap.size+1<_;omega) (Ne.symm bu)).trans gD;have sA:=(ao.frozen_far ⟨w.heap.size+1,2,none⟩ (by rw[aO];show w.heap.size+1<_;omega) (Ne.symm bu)).trans gE);have ob:ae (fun b=>w.heap.size+2≤b) w6 w4:=(oa.mono (fun _ _ e=>e.elim)).trans (ae.of_grown ao) (fun _ e=>e) (fun b hb e=>(HW.lt b e).1);have Pn:=P.pairs lx ll lp ob (.slice (some ⟨g2,0,none⟩) (2*n+2) aT);have CY:(w4.setCell ⟨w.heap.size+1,2,none⟩ (.slice (some ⟨g2,0,none⟩) (2*n+2) aT)).ownsRow (w.heap.size+2) 3 1 (.slice (some ⟨g2,0,none⟩) (2*n+2) aT) (2*n+2) (xs++ [.int .i64 r1,.int .i64 r1]):=ag ay (af _ _ _ _) (fun b hb e=>by have:=(ay.lt b hb).1;omega);go_roundg (gk - 1)
      case measure=>have:=HQ.out.1;omega
      case rel=>exact ⟨s1,n+1,m,some ⟨g2,0,none⟩,aT,_,Pn,CY,⟨by have:=HQ.out;have:=yc;omega,fun e=>by have h9:=fY.out e;have:=HQ.out;exact⟨by omega,by omega,by omega⟩,by rw[show decide (0<n+1)=true by simp];exact bG.out⟩⟩
  ·-- something was wrong: the loop ends
   have hT:=au;rw[Rf.members_er he] at hT;subst hT;have b0:(sj.e==0)=false:=by simpa using he
   clear au lD he;go_wp2_with fail;have h1:=P.scn;obtain⟨AN,hN⟩:=P.it;have lA:=P.res;have oW:=P.o;have lz:=P.lt;obtain⟨MJ,MN,xe,Hz⟩:=h1.cells;have Nw:=(xe 2 _ rfl).1;have f92:=(xe 2 _ rfl).2;have m0:=hN 0 _ rfl;have m1:=hN 1 _ rfl;have m2:=hN 2 _ rfl;have m3:=hN 3 _ rfl;have m4:=hN 4 _ rfl;have v0:=lA 0 _ rfl;have v1:=lA 1 _ rfl;have v2:=lA 2 _ rfl;have v3:=lA 3 _ rfl;have v4:=lA 4 _ rfl;have gU:=h1.le;have ng:=h1.small;have pg:=az g _ _ h1;have oB:=HF.out;unfold Rf.many at oB;clear xe Hz HF P hN lA;have n1:¬(w.heap.size+1=g.x):=by omega
   have n2:¬(w.heap.size=g.x):=by omega
   by_cases mY:Rf.now g.L sj=42∨Rf.now g.L sj=43∨Rf.now g.L sj=63
   ·rw[if_pos mY] at oB
    subst oB;have wT:=(cr h1 (by omega)).2.1;have HO:Hid _:=oW;have HX:Hid _:=h1;generalize Rf.now g.L sj=r9 at*
    clear h1
    rcases mY with rfl | rfl | rfl
    all_goals
     go_wp2_with fail;refine pg.mono ?_;rintro e w9 ⟨rfl,n9,rfl⟩;go_wp2;have Hj:=fun m=>Scn.high (HX.out.drewN n9) w.heap.size lx ll lp (ae.setCell (S:=fun b=>w.heap.size≤b) (p:=⟨w.heap.size+1,4,none⟩) (ae.refl _ _) (fun _=>Nat.le_succ _) (.int .u8 m));have mZ:=fun m=>(Hj m).step wT;refine bodyPost_ret (v:=.agg #[.int .u8 120,.int .i64 0,.slice sa (2*n) sc,.bool AN,.int .u8 _]) (by simp[results,Tryz.results152,go_sem,v0,v1,v2,v3,v4];rfl) rfl ⟨_,rfl,⟨_,_,_,_,_,_,_,rfl⟩,Scn.high (mZ _).1 w.heap.size lx ll lp (bS _ _ _ _ _ _ _),?_⟩;exact(((HO.out.drewN n9).setCell (p:=⟨w.heap.size+1,4,none⟩) (fun e=>absurd e (by show ¬w.heap.size+1<w.heap.size;omega)) _).trans (mZ _).2 (fun _ e=>e) (fun _ _ e=>e)).trans (bS _ _ _ _ _ _ _) (fun _ e=>e) (fun b hb e=>absurd e (by omega))
   ·rw[if_neg mY] at oB
    subst oB;have q1:(Rf.now g.L sj==42)=false:=by simp;omega
    have q2:(Rf.now g.L sj==43)=false:=by simp;omega
    have q3:(Rf.now g.L sj==63)=false:=by simp;omega
    generalize Rf.now g.L sj=r9 at*
    go_wp2_with fail;refine pg.mono ?_;rintro e w9 ⟨rfl,n9,rfl⟩;go_wp2;refine bodyPost_ret (v:=.agg #[.int .u8 120,.int .i64 0,.slice sa (2*n) sc,.bool AN,.int .u8 49]) (by simp[results,Tryz.results152,go_sem,v0,v1,v2,v3,v4]) rfl ⟨_,rfl,⟨_,_,_,_,_,_,_,rfl⟩,Scn.high (h1.drewN n9) w.heap.size lx ll lp (bS _ _ _ _ _ _ _),?_⟩;exact(oW.drewN n9).trans (bS _ _ _ _ _ _ _) (fun _ e=>e) (fun b hb e=>absurd e (by omega))
def tI (g:CG) (pp n:Nat) (c:Adz.Cmd) (i:Nat) (c':Adz.Cmd) (i':Nat):Prop:=
 ∀(w:World) (cb:Nat) (at_:Int),Cur g w i→Lead g pp w→Table pp w n→CmdAt w cb c→
  Calls Tryz.prog 103 #[.pointer (some ⟨pp,0,none⟩),.pointer (some ⟨cb,0,none⟩),.int .i64 at_] w fun e w'=>e=.returned (.pointer none)∧CmdAt w' cb c'∧Cur g w' i'∧ae (fun b=>b=g.c∨b=cb) w w'
def fZ (g:CG) (pp:Nat) (i:Nat) (c:Adz.Cmd) (i':Nat):Prop:=
 ∀(w:World),Cur g w i→Lead g pp w→
  Calls Tryz.prog 100 #[.pointer (some ⟨pp,0,none⟩)] w fun e w'=>∃av iv rv fv tv,e=.returned (.tuple #[.agg #[.int .i32 c.what,av,.bool c.neg,.string ⟨c.text.toArray⟩,.string ⟨c.name.toArray⟩,.int .i64 c.goal,iv,.int .i64 c.pat.groups,rv,.bool c.all,.bool c.print,.int .i64 c.nth,fv,tv],.pointer none])∧Deep w' c av iv rv fv tv∧Cur g w' i'∧ae (·=g.c) w w'
theorem si (g:CG) (pp i:Nat) (ha:Adz.atAddress g.L i=false) (hn:Adz.peek g.L i≠33):fZ g pp i {} i:=fun w h hp=>
 (wN g pp w i h hp ha hn).mono fun e w' ⟨he,hc,ho⟩=>⟨_,_,_,_,_,he,yT w',hc,ho⟩
theorem Dj (g:CG) (pp n i:Nat) (c:Adz.Cmd) (Gw:c.what=115) (c':Adz.Cmd) (i':Nat) (hr:Adz.substitution g.L g.pl c i=.ok (c',i')):tI g pp n c i c' i':=fun w cb at_ h hp ht hc=>
 AR g pp cb n w i at_ h hp ht c hc Gw c' i' hr
theorem Di (g:CG) (pp n i:Nat) (c:Adz.Cmd) (hk:Adz.behindKind c.what=some 0):tI g pp n c i c i:=fun w cb at_ h hp ht hc=>by
 obtain⟨mb,m1,m2⟩:=ht.map;obtain⟨av,iv,rv,fv,tv,kk,dd⟩:=hc.deep;have k0:=(kk 0 _ rfl).1;have q0:=hp.at0
 have kD:∀m,(Instr.lookup 115 (.map (some mb)) (.int .i32 c.what) false).run Tryz.prog (w.drewN m)=.ok (.int .i64 0) (w.drewN m):=fun m=>by
  have:=bj (w.drewN m) mb c.what m2;rw[hk] at this;exact this
 clear kk dd;generalize c.what=wh at*
 go_enter Tryz.func103,Tryz.ntmps103;go_wp2_with fail
 go_quiet (fail)
 go_wp2;go_ret;have o1:ae (·=g.c) w (w.drewN nq):=(ae.refl _ w).drewN nq;exact⟨rfl,hc.keeps o1 h.spares (hc.typ.ne h.tc (by decide)),h.drewN nq,o1.mono (fun _ _ e=>Or.inl e)⟩
end
section
open Go.RowKit
def xB (g:CG) (pp:Nat) (s s1:Adz.Ps):Prop:=Adz.peek g.L s.i≠ -1∧
 ∀base w,Par g pp base w s→Calls Tryz.prog 52 #[.pointer (some ⟨pp,0,none⟩)] w fun e w'=>e=.returned (.pointer none)∧Par g pp base w' s1∧ae (fun b=>b=g.c∨b=pp∨base≤b+1) w w'
theorem A5 (g:CG) (pp:Nat) (s:Adz.Ps) (r:Int) (hr:Adz.peek g.L s.i=r) (h:Adz.isBlank r=true∨(Adz.isBlank r=false∧(r=10∨r=59))):xB g pp s {s with i:=s.i+1}:=by
 have wU:r≠ -1:=by
  rcases h with h |⟨_,h⟩
  ·intro e;subst e;simp[Adz.isBlank] at h
  ·omega
 have aw:s.i<g.L.length:=Adz.lt_of_peek (by omega);refine⟨by omega,fun base w hp=> ?_⟩;have q0:=hp.lead.at0;have HR:Hid (Adz.peek g.L s.i=r):=hr;clear hr
 rcases h with h |⟨h,h1⟩
 ·have HB:Hid (Adz.isBlank r=true):=h
  clear h;go_enter Tryz.func52,Tryz.ntmps52;go_wp2_with fail;refine(ah g w s.i hp.cur).mono ?_;rintro e w1 ⟨rfl,n,rfl⟩;rw[HR.out];go_wp2_with fail;refine(bL _ _).mono ?_;rintro e w1 ⟨rfl,rfl⟩;rw[HB.out];go_wp2_with fail;refine(ax g _ s.i (hp.cur.drewN n) aw).mono ?_;rintro e w2 ⟨rfl,aL,aK⟩;have o2:ae (·=g.c) w w2:=((ae.refl (·=g.c) w).drewN n).trans aK (fun _ e=>e) (fun _ _ e=>e);go_wp2;go_ret;exact⟨rfl,hp.moved aL o2 (by omega),o2.mono (fun _ _ e=>Or.inl e)⟩
 ·have HB:Hid (Adz.isBlank r=false):=h
  clear h
  have hb:((r==10)=true)∨((r==10)=false∧(r==59)=true):=by
   rcases h1 with e | e
   ·exact Or.inl (by simp[e])
   ·exact Or.inr ⟨by simp[e],by simp[e]⟩
  have OZ:r=10∨r=59:=h1;clear h1
  rcases OZ with e | e
  all_goals
   subst e;go_enter Tryz.func52,Tryz.ntmps52;go_wp2_with fail;refine(ah g w s.i hp.cur).mono ?_;rintro e w1 ⟨rfl,n,rfl⟩;rw[HR.out];go_wp2_with fail;refine(bL _ _).mono ?_;rintro e w1 ⟨rfl,rfl⟩;rw[HB.out];go_wp2_with fail;refine(ax g _ s.i (hp.cur.drewN n) aw).mono ?_;rintro e w2 ⟨rfl,aL,aK⟩;have o2:ae (·=g.c) w w2:=((ae.refl (·=g.c) w).drewN n).trans aK (fun _ e=>e) (fun _ _ e=>e);go_wp2;go_ret;exact⟨rfl,hp.moved aL o2 (by omega),o2.mono (fun _ _ e=>Or.inl e)⟩
theorem A4 (g:CG) (pp:Nat) (s s1:Adz.Ps) (r:Int) (hr:Adz.peek g.L s.i=r) (hb:Adz.isBlank r=false) (dQ:r≠10) (Du:r≠59) (fu:r≠125) (hm:r≠ -1)
 (GP:∀base w,Par g pp base w s→Calls Tryz.prog 77 #[.pointer (some ⟨pp,0,none⟩)] w fun e w'=>e=.returned (.pointer none)∧Par g pp base w' s1∧ae (fun b=>b=g.c∨b=pp∨base≤b+1) w w'):xB g pp s s1:=by
 refine⟨by omega,fun base w hp=> ?_⟩;have q0:=hp.lead.at0;have HR:Hid (Adz.peek g.L s.i=r):=hr;have HB:Hid (Adz.isBlank r=false):=hb;have b1:(r==10)=false:=by simpa using dQ
 have b2:(r==59)=false:=by simpa using Du
 have b3:(r==125)=false:=by simpa using fu
 clear hr hb;go_enter Tryz.func52,Tryz.ntmps52;go_wp2_with fail;refine(ah g w s.i hp.cur).mono ?_;rintro e w1 ⟨rfl,n,rfl⟩;rw[HR.out];go_wp2_with fail;refine(bL _ _).mono ?_;rintro e w1 ⟨rfl,rfl⟩;rw[HB.out];go_wp2_with fail;have o1:ae (·=g.c) w (w.drewN n):=(ae.refl _ w).drewN n;refine(GP base _ (hp.moved (hp.cur.drewN n) o1 (Nat.le_refl _))).mono ?_;rintro e w2 ⟨rfl,h2,o2⟩;go_wp2;go_ret;exact⟨rfl,h2,o1.trans o2 (fun _ e=>Or.inl e) (fun _ _ e=>e)⟩
theorem ql (w:World) (b:Bool) (s:ByteArray) (n:Nat):(Instr.checkKey b (n+1) 9 (.string s)).run Tryz.prog w=.ok () w:=by
 simp[Instr.checkKey,run_underlying Tryz.underlying9]
theorem dI (w:World) (b:Bool) (s:ByteArray):(Instr.checkKey b 10000 9 (.string s)).run Tryz.prog w=.ok () w:=ql w b s 9999
theorem fT (w:World) (s:ByteArray) (es:List MapEntry) (x:Option (Nat×Value)) (h:Instr.findNow .string (.string s) es 0=some x):(Instr.findKey 9 (.string s) es).run Tryz.prog w=.ok x w:=by
 simp[Instr.findKey,run_underlying Tryz.underlying9,h]
def dv (w:World) (lb:Nat) (labs:List Adz.Lab):Prop:=w.heap[lb]? =some (.map (aj 0 labs).toArray labs.length)
theorem xG (s:ByteArray):(s==s)=true:=by
 show(s.data==s.data)=true;simp
theorem mL (w:World) (lb:Nat) (es Fg:Array MapEntry) (n n':Nat) (h:w.heap[lb]? =some (.map es n)):ae (·=lb) w {w with heap:=w.heap.setIfInBounds lb (.map Fg n')}∧({w with heap:=w.heap.setIfInBounds lb (.map Fg n')}:World).heap[lb]? =some (.map Fg n'):=by
 have aw:=(Array.getElem?_eq_some_iff.1 h).1;refine⟨⟨rfl,rfl,rfl,by simp,fun k hk hs=> ?_⟩,?_⟩
 ·show(w.heap.setIfInBounds lb (.map Fg n'))[k]? =_
  rw[Array.getElem?_setIfInBounds,if_neg (fun e=>hs e.symm)]
 ·show(w.heap.setIfInBounds lb (.map Fg n'))[lb]? =_
  rw[Array.getElem?_setIfInBounds_self_of_lt aw]
theorem zH (w:World) (s:ByteArray):(Instr.keyThatStays (.string s) (.string s)).run Tryz.prog w=.ok (.string s) w:=by
 have hb:Instr.sameBits 10000 (.string s) (.string s)=true:=by
  unfold Instr.sameBits;exact xG s
 unfold Instr.keyThatStays;rw[if_pos hb]
 rfl
namespace Adz
def fin (sp:List Int) (xs:List Item) (j t:Nat):Int:=((allEnds sp xs).getD j []).getD t 0
theorem fin_last (sp:List Int) (xs:List Item) (t:Nat) (h:t≤sp.length):fin sp xs xs.length t=0:=by
 unfold fin;rw[kj,List.getD_eq_getElem?_getD,List.getElem?_replicate];split <;> rfl
theorem fin_lt (sp:List Int) (xs:List Item) (i t:Nat) (hi:i<xs.length) (h:t<sp.length):
 fin sp xs i t=endAt xs[i] (some (sp.getD t 0)) t sp.length (fin sp xs i (t+1)) (fin sp xs (i+1) (t+1)) (fin sp xs (i+1) t):=by
 unfold fin;rw[gK sp xs i hi];exact xM xs[i] sp _ (df sp xs (i+1) (by omega)) t h
theorem fin_eq (sp:List Int) (xs:List Item) (i:Nat) (hi:i<xs.length):
 fin sp xs i sp.length=endAt xs[i] none sp.length sp.length 0 0 (fin sp xs (i+1) sp.length):=by
 unfold fin;rw[gK sp xs i hi];exact xL xs[i] sp _ (df sp xs (i+1) (by omega))
end Adz
theorem sH (xs:List Adz.Item) (pb po:Nat) (w:World) (iv:Value) (hp:w.cell? ⟨pb,po,none⟩=some iv) (hi:bN w iv xs) (hk:xs.length≤1000) (hf:∀x∈xs,x.spans.length≤1000) (ra:Option Addr) (rc:Nat) (sp:List Int) (hr:bY w ra sp) (hn:sp.length≤1000000):
 Calls Tryz.prog 187 #[.pointer (some ⟨pb,po,none⟩),.slice ra sp.length rc] w fun e w'=>∃sb ab base,e=.returned (.pointer (some ⟨sb,0,none⟩))∧Srch w' sb iv (.slice ra sp.length rc) (.slice (some ⟨ab,0,none⟩) (xs.length+1) (xs.length+1))∧Mat w' ab base (xs.length+1) sp.length (Adz.fin sp xs)∧ae (fun _=>False) w w'∧w.heap.size≤sb∧w.heap.size≤base:=by
 obtain⟨gI,r1,r2⟩:=id hi;obtain⟨ia,ic,rfl⟩:=ak r1;clear r1 r2 gI;have da:IntKind.i64.wrap ((xs.length:Int)+1)=(xs.length:Int)+1:=by rw[IntKind.wrap_i64];omega
 have eH:IntKind.i64.wrap ((sp.length:Int)+1)=(sp.length:Int)+1:=by rw[IntKind.wrap_i64];omega
 have Av:IntKind.i64.wrap ((xs.length:Int) - 1)=(xs.length:Int) - 1:=by rw[IntKind.wrap_i64];omega
 have zv:∀u:World,(Instr.makeSlice 77 (.int .i64 ((xs.length:Int)+1)) (.int .i64 ((xs.length:Int)+1))).run Tryz.prog u=.ok (.slice (some ⟨u.heap.size,0,none⟩) (xs.length+1) (xs.length+1)) (u.alloc (.cells (madeCells #[.slice none 0 0] (xs.length+1)) 35)):=by
  intro u;have:=Ek u (xs.length+1) (by omega);rw[show (((xs.length+1:Nat)):Int)=(xs.length:Int)+1 by omega] at this;exact this
 have UO:∀u:World,(Instr.makeSlice 35 (.int .i64 ((sp.length:Int)+1)) (.int .i64 ((sp.length:Int)+1))).run Tryz.prog u=.ok (.slice (some ⟨u.heap.size,0,none⟩) (sp.length+1) (sp.length+1)) (u.alloc (.cells (madeCells #[.int .i64 0] (sp.length+1)) 3)):=by
  intro u;have:=Ei u (sp.length+1) (by omega);rw[show (((sp.length+1:Nat)):Int)=(sp.length:Int)+1 by omega] at this;exact this
 have lp:pb<w.heap.size:=World.block_lt_of_cell? w _ hp;have FG:∀o:Obj,(w.alloc o).cell? ⟨pb,po,none⟩=some (.slice ia xs.length ic):=fun o=>by rw[World.cell?_alloc_past _ _ _ lp];exact hp
 have MD:∀o:Obj,(w.alloc o).drew.cell? ⟨pb,po,none⟩=some (.slice ia xs.length ic):=FG;go_enter Tryz.func187,Tryz.ntmps187;go_wp2_with fail;have Rg:MatTo _ w.heap.size (w.heap.size+2) (xs.length+1) 0 sp.length:=MatTo.made w (w.heap.size+2) (xs.length+1) sp.length;have Mp:ae (fun _=>False) w _:=(ae.refl _ w).alloc (.cells (madeCells #[.slice none 0 0] (xs.length+1)) 35);have fQ:(w.alloc (.cells (madeCells #[.slice none 0 0] (xs.length+1)) 35)).heap.size=w.heap.size+1:=by simp
 go_region
 generalize w.alloc (.cells (madeCells #[.slice none 0 0] (xs.length+1)) 35)=w0 at*
 have GN:=ai.new w0 #[.slice ia xs.length ic,.slice ra sp.length rc,.slice (some ⟨w.heap.size,0,none⟩) (xs.length+1) (xs.length+1),.int .i64 0] 258;have Ph:=aq.new w0 #[.slice ia xs.length ic,.slice ra sp.length rc,.slice (some ⟨w.heap.size,0,none⟩) (xs.length+1) (xs.length+1),.int .i64 0] 258 (0,0);have oN:ae (fun _=>False) w0 (w0.alloc (.cells #[.slice ia xs.length ic,.slice ra sp.length rc,.slice (some ⟨w.heap.size,0,none⟩) (xs.length+1) (xs.length+1),.int .i64 0] 258)).drew:=((ae.refl _ w0).alloc _).drew
 have Vm:(w0.alloc (.cells #[.slice ia xs.length ic,.slice ra sp.length rc,.slice (some ⟨w.heap.size,0,none⟩) (xs.length+1) (xs.length+1),.int .i64 0] 258)).drew.heap.size=w.heap.size+2:=by
  show(w0.alloc _).heap.size=_;simp[fQ]
 rw[fQ] at GN Ph
 have N7:Srch (w0.alloc (.cells #[.slice ia xs.length ic,.slice ra sp.length rc,.slice (some ⟨w.heap.size,0,none⟩) (xs.length+1) (xs.length+1),.int .i64 0] 258)).drew (w.heap.size+1) (.slice ia xs.length ic) (.slice ra sp.length rc) (.slice (some ⟨w.heap.size,0,none⟩) (xs.length+1) (xs.length+1)):=
  ⟨Ph,(GN 0 _ rfl).1,(GN 1 _ rfl).1,(GN 2 _ rfl).1,⟨0,(GN 3 _ rfl).1⟩,(GN 3 _ rfl).2⟩
 have Bh:=Rg.keeps oN (fun _ _=>id) (fun _ _=>id);have DA:ae (fun _=>False) w _:=Mp.trans oN (fun _ e=>e) (fun _ _ e=>e);clear GN Ph oN Rg Mp fQ zv FG MD lp;generalize (w0.alloc (.cells #[.slice ia xs.length ic,.slice ra sp.length rc,.slice (some ⟨w.heap.size,0,none⟩) (xs.length+1) (xs.length+1),.int .i64 0] 258)).drew=w1 at*
 have q2:=N7.ends;go_wp2_with fail
 go_loopg [28] (xs.length+1) (fun k v wr=>∃j:Nat,v=.int .i64 j∧j+k=xs.length+1∧Hid (MatTo wr w.heap.size (w.heap.size+2) (xs.length+1) j sp.length)∧Hid (w.heap.size+2+j=wr.heap.size)∧Hid (Srch wr (w.heap.size+1) (.slice ia xs.length ic) (.slice ra sp.length rc) (.slice (some ⟨w.heap.size,0,none⟩) (xs.length+1) (xs.length+1)))∧Hid (ae (fun _=>False) w wr))
 case atStart=>exact ⟨0,rfl,by omega,Bh,by show _=_;omega,N7,DA⟩
 case round=>
  obtain⟨j,rfl,jt,h1,h2,h3,h4⟩:=hrel;have HK:Hid (j+gk=xs.length+1):=jt;have hT:MatTo wr w.heap.size (w.heap.size+2) (xs.length+1) j sp.length:=h1;have hz:w.heap.size+2+j=wr.heap.size:=h2;have hS:Srch wr (w.heap.size+1) (.slice ia xs.length ic) (.slice ra sp.length rc) (.slice (some ⟨w.heap.size,0,none⟩) (xs.length+1) (xs.length+1)):=h3;have hO:ae (fun _=>False) w wr:=h4;have mi:j≤xs.length+1:=by omega
  clear jt h1 h2 h3 h4 Bh N7 DA Vm q2;by_cases aw:j<xs.length+1
  ·have iB:(j:Int)<(xs.length:Int)+1:=by omega
   have Vi:IntKind.i64.wrap ((j:Int)+1)=(j:Int)+1:=by rw[IntKind.wrap_i64];omega
   have q2:=hS.ends;have ls:w.heap.size+1<wr.heap.size:=hS.typ.lt;have la:w.heap.size<wr.heap.size:=by omega
   obtain⟨u,hu⟩:=(hT.any j aw).1;have Vh:=(hT.any j aw).2;have MD:∀o:Obj,(wr.alloc o).drew.cell? ⟨w.heap.size+1,2,none⟩=some (.slice (some ⟨w.heap.size,0,none⟩) (xs.length+1) (xs.length+1)):=fun o=>(World.cell?_alloc_past _ _ _ ls).trans q2;have Pq:∀o:Obj,(wr.alloc o).drew.cell? ⟨w.heap.size,j,none⟩=some u:=fun o=>(World.cell?_alloc_past _ _ _ la).trans hu;have WJ:∀o:Obj,(wr.alloc o).drew.frozen? ⟨w.heap.size,j,none⟩=false:=fun o=>(World.frozen?_alloc_past _ _ _ la).trans Vh;have Lf:w.heap.size≠wr.heap.size:=by omega
   have N8:=hT.add aw hz;rw[hz] at N8;have oa:ae (fun _=>False) w (((wr.setCell ⟨w.heap.size,j,none⟩ (.slice (some ⟨wr.heap.size,0,none⟩) (sp.length+1) (sp.length+1))).alloc (.cells (madeCells #[.int .i64 0] (sp.length+1)) 3))).drew:=((ae.setCell (p:=⟨w.heap.size,j,none⟩) hO (fun h=>absurd h (by simp)) _).alloc _).drew;have Rh:=N8.keeps (S:=fun _=>False) ((ae.refl _ _).drew) (fun _ _=>id) (fun _ _=>id);have Re:=hS.keeps (af wr w.heap.size j (.slice (some ⟨wr.heap.size,0,none⟩) (sp.length+1) (sp.length+1))) (by omega);have Fo:=Re.keeps (S:=fun _=>False) (((ae.refl _ _).alloc (.cells (madeCells #[.int .i64 0] (sp.length+1)) 3)).drew) id
   have RR:w.heap.size+2+(j+1)=(((wr.setCell ⟨w.heap.size,j,none⟩ (.slice (some ⟨wr.heap.size,0,none⟩) (sp.length+1) (sp.length+1))).alloc (.cells (madeCells #[.int .i64 0] (sp.length+1)) 3))).drew.heap.size:=by
    show _=(World.alloc _ _).heap.size;simp[World.setCell];omega
   have F1:Hid _:=Rh;have F2:Hid _:=Fo;have F3:Hid _:=RR;have F4:Hid _:=oa;clear N8 Rh Re Fo RR oa hT hS hO hz;go_wp2_with fail
   go_region
   all_goals
    go_wp2;go_roundg (gk - 1)
    case measure=>have:=HK.out;omega
    case rel=>exact ⟨j+1,rfl,by have:=HK.out;omega,F1,F3,F2,F4⟩
  ·have he:j=xs.length+1:=by omega
   subst he;have Hf:=hO.keeps hp id;have hM:=hT.full;clear hT HK mi aw;go_wp2_with fail
   go_loopg [7] xs.length (fun k v wr=>k≤xs.length∧v=.int .i64 ((k:Int) - 1)∧∃F,Hid (Mat wr w.heap.size (w.heap.size+2) (xs.length+1) sp.length F)∧Hid (∀j t,k≤j→j≤xs.length→t≤sp.length→F j t=Adz.fin sp xs j t)∧Hid (Srch wr (w.heap.size+1) (.slice ia xs.length ic) (.slice ra sp.length rc) (.slice (some ⟨w.heap.size,0,none⟩) (xs.length+1) (xs.length+1)))∧Hid (ae (fun _=>False) w wr))
   case atStart=>
    refine⟨Nat.le_refl _,rfl,_,hM,?_,hS,hO⟩;show ∀j t,_→_→_→_;intro j t h1 h2 h3;have:j=xs.length:=by omega
    subst this;rw[Adz.fin_last _ _ _ h3]
   case round=>
    obtain⟨DO,rfl,F,h1,h2,h3,h4⟩:=hrel;clear hM hS hO hz Hf
    rcases gk with _ | i
    ·have dj:decide ((0:Int)≤ -1)=false:=by simp
     go_wp2;go_ret;exact⟨_,_,_,rfl,h3,Mat.like h1 (fun j t hj ht=>h2.out j t (by omega) (by omega) ht),h4,by omega,by omega⟩
    ·have ei:(((i+1:Nat):Int) - 1)=(i:Int):=by omega
     rw[ei];have gm:i<xs.length:=by omega
     go_wp2_with fail
     go_loopg [8] (sp.length+1) (fun k v wr=>k≤sp.length+1∧v=.int .i64 ((k:Int) - 1)∧∃F,Hid (Mat wr w.heap.size (w.heap.size+2) (xs.length+1) sp.length F)∧Hid (∀j t,i+1≤j→j≤xs.length→t≤sp.length→F j t=Adz.fin sp xs j t)∧Hid (∀t,k≤t→t≤sp.length→F i t=Adz.fin sp xs i t)∧Hid (Srch wr (w.heap.size+1) (.slice ia xs.length ic) (.slice ra sp.length rc) (.slice (some ⟨w.heap.size,0,none⟩) (xs.length+1) (xs.length+1)))∧Hid (ae (fun _=>False) w wr))
     case atStart=>
      refine⟨Nat.le_refl _,by congr 1;omega,F,h1,h2,?_,h3,h4⟩;show ∀t,_→_→_;intro t g1 g2;omega
     case round=>
      clear h1 h2 h3 h4;obtain⟨fP,rfl,F,h1,h2,Mj,h3,h4⟩:=hrel;have hM:Mat wr w.heap.size (w.heap.size+2) (xs.length+1) sp.length F:=h1;have hS:Srch wr (w.heap.size+1) (.slice ia xs.length ic) (.slice ra sp.length rc) (.slice (some ⟨w.heap.size,0,none⟩) (xs.length+1) (xs.length+1)):=h3;have hO:ae (fun _=>False) w wr:=h4;clear h1 h3 h4;have RN:IntKind.i64.wrap ((i:Int) - 1)=(i:Int) - 1:=by rw[IntKind.wrap_i64];omega
      rcases gk with _ | t
      ·have dj:decide ((0:Int)≤ -1)=false:=by simp
       go_wp2;go_roundg i
       case measure=>omega
       case rel=>
        refine⟨by omega,rfl,F,hM,?_,hS,hO⟩;show ∀j t,_→_→_→_;intro j t g1 g2 g3;by_cases e:j=i
        ·subst e;exact Mj.out t (by omega) g3
        ·exact h2.out j t (by omega) g2 g3
      ·have et:(((t+1:Nat):Int) - 1)=(t:Int):=by omega
       rw[et];have j7:t≤sp.length:=by omega
       have od:ae (fun _=>False) wr wr.drew:=(ae.refl _ wr).drew;have nP:=hM.keeps od (fun _ _=>id) (fun _ _=>id);have Fo:=hS.keeps od id;have IP:=hO.drew;obtain⟨ib,rfl,ti,hit⟩:=(hi.keeps IP (fun _ _=>id) (fun _ _=>id)).get hf (by intro e;simp[e] at gm);obtain⟨hx,fC⟩:=hit i gm;have q2:=hS.ends;have a1:=hM.cell i (by omega);have L8:=nP.cell i (by omega);have L9:=nP.cell (i+1) (by omega);have te:=nP.rows i (by omega);have MQ:=nP.rows (i+1) (by omega);have iB:(i:Int)<(xs.length:Int)+1:=by omega
       have dt:(t:Int)<(sp.length:Int)+1:=by omega
       have WL:IntKind.i64.wrap ((t:Int) - 1)=(t:Int) - 1:=by rw[IntKind.wrap_i64];omega
       have ty:∀ {T:TypeId} {c:Nat},aq wr.drew c T→T≠258→¬c=w.heap.size+1:=fun hc hT e=>by subst e;exact hT (hc.one Fo.typ)
       by_cases aw:t<sp.length
       ·obtain⟨rb,ro,rfl,rt,F5⟩:=(hr.keeps IP (fun _ _=>id)) (by intro e;simp[e] at aw)
        have hv:=Adz.fin_lt sp xs i t gm aw;rw[←Mj.out (t+1) (by omega) (by omega),←h2.out (i+1) (t+1) (by omega) (by omega) (by omega),←h2.out (i+1) t (by omega) (by omega) (by omega)] at hv;have HV:Hid _:=hv;clear hv;have bF:=Gu xs[i] ib i xs.length ic wr.drew (w.heap.size+1) w.heap.size rb ro rc sp.length t Fo gm hk hx ti rt nP.typ aw hn _ (F5 t aw) (w.heap.size+2+i) (w.heap.size+2+(i+1)) L8 L9 te MQ _ (nP.place i (t+1) (by omega) (by omega)).1 _ _ (nP.place (i+1) t (by omega) (by omega)).1 (nP.place (i+1) (t+1) (by omega) (by omega)).1;rw[←HV.out] at bF;clear HV hit fC hx F5 L8 L9 te MQ;generalize hq:Adz.fin sp xs i t=q at*
        go_wp2_with fail
        go_region_with (go_at_call 201;refine bF.mono ?_;clear bF;rintro e w3 ⟨rfl,DB,GI⟩;have ly:=nP.keeps DB (fun c hc=>ty hc (by decide)) (fun c hc=>ty hc (by decide));have PT:=GI.ends;have Ni:=ly.cell i (by omega);obtain⟨u3,f3⟩:=ly.place i t (by omega) j7)
        all_goals
         have xV:=ly.set i t (by omega) j7 q;have Kj:ae (fun _=>False) w _:=ae.setCell (p:=⟨w.heap.size+2+i,t,none⟩) (IP.trans DB (fun _ e=>e) (fun _ h e=>by omega)) (fun h=>absurd h (by simp;omega)) (.int .i64 q);have DE:=GI.keeps (af w3 (w.heap.size+2+i) t (.int .i64 q)) (by omega);have F1:Hid _:=xV;have F2:Hid _:=Kj;have F3:Hid _:=DE;clear xV Kj DE ly DB GI PT Ni u3 f3 hM nP hS Fo hO IP;go_wp2;go_roundg t
         case measure=>omega
         case rel=>
          refine⟨by omega,rfl,_,F1,?_,?_,F3,F2⟩
          ·show ∀j t,_→_→_→_
           intro j s g1 g2 g3;rw[if_neg (by omega)];exact h2.out j s g1 g2 g3
          ·show ∀t,_→_→_
           intro s g1 g2;by_cases e:s=t
           ·subst e;rw[if_pos ⟨rfl,rfl⟩,hq]
           ·rw[if_neg (by omega)];exact Mj.out s (by omega) g2
       ·have Ve:t=sp.length:=by omega
        subst Ve;have hv:=Adz.fin_eq sp xs i gm;rw[←h2.out (i+1) sp.length (by omega) (by omega) (by omega)] at hv;have HV:Hid _:=hv;clear hv;have bF:=Gt xs[i] ib i xs.length ic wr.drew (w.heap.size+1) w.heap.size ra rc sp.length Fo gm hk hx ti nP.typ hn (w.heap.size+2+i) (w.heap.size+2+(i+1)) L8 L9 MQ 0 0 _ (nP.place (i+1) sp.length (by omega) (by omega)).1;rw[←HV.out] at bF;clear HV hit fC hx L8 L9 te MQ;generalize hq:Adz.fin sp xs i sp.length=q at*
        go_wp2_with fail
        go_region_with (go_at_call 201;refine bF.mono ?_;clear bF;rintro e w3 ⟨rfl,DB,GI⟩;have ly:=nP.keeps DB (fun c hc=>ty hc (by decide)) (fun c hc=>ty hc (by decide));have PT:=GI.ends;have Ni:=ly.cell i (by omega);obtain⟨u3,f3⟩:=ly.place i sp.length (by omega) j7)
        all_goals
         have xV:=ly.set i sp.length (by omega) j7 q;have Kj:ae (fun _=>False) w _:=ae.setCell (p:=⟨w.heap.size+2+i,sp.length,none⟩) (IP.trans DB (fun _ e=>e) (fun _ h e=>by omega)) (fun h=>absurd h (by simp;omega)) (.int .i64 q);have DE:=GI.keeps (af w3 (w.heap.size+2+i) sp.length (.int .i64 q)) (by omega);have F1:Hid _:=xV;have F2:Hid _:=Kj;have F3:Hid _:=DE;clear xV Kj DE ly DB GI PT Ni u3 f3 hM nP hS Fo hO IP;go_wp2;go_roundg sp.length
         case measure=>omega
         case rel=>
          refine⟨by omega,rfl,_,F1,?_,?_,F3,F2⟩
          ·show ∀j t,_→_→_→_
           intro j s g1 g2 g3;rw[if_neg (by omega)];exact h2.out j s g1 g2 g3
          ·show ∀t,_→_→_
           intro s g1 g2;by_cases e:s=sp.length
           ·subst e;rw[if_pos ⟨rfl,rfl⟩,hq]
           ·rw[if_neg (by omega)];exact Mj.out s (by omega) g2
end
end Go.Proofs.YtbiobhghnldckaaGreatDoor
