/- Proved: adzeref's pattern. Conditions: the Scan lies in memory as 'Scn' says. -/
import Derived.Test.YtbiobhghnldckaaGreatDoorS17
namespace Go.Proofs.YtbiobhghnldckaaGreatDoor
set_option linter.unusedVariables false
set_option maxRecDepth 100000
set_option maxHeartbeats 6400000
section
open Go.RowKit
attribute [local go_sem ↓] Go.wp_at_zero Go.wp_at_succ
theorem zE:(Tryz.prog.info? 200).map (fun i=>(i.zero,i.size,i.bytes))=some (some (.agg #[.int .u8 0,.int .i64 0,.slice none 0 0,.bool false,.int .u8 0]),5,48):=by kernel_rfl
theorem aZ (w:World) (b:Nat) (v0 v1:Value):ae (fun x=>b≤x) w ((w.setCell ⟨b,0,none⟩ v0).setCell ⟨b,1,none⟩ v1):=
 ae.setCell (p:=⟨b,1,none⟩) (ae.setCell (p:=⟨b,0,none⟩) (ae.refl _ w) (fun _=>Nat.le_refl _) _) (fun _=>Nat.le_refl _) _
theorem wrap_small {k:Nat} (h:k≤501):IntKind.i64.wrap (k:Int)=(k:Int):=by
 simp[IntKind.wrap,IntKind.signed,IntKind.bits];omega
theorem Ep {k:Nat} (h:9<k+1):(9:Int)<(k:Int)+1:=by omega
theorem Eo {k:Nat} (h:¬9<k+1):¬(9:Int)<(k:Int)+1:=by omega
theorem A7 {k:Nat} (h:k≤500):wrap64 ((k:Int)+1)=(k:Int)+1:=by
 unfold wrap64;omega
theorem sY (g:SG) (w:World) (s:SS) (h:Scn g w s):
 Calls Tryz.prog 152 #[.pointer (some ⟨g.x,0,none⟩)] w fun e w'=>∃v,e=.returned v∧xF v∧Scn g w' (Rf.piece g.L g.pl s)∧ae (·=g.x) w w':=by
 by_cases h1:Rf.now g.L s=46
 ·exact xo g w s h h1
 ·by_cases h2:Rf.now g.L s=91
  ·exact xp g w s h h2
  ·exact sZ g w s h h1 h2
structure PtS (g:SG) (w wr:World) (t:Rf.PS) (ov:Value):Prop where
 scn:Scn g wr t.s
 res:ai wr w.heap.size [.slice none 0 0,.int .i64 0]
 pt:∃ia ic xs,ai wr (w.heap.size+1) [.slice ia t.n ic,.int .i64 (t.groups:Int)]∧wr.ownsRow (w.heap.size+2) 200 5 (.slice ia t.n ic) t.n xs
 op:∃zs:List Int,wr.ownsRow (w.heap.size+2) 3 1 ov t.opens (zs.map (.int .i64))
 o:ae (·=g.x) w wr
 lt:w.heap.size+2≤wr.heap.size
theorem PtS.moved {g:SG}{w wr w':World}{t:Rf.PS}{ov:Value} (h:PtS g w wr t ov) (lx:g.x<w.heap.size) {s':SS} (hs:Scn g w' s') (o:ae (·=g.x) wr w'):PtS g w w' {t with s:=s'} ov:=by
 obtain⟨ia,ic,xs,h1,h2⟩:=h.pt;obtain⟨zs,h3⟩:=h.op;exact⟨hs,h.res.keeps o (by omega),⟨ia,ic,xs,h1.keeps o (by omega),ag h2 o (fun b hb e=>by have:=(h2.lt b hb).1;omega)⟩,⟨zs,ag h3 o (fun b hb e=>by have:=(h3.lt b hb).1;omega)⟩,aW h.o o,Nat.le_trans h.lt o.size⟩
theorem PtS.drewN {g:SG}{w wr:World}{t:Rf.PS}{ov:Value} (h:PtS g w wr t ov) (lx:g.x<w.heap.size) (n:Nat):PtS g w (wr.drewN n) t ov:=h.moved lx (h.scn.drewN n) ((ae.refl _ wr).drewN n)
theorem PtS.item {g:SG}{w wr w4:World}{t:Rf.PS}{ov v':Value} (h:PtS g w wr t ov) (lx:g.x<w.heap.size) (ll:g.L≠ []→g.lb<w.heap.size) (lp:g.pb<w.heap.size) {ia:Option Addr}{ic:Nat}{xs Sw:List Value}
 (h1:ai wr (w.heap.size+1) [.slice ia t.n ic,.int .i64 (t.groups:Int)]) (h2:wr.ownsRow (w.heap.size+2) 200 5 (.slice ia t.n ic) t.n xs) (oA:ae (fun b=>(Value.slice ia t.n ic).ownBlock=some b) wr w4) {g2 aT:Nat} (hv:v'=.slice (some ⟨g2,0,none⟩) (t.n+1) aT)
 (cz:w4.ownsRow (w.heap.size+2) 200 5 v' (t.n+1) Sw):PtS g w (w4.setCell ⟨w.heap.size+1,0,none⟩ v') {t with n:=t.n+1} ov:=by
 have hb:∀b,(Value.slice ia t.n ic).ownBlock=some b→w.heap.size+2≤b:=fun b e=>(h2.lt b e).1;have oS:=af w4 (w.heap.size+1) 0 v';obtain⟨zs,h3⟩:=h.op;have mn:=h.scn.keeps oA (fun e=>by have:=hb _ e;omega) (fun e1 e=>by have:=hb _ e;have:=ll e1;omega) (fun e=>by have:=hb _ e;omega);refine⟨mn.keeps oS (by omega) (fun e=>by have:=ll e;omega) (by omega),(h.res.keeps oA (fun e=>by have:=hb _ e;omega)).keeps oS (by omega),?_,⟨zs,ag (ag h3 oA (fun b dt e=>(aq.of_row h3 dt).ne (aq.of_row h2 e) (by decide) rfl)) oS (fun b dt e=>by have:=(h3.lt b dt).1;omega)⟩,(h.o.trans oA (U:=(·=g.x)) (fun _ e=>e) (fun b dt e=>by have:=hb _ e;omega)).trans oS (fun _ e=>e) (fun b dt e=>by omega),Nat.le_trans h.lt (Nat.le_trans oA.size oS.size)⟩;subst hv;exact⟨_,_,Sw,(h1.keeps oA (fun e=>by have:=hb _ e;omega)).set 0 _,ag cz oS (fun b dt e=>by have:=(cz.lt b dt).1;omega)⟩
theorem PtS.opn {g:SG}{w wr w4:World}{t:Rf.PS}{ov v':Value} (h:PtS g w wr t ov) (lx:g.x<w.heap.size) (ll:g.L≠ []→g.lb<w.heap.size) (lp:g.pb<w.heap.size) {zs zs':List Int}{N:Nat}
 (h3:wr.ownsRow (w.heap.size+2) 3 1 ov t.opens (zs.map (.int .i64))) (oA:ae (fun b=>ov.ownBlock=some b) wr w4) (cz:w4.ownsRow (w.heap.size+2) 3 1 v' N (zs'.map (.int .i64))):PtS g w w4 {t with opens:=N} v':=by
 have hb:∀b,ov.ownBlock=some b→w.heap.size+2≤b:=fun b e=>(h3.lt b e).1;obtain⟨ia,ic,xs,h1,h2⟩:=h.pt;exact⟨h.scn.keeps oA (fun e=>by have:=hb _ e;omega) (fun e1 e=>by have:=hb _ e;have:=ll e1;omega) (fun e=>by have:=hb _ e;omega),h.res.keeps oA (fun e=>by have:=hb _ e;omega),⟨ia,ic,xs,h1.keeps oA (fun e=>by have:=hb _ e;omega),ag h2 oA (fun b dt e=>(aq.of_row h2 dt).ne (aq.of_row h3 e) (by decide) rfl)⟩,⟨zs',cz⟩,h.o.trans oA (fun _ e=>e) (fun b dt e=>by have:=hb _ e;omega),Nat.le_trans h.lt oA.size⟩
theorem PtS.grp {g:SG}{w wr:World}{t:Rf.PS}{ov:Value} (h:PtS g w wr t ov) (lx:g.x<w.heap.size) (ll:g.L≠ []→g.lb<w.heap.size) (lp:g.pb<w.heap.size) (k:Nat):PtS g w (wr.setCell ⟨w.heap.size+1,1,none⟩ (.int .i64 (k:Int))) {t with groups:=k} ov:=by
 obtain⟨ia,ic,xs,h1,h2⟩:=h.pt;obtain⟨zs,h3⟩:=h.op;have oS:=af wr (w.heap.size+1) 1 (.int .i64 (k:Int));exact⟨h.scn.keeps oS (by omega) (fun e=>by have:=ll e;omega) (by omega),h.res.keeps oS (by omega),⟨ia,ic,xs,h1.set 1 _,ag h2 oS (fun b dt e=>by have:=(h2.lt b dt).1;omega)⟩,⟨zs,ag h3 oS (fun b dt e=>by have:=(h3.lt b dt).1;omega)⟩,h.o.trans oS (fun _ e=>e) (fun b dt e=>by omega),Nat.le_trans h.lt oS.size⟩
theorem PtS.new {g:SG}{w:World}{s:SS} (h:Scn g w s):PtS g w ((w.alloc (.cells #[.slice none 0 0,.int .i64 0] 83)).alloc (.cells #[.slice none 0 0,.int .i64 0] 83)) ⟨s,0,0,0⟩ (.slice none 0 0):=by
 have o0:ae (fun _=>False) w ((w.alloc (.cells #[.slice none 0 0,.int .i64 0] 83)).alloc (.cells #[.slice none 0 0,.int .i64 0] 83)):=((ae.refl _ w).alloc _).alloc _;have zd:=ai.new (w.alloc (.cells #[.slice none 0 0,.int .i64 0] 83)) #[.slice none 0 0,.int .i64 0] 83;have hz:(w.alloc (.cells #[.slice none 0 0,.int .i64 0] 83)).heap.size=w.heap.size+1:=by simp
 rw[hz] at zd;exact⟨h.keeps o0 id (fun _=>id) id,(ai.new w #[.slice none 0 0,.int .i64 0] 83).alloc _,⟨none,0,[],zd,World.ownsRow_nil _ _ _ _⟩,⟨[],World.ownsRow_nil _ _ _ _⟩,o0.mono (fun _ _ e=>e.elim),by simp⟩
theorem jg (g:SG) (w:World) (s:SS) (h:Scn g w s):
 Calls Tryz.prog 107 #[.pointer (some ⟨g.x,0,none⟩)] w fun e w'=>∃ia n ic,e=.returned (.agg #[.slice ia n ic,.int .i64 ((Rf.pat g.L g.pl s).groups:Int)])∧Scn g w' (Rf.pat g.L g.pl s).s∧ae (·=g.x) w w':=by
 have eN:=h.le;have dy:=h.small;obtain⟨T,hT⟩:∃T,Rf.pat g.L g.pl s=T:=⟨_,rfl⟩;rw[hT];unfold Rf.pat at hT;obtain⟨lx,ll,lp⟩:=h.lts;have P0:=PtS.new h
 have c2:w.cell? ⟨g.x,2,none⟩=some (.int .i64 s.i):=by
  obtain⟨la,pc,k1,k2⟩:=h.cells;exact(k1 2 _ rfl).1
 have HT:Hid _:=hT;obtain⟨s0,uK,Ai,Aj,Ak⟩:=info_parts zE;obtain⟨i0,dZ,nj,nk,ns⟩:=info_parts eY;clear hT;go_enter Tryz.func107,Tryz.ntmps107;go_wp2_with fail;clear c2
 go_loopg [5] (g.L.length+1) (fun k v wr=>∃(t:Rf.PS) (m:Nat) (oa:Option Addr) (oc:Nat),v=.slice oa t.opens oc∧Hid (PtS g w wr t (.slice oa t.opens oc))∧Hid ((t.s.e=0→g.L.length<m+t.s.i∧g.L.length+1≤t.s.i+k∧t.n≤t.s.i∧t.groups≤t.s.i∧t.opens≤t.s.i)∧Rf.pattern g.L g.pl s.i m t=T))
 case atStart=>exact ⟨⟨s,0,0,0⟩,g.L.length+1,none,0,rfl,P0,⟨fun e=>⟨by show g.L.length<g.L.length+1+s.i;omega,by show g.L.length+1≤s.i+(g.L.length+1);omega,Nat.zero_le _,Nat.zero_le _,Nat.zero_le _⟩,HT.out⟩⟩
 case round=>
  obtain⟨t,m,Ay,sL,rfl,HP,HI⟩:=hrel;have P:=HP.out;obtain⟨lD,au⟩:=HI.out;have cU:=P.scn;obtain⟨la,pc,k1,k2⟩:=cU.cells;have ce:=(k1 3 _ rfl).1;have c2:=(k1 2 _ rfl).1;have f2:=(k1 2 _ rfl).2;clear k1 k2 HP HI P0 HT;by_cases he:t.s.e=0
  ·obtain⟨wO,vN,qZ,CT,zj⟩:=lD he
   have gU:=cU.le;obtain⟨m,rfl⟩:∃m',m=m'+1:=⟨m - 1,by omega⟩;unfold Rf.pattern at au;rw[if_pos he] at au;have b0:(t.s.e==0)=true:=by simpa using he
   have HQ:Hid (1≤gk∧g.L.length<m+1+t.s.i∧g.L.length+1≤t.s.i+gk∧t.n≤t.s.i∧t.groups≤t.s.i∧t.opens≤t.s.i∧t.s.i≤500):=⟨by omega,wO,vN,qZ,CT,zj,by omega⟩;have cy:=Rf.pstep_adv g.L g.pl s.i t he;have dK:=az g wr t.s cU;clear lD wO vN qZ CT zj he;by_cases bK:Rf.now g.L t.s=47
   ·rw[if_pos bK] at au
    have aw:=(cr cU (by omega)).2.1;rw[bK] at dK;clear bK cy cU;unfold Rf.pend at au;simp only at au;go_wp2_with fail;refine dK.mono ?_;rintro e w1 ⟨rfl,n1,rfl⟩;have P1:=P.drewN lx n1;have bZ:=P1.scn.step aw;have P:PtS g w ((wr.drewN n1).setCell ⟨g.x,2,none⟩ (.int .i64 ((t.s.i:Int)+1))) {t with s:= {t.s with i:=t.s.i+1}} (.slice Ay t.opens sL):=P1.moved lx bZ.1 bZ.2;clear P1 bZ;go_upto_region 11 with (fail)
    generalize (wr.drewN n1).setCell ⟨g.x,2,none⟩ (.int .i64 ((t.s.i:Int)+1))=wv at*
    obtain⟨ia,ic,xs,gB,HW⟩:=P.pt;have j8:=(gB 0 _ rfl).1;clear gB HW;by_cases J7:30<t.n
    ·rw[if_pos J7] at au
     have Tm:(30:Int)<(t.n:Int):=by omega
     by_cases nS:0<t.opens
     ·rw[if_pos nS] at au
      have Ns:(0:Int)<(t.opens:Int):=by omega
      subst au;go_wp2_with fail;refine(aB g _ _ P.scn 4 s.i eN).mono ?_;rintro e w2 ⟨rfl,h2,o2⟩;have P2:=P.moved lx h2 o2;clear P;have P:=P2;clear P2 h2 o2;go_wp2_with fail;refine(aB g _ _ P.scn 8 s.i eN).mono ?_;rintro e w3 ⟨rfl,h3,o3⟩;have P3:=P.moved lx h3 o3;clear P;have P:=P3;clear P3 h3 o3;have h9:=P.scn;obtain⟨D5,D6,MV,rY,_⟩:=P.pt;have m0:=rY 0 _ rfl;have m1:=rY 1 _ rfl;have v0:=P.res 0 _ rfl;have v1:=P.res 1 _ rfl;have o9:=P.o;clear rY P;go_wp2;refine bodyPost_ret (v:=.agg #[.slice D5 t.n D6,.int .i64 (t.groups:Int)]) (by simp[results,Tryz.results107,go_sem,v0,v1]) rfl ?_
      first
       | exact⟨_,_,_,rfl,Scn.high h9 w.heap.size lx ll lp (aZ _ _ _ _),o9.trans (aZ _ _ _ _) (fun _ e=>e) (fun b hb e=>absurd e (by omega))⟩
       | exact⟨⟨_,_,_,rfl⟩,Scn.high h9 w.heap.size lx ll lp (aZ _ _ _ _),o9.trans (aZ _ _ _ _) (fun _ e=>e) (fun b hb e=>absurd e (by omega))⟩
     ·rw[if_neg nS] at au
      have Ns:¬(0:Int)<(t.opens:Int):=by omega
      subst au;go_wp2_with fail;refine(aB g _ _ P.scn 4 s.i eN).mono ?_;rintro e w2 ⟨rfl,h2,o2⟩;have P2:=P.moved lx h2 o2;clear P;have P:=P2;clear P2 h2 o2;have h9:=P.scn;obtain⟨D5,D6,MV,rY,_⟩:=P.pt;have m0:=rY 0 _ rfl;have m1:=rY 1 _ rfl;have v0:=P.res 0 _ rfl;have v1:=P.res 1 _ rfl;have o9:=P.o;clear rY P;go_wp2;refine bodyPost_ret (v:=.agg #[.slice D5 t.n D6,.int .i64 (t.groups:Int)]) (by simp[results,Tryz.results107,go_sem,v0,v1]) rfl ?_
      first
       | exact⟨_,_,_,rfl,Scn.high h9 w.heap.size lx ll lp (aZ _ _ _ _),o9.trans (aZ _ _ _ _) (fun _ e=>e) (fun b hb e=>absurd e (by omega))⟩
       | exact⟨⟨_,_,_,rfl⟩,Scn.high h9 w.heap.size lx ll lp (aZ _ _ _ _),o9.trans (aZ _ _ _ _) (fun _ e=>e) (fun b hb e=>absurd e (by omega))⟩
    ·rw[if_neg J7] at au
     have Tm:¬(30:Int)<(t.n:Int):=by omega
     by_cases nS:0<t.opens
     ·rw[if_pos nS] at au
      have Ns:(0:Int)<(t.opens:Int):=by omega
      subst au;go_wp2_with fail;refine(aB g _ _ P.scn 8 s.i eN).mono ?_;rintro e w3 ⟨rfl,h3,o3⟩;have P3:=P.moved lx h3 o3;clear P;have P:=P3;clear P3 h3 o3;have h9:=P.scn;obtain⟨D5,D6,MV,rY,_⟩:=P.pt;have m0:=rY 0 _ rfl;have m1:=rY 1 _ rfl;have v0:=P.res 0 _ rfl;have v1:=P.res 1 _ rfl;have o9:=P.o;clear rY P;go_wp2;refine bodyPost_ret (v:=.agg #[.slice D5 t.n D6,.int .i64 (t.groups:Int)]) (by simp[results,Tryz.results107,go_sem,v0,v1]) rfl ?_
      first
       | exact⟨_,_,_,rfl,Scn.high h9 w.heap.size lx ll lp (aZ _ _ _ _),o9.trans (aZ _ _ _ _) (fun _ e=>e) (fun b hb e=>absurd e (by omega))⟩
       | exact⟨⟨_,_,_,rfl⟩,Scn.high h9 w.heap.size lx ll lp (aZ _ _ _ _),o9.trans (aZ _ _ _ _) (fun _ e=>e) (fun b hb e=>absurd e (by omega))⟩
     ·rw[if_neg nS] at au
      have Ns:¬(0:Int)<(t.opens:Int):=by omega
      subst au;clear j8;have h9:=P.scn;obtain⟨D5,D6,MV,rY,_⟩:=P.pt;have m0:=rY 0 _ rfl;have m1:=rY 1 _ rfl;have v0:=P.res 0 _ rfl;have v1:=P.res 1 _ rfl;have o9:=P.o;clear rY P;go_wp2;refine bodyPost_ret (v:=.agg #[.slice D5 t.n D6,.int .i64 (t.groups:Int)]) (by simp[results,Tryz.results107,go_sem,v0,v1]) rfl ?_
      first
       | exact⟨_,_,_,rfl,Scn.high h9 w.heap.size lx ll lp (aZ _ _ _ _),o9.trans (aZ _ _ _ _) (fun _ e=>e) (fun b hb e=>absurd e (by omega))⟩
       | exact⟨⟨_,_,_,rfl⟩,Scn.high h9 w.heap.size lx ll lp (aZ _ _ _ _),o9.trans (aZ _ _ _ _) (fun _ e=>e) (fun b hb e=>absurd e (by omega))⟩
   ·rw[if_neg bK] at au
    have cB:=au;have dV:=cy;unfold Rf.pstep at cB dV;by_cases lu:Rf.now g.L t.s=94∧t.s.i=s.i
    ·rw[if_pos lu] at cB dV
     have bG:Hid _:=cB;have fY:Hid _:=dV;have Tv:((t.s.i:Int)==(s.i:Int))=true:=by simp[lu.2]
     have aw:=(cr cU (by omega)).2.1;rw[lu.1] at dK;clear bK lu cB dV au cy cU;go_wp2_with fail;refine dK.mono ?_;rintro e w1 ⟨rfl,n1,rfl⟩;have P1:=P.drewN lx n1;have bZ:=P1.scn.step aw;have P:PtS g w ((wr.drewN n1).setCell ⟨g.x,2,none⟩ (.int .i64 ((t.s.i:Int)+1))) {t with s:= {t.s with i:=t.s.i+1}} (.slice Ay t.opens sL):=P1.moved lx bZ.1 bZ.2;clear P1 bZ;go_upto_region 18 with (fail)
     generalize (wr.drewN n1).setCell ⟨g.x,2,none⟩ (.int .i64 ((t.s.i:Int)+1))=wv at*
     have Eg:=P.lt;obtain⟨ia,ic,xs,gB,HW⟩:=P.pt;have j8:=(gB 0 _ rfl).1;have sC:=(gB 0 _ rfl).2;have bu:(Value.slice ia t.n ic).ownBlock≠some (w.heap.size+1):=fun e=>by have:=(HW.lt _ e).1;omega
     have aO:(wv.alloc (.cells #[.int .u8 94,.int .i64 0,.slice none 0 0,.bool false,.int .u8 0] 200)).heap.size=wv.heap.size+1:=by simp
     have oa:ae (fun _=>False) wv (wv.alloc (.cells #[.int .u8 94,.int .i64 0,.slice none 0 0,.bool false,.int .u8 0] 200)):=(ae.refl _ wv).alloc _;have cq:=ag HW oa (fun _ _=>id);have gD:=oa.keeps j8 id;have gE:=oa.keepsFrozen j8 sC id;have tC:t.n≤501:=by have:=HQ.out;omega
     go_wp2_with (at_builtin;refine wpList_append_lies _ (by rfl) _ _ _ (by rfl) (w.heap.size+2) 200 s0 _ 5 48 Tryz.underlying81 uK Ai Aj Ak rfl (by omega) (.slice ia t.n ic) t.n xs (by rfl) cq ⟨wv.heap.size,0,none⟩ 1 1 [.int .u8 94,.int .i64 0,.slice none 0 0,.bool false,.int .u8 0] (by rfl) (by rfl) (World.news_of_block (cs:= #[.int .u8 94,.int .i64 0,.slice none 0 0,.bool false,.int .u8 0]) (t:=200) (fr:=(0,0)) (heap_alloc_new _ _)) (by simp[Value.oneCell']) (by omega) (by unfold maxLen;omega) (by omega) (by rw[aO];omega) (wv.heap.size+1) aO ?_;intro g2 aT w4 ay ao bH dM;have gq:=(ao.cell_far ⟨w.heap.size+1,0,none⟩ (by rw[aO];show w.heap.size+1<_;omega) (Ne.symm bu)).trans gD;have sA:=(ao.frozen_far ⟨w.heap.size+1,0,none⟩ (by rw[aO];show w.heap.size+1<_;omega) (Ne.symm bu)).trans gE);have Pn:=P.item lx ll lp gB HW (oa.trans (ae.of_grown ao) (fun _ e=>e.elim) (fun _ _ e=>e)) rfl ay;go_roundg (gk - 1)
     case measure=>have:=HQ.out.1;omega
     case rel=>exact ⟨⟨{t.s with i:=t.s.i+1},t.n+1,t.groups,t.opens⟩,m,_,_,rfl,Pn,⟨fun e=>by
      have h9:t.s.i<({t.s with i:=t.s.i+1}:SS).i:=(fY.out e).2;have h8:=HQ.out;have h7:g.L.length<m+({t.s with i:=t.s.i+1}:SS).i:=by omega
      have h6:g.L.length+1≤({t.s with i:=t.s.i+1}:SS).i+(gk - 1):=by omega
      have h5:t.n+1≤({t.s with i:=t.s.i+1}:SS).i:=by omega
      have h4:t.groups≤({t.s with i:=t.s.i+1}:SS).i:=by omega
      have h3:t.opens≤({t.s with i:=t.s.i+1}:SS).i:=by omega
      exact⟨h7,h6,h5,h4,h3⟩,bG.out⟩⟩
    ·rw[if_neg lu] at cB dV
     have Ik:(Rf.now g.L t.s==47)=false:=by simpa using bK
     by_cases mg:Rf.now g.L t.s=40
     ·-- a group opens
      rw[if_pos mg] at cB dV;have aw:=(cr cU (by omega)).2.1;rw[mg] at dK;have Uz:=A7 (k:=t.groups) (by have:=HQ.out;omega);clear bK lu au cy cU Ik mg;by_cases h9:9<t.groups+1
      ·rw[if_pos h9] at cB dV
       have bG:Hid _:=cB;have fY:Hid _:=dV;clear cB dV;have b9:=Ep h9;clear h9;go_wp2_with fail;refine dK.mono ?_;rintro e w1 ⟨rfl,n1,rfl⟩;have P1:=P.drewN lx n1;have bZ:=P1.scn.step aw;have P:PtS g w ((wr.drewN n1).setCell ⟨g.x,2,none⟩ (.int .i64 ((t.s.i:Int)+1))) {t with s:= {t.s with i:=t.s.i+1}} (.slice Ay t.opens sL):=P1.moved lx bZ.1 bZ.2;clear P1 bZ;go_upto_region 21 with (fail)
       generalize (wr.drewN n1).setCell ⟨g.x,2,none⟩ (.int .i64 ((t.s.i:Int)+1))=wv at*
       have PG:PtS g w (wv.setCell ⟨w.heap.size+1,1,none⟩ (.int .i64 ((t.groups:Int)+1))) ⟨{t.s with i:=t.s.i+1},t.n,t.groups+1,t.opens⟩ (.slice Ay t.opens sL):=P.grp lx ll lp (t.groups+1);obtain⟨mu,mv,MU,zd,_⟩:=P.pt;have PB:=(zd 1 _ rfl).1;have PC:=(zd 1 _ rfl).2;clear zd;go_upto_region 22 with (fail)
       generalize wv.setCell ⟨w.heap.size+1,1,none⟩ (.int .i64 ((t.groups:Int)+1))=wg at*
       clear P PB PC;obtain⟨Pw,Px,P8,Be,_⟩:=PG.pt;have Ia:wg.cell? ⟨w.heap.size+1,1,none⟩=some (.int .i64 ((t.groups:Int)+1)):=(Be 1 _ rfl).1;clear Be;go_wp2_with fail;refine(aB g _ _ PG.scn 8 t.s.i gU).mono ?_;rintro e w3 ⟨rfl,h3,o3⟩;have P:=PG.moved lx h3 o3;clear PG Ia h3 o3;go_upto_region 24 with (fail)
       have VC:=P.lt;obtain⟨Pw,Px,P8,Be,_⟩:=P.pt;have Ia:w3.cell? ⟨w.heap.size+1,1,none⟩=some (.int .i64 ((t.groups:Int)+1)):=(Be 1 _ rfl).1;clear Be;obtain⟨zs,HZ⟩:=P.op;have BZ:(w3.alloc (.cells #[.int .i64 ((t.groups:Int)+1)] 3)).heap.size=w3.heap.size+1:=by simp
       have oo:ae (fun _=>False) w3 (w3.alloc (.cells #[.int .i64 ((t.groups:Int)+1)] 3)):=(ae.refl _ w3).alloc _;have Ct:=ag HZ oo (fun _ _=>id);have OT:t.opens≤501:=by have:=HQ.out;omega
       go_upto_region 25 with (at_builtin;refine wpList_append_lies _ (by rfl) _ _ _ (by rfl) (w.heap.size+2) 3 i0 _ 1 8 Tryz.underlying35 dZ nj nk ns rfl (by omega) (.slice Ay t.opens sL) t.opens (zs.map (.int .i64)) (by rfl) Ct ⟨w3.heap.size,0,none⟩ 1 1 [.int .i64 ((t.groups:Int)+1)] (by rfl) (by rfl) (World.news_of_block (cs:= #[.int .i64 ((t.groups:Int)+1)]) (t:=3) (fr:=(0,0)) (heap_alloc_new _ _)) (by simp[Value.oneCell']) (by omega) (by unfold maxLen;omega) (by omega) (by rw[BZ];omega) (w3.heap.size+1) BZ ?_;intro g5 Nz w5 BQ wQ Od OP)
       have Po:=P.opn lx ll lp (zs':=zs++ [(t.groups:Int)+1]) HZ (oo.trans (ae.of_grown wQ) (fun _ e=>e.elim) (fun _ _ e=>e)) (by rw[List.map_append];exact BQ);clear P Ia HZ Ct oo;have P:=Po;clear Po;have Eg:=P.lt;obtain⟨ia,ic,xs,gB,HW⟩:=P.pt;have j8:=(gB 0 _ rfl).1;have sC:=(gB 0 _ rfl).2;have Vx:w5.cell? ⟨w.heap.size+1,1,none⟩=some (.int .i64 ((t.groups:Int)+1)):=(gB 1 _ rfl).1;have bu:(Value.slice ia t.n ic).ownBlock≠some (w.heap.size+1):=fun e=>by have:=(HW.lt _ e).1;omega
       have aO:(w5.alloc (.cells #[.int .u8 40,.int .i64 ((t.groups:Int)+1),.slice none 0 0,.bool false,.int .u8 0] 200)).heap.size=w5.heap.size+1:=by simp
       have oa:ae (fun _=>False) w5 (w5.alloc (.cells #[.int .u8 40,.int .i64 ((t.groups:Int)+1),.slice none 0 0,.bool false,.int .u8 0] 200)):=(ae.refl _ w5).alloc _;have cq:=ag HW oa (fun _ _=>id);have gD:=oa.keeps j8 id;have gE:=oa.keepsFrozen j8 sC id;have tC:t.n≤501:=by have:=HQ.out;omega
       go_wp2_with (at_builtin;refine wpList_append_lies _ (by rfl) _ _ _ (by rfl) (w.heap.size+2) 200 s0 _ 5 48 Tryz.underlying81 uK Ai Aj Ak rfl (by omega) (.slice ia t.n ic) t.n xs (by rfl) cq ⟨w5.heap.size,0,none⟩ 1 1 [.int .u8 40,.int .i64 ((t.groups:Int)+1),.slice none 0 0,.bool false,.int .u8 0] (by rfl) (by rfl) (World.news_of_block (cs:= #[.int .u8 40,.int .i64 ((t.groups:Int)+1),.slice none 0 0,.bool false,.int .u8 0]) (t:=200) (fr:=(0,0)) (heap_alloc_new _ _)) (by simp[Value.oneCell']) (by omega) (by unfold maxLen;omega) (by omega) (by rw[aO];omega) (w5.heap.size+1) aO ?_;intro g2 aT w4 ay ao bH dM;have gq:=(ao.cell_far ⟨w.heap.size+1,0,none⟩ (by rw[aO];show w.heap.size+1<_;omega) (Ne.symm bu)).trans gD;have sA:=(ao.frozen_far ⟨w.heap.size+1,0,none⟩ (by rw[aO];show w.heap.size+1<_;omega) (Ne.symm bu)).trans gE);have Pn:=P.item lx ll lp gB HW (oa.trans (ae.of_grown ao) (fun _ e=>e.elim) (fun _ _ e=>e)) rfl ay;go_roundg (gk - 1)
       case measure=>have:=HQ.out.1;omega
       case rel=>exact ⟨⟨(Rf.no g.pl {t.s with i:=t.s.i+1} 8 t.s.i),t.n+1,t.groups+1,t.opens+1⟩,m,_,_,rfl,Pn,⟨fun e=>by
        have h9:t.s.i<((Rf.no g.pl {t.s with i:=t.s.i+1} 8 t.s.i):SS).i:=(fY.out e).2;have h8:=HQ.out;have h7:g.L.length<m+((Rf.no g.pl {t.s with i:=t.s.i+1} 8 t.s.i):SS).i:=by omega
        have h6:g.L.length+1≤((Rf.no g.pl {t.s with i:=t.s.i+1} 8 t.s.i):SS).i+(gk - 1):=by omega
        have h5:t.n+1≤((Rf.no g.pl {t.s with i:=t.s.i+1} 8 t.s.i):SS).i:=by omega
        have h4:t.groups+1≤((Rf.no g.pl {t.s with i:=t.s.i+1} 8 t.s.i):SS).i:=by omega
        have h3:t.opens+1≤((Rf.no g.pl {t.s with i:=t.s.i+1} 8 t.s.i):SS).i:=by omega
        exact⟨h7,h6,h5,h4,h3⟩,bG.out⟩⟩
      ·rw[if_neg h9] at cB dV
       have bG:Hid _:=cB;have fY:Hid _:=dV;clear cB dV;have b9:=Eo h9;clear h9;go_wp2_with fail;refine dK.mono ?_;rintro e w1 ⟨rfl,n1,rfl⟩;have P1:=P.drewN lx n1;have bZ:=P1.scn.step aw;have P:PtS g w ((wr.drewN n1).setCell ⟨g.x,2,none⟩ (.int .i64 ((t.s.i:Int)+1))) {t with s:= {t.s with i:=t.s.i+1}} (.slice Ay t.opens sL):=P1.moved lx bZ.1 bZ.2;clear P1 bZ;go_upto_region 21 with (fail)
       generalize (wr.drewN n1).setCell ⟨g.x,2,none⟩ (.int .i64 ((t.s.i:Int)+1))=wv at*
       have PG:PtS g w (wv.setCell ⟨w.heap.size+1,1,none⟩ (.int .i64 ((t.groups:Int)+1))) ⟨{t.s with i:=t.s.i+1},t.n,t.groups+1,t.opens⟩ (.slice Ay t.opens sL):=P.grp lx ll lp (t.groups+1);obtain⟨mu,mv,MU,zd,_⟩:=P.pt;have PB:=(zd 1 _ rfl).1;have PC:=(zd 1 _ rfl).2;clear zd;go_upto_region 22 with (fail)
       generalize wv.setCell ⟨w.heap.size+1,1,none⟩ (.int .i64 ((t.groups:Int)+1))=wg at*
       clear P PB PC;obtain⟨Pw,Px,P8,Be,_⟩:=PG.pt;have Ia:wg.cell? ⟨w.heap.size+1,1,none⟩=some (.int .i64 ((t.groups:Int)+1)):=(Be 1 _ rfl).1;clear Be;have P:=PG;clear PG;go_upto_region 24 with (fail)
       clear Ia;have VC:=P.lt;obtain⟨Pw,Px,P8,Be,_⟩:=P.pt;have Ia:wg.cell? ⟨w.heap.size+1,1,none⟩=some (.int .i64 ((t.groups:Int)+1)):=(Be 1 _ rfl).1;clear Be;obtain⟨zs,HZ⟩:=P.op;have BZ:(wg.alloc (.cells #[.int .i64 ((t.groups:Int)+1)] 3)).heap.size=wg.heap.size+1:=by simp
       have oo:ae (fun _=>False) wg (wg.alloc (.cells #[.int .i64 ((t.groups:Int)+1)] 3)):=(ae.refl _ wg).alloc _;have Ct:=ag HZ oo (fun _ _=>id);have OT:t.opens≤501:=by have:=HQ.out;omega
       go_upto_region 25 with (at_builtin;refine wpList_append_lies _ (by rfl) _ _ _ (by rfl) (w.heap.size+2) 3 i0 _ 1 8 Tryz.underlying35 dZ nj nk ns rfl (by omega) (.slice Ay t.opens sL) t.opens (zs.map (.int .i64)) (by rfl) Ct ⟨wg.heap.size,0,none⟩ 1 1 [.int .i64 ((t.groups:Int)+1)] (by rfl) (by rfl) (World.news_of_block (cs:= #[.int .i64 ((t.groups:Int)+1)]) (t:=3) (fr:=(0,0)) (heap_alloc_new _ _)) (by simp[Value.oneCell']) (by omega) (by unfold maxLen;omega) (by omega) (by rw[BZ];omega) (wg.heap.size+1) BZ ?_;intro g5 Nz w5 BQ wQ Od OP)
       have Po:=P.opn lx ll lp (zs':=zs++ [(t.groups:Int)+1]) HZ (oo.trans (ae.of_grown wQ) (fun _ e=>e.elim) (fun _ _ e=>e)) (by rw[List.map_append];exact BQ);clear P Ia HZ Ct oo;have P:=Po;clear Po;have Eg:=P.lt;obtain⟨ia,ic,xs,gB,HW⟩:=P.pt;have j8:=(gB 0 _ rfl).1;have sC:=(gB 0 _ rfl).2;have Vx:w5.cell? ⟨w.heap.size+1,1,none⟩=some (.int .i64 ((t.groups:Int)+1)):=(gB 1 _ rfl).1;have bu:(Value.slice ia t.n ic).ownBlock≠some (w.heap.size+1):=fun e=>by have:=(HW.lt _ e).1;omega
       have aO:(w5.alloc (.cells #[.int .u8 40,.int .i64 ((t.groups:Int)+1),.slice none 0 0,.bool false,.int .u8 0] 200)).heap.size=w5.heap.size+1:=by simp
       have oa:ae (fun _=>False) w5 (w5.alloc (.cells #[.int .u8 40,.int .i64 ((t.groups:Int)+1),.slice none 0 0,.bool false,.int .u8 0] 200)):=(ae.refl _ w5).alloc _;have cq:=ag HW oa (fun _ _=>id);have gD:=oa.keeps j8 id;have gE:=oa.keepsFrozen j8 sC id;have tC:t.n≤501:=by have:=HQ.out;omega
       go_wp2_with (at_builtin;refine wpList_append_lies _ (by rfl) _ _ _ (by rfl) (w.heap.size+2) 200 s0 _ 5 48 Tryz.underlying81 uK Ai Aj Ak rfl (by omega) (.slice ia t.n ic) t.n xs (by rfl) cq ⟨w5.heap.size,0,none⟩ 1 1 [.int .u8 40,.int .i64 ((t.groups:Int)+1),.slice none 0 0,.bool false,.int .u8 0] (by rfl) (by rfl) (World.news_of_block (cs:= #[.int .u8 40,.int .i64 ((t.groups:Int)+1),.slice none 0 0,.bool false,.int .u8 0]) (t:=200) (fr:=(0,0)) (heap_alloc_new _ _)) (by simp[Value.oneCell']) (by omega) (by unfold maxLen;omega) (by omega) (by rw[aO];omega) (w5.heap.size+1) aO ?_;intro g2 aT w4 ay ao bH dM;have gq:=(ao.cell_far ⟨w.heap.size+1,0,none⟩ (by rw[aO];show w.heap.size+1<_;omega) (Ne.symm bu)).trans gD;have sA:=(ao.frozen_far ⟨w.heap.size+1,0,none⟩ (by rw[aO];show w.heap.size+1<_;omega) (Ne.symm bu)).trans gE);have Pn:=P.item lx ll lp gB HW (oa.trans (ae.of_grown ao) (fun _ e=>e.elim) (fun _ _ e=>e)) rfl ay;go_roundg (gk - 1)
       case measure=>have:=HQ.out.1;omega
       case rel=>exact ⟨⟨{t.s with i:=t.s.i+1},t.n+1,t.groups+1,t.opens+1⟩,m,_,_,rfl,Pn,⟨fun e=>by
        have h9:t.s.i<({t.s with i:=t.s.i+1}:SS).i:=(fY.out e).2;have h8:=HQ.out;have h7:g.L.length<m+({t.s with i:=t.s.i+1}:SS).i:=by omega
        have h6:g.L.length+1≤({t.s with i:=t.s.i+1}:SS).i+(gk - 1):=by omega
        have h5:t.n+1≤({t.s with i:=t.s.i+1}:SS).i:=by omega
        have h4:t.groups+1≤({t.s with i:=t.s.i+1}:SS).i:=by omega
        have h3:t.opens+1≤({t.s with i:=t.s.i+1}:SS).i:=by omega
        exact⟨h7,h6,h5,h4,h3⟩,bG.out⟩⟩
     ·rw[if_neg mg] at cB dV
      by_cases Ao:Rf.now g.L t.s=41
      ·rw[if_pos Ao] at cB dV
       rw[Ao] at dK;by_cases BN:t.opens=0
       ·-- no group is open
        rw[if_pos BN] at cB dV;have bG:Hid _:=cB;have fY:Hid _:=dV;have bo:((t.opens:Int)==0)=true:=by simp[BN]
        have eO:=fun n=>aB g (wr.drewN n) t.s (cU.drewN n) 8 t.s.i gU;have HN:Hid _:=eO;clear bK lu au cy cU Ik mg Ao BN cB dV eO;go_wp2_with fail;refine dK.mono ?_;rintro e w1 ⟨rfl,n1,rfl⟩;go_wp2_with fail;refine(HN.out _).mono ?_;rintro e w2 ⟨rfl,h2,o2⟩;have Pn:=(P.drewN lx n1).moved lx h2 o2;go_wp2_with fail;go_roundg (gk - 1)
        case measure=>have:=HQ.out.1;omega
        case rel=>exact ⟨⟨Rf.no g.pl t.s 8 t.s.i,t.n,t.groups,t.opens⟩,m,_,_,rfl,Pn,⟨fun e=>by
         have h9:t.s.i<(Rf.no g.pl t.s 8 t.s.i:SS).i:=(fY.out e).2;have h8:=HQ.out;have h7:g.L.length<m+(Rf.no g.pl t.s 8 t.s.i:SS).i:=by omega
         have h6:g.L.length+1≤(Rf.no g.pl t.s 8 t.s.i:SS).i+(gk - 1):=by omega
         have h5:t.n≤(Rf.no g.pl t.s 8 t.s.i:SS).i:=by omega
         have h4:t.groups≤(Rf.no g.pl t.s 8 t.s.i:SS).i:=by omega
         have h3:t.opens≤(Rf.no g.pl t.s 8 t.s.i:SS).i:=by omega
         exact⟨h7,h6,h5,h4,h3⟩,bG.out⟩⟩
       ·-- a group is closed
        rw[if_neg BN] at cB dV;have bG:Hid _:=cB;have fY:Hid _:=dV;have aw:=(cr cU (by omega)).2.1;clear bK lu au cy cU Ik mg Ao cB dV;obtain⟨ts,tn,tg,tp⟩:=t;obtain⟨ko,rfl⟩:∃ko,tp=ko+1:=⟨tp - 1,by simp only at BN;omega⟩;simp only at*
        have bo:(((ko+1:Nat):Int)==0)=false:=by simp;omega
        clear BN;go_wp2_with fail;refine dK.mono ?_;rintro e w1 ⟨rfl,n1,rfl⟩;have P1:=P.drewN lx n1;have bZ:=P1.scn.step aw;have P:PtS g w ((wr.drewN n1).setCell ⟨g.x,2,none⟩ (.int .i64 ((ts.i:Int)+1))) ⟨{ts with i:=ts.i+1},tn,tg,ko+1⟩ (.slice Ay (ko+1) sL):=P1.moved lx bZ.1 bZ.2;clear P1 bZ;go_upto_region 30 with (fail)
        generalize (wr.drewN n1).setCell ⟨g.x,2,none⟩ (.int .i64 ((ts.i:Int)+1))=wv at*
        have Eg:=P.lt;obtain⟨ia,ic,xs,gB,HW⟩:=P.pt;have j8:=(gB 0 _ rfl).1;have sC:=(gB 0 _ rfl).2;obtain⟨zs,HZ⟩:=P.op;have Vn:zs.length=ko+1:=by have:=HZ.1;simpa using this
        obtain⟨ob,rfl⟩:∃ob,Ay=some ⟨ob,0,none⟩:=by
         rcases HZ.2 with ⟨e,h0⟩ |⟨gb,cap,cur,e,_⟩
         ·exact absurd h0 (Nat.succ_ne_zero ko)
         ·injection e with e1;exact⟨gb,e1⟩
        obtain⟨z,hz⟩:∃z,zs[ko]? =some z:=⟨zs[ko]'(by omega),List.getElem?_eq_getElem (by omega)⟩;have CS:wv.cell? ⟨ob,ko,none⟩=some (.int .i64 z):=(HZ.cellAt ko (by omega)).trans (by rw[List.getElem?_map,hz];rfl);have bu:(Value.slice ia tn ic).ownBlock≠some (w.heap.size+1):=fun e=>by have:=(HW.lt _ e).1;omega
        have aO:(wv.alloc (.cells #[.int .u8 41,.int .i64 z,.slice none 0 0,.bool false,.int .u8 0] 200)).heap.size=wv.heap.size+1:=by simp
        have oa:ae (fun _=>False) wv (wv.alloc (.cells #[.int .u8 41,.int .i64 z,.slice none 0 0,.bool false,.int .u8 0] 200)):=(ae.refl _ wv).alloc _;have cq:=ag HW oa (fun _ _=>id);have R7:w.heap.size+1<wv.heap.size:=by omega
        have p7:∀o:Obj,(wv.alloc o).cell? ⟨w.heap.size+1,0,none⟩=some (.slice ia tn ic):=fun o=>by rw[World.cell?_alloc_past _ _ _ R7];exact j8
        have p6:∀o:Obj,(wv.alloc o).frozen? ⟨w.heap.size+1,0,none⟩=false:=fun o=>by rw[World.frozen?_alloc_past _ _ _ R7];exact sC
        have tC:tn≤501:=by have:=HQ.out;omega
        have UF:ko≤501:=by have:=HQ.out;omega
        have RE:(ko:Int)≤(sL:Int):=by
         rcases HZ.2 with ⟨e,h0⟩ |⟨gb,cap,cur,e,_,_,ct,_⟩
         ·exact absurd h0 (Nat.succ_ne_zero ko)
         ·injection e with e1 e2 e3
          have Rn:ko+1≤cap:=ct;omega
        have WK:IntKind.i64.wrap (ko:Int)=(ko:Int):=wrap_small UF;have G5:(0:Int)≤(ko:Int):=by omega
        have mj:(ko:Int)<(ko:Int)+1:=by omega
        go_region_law
         ((refine step_append_lies _ (by rfl) _ _ _ (by rfl) (w.heap.size+2) 200 s0 _ 5 48 Tryz.underlying81 uK Ai Aj Ak rfl (by omega) (.slice ia tn ic) tn xs (by rfl) (cq.drew) ⟨wv.heap.size,0,none⟩ 1 1 [.int .u8 41,.int .i64 z,.slice none 0 0,.bool false,.int .u8 0] (by rfl) (by rfl) (World.news_of_block (cs:= #[.int .u8 41,.int .i64 z,.slice none 0 0,.bool false,.int .u8 0]) (t:=200) (fr:=(0,0)) (heap_alloc_new wv _)) (by simp[Value.oneCell']) (by omega) (by unfold maxLen;omega) (by omega) (by simp;omega) (wv.heap.size+1) (by simp) ?_;intro g2 aT w4 ay ao bH dM;have gq:=(ao.cell_far ⟨w.heap.size+1,0,none⟩ (by simp;omega) (Ne.symm bu)).trans (p7 _);have sA:=(ao.frozen_far ⟨w.heap.size+1,0,none⟩ (by simp;omega) (Ne.symm bu)).trans (p6 _)))
        all_goals
         have Pi:=P.item lx ll lp gB HW ((oa.drew).trans (ae.of_grown ao) (fun _ e=>e.elim) (fun _ _ e=>e)) rfl ay;obtain⟨V0,JL⟩:=Pi.op;have Pn:=Pi.opn lx ll lp (zs':=V0.take ko) JL (ae.refl _ _) (by rw[List.map_take];exact sX JL (Nat.le_succ ko));clear Pi P HW HZ JL cq CS;go_wp2;go_roundg (gk - 1)
         case measure=>have:=HQ.out.1;omega
         case rel=>exact ⟨⟨{ts with i:=ts.i+1},tn+1,tg,ko⟩,m,_,_,rfl,Pn,⟨fun e=>by
          have h9:ts.i<({ts with i:=ts.i+1}:SS).i:=(fY.out e).2;have h8:=HQ.out;have h7:g.L.length<m+({ts with i:=ts.i+1}:SS).i:=by omega
          have h6:g.L.length+1≤({ts with i:=ts.i+1}:SS).i+(gk - 1):=by omega
          have h5:tn+1≤({ts with i:=ts.i+1}:SS).i:=by omega
          have h4:tg≤({ts with i:=ts.i+1}:SS).i:=by omega
          have h3:ko≤({ts with i:=ts.i+1}:SS).i:=by omega
          exact⟨h7,h6,h5,h4,h3⟩,bG.out⟩⟩
      ·rw[if_neg Ao] at cB dV
       by_cases oR:Rf.now g.L t.s=36
       ·rw[if_pos oR] at cB dV
        have aw:=(cr cU (by omega)).2.1;rw[oR] at dK;clear bK lu au cy Ik mg Ao oR;have pf:=fun W (hW:Scn g W {t.s with i:=t.s.i+1})=>az g W _ hW;by_cases zc:Rf.now g.L {t.s with i:=t.s.i+1}=47
        ·rw[if_pos zc] at cB dV
         have bG:Hid _:=cB;have fY:Hid _:=dV;rw[zc] at pf;have IE:Hid _:=pf;clear zc cB dV pf cU;go_wp2_with fail;refine dK.mono ?_;rintro e w1 ⟨rfl,n1,rfl⟩;have P1:=P.drewN lx n1;have bZ:=P1.scn.step aw;have P:PtS g w ((wr.drewN n1).setCell ⟨g.x,2,none⟩ (.int .i64 ((t.s.i:Int)+1))) {t with s:= {t.s with i:=t.s.i+1}} (.slice Ay t.opens sL):=P1.moved lx bZ.1 bZ.2;clear P1 bZ;go_upto_region 34 with (fail)
         generalize (wr.drewN n1).setCell ⟨g.x,2,none⟩ (.int .i64 ((t.s.i:Int)+1))=wv at*
         go_wp2_with fail;refine(IE.out _ P.scn).mono ?_;rintro e w2 ⟨rfl,n2,rfl⟩;have P2:=P.drewN lx n2;go_upto_region 36 with (fail)
         generalize wv.drewN n2=wu at*
         clear P;have P:=P2;have Eg:=P.lt;obtain⟨ia,ic,xs,gB,HW⟩:=P.pt;have j8:=(gB 0 _ rfl).1;have sC:=(gB 0 _ rfl).2;have bu:(Value.slice ia t.n ic).ownBlock≠some (w.heap.size+1):=fun e=>by have:=(HW.lt _ e).1;omega
         have aO:(wu.alloc (.cells #[.int .u8 36,.int .i64 0,.slice none 0 0,.bool false,.int .u8 0] 200)).heap.size=wu.heap.size+1:=by simp
         have oa:ae (fun _=>False) wu (wu.alloc (.cells #[.int .u8 36,.int .i64 0,.slice none 0 0,.bool false,.int .u8 0] 200)):=(ae.refl _ wu).alloc _;have cq:=ag HW oa (fun _ _=>id);have gD:=oa.keeps j8 id;have gE:=oa.keepsFrozen j8 sC id;have tC:t.n≤501:=by have:=HQ.out;omega
         go_wp2_with (at_builtin;refine wpList_append_lies _ (by rfl) _ _ _ (by rfl) (w.heap.size+2) 200 s0 _ 5 48 Tryz.underlying81 uK Ai Aj Ak rfl (by omega) (.slice ia t.n ic) t.n xs (by rfl) cq ⟨wu.heap.size,0,none⟩ 1 1 [.int .u8 36,.int .i64 0,.slice none 0 0,.bool false,.int .u8 0] (by rfl) (by rfl) (World.news_of_block (cs:= #[.int .u8 36,.int .i64 0,.slice none 0 0,.bool false,.int .u8 0]) (t:=200) (fr:=(0,0)) (heap_alloc_new _ _)) (by simp[Value.oneCell']) (by omega) (by unfold maxLen;omega) (by omega) (by rw[aO];omega) (wu.heap.size+1) aO ?_;intro g2 aT w4 ay ao bH dM;have gq:=(ao.cell_far ⟨w.heap.size+1,0,none⟩ (by rw[aO];show w.heap.size+1<_;omega) (Ne.symm bu)).trans gD;have sA:=(ao.frozen_far ⟨w.heap.size+1,0,none⟩ (by rw[aO];show w.heap.size+1<_;omega) (Ne.symm bu)).trans gE);have Pn:=P.item lx ll lp gB HW (oa.trans (ae.of_grown ao) (fun _ e=>e.elim) (fun _ _ e=>e)) rfl ay;go_roundg (gk - 1)
         case measure=>have:=HQ.out.1;omega
         case rel=>exact ⟨⟨{t.s with i:=t.s.i+1},t.n+1,t.groups,t.opens⟩,m,_,_,rfl,Pn,⟨fun e=>by
          have h9:t.s.i<({t.s with i:=t.s.i+1}:SS).i:=(fY.out e).2;have h8:=HQ.out;have h7:g.L.length<m+({t.s with i:=t.s.i+1}:SS).i:=by omega
          have h6:g.L.length+1≤({t.s with i:=t.s.i+1}:SS).i+(gk - 1):=by omega
          have h5:t.n+1≤({t.s with i:=t.s.i+1}:SS).i:=by omega
          have h4:t.groups≤({t.s with i:=t.s.i+1}:SS).i:=by omega
          have h3:t.opens≤({t.s with i:=t.s.i+1}:SS).i:=by omega
          exact⟨h7,h6,h5,h4,h3⟩,bG.out⟩⟩
        ·rw[if_neg zc] at cB dV
         have bG:Hid _:=cB;have fY:Hid _:=dV;have bb:(Rf.now g.L {t.s with i:=t.s.i+1}==47)=false:=by simpa using zc
         have V9:(Rf.now g.L {t.s with i:=t.s.i+1} !=47)=true:=by unfold bne;rw[bb];rfl
         clear zc cB dV;generalize Rf.now g.L {t.s with i:=t.s.i+1}=r2 at*
         have IE:Hid _:=pf;clear pf cU;go_wp2_with fail;refine dK.mono ?_;rintro e w1 ⟨rfl,n1,rfl⟩;have P1:=P.drewN lx n1;have bZ:=P1.scn.step aw;have P:PtS g w ((wr.drewN n1).setCell ⟨g.x,2,none⟩ (.int .i64 ((t.s.i:Int)+1))) {t with s:= {t.s with i:=t.s.i+1}} (.slice Ay t.opens sL):=P1.moved lx bZ.1 bZ.2;clear P1 bZ;go_upto_region 34 with (fail)
         generalize (wr.drewN n1).setCell ⟨g.x,2,none⟩ (.int .i64 ((t.s.i:Int)+1))=wv at*
         go_wp2_with fail;refine(IE.out _ P.scn).mono ?_;rintro e w2 ⟨rfl,n2,rfl⟩;have P2:=P.drewN lx n2;obtain⟨la,pc,k1,k2⟩:=P2.scn.cells;have TA:=(k1 2 _ rfl).1;clear k1 k2;have uD:t.s.i+1≤g.L.length:=aw;go_wp2_with fail;refine(aB g _ _ P2.scn 3 (t.s.i+1) uD).mono ?_;rintro e w3 ⟨rfl,h3,o3⟩;have P3:=P2.moved lx h3 o3;clear P;have P:=P3;clear P2 P3 TA;go_upto_region 36 with (fail)
         have Eg:=P.lt;obtain⟨ia,ic,xs,gB,HW⟩:=P.pt;have j8:=(gB 0 _ rfl).1;have sC:=(gB 0 _ rfl).2;have bu:(Value.slice ia t.n ic).ownBlock≠some (w.heap.size+1):=fun e=>by have:=(HW.lt _ e).1;omega
         have aO:(w3.alloc (.cells #[.int .u8 36,.int .i64 0,.slice none 0 0,.bool false,.int .u8 0] 200)).heap.size=w3.heap.size+1:=by simp
         have oa:ae (fun _=>False) w3 (w3.alloc (.cells #[.int .u8 36,.int .i64 0,.slice none 0 0,.bool false,.int .u8 0] 200)):=(ae.refl _ w3).alloc _;have cq:=ag HW oa (fun _ _=>id);have gD:=oa.keeps j8 id;have gE:=oa.keepsFrozen j8 sC id;have tC:t.n≤501:=by have:=HQ.out;omega
         go_wp2_with (at_builtin;refine wpList_append_lies _ (by rfl) _ _ _ (by rfl) (w.heap.size+2) 200 s0 _ 5 48 Tryz.underlying81 uK Ai Aj Ak rfl (by omega) (.slice ia t.n ic) t.n xs (by rfl) cq ⟨w3.heap.size,0,none⟩ 1 1 [.int .u8 36,.int .i64 0,.slice none 0 0,.bool false,.int .u8 0] (by rfl) (by rfl) (World.news_of_block (cs:= #[.int .u8 36,.int .i64 0,.slice none 0 0,.bool false,.int .u8 0]) (t:=200) (fr:=(0,0)) (heap_alloc_new _ _)) (by simp[Value.oneCell']) (by omega) (by unfold maxLen;omega) (by omega) (by rw[aO];omega) (w3.heap.size+1) aO ?_;intro g2 aT w4 ay ao bH dM;have gq:=(ao.cell_far ⟨w.heap.size+1,0,none⟩ (by rw[aO];show w.heap.size+1<_;omega) (Ne.symm bu)).trans gD;have sA:=(ao.frozen_far ⟨w.heap.size+1,0,none⟩ (by rw[aO];show w.heap.size+1<_;omega) (Ne.symm bu)).trans gE);have Pn:=P.item lx ll lp gB HW (oa.trans (ae.of_grown ao) (fun _ e=>e.elim) (fun _ _ e=>e)) rfl ay;go_roundg (gk - 1)
         case measure=>have:=HQ.out.1;omega
         case rel=>exact ⟨⟨(Rf.no g.pl {t.s with i:=t.s.i+1} 3 (t.s.i+1)),t.n+1,t.groups,t.opens⟩,m,_,_,rfl,Pn,⟨fun e=>by
          have h9:t.s.i<((Rf.no g.pl {t.s with i:=t.s.i+1} 3 (t.s.i+1)):SS).i:=(fY.out e).2;have h8:=HQ.out;have h7:g.L.length<m+((Rf.no g.pl {t.s with i:=t.s.i+1} 3 (t.s.i+1)):SS).i:=by omega
          have h6:g.L.length+1≤((Rf.no g.pl {t.s with i:=t.s.i+1} 3 (t.s.i+1)):SS).i+(gk - 1):=by omega
          have h5:t.n+1≤((Rf.no g.pl {t.s with i:=t.s.i+1} 3 (t.s.i+1)):SS).i:=by omega
          have h4:t.groups≤((Rf.no g.pl {t.s with i:=t.s.i+1} 3 (t.s.i+1)):SS).i:=by omega
          have h3:t.opens≤((Rf.no g.pl {t.s with i:=t.s.i+1} 3 (t.s.i+1)):SS).i:=by omega
          exact⟨h7,h6,h5,h4,h3⟩,bG.out⟩⟩
       ·-- a piece
        rw[if_neg oR] at cB dV;have bG:Hid _:=cB;have fY:Hid _:=dV;have e1:(Rf.now g.L t.s==40)=false:=by simpa using mg
        have e2:(Rf.now g.L t.s==41)=false:=by simpa using Ao
        have e3:(Rf.now g.L t.s==36)=false:=by simpa using oR
        have zy:=fun n=>sY g (wr.drewN n) t.s (cU.drewN n);generalize Rf.piece g.L g.pl t.s=sp at*
        have SU:Hid _:=zy;clear zy;by_cases BS:Rf.now g.L t.s=94
        all_goals first
         | (have Tv:((t.s.i:Int)==(s.i:Int))=false:=by
             have:¬t.s.i=s.i:=fun e=>lu ⟨BS,e⟩;simp;omega
            rw[BS] at dK;clear BS e1 e2 e3 Ik)
         | (have e4:(Rf.now g.L t.s==94)=false:=by simpa using BS
            clear BS)
        all_goals
         clear bK lu au cy cU mg Ao oR cB dV
         try generalize Rf.now g.L t.s=r at*
         go_wp2_with fail;refine dK.mono ?_;rintro e w1 ⟨rfl,n1,rfl⟩;go_wp2_with fail;refine(SU.out _).mono ?_;rintro e w2 ⟨_,rfl,⟨ik,FR,FU,FW,FV,ib,im,rfl⟩,h2,o2⟩;have P2:=(P.drewN lx n1).moved lx h2 o2;have IM:=ai.new w2 #[.int .u8 ik,.int .i64 FR,.slice FU FW FV,.bool ib,.int .u8 im] 200;have oN:ae (·=g.x) w2 (w2.alloc (.cells #[.int .u8 ik,.int .i64 FR,.slice FU FW FV,.bool ib,.int .u8 im] 200)):=(ae.refl _ w2).alloc _;have P3:=P2.moved lx (P2.scn.keeps ((ae.refl (fun _=>False) w2).alloc (.cells #[.int .u8 ik,.int .i64 FR,.slice FU FW FV,.bool ib,.int .u8 im] 200)) id (fun _=>id) id) oN;clear P;have P:=P3;clear P2 P3 oN h2 o2;go_upto_region 8 with (fail)
         have y0:=(IM 0 _ rfl).1;have y1:=(IM 1 _ rfl).1;have y2:=(IM 2 _ rfl).1;have y3:=(IM 3 _ rfl).1;have y4:=(IM 4 _ rfl).1;clear IM;generalize w2.alloc (.cells #[.int .u8 ik,.int .i64 FR,.slice FU FW FV,.bool ib,.int .u8 im] 200)=wa at*
         have Eg:=P.lt;obtain⟨ia,ic,xs,gB,HW⟩:=P.pt;have j8:=(gB 0 _ rfl).1;have sC:=(gB 0 _ rfl).2;have bu:(Value.slice ia t.n ic).ownBlock≠some (w.heap.size+1):=fun e=>by have:=(HW.lt _ e).1;omega
         have aO:(wa.alloc (.cells #[.int .u8 ik,.int .i64 FR,.slice FU FW FV,.bool ib,.int .u8 im] 200)).heap.size=wa.heap.size+1:=by simp
         have oa:ae (fun _=>False) wa (wa.alloc (.cells #[.int .u8 ik,.int .i64 FR,.slice FU FW FV,.bool ib,.int .u8 im] 200)):=(ae.refl _ wa).alloc _;have cq:=ag HW oa (fun _ _=>id);have gD:=oa.keeps j8 id;have gE:=oa.keepsFrozen j8 sC id;have tC:t.n≤501:=by have:=HQ.out;omega
         go_wp2_with (at_builtin;refine wpList_append_lies _ (by rfl) _ _ _ (by rfl) (w.heap.size+2) 200 s0 _ 5 48 Tryz.underlying81 uK Ai Aj Ak rfl (by omega) (.slice ia t.n ic) t.n xs (by rfl) cq ⟨wa.heap.size,0,none⟩ 1 1 [.int .u8 ik,.int .i64 FR,.slice FU FW FV,.bool ib,.int .u8 im] (by rfl) (by rfl) (World.news_of_block (cs:= #[.int .u8 ik,.int .i64 FR,.slice FU FW FV,.bool ib,.int .u8 im]) (t:=200) (fr:=(0,0)) (heap_alloc_new _ _)) (by simp[Value.oneCell']) (by omega) (by unfold maxLen;omega) (by omega) (by rw[aO];omega) (wa.heap.size+1) aO ?_;intro g2 aT w4 ay ao bH dM;have gq:=(ao.cell_far ⟨w.heap.size+1,0,none⟩ (by rw[aO];show w.heap.size+1<_;omega) (Ne.symm bu)).trans gD;have sA:=(ao.frozen_far ⟨w.heap.size+1,0,none⟩ (by rw[aO];show w.heap.size+1<_;omega) (Ne.symm bu)).trans gE);have Pn:=P.item lx ll lp gB HW (oa.trans (ae.of_grown ao) (fun _ e=>e.elim) (fun _ _ e=>e)) rfl ay;go_roundg (gk - 1)
         case measure=>have:=HQ.out.1;omega
         case rel=>exact ⟨⟨sp,t.n+1,t.groups,t.opens⟩,m,_,_,rfl,Pn,⟨fun e=>by
          have h9:t.s.i<(sp:SS).i:=(fY.out e).2;have h8:=HQ.out;have h7:g.L.length<m+(sp:SS).i:=by omega
          have h6:g.L.length+1≤(sp:SS).i+(gk - 1):=by omega
          have h5:t.n+1≤(sp:SS).i:=by omega
          have h4:t.groups≤(sp:SS).i:=by omega
          have h3:t.opens≤(sp:SS).i:=by omega
          exact⟨h7,h6,h5,h4,h3⟩,bG.out⟩⟩
  ·have hT:=au
   rw[Rf.pattern_er he] at hT;subst hT;have b0:(t.s.e==0)=false:=by simpa using he
   clear au lD he;have h9:=P.scn;obtain⟨D5,D6,MV,rY,_⟩:=P.pt;have m0:=rY 0 _ rfl;have m1:=rY 1 _ rfl;have v0:=P.res 0 _ rfl;have v1:=P.res 1 _ rfl;have o9:=P.o;clear rY P;go_wp2;refine bodyPost_ret (v:=.agg #[.slice D5 t.n D6,.int .i64 (t.groups:Int)]) (by simp[results,Tryz.results107,go_sem,v0,v1]) rfl ?_
   first
    | exact⟨_,_,_,rfl,Scn.high h9 w.heap.size lx ll lp (aZ _ _ _ _),o9.trans (aZ _ _ _ _) (fun _ e=>e) (fun b hb e=>absurd e (by omega))⟩
    | exact⟨⟨_,_,_,rfl⟩,Scn.high h9 w.heap.size lx ll lp (aZ _ _ _ _),o9.trans (aZ _ _ _ _) (fun _ e=>e) (fun b hb e=>absurd e (by omega))⟩
end
end Go.Proofs.YtbiobhghnldckaaGreatDoor
