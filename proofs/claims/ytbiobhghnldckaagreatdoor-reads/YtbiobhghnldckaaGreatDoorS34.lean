/- Proved: adzeref's commands, by its command. Conditions: the Scan, its labels and jumps lie in memory as 'SFl' says; what is asked of command. -/
import Derived.Test.YtbiobhghnldckaaGreatDoorS33
import Derived.Test.YtbiobhghnldckaaGreatDoorRows
import Derived.ProofKit
import Derived.OpenShut
import Derived.Lay
import Derived.LaidOnce
import Derived.LaidMore
import Derived.Stop.Joined
import Derived.SevenTiedAt
import Derived.Lib.LaidU8
import Derived.Shelf.Vars
import Derived.HandedShaped
namespace Go.Proofs.YtbiobhghnldckaaGreatDoor
set_option linter.unusedVariables false
set_option maxRecDepth 100000
set_option maxHeartbeats 6400000
section
open Go.RowKit
attribute [local go_sem ↓] Go.wp_at_zero Go.wp_at_succ
theorem nw (f nest:Nat) (zj:f≤501) (hn:nest≤5) (HC:∀k,k<f→E0 k nest):rG f nest:=by
 intro g w B r h xX lD;have hB:=h.bs;have Wl:=h.bs;have dy:=h.scn.small;obtain⟨R,hR⟩:∃R,Rf.commands g.L g.pl f nest r=R:=⟨_,rfl⟩;rw[hR];have HR:Hid _:=hR;have Qe:Hid _:=HC;have Qi:Hid _:=lD;have Dc:Hid _:=xX;have HH:Hid _:=h;obtain⟨i0,dZ,nj,nk,ns⟩:=info_parts uO;clear hR HC lD xX h;go_enter Tryz.func34,Tryz.ntmps34;go_wp2_with fail
 go_loopg [5] f (fun k v wr=>∃(g':SG) (r':Rf.RS) (la:Option Addr) (ln lc:Nat) (vs:List Value),v=.slice la ln lc∧Hid (CsI g w B g' wr r' (.slice la ln lc) ln vs)∧Hid (Rf.commands g.L g.pl k nest r'=R∧Rf.Cnt r'∧(r'.s.e=0→g.L.length<r'.s.i+k)∧ln+k≤f))
 case atStart=>exact ⟨g,r,none,0,0,[],rfl,⟨Sg.refl g,HH.out,World.ownsRow_nil _ _ _ _,fun b hb=>Or.inl hb,fun b e=>(by cases e),ae.refl _ _⟩,⟨HR.out,Dc.out,Qi.out,by omega⟩⟩
 case round=>
  obtain⟨g',r',la,ln,lc,vs,rfl,HP,HI⟩:=hrel;have P:=HP.out;obtain⟨au,xX,lD,zt⟩:=HI.out;have cU:=P.sf.scn;have EX:Hid _:=P.sg.x;have EL:Hid _:=P.sg.L;have MZ:Hid _:=P.sg.pl;obtain⟨Vy,pc,k1,k2⟩:=cU.cells;have ce:=(k1 3 _ rfl).1;rw[EX.out] at ce;clear k1 k2 HP HI HR Dc Qi HH;by_cases he:r'.s.e=0
  ·have gU:=cU.le
   rw[EL.out] at gU;obtain⟨k,hk⟩:∃k,gk=k+1:=⟨gk - 1,by have:=lD he;omega⟩;rw[hk,Rf.commands_succ,if_pos he] at au;have HQ:Hid (gk=k+1∧ln+gk≤f∧f≤501∧g.L.length<r'.s.i+gk):=⟨hk,zt,zj,lD he⟩;have b0:(r'.s.e==0)=true:=by simpa using he
   have ld:=bf g' wr r'.s cU true;rw[EX.out,EL.out] at ld;have Ld:=Rf.skip_mon g.L r'.s true;have jq:=Rf.skip_c g.L r'.s true;generalize Rf.skip g.L r'.s true=s1 at*
   have dK:=fun W (hW:Scn g' W s1)=>az g' W s1 hW;rw[EX.out,EL.out] at dK;have CF:Hid _:=dK;have Dd:Hid (Rf.Cnt {r' with s:=s1}):=⟨by show 0≤s1.count;rw[jq];exact xX.1,by show s1.count≤40;rw[jq];exact xX.2.1,by show _≤s1.count;rw[jq];exact xX.2.2.1,by show _≤s1.count;rw[jq];exact xX.2.2.2⟩;have JA:Hid _:=Ld;clear dK xX jq lD zt hk Ld he;by_cases pd:Rf.now g.L s1<0
   ·rw[if_pos pd] at au
    generalize Rf.now g.L s1=nv at*
    by_cases hz:0<nest
    ·rw[if_pos hz] at au
     have Lw:(0:Int)<(nest:Int):=by omega
     have bG:Hid _:=au;clear au hz;go_wp2_with fail;refine ld.mono ?_;rintro e w1 ⟨rfl,h1,o1⟩;have Ci:ae (·=g'.x) wr w1:=by rw[EX.out];exact o1
     have P1:=P.moved h1 Ci;obtain⟨WS,Xa,k1,k2⟩:=h1.cells;have c0:=(k1 0 _ rfl).1;rw[EX.out,EL.out] at c0;clear k1 k2 P;go_wp2_with fail;refine(CF.out _ h1).mono ?_;rintro e w2 ⟨rfl,n2,rfl⟩;have eO:=aB g' _ _ (h1.drewN n2) 3 g'.L.length (Nat.le_refl _);rw[EX.out,EL.out,MZ.out] at eO;go_wp2_with fail;refine eO.mono ?_;rintro e w3 ⟨rfl,h3,o3⟩;have kM:ae (·=g'.x) w1 w3:=by rw[EX.out];exact((ae.refl (·=g.x) w1).drewN n2).trans o3 (fun _ e=>e) (fun _ _ e=>e)
     have P3:=P1.moved h3 kM;clear P1;go_wp2;go_ret;have h9:=P3.csP;rw[←bG.out];exact h9
    ·rw[if_neg hz] at au
     have Lw:¬(0:Int)<(nest:Int):=by omega
     have bG:Hid _:=au;clear au hz;go_wp2_with fail;refine ld.mono ?_;rintro e w1 ⟨rfl,h1,o1⟩;have Ci:ae (·=g'.x) wr w1:=by rw[EX.out];exact o1
     have P1:=P.moved h1 Ci;clear P;go_wp2_with fail;refine(CF.out _ h1).mono ?_;rintro e w2 ⟨rfl,n2,rfl⟩;have P3:=P1.moved (h1.drewN n2) ((ae.refl _ w1).drewN n2);clear P1;go_wp2;go_ret;have h9:=P3.csP;rw[←bG.out];exact h9
   ·rw[if_neg pd] at au
    have Ov:s1.e=0:=Rf.now_e pd
    have yG:Hid (g'.L.length≤s1.i+k):=by
     show g'.L.length≤s1.i+k;have h1:=(JA.out Ov).2;have h2:=HQ.out;rw[EL.out];omega
    clear JA Ov;by_cases hz:0<nest
    ·have Lw:(0:Int)<(nest:Int):=by omega
     have dR:=fun W (hW:Scn g' W s1)=>aQ g' W s1 hW 125 (by decide);rw[EX.out,EL.out] at dR;unfold Rf.take at dR;by_cases fu:Rf.now g.L s1=125
     ·rw[if_pos ⟨hz,fu⟩] at au
      simp only[if_pos fu] at dR;have bG:Hid _:=au;have M9:Hid _:=dR;clear au hz dR fu;generalize Rf.now g.L s1=nv at*
      go_wp2_with fail;refine ld.mono ?_;rintro e w1 ⟨rfl,h1,o1⟩;have Ci:ae (·=g'.x) wr w1:=by rw[EX.out];exact o1
      have P1:=P.moved h1 Ci;clear P;go_wp2_with fail;refine(CF.out _ h1).mono ?_;rintro e w2 ⟨rfl,n2,rfl⟩;go_wp2_with fail;refine(M9.out _ (h1.drewN n2)).mono ?_;rintro e w3 ⟨rfl,h3,o3⟩;have kM:ae (·=g'.x) w1 w3:=by rw[EX.out];exact((ae.refl (·=g.x) w1).drewN n2).trans o3 (fun _ e=>e) (fun _ _ e=>e)
      have P3:=P1.moved h3 kM;clear P1;go_wp2;go_ret;have h9:=P3.csP;rw[←bG.out];exact h9
     ·rw[if_neg (fun e=>fu e.2)] at au
      simp only[if_neg fu] at dR;have bG:Hid _:=au;have M9:Hid _:=dR;clear au hz dR fu;generalize Rf.now g.L s1=nv at*
      go_wp2_with fail;refine ld.mono ?_;rintro e w1 ⟨rfl,h1,o1⟩;have Ci:ae (·=g'.x) wr w1:=by rw[EX.out];exact o1
      have P0:=P.moved h1 Ci;clear P;go_wp2_with fail;refine(CF.out _ h1).mono ?_;rintro e w2 ⟨rfl,n2,rfl⟩;go_wp2_with fail;refine(M9.out _ (h1.drewN n2)).mono ?_;rintro e wv ⟨rfl,h3,o3⟩;have kM:ae (·=g'.x) w1 wv:=by rw[EX.out];exact((ae.refl (·=g.x) w1).drewN n2).trans o3 (fun _ e=>e) (fun _ _ e=>e)
      have P1:=P0.moved h3 kM;clear P0;have fN:=Qe.out k (by have:=HQ.out;omega) g' wv B {r' with s:=s1} P1.sf Dd.out yG.out;rw[EX.out,EL.out,MZ.out] at fN;have qq:=Rf.cmdT_ca g.L g.pl k nest {r' with s:=s1} Dd.out;have au:=bG.out;generalize Rf.cmdT g.L g.pl k nest {r' with s:=s1}=rT at*
      have AF:Hid _:=au;have AD:Hid _:=qq;clear au qq bG;go_wp2_with fail;refine fN.mono ?_;intro e w2 hP;obtain⟨cb,g2,rfl,P2⟩:=P1.cmd hP;clear hP fN P1;go_upto_region 13 with (fail)
      have aO:(w2.alloc (.cells #[.pointer (some ⟨cb,0,none⟩)] 88)).heap.size=w2.heap.size+1:=by simp
      have oa:ae (fun _=>False) w2 (w2.alloc (.cells #[.pointer (some ⟨cb,0,none⟩)] 88)):=(ae.refl _ w2).alloc _;have cq:=ag P2.row oa (fun _ _=>id);have kH:=P2.o.size;have tC:ln≤501:=by have:=HQ.out;omega
      go_wp2_with (at_builtin;refine wpList_append_lies _ (by rfl) _ _ _ (by rfl) w.heap.size 88 i0 _ 1 8 Tryz.underlying53 dZ nj nk ns rfl (by omega) (.slice la ln lc) ln vs (by rfl) cq ⟨w2.heap.size,0,none⟩ 1 1 [.pointer (some ⟨cb,0,none⟩)] (by rfl) (by rfl) (World.news_of_block (cs:= #[.pointer (some ⟨cb,0,none⟩)]) (t:=88) (fr:=(0,0)) (heap_alloc_new _ _)) (by simp[Value.oneCell']) (by omega) (by unfold maxLen;omega) (by omega) (by rw[aO];omega) (w2.heap.size+1) aO ?_;intro g3 Ny w4 ay ao bH dM);have P3:=P2.app hB (oa.trans (ae.of_grown ao) (fun _ e=>e.elim) (fun _ _ e=>e)) ay (bH.imp id (fun h=>by omega));clear P2 cq oa;go_roundg k
      case measure=>have:=HQ.out;omega
      case rel=>exact ⟨g2,rT,_,_,_,_,rfl,P3,⟨AF.out,AD.out.2,fun e=>by have h1:=(AD.out.1 e).2;have h2:g.L.length≤s1.i+k:=(by have h8:=yG.out;rw[EL.out] at h8;exact h8);have h3:s1.i<rT.s.i:=h1;omega,by have:=HQ.out;omega⟩⟩
    ·rw[if_neg (fun e=>hz e.1)] at au
     have Lw:¬(0:Int)<(nest:Int):=by omega
     have bG:Hid _:=au;clear au hz;generalize Rf.now g.L s1=nv at*
     go_wp2_with fail;refine ld.mono ?_;rintro e w1 ⟨rfl,h1,o1⟩;have Ci:ae (·=g'.x) wr w1:=by rw[EX.out];exact o1
     have P0:=P.moved h1 Ci;clear P;go_wp2_with fail;refine(CF.out _ h1).mono ?_;rintro e w2 ⟨rfl,n2,rfl⟩;have P1:=P0.moved (h1.drewN n2) ((ae.refl _ w1).drewN n2);clear P0;generalize w1.drewN n2=wv at*
     have fN:=Qe.out k (by have:=HQ.out;omega) g' wv B {r' with s:=s1} P1.sf Dd.out yG.out;rw[EX.out,EL.out,MZ.out] at fN;have qq:=Rf.cmdT_ca g.L g.pl k nest {r' with s:=s1} Dd.out;have au:=bG.out;generalize Rf.cmdT g.L g.pl k nest {r' with s:=s1}=rT at*
     have AF:Hid _:=au;have AD:Hid _:=qq;clear au qq bG;go_wp2_with fail;refine fN.mono ?_;intro e w2 hP;obtain⟨cb,g2,rfl,P2⟩:=P1.cmd hP;clear hP fN P1;go_upto_region 13 with (fail)
     have aO:(w2.alloc (.cells #[.pointer (some ⟨cb,0,none⟩)] 88)).heap.size=w2.heap.size+1:=by simp
     have oa:ae (fun _=>False) w2 (w2.alloc (.cells #[.pointer (some ⟨cb,0,none⟩)] 88)):=(ae.refl _ w2).alloc _;have cq:=ag P2.row oa (fun _ _=>id);have kH:=P2.o.size;have tC:ln≤501:=by have:=HQ.out;omega
     go_wp2_with (at_builtin;refine wpList_append_lies _ (by rfl) _ _ _ (by rfl) w.heap.size 88 i0 _ 1 8 Tryz.underlying53 dZ nj nk ns rfl (by omega) (.slice la ln lc) ln vs (by rfl) cq ⟨w2.heap.size,0,none⟩ 1 1 [.pointer (some ⟨cb,0,none⟩)] (by rfl) (by rfl) (World.news_of_block (cs:= #[.pointer (some ⟨cb,0,none⟩)]) (t:=88) (fr:=(0,0)) (heap_alloc_new _ _)) (by simp[Value.oneCell']) (by omega) (by unfold maxLen;omega) (by omega) (by rw[aO];omega) (w2.heap.size+1) aO ?_;intro g3 Ny w4 ay ao bH dM);have P3:=P2.app hB (oa.trans (ae.of_grown ao) (fun _ e=>e.elim) (fun _ _ e=>e)) ay (bH.imp id (fun h=>by omega));clear P2 cq oa;go_roundg k
     case measure=>have:=HQ.out;omega
     case rel=>exact ⟨g2,rT,_,_,_,_,rfl,P3,⟨AF.out,AD.out.2,fun e=>by have h1:=(AD.out.1 e).2;have h2:g.L.length≤s1.i+k:=(by have h8:=yG.out;rw[EL.out] at h8;exact h8);have h3:s1.i<rT.s.i:=h1;omega,by have:=HQ.out;omega⟩⟩
  ·have b0:(r'.s.e==0)=false:=by simpa using he
   have e1:∀m,Rf.commands g.L g.pl m nest r'=r':=by
    intro m
    cases m with
    | zero=>rfl
    | succ m=>rw [Rf.commands_succ,if_neg he]
   rw[e1] at au;have bG:Hid _:=au;clear au he lD e1 xX zt;go_wp2;go_ret;have h9:=P.csP;rw[←bG.out];exact h9
end
section
open Go.RowKit
theorem vd {w:World}{pb:Nat}{c:Adz.Cmd} (h:vV w pb [c]) (hw:c.what=115) (ha:c.addrs= []) (hn:c.neg=false):∃g cap,w.cell? ⟨pb,0,none⟩=some (.slice (some ⟨g,0,none⟩) 1 cap)∧OneCmd w g c:=by
 obtain⟨qv,xs,p1,p2,p3,p4⟩:=h
 rcases p2.2 with ⟨_,h0⟩ |⟨g,cap,cur,rfl,_,hg,ct,_,dr,fH⟩
 ·simp at h0
 ·refine⟨g,cap,p1,?_⟩
  match xs,p3 with
  | x0::x1::x2::x3::x4::x5::x6::x7::x8::x9::ke::kg::jG::jH::xs,p3=>
   obtain⟨⟨av,iv,rv,fv,tv,hx,hd⟩,_⟩:=p3
   have ew:∀o u,o<14→(aA c av iv rv fv tv)[o]? =some u→w.cell? ⟨g,o,none⟩=some u:=by
    intro o u ho hu;rw[cell_of_row _ g o cur _ (0,0) hg];rw[←hx] at hu
    have h2:(x0::x1::x2::x3::x4::x5::x6::x7::x8::x9::ke::kg::jG::jH::xs)[o]? =some u:=by
     have e:(x0::x1::x2::x3::x4::x5::x6::x7::x8::x9::ke::kg::jG::jH::xs)= [x0,x1,x2,x3,x4,x5,x6,x7,x8,x9,ke,kg,jG,jH]++xs:=rfl;rw[e,List.getElem?_append_left (by simp;omega)];exact hu
    rw[←fH,List.getElem?_take,if_pos (by simp;omega),Array.getElem?_toList] at h2;exact h2
   obtain⟨jw,a1,_⟩:=hd.a;rw[ha] at a1;obtain⟨aa,ac,rfl⟩:=ak a1;obtain⟨pa,pc,rfl⟩:=ak hd.r;have c0:=ew 0 _ (by omega) rfl;have c2:=ew 2 _ (by omega) rfl;rw[hw] at c0;rw[hn] at c2;exact⟨c0,⟨aa,ac,ew 1 _ (by omega) rfl⟩,c2,⟨⟨cur,(0,0),hg⟩,⟨iv,ew 6 _ (by omega) rfl,hd.i⟩,⟨pa,pc,ew 8 _ (by omega) rfl,hd.r⟩,ew 9 _ (by omega) rfl,ew 10 _ (by omega) rfl,ew 11 _ (by omega) rfl⟩⟩
theorem tf (c:Adz.Cmd) (sb:Nat) (w:World) (ht:Tabs w) (hs:ScriptAt w sb [c]) (hw:c.what=115) (ha:c.addrs= []) (hn:c.neg=false) (s:ByteArray) (q:Bool) (h1:OneLine s c):
 Calls Tryz.prog 26 #[.pointer (some ⟨sb,0,none⟩),.string s,.bool q] w fun e w'=>e=.returned (.tuple #[.string ⟨(Adz.told q [] (Adz.subst (Adz.runes (lineOf s)) c)).toArray⟩,.int .i64 0])∧ae (fun _=>False) w w':=by
 obtain⟨pb,p1,p2⟩:=hs.prog;obtain⟨g,cap,g1,g2⟩:=vd p2 hw ha hn;have bF:=LV c pb g cap w ht g1 g2 s q h1;generalize (⟨(Adz.told q [] (Adz.subst (Adz.runes (lineOf s)) c)).toArray⟩:ByteArray)=out at*
 go_enter Tryz.func26,Tryz.ntmps26;go_wp2_with fail;refine bF.mono ?_;rintro e w1 ⟨rfl,o1⟩;go_wp2;go_ret2;exact⟨rfl,o1⟩
structure IsS (sc:ByteArray) (c:Adz.Cmd):Prop where
 read:∃L pl,Dec sc L pl∧OneS L pl c
 what:c.what=115
 addrs:c.addrs= []
 neg:c.neg=false
def ve (s:ByteArray):Nat→Nat→List Int
 | 0,i=> [(i:Int)]
 | b+1,i=>if i<s.size then (i:Int)::ve s b (i+(Utf8.decode s i).2) else [(i:Int)]
def placesOf (s:ByteArray):List Int:=ve s s.size 0
def yA (s:ByteArray) (L pl:List Int) (k:Nat):Bool:=
 decide (0≤Adz.place pl k) && decide (0≤Adz.place pl (k+1)) && decide ((Adz.place pl k).toNat<s.size) && decide (((Utf8.decode s (Adz.place pl k).toNat).1:Int)=Adz.peek L k) && decide ((Adz.place pl k).toNat+(Utf8.decode s (Adz.place pl k).toNat).2=(Adz.place pl (k+1)).toNat) &&
 decide (0≤Adz.peek L k) && decide (Adz.peek L k≤1114111) && decide (Adz.peek L k≠65533) && Lib.validRune (Adz.peek L k)
def Dm (s:ByteArray) (L pl:List Int):Bool:=
 decide (pl.length=L.length+1) && decide (Adz.place pl 0=0) && decide (Adz.place pl L.length=s.size) && decide (s.size≤500) && decide (L.length≤500) && (List.range L.length).all (yA s L pl)
theorem AV {s:ByteArray}{L pl:List Int} (h:Dm s L pl=true):Dec s L pl:=by
 simp only[Dm,Bool.and_eq_true,decide_eq_true_eq] at h;obtain⟨⟨⟨⟨⟨h1,h2⟩,h3⟩,h4⟩,h5⟩,h6⟩:=h;have hk:∀k,k<L.length→yA s L pl k=true:=fun k hk=>List.all_eq_true.1 h6 k (List.mem_range.2 hk);refine⟨h1,h2,h3,fun k FA=> ?_,h4,h5,fun k FA=> ?_⟩
 ·have:=hk k FA
  simp only[yA,Bool.and_eq_true,decide_eq_true_eq] at this;obtain⟨⟨⟨⟨⟨⟨⟨⟨a1,a2⟩,a3⟩,a4⟩,a5⟩,_⟩,_⟩,_⟩,_⟩:=this;exact⟨(Adz.place pl k).toNat,(Adz.place pl (k+1)).toNat,by omega,by omega,a3,a4,a5⟩
 ·have:=hk k FA
  simp only[yA,Bool.and_eq_true,decide_eq_true_eq] at this;obtain⟨⟨⟨⟨_,b1⟩,b2⟩,b3⟩,b4⟩:=this;exact⟨b1,b2,b3,b4⟩
def fS (sc:ByteArray):Adz.Cmd:=
 match Adz.command (Adz.runes sc) (placesOf sc) ⟨0,[],[],[]⟩ with
 | .ok p=>p.cmds.headD {}
 | .error _=> {}
def Eu:List Adz.Cmd→Bool
 | [_]=>true
 | _=>false
theorem Is:∀ {l:List Adz.Cmd},Eu l=true→l= [l.headD {}]
 | [],h=>by simp[Eu] at h
 | [_],_=>rfl
 | _::_::_,h=>by simp[Eu] at h
def JU (sc:ByteArray):Bool:=
 match Adz.command (Adz.runes sc) (placesOf sc) ⟨0,[],[],[]⟩ with
 | .ok p=>decide (p.i=(Adz.runes sc).length) && Eu p.cmds && p.opens.isEmpty && p.labs.isEmpty
 | .error _=>false
def Hv (sc:ByteArray):Bool:=
 Dm sc (Adz.runes sc) (placesOf sc) && decide (Adz.peek (Adz.runes sc) 0=115) && JU sc && decide ((fS sc).what=115) && (fS sc).addrs.isEmpty && decide ((fS sc).neg=false)
theorem Hw {sc:ByteArray} (h:Hv sc=true):IsS sc (fS sc):=by
 simp only[Hv,Bool.and_eq_true,decide_eq_true_eq,List.isEmpty_iff] at h;obtain⟨⟨⟨⟨⟨h1,h2⟩,h3⟩,h4⟩,h5⟩,h6⟩:=h;refine⟨⟨Adz.runes sc,placesOf sc,AV h1,h2,?_⟩,h4,h5,h6⟩;unfold JU at h3;unfold fS;split at h3
 ·rename_i p hp
  rw[hp];simp only[Bool.and_eq_true,decide_eq_true_eq,List.isEmpty_iff] at h3;obtain⟨⟨⟨a1,a2⟩,a3⟩,a4⟩:=h3;have a2:=Is a2;obtain⟨pi,pc,po,pl⟩:=p;simp only at a1 a2 a3 a4 ⊢;rw[←a2,a1,a3,a4]
 ·simp at h3
def kJ (f t:Int) (n:Nat):Bool:=decide (0≤f) && (decide (f≤t) && decide (t≤n))
theorem lI {f t:Int}{n:Nat} (h:kJ f t n=true):Adz.inside f t n:=by
 simp only[kJ,Bool.and_eq_true,decide_eq_true_eq] at h;exact h
def AZ (m:List Int) (n:Nat) (p:Adz.Part):Bool:=(decide (p.kind=0) && decide (p.text.length≤100000)) || (decide (p.kind=1) || (decide (p.kind=2) && (decide (1≤p.group) && (decide (p.group≤9) && kJ (m.getD (p.group.toNat*2) 0) (m.getD (p.group.toNat*2+1) 0) n))))
theorem Dr {m:List Int}{n:Nat}{p:Adz.Part} (h:AZ m n p=true):Adz.fits m n p:=by
 simp only[AZ,Bool.or_eq_true,Bool.and_eq_true,decide_eq_true_eq] at h
 rcases h with h | h |⟨h1,h2,h3,h4⟩
 ·exact Or.inl h
 ·exact Or.inr (Or.inl h)
 ·exact Or.inr (Or.inr ⟨h1,h2,h3,lI h4⟩)
def lO (sp:List Int) (nth:Int) (all:Bool) (ps:List Adz.Part):List (List Int)→Int→Nat→List Int→Bool
 | [],_,k,ch=>decide (k≤sp.length) && decide (ch.length≤20000000)
 | m::ms,n,k,ch=>
  decide (m.length=20) && (kJ k (m.getD 0 0) sp.length && (kJ (m.getD 0 0) (m.getD 1 0) sp.length && (decide (ch.length≤20000000) && (decide (k≤sp.length) &&
  if n+1<nth then lO sp nth all ps ms (n+1) k ch
  else ps.all (AZ m sp.length) && (decide ((Adz.replAll sp m ps).length≤20000000) && (decide (((ch++Adz.seg sp k (m.getD 0 0))++Adz.replAll sp m ps).length≤20000000) &&
   (!all || lO sp nth all ps ms (n+1) (m.getD 1 0).toNat ((ch++Adz.seg sp k (m.getD 0 0))++Adz.replAll sp m ps))))))))
theorem pK (sp:List Int) (nth:Int) (all:Bool) (ps:List Adz.Part):∀(ms:List (List Int)) (n:Int) (k:Nat) (ch:List Int),lO sp nth all ps ms n k ch=true→Adz.okRun sp nth all ps ms n k ch
 | [],_,k,ch,h=>by
  simp only[lO,Bool.and_eq_true,decide_eq_true_eq] at h;exact h
 | m::ms,n,k,ch,h=>by
  unfold lO at h;unfold Adz.okRun;simp only[Bool.and_eq_true,decide_eq_true_eq] at h;obtain⟨h1,h2,h3,h4,h5,h6⟩:=h;refine⟨h1,lI h2,lI h3,h4,h5,?_⟩;split
  ·rename_i hn
   rw[if_pos hn] at h6;exact pK sp nth all ps ms _ _ _ h6
  ·rename_i hn
   rw[if_neg hn] at h6;simp only[Bool.and_eq_true,Bool.or_eq_true,Bool.not_eq_true',decide_eq_true_eq] at h6;obtain⟨g1,g2,g3,g4⟩:=h6;refine⟨fun p hp=>Dr (List.all_eq_true.1 g1 p hp),g2,g3,fun ha=> ?_⟩
   rcases g4 with g4 | g4
   ·rw[ha] at g4;cases g4
   ·exact pK sp nth all ps ms _ _ _ g4
def AY (sp:List Int) (c:Adz.Cmd):Bool:=
 decide (c.pat.items.length≤1000) && c.pat.items.all (fun x=>decide (x.spans.length≤1000)) && decide (sp.length≤400) && c.pat.items.all (fun x=>decide (1≤x.group∧x.group≤9∨(x.kind≠2∧x.kind≠3))) && decide (c.repl.length≤1000) && lO sp c.nth c.all c.repl (Adz.matches_ sp c.pat.items) 0 0 [] && decide (c.print=false) && decide ((Adz.subst sp c).length≤400)
theorem Dq {sp:List Int}{c:Adz.Cmd} (h:AY sp c=true):Fine sp c:=by
 simp only[AY,Bool.and_eq_true,decide_eq_true_eq] at h;obtain⟨⟨⟨⟨⟨⟨⟨h1,h2⟩,h3⟩,h4⟩,h5⟩,h6⟩,h7⟩,h8⟩:=h;exact⟨h1,fun x hx=>of_decide_eq_true (List.all_eq_true.1 h2 x hx),h3,fun x hx=>of_decide_eq_true (List.all_eq_true.1 h4 x hx),h5,pK _ _ _ _ _ _ _ _ h6,h7,h8⟩
def Ca (s:ByteArray) (c:Adz.Cmd):Bool:=
 simple s.data.toList && decide (s.size≤24) && decide (0<s.size) && decide ((lineOf s).size≤3000) && decide (Lib.countB (lineOf s) ⟨#[10]⟩=0) && AY (Adz.runes (lineOf s)) c && decide ((runesBytes (Adz.subst (Adz.runes (lineOf s)) c)).size+1≤8000)
theorem Ee {s:ByteArray}{c:Adz.Cmd} (h:Ca s c=true):OneLine s c:=by
 simp only[Ca,Bool.and_eq_true,decide_eq_true_eq] at h;obtain⟨⟨⟨⟨⟨⟨h1,h2⟩,h3⟩,h4⟩,h5⟩,h6⟩,h7⟩:=h;exact⟨h1,h2,h3,h4,h5,rfl,Dq h6,h7⟩
def made (sc s:ByteArray) (q:Bool):List UInt8:=Adz.told q [] (Adz.subst (Adz.runes (lineOf s)) (fS sc))
def JO (sc s:ByteArray) (q:Bool) (out:List UInt8):Bool:=Hv sc && Ca s (fS sc) && decide (made sc s q=out)
end
section
open Go.RowKit
attribute [local go_sem ↓] Go.wp_at_zero Go.wp_at_succ
theorem lM (x:Int) (w:World):Calls Tryz.prog 27 #[.int .i64 x] w fun e w'=>e=.returned (.int .i64 x)∧w'=w:=by
 go_enter Tryz.func27,Tryz.ntmps27;go_wp2;go_ret;exact⟨rfl,rfl⟩
theorem ScriptAt.keeps {w w':World}{sb:Nat}{cs:List Adz.Cmd} (h:ScriptAt w sb cs) (o:ae (fun _=>False) w w'):ScriptAt w' sb cs:=by
 obtain⟨pb,p0,qv,xs,p1,p2,p3,p4⟩:=h.prog;exact⟨h.typ.keeps o id,pb,o.keeps p0 id,qv,xs,o.keeps p1 id,ag p2 o (fun _ _=>id),p3.keeps o ⟨fun _ _=>id,fun _ _=>id,fun _ _=>id,fun _ _=>id,fun _ _=>id⟩,p4.keeps o id⟩
theorem vr {s:ByteArray}{L pl:List Int} (h:Dec s L pl) (hf:L.length≤s.size) (hn:(pl.all fun z=>decide (0≤z))=true):Runs s 0 L pl s.size:=by
 refine⟨h.len,h.zero,h.last,h.step,hf,fun k hk=>⟨(h.good k hk).1,(h.good k hk).2.1,(h.good k hk).2.2.2⟩,fun k hk e=>absurd e (h.good k hk).2.2.1,fun k=> ?_⟩;unfold Adz.place;rw[List.getD_eq_getElem?_getD];by_cases hk:k<pl.length
 ·rw[List.getElem?_eq_getElem hk]
  have:=List.all_eq_true.1 hn pl[k] (List.getElem_mem hk);simpa using this
 ·rw[List.getElem?_eq_none (by omega)]
  exact Int.le_refl _
theorem xj (s:ByteArray) (hs:s.size≤9223372036854775807) (vL:AJ) (f:Adz.Flt) (hp:Xk s (.error f)) (w:World):
 Calls Tryz.prog 15 #[.string s] w fun e w'=>e=.returned (.tuple #[.pointer none,.bool true])∧ae (fun _=>False) w w':=by
 have c1:=(rm s hs _ hp w).1 f rfl;have c2:=fun W=>vL s hs W;have HP:Hid _:=hp;clear vL hp;go_enter Tryz.func15,Tryz.ntmps15;go_wp2_with fail;refine c1.mono ?_;rintro e w1 ⟨rfl,o1⟩;go_wp2_with fail;refine(c2 w1).mono ?_;rintro e w2 ⟨o2,a,n,c,k,x,p,rfl,hv⟩;obtain⟨e1,e2,e3⟩:=(hv.agr HP.out).1 f rfl;subst e1;subst e2;clear hv c1 c2;have o3:ae (fun _=>False) w w2:=o1.trans o2 (fun _ e=>e) (fun _ _ e=>e);have b0:(f.1==0)=false:=by simpa using e3
 have b1:(f.1 !=0)=true:=by unfold bne;rw[b0];rfl
 have dx:=lM f.1 w2;generalize f.1=f1 at*
 generalize f.2=f2 at*
 clear e3;go_wp2_with fail;refine dx.mono ?_;rintro e w3 ⟨rfl,rfl⟩;go_wp2;go_ret2;exact⟨rfl,o3⟩
theorem rp (s:ByteArray) (hs:s.size≤9223372036854775807) (vL:AJ) (cs:List Adz.Cmd) (hp:Xk s (.ok cs)) (w:World):
 Calls Tryz.prog 15 #[.string s] w fun e w'=>∃bb sb,e=.returned (.tuple #[.pointer (some ⟨bb,0,none⟩),.bool true])∧w'.cell? ⟨bb,0,none⟩=some (.pointer (some ⟨sb,0,none⟩))∧ScriptAt w' sb cs∧ae (fun _=>False) w w':=by
 have c1:=(rm s hs _ hp w).2 cs rfl;have c2:=fun W=>vL s hs W;have HP:Hid _:=hp;clear vL hp;go_enter Tryz.func15,Tryz.ntmps15;go_wp2_with fail;refine c1.mono ?_;rintro e w1 ⟨sb,rfl,BU,o1,aw⟩;go_wp2_with fail;refine(c2 w1).mono ?_;rintro e w2 ⟨o2,a,n,c,k,x,p,rfl,hv⟩;obtain⟨e1,e2⟩:=(hv.agr HP.out).2 cs rfl;subst e1;subst e2;clear hv c1 c2;have o3:ae (fun _=>False) w w2:=o1.trans o2 (fun _ e=>e) (fun _ _ e=>e);have Gf:Hid (ScriptAt w2 sb cs):=BU.keeps o2;clear BU aw;have dx:=lM 0 w2;go_wp2_with fail;refine dx.mono ?_;rintro e w3 ⟨rfl,rfl⟩;go_wp2;go_ret2;have oa:∀o:Obj,ae (fun _=>False) w3 (w3.alloc o):=fun o=>(ae.refl _ w3).alloc o;exact⟨_,sb,rfl,(ai.new w3 _ _ 0 _ rfl).1,Gf.out.keeps (oa _),o3.alloc _⟩
def sB:ByteArray:=⟨#[115,47,40,46,41,40,46,41,47,92,50,92,49,47,103]⟩
theorem Ie:JO sB ⟨#[97,98,99,100,10]⟩ false [98,97,100,99,10]=true:=by decide+kernel
theorem If:(Dm sB (Adz.runes sB) (placesOf sB) && decide ((Adz.runes sB).length≤sB.size) && (placesOf sB).all fun z=>decide (0≤z))=true:=by decide+kernel
theorem Ea:Adz.readAll (Adz.runes sB) (placesOf sB)=.ok [fS sB]:=by kernel_rfl
theorem zI:Xk sB (.ok [fS sB]):=by
 have h:=If;simp only[Bool.and_eq_true,decide_eq_true_eq] at h;obtain⟨⟨h1,h2⟩,h3⟩:=h;rw[←Ea];exact .read _ _ (by decide) (vr (AV h1) h2 h3)
theorem D9 (sb:Nat) (w:World) (ht:Tabs w) (hs:ScriptAt w sb [fS sB]):
 Calls Tryz.prog 26 #[.pointer (some ⟨sb,0,none⟩),.string ⟨#[97,98,99,100,10]⟩,.bool false] w fun e w'=>e=.returned (.tuple #[.string ⟨#[98,97,100,99,10]⟩,.int .i64 0])∧ae (fun _=>False) w w':=by
 have h:=Ie;simp only[JO,Bool.and_eq_true,decide_eq_true_eq] at h;obtain⟨⟨h1,h2⟩,h3⟩:=h;have hS:=Hw h1;have k:=tf (fS sB) sb w ht hs hS.what hS.addrs hS.neg ⟨#[97,98,99,100,10]⟩ false (Ee h2);have e1:Adz.told false [] (Adz.subst (Adz.runes (lineOf ⟨#[97,98,99,100,10]⟩)) (fS sB))= [98,97,100,99,10]:=h3;rw[e1] at k;exact k
theorem uR (vL:AJ) (w:World) (ht:Tabs w):
 Calls Tryz.prog 14 #[] w fun e w'=>∃bb,e=.returned (.pointer (some ⟨bb,0,none⟩))∧ae (fun _=>False) w w':=by
 have c1:=rp sB (by decide) vL _ zI w;have HE:Hid (∀(sb:Nat) (W:World),Tabs W→ScriptAt W sb [fS sB]→_):=fun sb W hW hs=>D9 sb W hW hs;generalize fS sB=cc at*
 unfold sB at c1;clear vL;go_enter Tryz.func14,Tryz.ntmps14;go_wp2_with fail;refine c1.mono ?_;rintro e w1 ⟨bb,sb,rfl,cb,BU,o1⟩;have c2:=HE.out sb w1 (ht.keeps o1) BU;clear c1 BU HE;go_wp2_with fail;refine c2.mono ?_;rintro e w2 ⟨rfl,o2⟩;go_wp2_with fail;refine(lM 0 _).mono ?_;rintro e w3 ⟨rfl,rfl⟩;go_wp2;go_ret;exact⟨_,rfl,o1.trans o2 (fun _ e=>e) (fun _ _ e=>e)⟩
theorem sV (vL:AJ) (s:ByteArray) (hs:s.size≤9223372036854775807) (w:World) (ht:Tabs w):
 Calls Tryz.prog 3 #[.string s] w fun e w'=>e=.returned (.bool true)∧ae (fun _=>False) w w':=by
 have c1:=uR vL w ht
 have c2:∀W,Calls Tryz.prog 15 #[.string s] W fun e w'=>∃v,e=.returned (.tuple #[v,.bool true])∧ae (fun _=>False) W w':=by
  intro W;obtain⟨r,hr⟩:=zP s
  cases r with
  | error f=>exact (xj s hs vL f hr W).mono (fun e w' h=>⟨_,h.1,h.2⟩)
  | ok cs=>
   refine(rp s hs vL cs hr W).mono ?_;rintro e w' ⟨bb,sb,h1,h2,h3,h4⟩;exact⟨_,h1,h4⟩
 have Ga:Hid _:=c2;clear vL c2;go_enter Tryz.func3,Tryz.ntmps3;go_wp2_with fail;refine c1.mono ?_;rintro e w1 ⟨bb,rfl,o1⟩;go_wp2_with fail;refine(Ga.out _).mono ?_;rintro e w2 ⟨v,rfl,o2⟩;go_wp2;go_ret;exact⟨rfl,o1.trans o2 (fun _ e=>e) (fun _ _ e=>e)⟩
end
section
open Go.RowKit
theorem AT:∀(f:Nat),f≤501→∀nest,nest≤5→rG f nest:=by
 intro f
 induction f using Nat.strongRecOn with
 | ind f ih=>
  intro hf nest hn;exact nw f nest hf hn (fun k hk=>pP k nest hn (fun n' UP=>ih k hk (by omega) n' UP))
theorem PU:AJ:=by
 intro s hs w;by_cases h:s.size≤500
 ·exact vm s h (fun f hf=>AT f hf 0 (by omega)) w
 ·exact xq s (by omega) hs w
theorem vk (s:ByteArray) (hs:s.size≤9223372036854775807) (w:World) (ht:Tabs w):
 Calls Tryz.prog 3 #[.string s] w fun e w'=>e=.returned (.bool true)∧ae (fun _=>False) w w':=sV PU s hs w ht
end
section
open Go.ChangeShapes Go.WideShapes Go.ChangeAt Go.RowKit Go.Lib
theorem zJ {H:Type}{enc:TypeId×Value→H}{a:Assume}{C:Checked}{os:Os}{f:FuncId}{fn:Func}{s:ChangeSpec}{conds:List PathCond}{apart fresh handsOn again:Bool}{X:World→Array Value→Prop}
 (hX:∀(w w':World) (args:Array Value),w.heap=w'.heap→X w args→X w' args)
 (own:ownKnob C.prog.godebug=none) (started:os.Started) (Im:C.prog.inits.idxOf? f=none) (KN:C.prog.funcs[f]? =some fn)
 (witness:∃(w:World) (tape:Tape) (i:Input),w.os=os∧(w.forCall tape i).Shaped C.prog∧i.vars= []∧Input.okWide C.prog (w.forCall tape i) .any w.heap.size f i∧
   ((s.pre enc C.prog fn conds apart (w.forCall tape i).memory i.args∧X (w.forCall tape i).memory i.args)∧sizedMet enc C.prog fn (OpenSpec.ofChange s) apart (w.forCall tape i).memory i.args)∧a.holds C.prog (lone (Frame.enter C.prog f i.args .normal) [] (w.forCall tape i)))
 (AU:∀(W:World) (base:Nat) (args:Array Value) (ds gs:List (DataW H)) (before:List MemPlace),
   (∀(j:Nat) t v,fn.params[j]? =some t→args[j]? =some v→Value.okWide C.prog W .any base t v)→
   DataW.Whole enc C.prog fn.params.toList s.vars apart W args.toList ds gs before→X W args→W.ShapedOpen C.prog→
   Calls C.prog f args W fun e W'=>∃v,e=.returned v∧s.post enc C.prog fn apart fresh handsOn again W args v W'):
 ReturnsInHanded a C os f .any (fun w args=>(s.pre enc C.prog fn conds apart w args∧X w args)∧sizedMet enc C.prog fn (OpenSpec.ofChange s) apart w args) (s.post enc C.prog fn apart fresh handsOn again):=by
 refine returnsInHanded_of_calls own started Im witness ?_;intro w tape i _ D1 _ gV Hh _;obtain⟨_,_,_,TR,Oy,_,_,_,_,qB⟩:=gV;obtain rfl:TR=fn:=Option.some.inj (Oy.symm.trans KN);obtain⟨⟨⟨ds,gs,before,hw,_⟩,hx⟩,_⟩:=Hh;refine(AU (w.forCall tape i) w.heap.size i.args ds gs before qB (DataW.Whole.of_heap (by rfl) hw) (hX _ _ _ (by rfl) hx) D1).mono ?_;rintro e W' ⟨v,rfl,hp⟩;exact ChangeSpec.post_blind hp
theorem zS {H:Type}{enc:TypeId×Value→H}{P:Program}{f:Func}{s:ChangeSpec}{apart fresh handsOn again:Bool}{W W':World}{args:Array Value}{v:Value}{ds gs:List (DataW H)}
 (hW:DataW.Whole enc P f.params.toList s.vars apart W args.toList ds gs [])
 (jX:∀(b:Nat) (sp:Nat→Bool) (hd:Bool),DataW.TrodAll enc P W' b sp hd f.resultTypes.toList (v.resultList f.resultTypes.size) (s.fn H (ds++gs)).results [])
 (Ft:∀sp:Nat→Bool,DataW.TrodAll enc P W' 0 sp true f.params.toList args.toList (s.fn H (ds++gs)).args [])
 (FO:∀sp:Nat→Bool,DataW.TrodVars enc P W' sp s.vars (s.fn H (ds++gs)).vars [])
 (hk:W.keptBut W' (fun _=>False))
 (gV:∀(j:Nat) (t:TypeId) (r:Value),f.resultTypes[j]? =some t→(v.resultList f.resultTypes.size)[j]? =some r→Value.okWide P W' .any 0 t r):
 s.post enc P f apart fresh handsOn again W args v W':=by
 refine⟨ds,gs,[],[],[],[],hW,jX _ _ _,Ft _,FO _,World.keptBut_mono (fun p hp=>hp.elim) hk,fun _=> ?_⟩;refine⟨gV,_,_,[],⟨[],[],trodAll_append (Ft _) (jX _ _ _),FO _,rfl,fun b off hp=> ?_,fun _=>List.nodup_nil⟩,fun p hp=> ?_⟩
 ·simp at hp
 ·simp at hp
theorem sy {W W':World} (o:ae (fun _=>False) W W'):W.keptBut W' (fun _=>False):=by
 refine⟨o.os,o.output,fun i hi=> ?_⟩;rw[o.block i hi id];split
 ·rename_i h1 h2
  rw[h1] at h2;injection h2 with h2;injection h2 with h2 h3 h4;subst h2;subst h3;subst h4;exact⟨rfl,rfl,rfl,fun _ _=>rfl⟩
 ·rename_i h1 h2
  rw[h1] at h2;injection h2 with h2;injection h2 with h2 h3;subst h2;subst h3;exact Or.inr ⟨rfl,rfl⟩
 ·rfl
theorem EO {W:World}{l:List (String×DataW Unit)} (hl:(l.all fun x=>x.2.handleName?.isNone)=true) (m1:("unicode/utf8.first",Rows.laid_unicode_utf8_first)∈l) (m2:("unicode/utf8.acceptRanges",Rows.laid_unicode_utf8_acceptRanges)∈l) (hL:laidMetH Tryz.prog l W) (hS:W.ShapedOpen Tryz.prog):Tabs W:=by
 rw[MakeChecks.laidMetH_plain _ _ _ hl] at hL;have h1:=Go.Lib.laidMet.reads hL m1;have h2:=Go.Lib.laidMet.reads hL m2;have c5:Tryz.prog.cellsOf 5=1:=by kernel_rfl
 have f:W.cell? ⟨0,195,none⟩=some (.int .u8 2):=by
  obtain⟨g,t,cs,fuel,p,hg,Pl,D4,hd⟩:=h1;obtain rfl:=Option.some.inj ((show Tryz.prog.globalNamed "unicode/utf8.first"=some 0 by kernel_rfl).symm.trans hg);obtain rfl:=Option.some.inj ((show(Tryz.prog.globals[0]?).map (·.type)=some 134 by kernel_rfl).symm.trans Pl);unfold Rows.laid_unicode_utf8_first Go.Pinned.utf8First at hd;obtain⟨J0,d,q,Oq,he⟩:=array_elem Tryz.underlying134 hd 195 (by omega);obtain rfl:d=.lit (.int .u8 2):=Option.some.inj (Oq.symm.trans (by kernel_rfl));rw[c5] at he;obtain⟨z,e1,e2,_⟩:=DataW.trod_int Tryz.underlying5 he
  have hz:z=2:=by
   have:=(Prod.mk.inj e2).1;simp only[DataW.lit.injEq,Lit.int.injEq,true_and] at this;exact this.symm
  rw[World.var?_cell hg D4 195];have h0:((cs.toList.drop (195*1)).take 1)[0]? =some (.int .u8 z):=by rw[e1];rfl
  rw[←hz];simpa using h0
 have r:W.cell? ⟨1,0,none⟩=some (.int .u8 128)∧W.cell? ⟨1,1,none⟩=some (.int .u8 191):=by
  obtain⟨g,t,cs,fuel,p,hg,Pl,D4,hd⟩:=h2;obtain rfl:=Option.some.inj ((show Tryz.prog.globalNamed "unicode/utf8.acceptRanges"=some 1 by kernel_rfl).symm.trans hg);obtain rfl:=Option.some.inj ((show(Tryz.prog.globals[1]?).map (·.type)=some 137 by kernel_rfl).symm.trans Pl);have c2:Tryz.prog.cellsOf 136=2:=by kernel_rfl
  unfold Rows.laid_unicode_utf8_acceptRanges at hd;obtain⟨J0,d,q,Oq,he⟩:=array_elem Tryz.underlying137 hd 0 (by omega);obtain rfl:d=.agg ([(128:Int),191].map fun z=> .lit (.int .u8 z)):=Option.some.inj (Oq.symm.trans (by kernel_rfl));rw[c2] at he
  have dm:=ints_of_struct Tryz.underlying136 (fun j f hj=>by
   match j,hj with
   | 0,hj=>simp at hj;subst hj;exact⟨Tryz.underlying5,rfl,c5⟩
   | 1,hj=>simp at hj;subst hj;exact⟨Tryz.underlying5,rfl,c5⟩
   | j+2,hj=>simp at hj) (by rw[c2];rfl) he
  have e0:=congrArg (·[0]?) dm;have e1:=congrArg (·[1]?) dm;simp only[List.getElem?_take,List.getElem?_drop] at e0 e1;constructor
  ·rw[World.var?_cell hg D4 0,←Array.getElem?_toList]
   simpa using e0
  ·rw[World.var?_cell hg D4 1,←Array.getElem?_toList]
   simpa using e1
 exact⟨f,r.1,r.2,cell_of_shapedOpen_int (zero:= #[.int .i64 0]) (t:=3) hS (of_decide_eq_true (by kernel_rfl)) (by kernel_rfl) rfl (by kernel_rfl) (by kernel_rfl) Tryz.underlying3⟩
end
end Go.Proofs.YtbiobhghnldckaaGreatDoor
