/- Proved: adzeref's behind: an s, a y. Conditions: the Scan, its labels and jumps and the command lie in memory as 'SFl' and 'CmB' say. -/
import Derived.Test.YtbiobhghnldckaaGreatDoorS32
namespace Go.Proofs.YtbiobhghnldckaaGreatDoor
set_option linter.unusedVariables false
set_option maxRecDepth 100000
set_option maxHeartbeats 6400000
section
open Go.RowKit
attribute [local go_sem ↓] Go.wp_at_zero Go.wp_at_succ
theorem Rf.pstep_groups (L pl:List Int) (first:Nat) (t:Rf.PS):(Rf.pstep L pl first t).groups≤t.groups+1:=by
 unfold Rf.pstep
 repeat' split
 all_goals (simp only;omega)
theorem Rf.pattern_groups (L pl:List Int) (first:Nat):∀(n:Nat) (t:Rf.PS),(Rf.pattern L pl first n t).groups≤t.groups+n
 | 0,t=>Nat.le_refl _
 | n+1,t=>by
  unfold Rf.pattern;split
  ·split
   ·show t.groups≤_
    omega
   ·have h1:=Rf.pattern_groups L pl first n (Rf.pstep L pl first t)
    have h2:=Rf.pstep_groups L pl first t;omega
  ·omega
theorem Rf.pat_groups (L pl:List Int) (s:SS):(Rf.pat L pl s).groups≤L.length+1:=by
 have:=Rf.pattern_groups L pl s.i (L.length+1) ⟨s,0,0,0⟩;unfold Rf.pat;simpa using this
theorem zV (g:SG) (w:World) (B cb:Nat) (r:Rf.RS) (h:SFl g w B cb r) (what:Int) (at_:Nat) (tx:Value) (hc:CmB w cb what at_ tx false false 0) (uu:B≤cb) (bJ:at_≤g.L.length) (As:r.labs.length≤900) (Ar:r.jumps.length≤900) (h0:what=115):
 Calls Tryz.prog 85 #[.pointer (some ⟨g.x,0,none⟩),.pointer (some ⟨cb,0,none⟩)] w fun e w'=>e=.returned (.tuple #[])∧rF g w B cb (Rf.behind g.L g.pl what at_ r) w':=by
 obtain⟨y9,tH,pZ,_,_,_⟩:=hc.known;have fF:cb≠g.x:=by have:=h.hx;omega
 have cR:g.L≠ []→cb≠g.lb:=fun e=>by have:=h.hl e;omega
 have jT:cb≠g.pb:=by have:=h.hp;omega
 have hle:=h.scn.le;have dy:=h.scn.small;obtain⟨R,hR⟩:∃R,Rf.behind g.L g.pl what at_ r=R:=⟨_,rfl⟩;rw[hR];unfold Rf.behind at hR;subst h0;rw[if_neg (by omega),if_neg (by omega),if_neg (by omega),if_pos rfl] at hR;unfold Rf.subst at hR;simp only at hR;have OR:=mG g w r.s h.scn 47 (by decide);generalize Rf.must g.L g.pl r.s 47=s1 at*
 have jD:=fun W (hW:Scn g W s1)=>jg g W s1 hW;have gj:=Rf.pat_groups g.L g.pl s1;generalize Rf.pat g.L g.pl s1=TP at*
 have ye:=fun W (hW:Scn g W TP.s)=>vn g W TP.s hW TP.groups (by omega);generalize Rf.replacement g.L g.pl TP.groups (g.L.length+1) TP.s=s3 at*
 have Fx:=fun W (hW:Scn g W s3) (hC:CmB W cb 115 at_ tx false false 0)=>sW g W s3 hW cb 115 at_ tx hC fF cR jT;generalize (Rf.flags g.L g.pl (g.L.length+1) ⟨s3,false,false,0⟩).s=s4 at*
 have SV:Hid _:=jD;have L4:Hid _:=ye;have yF:Hid _:=Fx
 have Jt:Hid (∀WT W',SFl g WT B cb {r with s:=s4}→ae (fun b=>b=g.x∨b=cb) w WT→Scn g W' (Rf.tailEnd g.L g.pl s4)→ae (·=g.x) WT W'→rF g w B cb R W'):=fun WT W' hS oS hs o=>by
  rw[←hR];exact kn (hS.moved hs o) (oS.trans o (fun _ e=>e) (fun _ _ e=>Or.inl e))
 clear jD ye Fx hR;have Wu:(TP.groups:Int)≤1000:=by omega
 go_enter Tryz.func85,Tryz.ntmps85;go_wp2_with fail;refine OR.mono ?_;rintro e w1 ⟨rfl,h1,o1⟩;have cC:=hc.keeps o1 fF;go_wp2_with fail;refine(SV.out _ h1).mono ?_;rintro e w2 ⟨ia,il,ic,rfl,h2,o2⟩;have aL:=cC.keeps o2 fF;have t2:=aL.at 12 (by decide);have t3:=aL.at 13 (by decide);obtain⟨PZ,t21,t22⟩:=t2;obtain⟨Xi,t31,t32⟩:=t3;have dJ:CmB ((w2.setCell ⟨cb,12,none⟩ (.slice ia il ic)).setCell ⟨cb,13,none⟩ (.int .i64 (TP.groups:Int))) cb 115 at_ tx false false 0:=(aL.set 12 _ rfl rfl rfl rfl rfl rfl).set 13 _ rfl rfl rfl rfl rfl rfl;have h3:Scn g ((w2.setCell ⟨cb,12,none⟩ (.slice ia il ic)).setCell ⟨cb,13,none⟩ (.int .i64 (TP.groups:Int))) TP.s:=(h2.cmdSet fF cR jT (ae.refl _ _) 12 _).cmdSet fF cR jT (ae.refl _ _) 13 _;have o3:ae (fun b=>b=g.x∨b=cb) w ((w2.setCell ⟨cb,12,none⟩ (.slice ia il ic)).setCell ⟨cb,13,none⟩ (.int .i64 (TP.groups:Int))):=((aW o1 o2).trans (af _ cb 12 _) (fun _ e=>Or.inl e) (fun _ _ e=>Or.inr e)).trans (af _ cb 13 _) (fun _ e=>e) (fun _ _ e=>Or.inr e);have LN:((w2.setCell ⟨cb,12,none⟩ (.slice ia il ic)).setCell ⟨cb,13,none⟩ (.int .i64 (TP.groups:Int))).cell? ⟨cb,13,none⟩=some (.int .i64 (TP.groups:Int)):=World.cell?_setCell_same _ _ _ (by rw[World.cell?_setCell_other _ _ _ _ (by simp)];exact t31);have S3:SFl g ((w2.setCell ⟨cb,12,none⟩ (.slice ia il ic)).setCell ⟨cb,13,none⟩ (.int .i64 (TP.groups:Int))) B cb {r with s:=TP.s}:=h.moved2 h3 hc.typ o3;clear cC aL h1 h2 o1 o2;go_upto_region 21 with (fail)
 generalize (w2.setCell ⟨cb,12,none⟩ (.slice ia il ic)).setCell ⟨cb,13,none⟩ (.int .i64 (TP.groups:Int))=w3 at*
 clear t21 t22 t31 t32 h hc y9 tH pZ;go_wp2_with fail;refine(L4.out _ h3).mono ?_;rintro e w4 ⟨ra,rn,rc,rfl,h4,o4⟩;have eu:=dJ.keeps o4 fF;obtain⟨VR,t41,t42⟩:=eu.at 14 (by decide);have jO:CmB (w4.setCell ⟨cb,14,none⟩ (.slice ra rn rc)) cb 115 at_ tx false false 0:=eu.set 14 _ rfl rfl rfl rfl rfl rfl;have h5:Scn g (w4.setCell ⟨cb,14,none⟩ (.slice ra rn rc)) s3:=h4.cmdSet fF cR jT (ae.refl _ _) 14 _;have Ir:ae (fun b=>b=g.x∨b=cb) w3 (w4.setCell ⟨cb,14,none⟩ (.slice ra rn rc)):=o4.trans (af _ cb 14 _) (fun _ e=>Or.inl e) (fun _ _ e=>Or.inr e);have S5:=S3.moved2 h5 dJ.typ Ir;have o5:ae (fun b=>b=g.x∨b=cb) w (w4.setCell ⟨cb,14,none⟩ (.slice ra rn rc)):=o3.trans Ir (fun _ e=>e) (fun _ _ e=>e);clear S3 dJ h3 o3 LN eu h4 o4 Ir;go_upto_region 22 with (fail)
 generalize w4.setCell ⟨cb,14,none⟩ (.slice ra rn rc)=w5 at*
 clear t41 t42;go_wp2_with fail;refine(yF.out _ h5 jO).mono ?_;rintro e w6 ⟨rfl,j6,o6,_⟩;have S6:=S5.moved2 j6 jO.typ o6;have o7:ae (fun b=>b=g.x∨b=cb) w w6:=o5.trans o6 (fun _ e=>e) (fun _ _ e=>e);have cu:Hid (∀W',Scn g W' (Rf.tailEnd g.L g.pl s4)→ae (·=g.x) w6 W'→rF g w B cb R W'):=fun W' hs o=>Jt.out w6 W' S6 o7 hs o;clear S5 S6 o5 o6 o7 h5 jO;have ld:=bf g w6 s4 j6 false;have bC:=cu.out;unfold Rf.tailEnd at bC;simp only at bC;generalize Rf.skip g.L s4 false=s9 at*
 have ng:=j6.small;go_wp2_with fail;refine ld.mono ?_;rintro e w8 ⟨rfl,h8,o8⟩;have ey:=az g w8 s9 h8;have iC:=h8.le;obtain⟨Ji,Jk,rj,zF⟩:=h8.cells;have Ff:=(rj 2 _ rfl).1;clear rj zF;by_cases dG:0≤Rf.now g.L s9∧Rf.now g.L s9≠59∧Rf.now g.L s9≠10∧Rf.now g.L s9≠125
 ·rw[if_pos dG] at bC
  obtain⟨e0,e1,e2,e3⟩:=dG;have b1:(Rf.now g.L s9==59)=false:=by simpa using e1
  have b2:(Rf.now g.L s9==10)=false:=by simpa using e2
  have b3:(Rf.now g.L s9==125)=false:=by simpa using e3
  have Df:(Rf.now g.L s9 !=59)=true:=by unfold bne;rw[b1];rfl
  have Dg:(Rf.now g.L s9 !=10)=true:=by unfold bne;rw[b2];rfl
  have AL:(Rf.now g.L s9 !=125)=true:=by unfold bne;rw[b3];rfl
  clear e1 e2 e3;have lh:Hid _:=bC;clear bC cu;generalize Rf.now g.L s9=r9 at*
  go_wp2_with fail;refine ey.mono ?_;rintro e w9 ⟨rfl,n9,rfl⟩;go_wp2_with fail;refine(aB g _ _ (h8.drewN n9) 3 s9.i iC).mono ?_;rintro e Jo ⟨rfl,dQ,zM⟩;go_wp2;go_end0;exact⟨rfl,lh.out _ dQ (o8.trans (((ae.refl (·=g.x) w8).drewN n9).trans zM (fun _ e=>e) (fun _ _ e=>e)) (fun _ e=>e) (fun _ _ e=>e))⟩
 ·rw[if_neg dG] at bC
  have lh:Hid _:=bC;have dm:Rf.now g.L s9<0∨Rf.now g.L s9=59∨Rf.now g.L s9=10∨Rf.now g.L s9=125:=by omega
  clear bC cu dG
  rcases dm with hr | hr | hr | hr
  all_goals
   first
    | rw[hr] at ey
    | generalize Rf.now g.L s9=r9 at*
   go_wp2_with fail;refine ey.mono ?_;rintro e w9 ⟨rfl,n9,rfl⟩;go_wp2;go_end0;exact⟨rfl,lh.out _ (h8.drewN n9) (o8.drewN n9)⟩
theorem zW (g:SG) (w:World) (B cb:Nat) (r:Rf.RS) (h:SFl g w B cb r) (what:Int) (at_:Nat) (tx:Value) (hc:CmB w cb what at_ tx false false 0) (uu:B≤cb) (bJ:at_≤g.L.length) (As:r.labs.length≤900) (Ar:r.jumps.length≤900) (h0:what=121):
 Calls Tryz.prog 85 #[.pointer (some ⟨g.x,0,none⟩),.pointer (some ⟨cb,0,none⟩)] w fun e w'=>e=.returned (.tuple #[])∧rF g w B cb (Rf.behind g.L g.pl what at_ r) w':=by
 obtain⟨y9,tH,pZ,_,_,_⟩:=hc.known;have fF:cb≠g.x:=by have:=h.hx;omega
 have cR:g.L≠ []→cb≠g.lb:=fun e=>by have:=h.hl e;omega
 have jT:cb≠g.pb:=by have:=h.hp;omega
 have hle:=h.scn.le;have dy:=h.scn.small;obtain⟨R,hR⟩:∃R,Rf.behind g.L g.pl what at_ r=R:=⟨_,rfl⟩;rw[hR];unfold Rf.behind at hR;subst h0;rw[if_neg (by omega),if_neg (by omega),if_neg (by omega),if_neg (by omega),if_pos rfl] at hR;unfold Rf.exch at hR;simp only at hR;have OR:=mG g w r.s h.scn 47 (by decide);generalize Rf.must g.L g.pl r.s 47=s1 at*
 have wU:=fun W (hW:Scn g W s1)=>kQ g W s1 hW;generalize Rf.runes g.L g.pl (g.L.length+1) [] s1=A1 at*
 have DZ:=fun W (hW:Scn g W A1.2)=>kQ g W A1.2 hW;generalize Rf.runes g.L g.pl (g.L.length+1) [] A1.2=A2 at*
 have SX:Hid _:=wU;have SY:Hid _:=DZ;obtain⟨s4,mn⟩:∃s4,(if Adz.hasTwice A1.1=true∨A1.1.length≠A2.1.length then Rf.no g.pl A2.2 4 at_ else A2.2)=s4:=⟨_,rfl⟩;rw[mn] at hR
 have Jt:Hid (∀WT W',SFl g WT B cb {r with s:=s4}→ae (fun b=>b=g.x∨b=cb) w WT→Scn g W' (Rf.tailEnd g.L g.pl s4)→ae (·=g.x) WT W'→rF g w B cb R W'):=fun WT W' hS oS hs o=>by
  rw[←hR];exact kn (hS.moved hs o) (oS.trans o (fun _ e=>e) (fun _ _ e=>Or.inl e))
 clear wU DZ hR;go_enter Tryz.func85,Tryz.ntmps85;go_wp2_with fail;refine OR.mono ?_;rintro e w1 ⟨rfl,h1,o1⟩;have cC:=hc.keeps o1 fF;go_wp2_with fail;refine(SX.out _ h1).mono ?_;rintro e w2 ⟨a2,c2,rfl,Iv,l2,h2,o2⟩;have aL:=cC.keeps o2 fF;obtain⟨PZ,t21,t22⟩:=aL.at 18 (by decide);have dJ:CmB (w2.setCell ⟨cb,18,none⟩ (.slice a2 A1.1.length c2)) cb 121 at_ tx false false 0:=aL.set 18 _ rfl rfl rfl rfl rfl rfl;have h3:Scn g (w2.setCell ⟨cb,18,none⟩ (.slice a2 A1.1.length c2)) A1.2:=h2.cmdSet fF cR jT (ae.refl _ _) 18 _;have o3:ae (fun b=>b=g.x∨b=cb) w (w2.setCell ⟨cb,18,none⟩ (.slice a2 A1.1.length c2)):=(aW o1 o2).trans (af _ cb 18 _) (fun _ e=>Or.inl e) (fun _ _ e=>Or.inr e);have Sm:(w2.setCell ⟨cb,18,none⟩ (.slice a2 A1.1.length c2)).cell? ⟨cb,18,none⟩=some (.slice a2 A1.1.length c2):=World.cell?_setCell_same _ _ _ t21;have Iw:=ag Iv (af w2 cb 18 (.slice a2 A1.1.length c2)) (fun b hb e=>by subst e;exact absurd ((aq.of_row Iv hb).one aL.typ) (by decide));have S3:SFl g (w2.setCell ⟨cb,18,none⟩ (.slice a2 A1.1.length c2)) B cb {r with s:=A1.2}:=h.moved2 h3 hc.typ o3;clear cC aL h1 h2 o1 o2 Iv;go_upto_region 26 with (fail)
 generalize w2.setCell ⟨cb,18,none⟩ (.slice a2 A1.1.length c2)=w3 at*
 clear t21 t22 h hc y9 tH pZ;go_wp2_with fail;refine(SY.out _ h3).mono ?_;rintro e w4 ⟨a4,c4,rfl,_,l4,h4,o4⟩;have eu:=dJ.keeps o4 fF;have LO:=o4.keeps Sm fF;have Iy:=ag Iw o4 (fun b hb e=>by subst e;exact absurd ((aq.of_row Iw hb).one h3.typ) (by decide));obtain⟨VR,t41,t42⟩:=eu.at 19 (by decide);have jO:CmB (w4.setCell ⟨cb,19,none⟩ (.slice a4 A2.1.length c4)) cb 121 at_ tx false false 0:=eu.set 19 _ rfl rfl rfl rfl rfl rfl;have h5:Scn g (w4.setCell ⟨cb,19,none⟩ (.slice a4 A2.1.length c4)) A2.2:=h4.cmdSet fF cR jT (ae.refl _ _) 19 _;have Ir:ae (fun b=>b=g.x∨b=cb) w3 (w4.setCell ⟨cb,19,none⟩ (.slice a4 A2.1.length c4)):=o4.trans (af _ cb 19 _) (fun _ e=>Or.inl e) (fun _ _ e=>Or.inr e);have S5:=S3.moved2 h5 dJ.typ Ir;have o5:ae (fun b=>b=g.x∨b=cb) w (w4.setCell ⟨cb,19,none⟩ (.slice a4 A2.1.length c4)):=o3.trans Ir (fun _ e=>e) (fun _ _ e=>e);have W9:(w4.setCell ⟨cb,19,none⟩ (.slice a4 A2.1.length c4)).cell? ⟨cb,19,none⟩=some (.slice a4 A2.1.length c4):=World.cell?_setCell_same _ _ _ t41;have VL:(w4.setCell ⟨cb,19,none⟩ (.slice a4 A2.1.length c4)).cell? ⟨cb,18,none⟩=some (.slice a2 A1.1.length c2):=by rw[World.cell?_setCell_other _ _ _ _ (by simp)];exact LO
 have EC:=ag Iy (af w4 cb 19 (.slice a4 A2.1.length c4)) (fun b hb e=>by subst e;exact absurd ((aq.of_row Iy hb).one eu.typ) (by decide));clear S3 dJ h3 o3 Sm eu h4 o4 Ir Iw Iy LO;go_upto_region 27 with (fail)
 generalize w4.setCell ⟨cb,19,none⟩ (.slice a4 A2.1.length c4)=w5 at*
 clear t41 t42;have Au:=td w5 _ _ (Ch EC) (by omega);have tH:=jO.known.2.1
 have cl:(Adz.hasTwice A1.1=true)∨(Adz.hasTwice A1.1=false∧A1.1.length≠A2.1.length)∨(Adz.hasTwice A1.1=false∧A1.1.length=A2.1.length):=by
  cases Adz.hasTwice A1.1 with
  | true=>exact Or.inl rfl
  | false=>
   by_cases e:A1.1.length=A2.1.length
   ·exact Or.inr (Or.inr ⟨rfl,e⟩)
   ·exact Or.inr (Or.inl ⟨rfl,e⟩)
 rcases cl with iB |⟨iB,dt⟩ |⟨iB,dt⟩
 ·rw[if_pos (Or.inl iB)] at mn
  rw[iB] at Au;clear iB;go_wp2_with fail;refine Au.mono ?_;rintro e w6 ⟨rfl,n6,rfl⟩;go_wp2_with fail
  go_quiet (fail)
  go_wp2_with fail;refine(aB g _ _ (h5.drewN (n6+nq)) 4 at_ bJ).mono ?_;rintro e w7 ⟨rfl,j6,o7⟩;rw[mn] at j6;have Cj:ae (·=g.x) w5 w7:=((ae.refl (·=g.x) w5).drewN (n6+nq)).trans o7 (fun _ e=>e) (fun _ _ e=>e);have S7:=S5.moved j6 Cj;have o9:ae (fun b=>b=g.x∨b=cb) w w7:=o5.trans Cj (fun _ e=>e) (fun _ _ e=>Or.inl e);have cu:Hid (∀W',Scn g W' (Rf.tailEnd g.L g.pl s4)→ae (·=g.x) w7 W'→rF g w B cb R W'):=fun W' hs o=>Jt.out w7 W' S7 o9 hs o;clear S5 S7 o5 Cj o9 o7 h5 jO mn EC;have ld:=bf g w7 s4 j6 false;have bC:=cu.out;unfold Rf.tailEnd at bC;simp only at bC;generalize Rf.skip g.L s4 false=s9 at*
  have ng:=j6.small;go_wp2_with fail;refine ld.mono ?_;rintro e w8 ⟨rfl,h8,o8⟩;have ey:=az g w8 s9 h8;have iC:=h8.le;obtain⟨Ji,Jk,rj,zF⟩:=h8.cells;have Ff:=(rj 2 _ rfl).1;clear rj zF;by_cases dG:0≤Rf.now g.L s9∧Rf.now g.L s9≠59∧Rf.now g.L s9≠10∧Rf.now g.L s9≠125
  ·rw[if_pos dG] at bC
   obtain⟨e0,e1,e2,e3⟩:=dG;have b1:(Rf.now g.L s9==59)=false:=by simpa using e1
   have b2:(Rf.now g.L s9==10)=false:=by simpa using e2
   have b3:(Rf.now g.L s9==125)=false:=by simpa using e3
   have Df:(Rf.now g.L s9 !=59)=true:=by unfold bne;rw[b1];rfl
   have Dg:(Rf.now g.L s9 !=10)=true:=by unfold bne;rw[b2];rfl
   have AL:(Rf.now g.L s9 !=125)=true:=by unfold bne;rw[b3];rfl
   clear e1 e2 e3;have lh:Hid _:=bC;clear bC cu;generalize Rf.now g.L s9=r9 at*
   go_wp2_with fail;refine ey.mono ?_;rintro e w9 ⟨rfl,n9,rfl⟩;go_wp2_with fail;refine(aB g _ _ (h8.drewN n9) 3 s9.i iC).mono ?_;rintro e Jo ⟨rfl,dQ,zM⟩;go_wp2;go_end0;exact⟨rfl,lh.out _ dQ (o8.trans (((ae.refl (·=g.x) w8).drewN n9).trans zM (fun _ e=>e) (fun _ _ e=>e)) (fun _ e=>e) (fun _ _ e=>e))⟩
  ·rw[if_neg dG] at bC
   have lh:Hid _:=bC;have dm:Rf.now g.L s9<0∨Rf.now g.L s9=59∨Rf.now g.L s9=10∨Rf.now g.L s9=125:=by omega
   clear bC cu dG
   rcases dm with hr | hr | hr | hr
   all_goals
    first
     | rw[hr] at ey
     | generalize Rf.now g.L s9=r9 at*
    go_wp2_with fail;refine ey.mono ?_;rintro e w9 ⟨rfl,n9,rfl⟩;go_wp2;go_end0;exact⟨rfl,lh.out _ (h8.drewN n9) (o8.drewN n9)⟩
 ·rw[if_pos (Or.inr dt)] at mn
  rw[iB] at Au;have bl:((A1.1.length:Int)==(A2.1.length:Int))=false:=by simp;omega
  have JR:((A1.1.length:Int) !=(A2.1.length:Int))=true:=by unfold bne;rw[bl];rfl
  clear iB dt;go_wp2_with fail;refine Au.mono ?_;rintro e w6 ⟨rfl,n6,rfl⟩;go_wp2_with fail
  go_quiet (fail)
  go_wp2_with fail;refine(aB g _ _ (h5.drewN (n6+nq)) 4 at_ bJ).mono ?_;rintro e w7 ⟨rfl,j6,o7⟩;rw[mn] at j6;have Cj:ae (·=g.x) w5 w7:=((ae.refl (·=g.x) w5).drewN (n6+nq)).trans o7 (fun _ e=>e) (fun _ _ e=>e);have S7:=S5.moved j6 Cj;have o9:ae (fun b=>b=g.x∨b=cb) w w7:=o5.trans Cj (fun _ e=>e) (fun _ _ e=>Or.inl e);have cu:Hid (∀W',Scn g W' (Rf.tailEnd g.L g.pl s4)→ae (·=g.x) w7 W'→rF g w B cb R W'):=fun W' hs o=>Jt.out w7 W' S7 o9 hs o;clear S5 S7 o5 Cj o9 o7 h5 jO mn EC;have ld:=bf g w7 s4 j6 false;have bC:=cu.out;unfold Rf.tailEnd at bC;simp only at bC;generalize Rf.skip g.L s4 false=s9 at*
  have ng:=j6.small;go_wp2_with fail;refine ld.mono ?_;rintro e w8 ⟨rfl,h8,o8⟩;have ey:=az g w8 s9 h8;have iC:=h8.le;obtain⟨Ji,Jk,rj,zF⟩:=h8.cells;have Ff:=(rj 2 _ rfl).1;clear rj zF;by_cases dG:0≤Rf.now g.L s9∧Rf.now g.L s9≠59∧Rf.now g.L s9≠10∧Rf.now g.L s9≠125
  ·rw[if_pos dG] at bC
   obtain⟨e0,e1,e2,e3⟩:=dG;have b1:(Rf.now g.L s9==59)=false:=by simpa using e1
   have b2:(Rf.now g.L s9==10)=false:=by simpa using e2
   have b3:(Rf.now g.L s9==125)=false:=by simpa using e3
   have Df:(Rf.now g.L s9 !=59)=true:=by unfold bne;rw[b1];rfl
   have Dg:(Rf.now g.L s9 !=10)=true:=by unfold bne;rw[b2];rfl
   have AL:(Rf.now g.L s9 !=125)=true:=by unfold bne;rw[b3];rfl
   clear e1 e2 e3;have lh:Hid _:=bC;clear bC cu;generalize Rf.now g.L s9=r9 at*
   go_wp2_with fail;refine ey.mono ?_;rintro e w9 ⟨rfl,n9,rfl⟩;go_wp2_with fail;refine(aB g _ _ (h8.drewN n9) 3 s9.i iC).mono ?_;rintro e Jo ⟨rfl,dQ,zM⟩;go_wp2;go_end0;exact⟨rfl,lh.out _ dQ (o8.trans (((ae.refl (·=g.x) w8).drewN n9).trans zM (fun _ e=>e) (fun _ _ e=>e)) (fun _ e=>e) (fun _ _ e=>e))⟩
  ·rw[if_neg dG] at bC
   have lh:Hid _:=bC;have dm:Rf.now g.L s9<0∨Rf.now g.L s9=59∨Rf.now g.L s9=10∨Rf.now g.L s9=125:=by omega
   clear bC cu dG
   rcases dm with hr | hr | hr | hr
   all_goals
    first
     | rw[hr] at ey
     | generalize Rf.now g.L s9=r9 at*
    go_wp2_with fail;refine ey.mono ?_;rintro e w9 ⟨rfl,n9,rfl⟩;go_wp2;go_end0;exact⟨rfl,lh.out _ (h8.drewN n9) (o8.drewN n9)⟩
 ·rw[if_neg (by rw[iB];simp;exact dt)] at mn
  rw[iB] at Au;have bl:((A1.1.length:Int)==(A2.1.length:Int))=true:=by simp[dt]
  have JR:((A1.1.length:Int) !=(A2.1.length:Int))=false:=by unfold bne;rw[bl];rfl
  have HB:Hid _:=dt;clear iB dt;go_wp2_with fail;refine Au.mono ?_;rintro e w6 ⟨rfl,n6,rfl⟩;go_wp2_with fail
  go_quiet (fail)
  go_upto_region 30 with (fail)
  have j6:Scn g (w5.drewN (n6+nq)) s4:=by rw[←mn];exact h5.drewN _
  have Cj:ae (·=g.x) w5 (w5.drewN (n6+nq)):=(ae.refl (·=g.x) w5).drewN (n6+nq);have S7:=S5.moved j6 Cj;have o9:ae (fun b=>b=g.x∨b=cb) w (w5.drewN (n6+nq)):=o5.trans Cj (fun _ e=>e) (fun _ _ e=>Or.inl e);have cu:Hid (∀W',Scn g W' (Rf.tailEnd g.L g.pl s4)→ae (·=g.x) (w5.drewN (n6+nq)) W'→rF g w B cb R W'):=fun W' hs o=>Jt.out _ W' S7 o9 hs o;clear S5 S7 o5 Cj o9 h5 jO mn EC;have ld:=bf g (w5.drewN (n6+nq)) s4 j6 false;have bC:=cu.out;unfold Rf.tailEnd at bC;simp only at bC;generalize Rf.skip g.L s4 false=s9 at*
  have ng:=j6.small;go_wp2_with fail;refine ld.mono ?_;rintro e w8 ⟨rfl,h8,o8⟩;have ey:=az g w8 s9 h8;have iC:=h8.le;obtain⟨Ji,Jk,rj,zF⟩:=h8.cells;have Ff:=(rj 2 _ rfl).1;clear rj zF;by_cases dG:0≤Rf.now g.L s9∧Rf.now g.L s9≠59∧Rf.now g.L s9≠10∧Rf.now g.L s9≠125
  ·rw[if_pos dG] at bC
   obtain⟨e0,e1,e2,e3⟩:=dG;have b1:(Rf.now g.L s9==59)=false:=by simpa using e1
   have b2:(Rf.now g.L s9==10)=false:=by simpa using e2
   have b3:(Rf.now g.L s9==125)=false:=by simpa using e3
   have Df:(Rf.now g.L s9 !=59)=true:=by unfold bne;rw[b1];rfl
   have Dg:(Rf.now g.L s9 !=10)=true:=by unfold bne;rw[b2];rfl
   have AL:(Rf.now g.L s9 !=125)=true:=by unfold bne;rw[b3];rfl
   clear e1 e2 e3;have lh:Hid _:=bC;clear bC cu;generalize Rf.now g.L s9=r9 at*
   go_wp2_with fail;refine ey.mono ?_;rintro e w9 ⟨rfl,n9,rfl⟩;go_wp2_with fail;refine(aB g _ _ (h8.drewN n9) 3 s9.i iC).mono ?_;rintro e Jo ⟨rfl,dQ,zM⟩;go_wp2;go_end0;exact⟨rfl,lh.out _ dQ (o8.trans (((ae.refl (·=g.x) w8).drewN n9).trans zM (fun _ e=>e) (fun _ _ e=>e)) (fun _ e=>e) (fun _ _ e=>e))⟩
  ·rw[if_neg dG] at bC
   have lh:Hid _:=bC;have dm:Rf.now g.L s9<0∨Rf.now g.L s9=59∨Rf.now g.L s9=10∨Rf.now g.L s9=125:=by omega
   clear bC cu dG
   rcases dm with hr | hr | hr | hr
   all_goals
    first
     | rw[hr] at ey
     | generalize Rf.now g.L s9=r9 at*
    go_wp2_with fail;refine ey.mono ?_;rintro e w9 ⟨rfl,n9,rfl⟩;go_wp2;go_end0;exact⟨rfl,lh.out _ (h8.drewN n9) (o8.drewN n9)⟩
end
section
open Go.RowKit
theorem vg (g:SG) (w:World) (B cb:Nat) (r:Rf.RS) (h:SFl g w B cb r) (what:Int) (at_:Nat) (tx:Value) (hc:CmB w cb what at_ tx false false 0) (uu:B≤cb) (bJ:at_≤g.L.length) (As:r.labs.length≤900) (Ar:r.jumps.length≤900) (hw:what∈Rf.whats) (bU:what≠123):
 Calls Tryz.prog 85 #[.pointer (some ⟨g.x,0,none⟩),.pointer (some ⟨cb,0,none⟩)] w fun e w'=>e=.returned (.tuple #[])∧rF g w B cb (Rf.behind g.L g.pl what at_ r) w':=by
 rcases Rf.kind_of what hw with ⟨e,_⟩ |⟨e,_⟩ |⟨e,_⟩ |⟨e,_⟩ |⟨e,_⟩ |⟨e,_⟩ |⟨e,_⟩
 ·exact absurd e bU
 ·exact sQ g w B cb r h what at_ tx hc uu bJ As Ar e
 ·exact qI g w B cb r h what at_ tx hc uu bJ As Ar e
 ·exact sO g w B cb r h what at_ tx hc uu bJ As Ar e
 ·exact zV g w B cb r h what at_ tx hc uu bJ As Ar e
 ·exact zW g w B cb r h what at_ tx hc uu bJ As Ar e
 ·exact sP g w B cb r h what at_ tx hc uu bJ As Ar ⟨e.2.1,e.2.2.1,e.2.2.2.1,e.2.2.2.2.1,e.2.2.2.2.2.1,e.2.2.2.2.2.2.1,e.2.2.2.2.2.2.2.1,e.2.2.2.2.2.2.2.2⟩
end
section
open Go.RowKit
attribute [local go_sem ↓] Go.wp_at_zero Go.wp_at_succ
theorem tZ:bytesOf ⟨#[61,100,68,103,71,104,72,110,78,112,80,113,120,97,99,105,58,98,116,115,121,123]⟩=Rf.whats:=by decide
theorem pP (f nest:Nat) (hn:nest≤5) (IH:∀n',n'≤5→rG f n'):E0 f nest:=by
 intro g w B r h xX hlen;have hB:B≤w.heap.size:=h.bs;have dy:=h.scn.small;have H0:=Hs.new h;have Hu:¬w.heap.size=g.x:=by have:=h.hx;omega
 obtain⟨R,hR⟩:∃R,Rf.cmdT g.L g.pl f nest r=R:=⟨_,rfl⟩;rw[hR];unfold Rf.cmdT at hR;have qq:=Rf.head_ca g.L g.pl nest r.s;obtain⟨HD,Dx⟩:∃HD,Rf.head g.L g.pl nest r.s=HD:=⟨_,rfl⟩;rw[Dx] at hR qq;rw[Rf.head_eq] at Dx;have L3:Hid _:=hR;have AD:Hid _:=qq;have Dc:Hid _:=xX;have yG:Hid _:=hlen;have SD:Hid _:=IH;clear hR qq xX hlen IH;have GJ:=fun W (hW:Scn g W r.s)=>fJ g W r.s hW;generalize (Rf.address g.L g.pl r.s).1=kA at*
 generalize (Rf.address g.L g.pl r.s).2=s1 at*
 obtain⟨s2,fm⟩:∃s2,Rf.skip g.L s1 false=s2:=⟨_,rfl⟩;rw[fm] at Dx;obtain⟨sz,dr⟩:∃sz,(if kA=0 then s2 else Rf.second g.L g.pl s2)=sz:=⟨_,rfl⟩;rw[dr] at Dx;have HR:Hid _:=Dx;have fY:Hid _:=GJ;clear GJ Dx;go_enter Tryz.func58,Tryz.ntmps58;go_upto_region 2 with (fail)
 generalize nW:w.alloc _=w0;have H1:Hs g w w0 B w.heap.size r r.s 0:=by rw[←nW];exact H0
 clear nW H0;obtain⟨cb,iR⟩:∃cb,w.heap.size=cb:=⟨_,rfl⟩;rw[iR] at H1 hB Hu ⊢;go_wp2_with fail;refine(fY.out _ H1.sf.scn).mono ?_;rintro e w1 ⟨v,rfl,⟨an,ia,il,ic,gr,rfl⟩,h1,o1⟩;have H2:=H1.moved h1 o1;obtain⟨t0,IB,LX⟩:=H2.cm.at 0 (by decide);obtain⟨t1,t11,t12⟩:=H2.cm.at 1 (by decide);obtain⟨t2,t21,t22⟩:=H2.cm.at 2 (by decide);obtain⟨t3,t31,t32⟩:=H2.cm.at 3 (by decide);have H3:=(((H2.store0 hB kA).stored hB 1 (.int .i64 an) (by decide)).stored hB 2 (.slice ia il ic) (by decide)).stored hB 3 (.int .i64 gr) (by decide);clear H1 H2 h1 o1;go_upto_region 3 with (fail)
 generalize (((w1.setCell ⟨cb,0,none⟩ (.int .u8 kA)).setCell ⟨cb,1,none⟩ (.int .i64 an)).setCell ⟨cb,2,none⟩ (.slice ia il ic)).setCell ⟨cb,3,none⟩ (.int .i64 gr)=w2 at*
 clear IB LX t11 t12 t21 t22 t31 t32;have ld:=bf g w2 s1 H3.sf.scn false;rw[fm] at ld;clear fm;go_wp2_with fail;refine ld.mono ?_;rintro e w3 ⟨rfl,h3,o3⟩;have H4:=H3.moved h3 o3;have k0:=H4.k0;clear H3 h3 o3 ld
 go_upto_if 23 with (fail)
 go_cut [6] from 9 (fun v6 wz=>Hid (Hs g w wz B cb r sz kA))
 case first=>
  have dm:kA=0∨(¬kA=0∧¬Rf.now g.L s2=44)∨(¬kA=0∧Rf.now g.L s2=44∧(Rf.address g.L g.pl (Rf.skip g.L {s2 with i:=s2.i+1} false)).1=0)∨(¬kA=0∧Rf.now g.L s2=44∧¬(Rf.address g.L g.pl (Rf.skip g.L {s2 with i:=s2.i+1} false)).1=0):=by
   by_cases e1:kA=0
   ·exact Or.inl e1
   ·by_cases e2:Rf.now g.L s2=44
    ·by_cases e3:(Rf.address g.L g.pl (Rf.skip g.L {s2 with i:=s2.i+1} false)).1=0
     ·exact Or.inr (Or.inr (Or.inl ⟨e1,e2,e3⟩))
     ·exact Or.inr (Or.inr (Or.inr ⟨e1,e2,e3⟩))
    ·exact Or.inr (Or.inl ⟨e1,e2⟩)
  rcases dm with dm | dm | dm | dm
  all_goals first
   | (have hk:kA=0:=dm
      rw[if_pos hk] at dr;have HZ:Hs g w w3 B cb r sz kA:=by rw[←dr];exact H4
      have bk:(kA==0)=true:=by simpa using hk
      have No:(kA !=0)=false:=by unfold bne;rw[bk];rfl
      clear H4 hk dm dr;go_wp2_with fail
      go_meet
      case rel=>exact HZ)
   | (have hk:¬kA=0:=dm.1
      have mV:¬Rf.now g.L s2=44:=dm.2;have bk:(kA==0)=false:=by simpa using hk
      have No:(kA !=0)=true:=by unfold bne;rw[bk];rfl
      rw[if_neg hk] at dr;unfold Rf.second at dr;have dR:=aQ g w3 s2 H4.sf.scn 44 (by decide);unfold Rf.take at dR;rw[if_neg mV] at dR dr;rw[dr] at dR;clear mV hk dm;go_wp2_with fail;refine dR.mono ?_;rintro e w4 ⟨rfl,h4,o4⟩;have HZ:=H4.moved h4 o4;clear H4 h4 o4 dR k0 dr;go_wp2_with fail
      go_meet
      case rel=>exact HZ)
   | (have hk:¬kA=0:=dm.1
      have mV:Rf.now g.L s2=44:=dm.2.1;have wR:(Rf.address g.L g.pl (Rf.skip g.L {s2 with i:=s2.i+1} false)).1=0:=dm.2.2;have bk:(kA==0)=false:=by simpa using hk
      have No:(kA !=0)=true:=by unfold bne;rw[bk];rfl
      rw[if_neg hk] at dr;unfold Rf.second at dr;have dR:=aQ g w3 s2 H4.sf.scn 44 (by decide);unfold Rf.take at dR;rw[if_pos mV] at dR dr;simp only at dr;have BV:=fun W (hW:Scn g W {s2 with i:=s2.i+1})=>bf g W _ hW false;generalize Rf.skip g.L {s2 with i:=s2.i+1} false=s3 at*
      have wL:=fun W (hW:Scn g W s3)=>fJ g W s3 hW;obtain⟨kB,BH⟩:∃kB,(Rf.address g.L g.pl s3).1=kB:=⟨_,rfl⟩;simp only[BH] at wR wL dr;clear BH;have Jw:Hid _:=wR;clear wR;generalize (Rf.address g.L g.pl s3).2=s4 at*
      have Gg:Hid _:=BV;have M0:Hid _:=wL;clear BV wL mV hk dm;go_wp2_with fail;refine dR.mono ?_;rintro e w4 ⟨rfl,h4,o4⟩;have H5:=H4.moved h4 o4;go_wp2_with fail;refine(Gg.out _ h4).mono ?_;rintro e w5 ⟨rfl,h5,o5⟩;have H6:=H5.moved h5 o5;go_wp2_with fail;refine(M0.out _ h5).mono ?_;rintro e w6 ⟨v,rfl,⟨bn,ja,jl,jc,jr,rfl⟩,h6,o6⟩;have H7:=H6.moved h6 o6;obtain⟨t0,IB,LX⟩:=H7.cm.at 4 (by decide);obtain⟨t1,t11,t12⟩:=H7.cm.at 5 (by decide);obtain⟨t2,t21,t22⟩:=H7.cm.at 6 (by decide);obtain⟨t3,t31,t32⟩:=H7.cm.at 7 (by decide);have H8:=(((H7.stored hB 4 (.int .u8 kB) (by decide)).stored hB 5 (.int .i64 bn) (by decide)).stored hB 6 (.slice ja jl jc) (by decide)).stored hB 7 (.int .i64 jr) (by decide)
      have k4:((((w6.setCell ⟨cb,4,none⟩ (.int .u8 kB)).setCell ⟨cb,5,none⟩ (.int .i64 bn)).setCell ⟨cb,6,none⟩ (.slice ja jl jc)).setCell ⟨cb,7,none⟩ (.int .i64 jr)).cell? ⟨cb,4,none⟩=some (.int .u8 kB):=by
       rw[World.cell?_setCell_other _ _ _ _ (by simp),World.cell?_setCell_other _ _ _ _ (by simp),World.cell?_setCell_other _ _ _ _ (by simp)];exact World.cell?_setCell_same _ _ _ IB
      clear H4 H5 H6 H7 h4 o4 h5 o5 h6 o6 k0;go_upto_region 9 with (fail)
      generalize (((w6.setCell ⟨cb,4,none⟩ (.int .u8 kB)).setCell ⟨cb,5,none⟩ (.int .i64 bn)).setCell ⟨cb,6,none⟩ (.slice ja jl jc)).setCell ⟨cb,7,none⟩ (.int .i64 jr)=w7 at*
      clear IB LX t11 t12 t21 t22 t31 t32;have iC:=H8.sf.scn.le;have KW:=Jw.out;clear Jw;subst KW;rw[if_pos rfl] at dr;have eO:=aB g w7 s4 H8.sf.scn 3 s4.i iC;have wW:=fun W (hW:Scn g W (Rf.no g.pl s4 3 s4.i))=>bf g W _ hW false;rw[dr] at wW;have Qs:Hid _:=wW;obtain⟨la,pc,k1,k2⟩:=H8.sf.scn.cells;have c2:=(k1 2 _ rfl).1;clear wW dr k1 k2;go_wp2_with fail;refine eO.mono ?_;rintro e w8 ⟨rfl,h8,o8⟩;go_wp2_with fail;refine(Qs.out _ h8).mono ?_;rintro e w9 ⟨rfl,h9,o9⟩;have HZ:=(H8.moved h8 o8).moved h9 o9;clear H8 h8 o8 h9 o9 k4 c2 eO;go_wp2_with fail
      go_meet
      case rel=>exact HZ)
   | (have hk:¬kA=0:=dm.1
      have mV:Rf.now g.L s2=44:=dm.2.1;have wR:¬(Rf.address g.L g.pl (Rf.skip g.L {s2 with i:=s2.i+1} false)).1=0:=dm.2.2;have bk:(kA==0)=false:=by simpa using hk
      have No:(kA !=0)=true:=by unfold bne;rw[bk];rfl
      rw[if_neg hk] at dr;unfold Rf.second at dr;have dR:=aQ g w3 s2 H4.sf.scn 44 (by decide);unfold Rf.take at dR;rw[if_pos mV] at dR dr;simp only at dr;have BV:=fun W (hW:Scn g W {s2 with i:=s2.i+1})=>bf g W _ hW false;generalize Rf.skip g.L {s2 with i:=s2.i+1} false=s3 at*
      have wL:=fun W (hW:Scn g W s3)=>fJ g W s3 hW;obtain⟨kB,BH⟩:∃kB,(Rf.address g.L g.pl s3).1=kB:=⟨_,rfl⟩;simp only[BH] at wR wL dr;clear BH;have Jw:Hid _:=wR;clear wR;generalize (Rf.address g.L g.pl s3).2=s4 at*
      have Gg:Hid _:=BV;have M0:Hid _:=wL;clear BV wL mV hk dm;go_wp2_with fail;refine dR.mono ?_;rintro e w4 ⟨rfl,h4,o4⟩;have H5:=H4.moved h4 o4;go_wp2_with fail;refine(Gg.out _ h4).mono ?_;rintro e w5 ⟨rfl,h5,o5⟩;have H6:=H5.moved h5 o5;go_wp2_with fail;refine(M0.out _ h5).mono ?_;rintro e w6 ⟨v,rfl,⟨bn,ja,jl,jc,jr,rfl⟩,h6,o6⟩;have H7:=H6.moved h6 o6;obtain⟨t0,IB,LX⟩:=H7.cm.at 4 (by decide);obtain⟨t1,t11,t12⟩:=H7.cm.at 5 (by decide);obtain⟨t2,t21,t22⟩:=H7.cm.at 6 (by decide);obtain⟨t3,t31,t32⟩:=H7.cm.at 7 (by decide);have H8:=(((H7.stored hB 4 (.int .u8 kB) (by decide)).stored hB 5 (.int .i64 bn) (by decide)).stored hB 6 (.slice ja jl jc) (by decide)).stored hB 7 (.int .i64 jr) (by decide)
      have k4:((((w6.setCell ⟨cb,4,none⟩ (.int .u8 kB)).setCell ⟨cb,5,none⟩ (.int .i64 bn)).setCell ⟨cb,6,none⟩ (.slice ja jl jc)).setCell ⟨cb,7,none⟩ (.int .i64 jr)).cell? ⟨cb,4,none⟩=some (.int .u8 kB):=by
       rw[World.cell?_setCell_other _ _ _ _ (by simp),World.cell?_setCell_other _ _ _ _ (by simp),World.cell?_setCell_other _ _ _ _ (by simp)];exact World.cell?_setCell_same _ _ _ IB
      clear H4 H5 H6 H7 h4 o4 h5 o5 h6 o6 k0;go_upto_region 9 with (fail)
      generalize (((w6.setCell ⟨cb,4,none⟩ (.int .u8 kB)).setCell ⟨cb,5,none⟩ (.int .i64 bn)).setCell ⟨cb,6,none⟩ (.slice ja jl jc)).setCell ⟨cb,7,none⟩ (.int .i64 jr)=w7 at*
      clear IB LX t11 t12 t21 t22 t31 t32;have iC:=H8.sf.scn.le;have KW:=Jw.out;clear Jw;have bb:(kB==0)=false:=by simpa using KW
      rw[if_neg KW] at dr;have wW:=bf g w7 s4 H8.sf.scn false;rw[dr] at wW;clear dr KW;go_wp2_with fail;refine wW.mono ?_;rintro e w9 ⟨rfl,h9,o9⟩;have HZ:=H8.moved h9 o9;clear H8 h9 o9 k4 wW;go_wp2_with fail
      go_meet
      case rel=>exact HZ)
 case rest=>
  generalize wc=wz at*
  have HZ:=hcut.out;clear hcut k0 H4 fY dr;have Mm:=HR.out;clear HR;unfold Rf.headRest at Mm;simp only at Mm;have RL:=aQ g wz sz HZ.sf.scn 33 (by decide);generalize (Rf.take g.L sz 33).1=nb at*
  generalize (Rf.take g.L sz 33).2=s5 at*
  have Lk:=fun W (hW:Scn g W s5)=>bf g W s5 hW false;generalize Rf.skip g.L s5 false=s6 at*
  have eP:=fun W (hW:Scn g W s6)=>ef g W s6 hW;generalize (Rf.next g.L g.pl s6).1=cW at*
  generalize (Rf.next g.L g.pl s6).2=s7 at*
  have Qj:Hid _:=Mm;have Ta:Hid _:=Lk;have vM:Hid _:=eP;clear Mm Lk eP;go_wp2_with fail;refine RL.mono ?_;rintro e wa ⟨rfl,ha,oa⟩;have I1:=HZ.moved ha oa;obtain⟨t8,t81,t82⟩:=I1.cm.at 8 (by decide);have I2:=I1.stored hB 8 (.bool nb) (by decide);have k8:(wa.setCell ⟨cb,8,none⟩ (.bool nb)).cell? ⟨cb,8,none⟩=some (.bool nb):=World.cell?_setCell_same _ _ _ t81;clear HZ I1 ha oa RL;go_upto_region 13 with (fail)
  generalize wa.setCell ⟨cb,8,none⟩ (.bool nb)=wb at*
  clear t81 t82;go_wp2_with fail;refine(Ta.out _ I2.sf.scn).mono ?_;rintro e wc ⟨rfl,dm,oc⟩;have sx:cb≠g.x:=Hu;have I3:=I2.moved dm oc;have RZ:=oc.keeps k8 sx;obtain⟨la,pc,q1,q2⟩:=dm.cells;have c2:=(q1 2 _ rfl).1;have BI:=dm.le;clear I2 k8 q1 q2 oc;go_wp2_with fail;refine(vM.out _ dm).mono ?_;rintro e wd ⟨rfl,Ot,od⟩;have I4:=I3.moved Ot od;have R1:=od.keeps RZ sx;obtain⟨t9,t91,t92⟩:=I4.cm.at 9 (by decide);have C5:CmB (wd.setCell ⟨cb,9,none⟩ (.int .i64 cW)) cb cW 0 (.slice none 0 0) false false 0:=I4.cm.set 9 (.int .i64 cW) rfl rfl rfl rfl rfl rfl;have Vr:(wd.setCell ⟨cb,9,none⟩ (.int .i64 cW)).cell? ⟨cb,0,none⟩=some (.int .u8 kA):=by rw[World.cell?_setCell_other _ _ _ _ (by simp)];exact I4.k0
  have Vv:(wd.setCell ⟨cb,9,none⟩ (.int .i64 cW)).cell? ⟨cb,8,none⟩=some (.bool nb):=by rw[World.cell?_setCell_other _ _ _ _ (by simp)];exact R1
  have fi:g.L≠ []→cb≠g.lb:=fun e=>by have:=I4.sf.hl e;omega
  have Hf:cb≠g.pb:=by have:=I4.sf.hp;omega
  have h5:Scn g (wd.setCell ⟨cb,9,none⟩ (.int .i64 cW)) s7:=Ot.cmdSet sx fi Hf (ae.refl _ _) 9 _;have S5:SFl g (wd.setCell ⟨cb,9,none⟩ (.int .i64 cW)) B cb {r with s:=s7}:=I4.sf.moved2 h5 I4.cm.typ ((af wd cb 9 _).mono (fun _ _ e=>Or.inr e));have O5:ae (·=g.x) w (wd.setCell ⟨cb,9,none⟩ (.int .i64 cW)):=I4.o.trans (af _ _ _ _) (fun _ e=>e) (fun b hb e=>by have:=I4.lt;omega);clear I3 RZ R1 dm c2;go_upto_region 16 with (fail)
  generalize wd.setCell ⟨cb,9,none⟩ (.int .i64 cW)=we at*
  clear t91 t92 I4 Ot od;have y9:=C5.known.1;have Mw:=j4 we ⟨#[61,100,68,103,71,104,72,110,78,112,80,113,120,97,99,105,58,98,116,115,121,123]⟩ (by decide) cW;rw[tZ] at Mw;obtain⟨s8,C1⟩:∃s8,(if Rf.whats.contains cW=false∨(cW=58∧(kA≠0∨nb=true)) then Rf.no g.pl s7 3 s6.i else s7)=s8:=⟨_,rfl⟩;have NP:=Qj.out;rw[C1] at NP;have L0:Hid _:=NP;clear NP Qj;obtain⟨bad,cl⟩:∃bad:Bool,(bad=true↔(Rf.whats.contains cW=false∨(cW=58∧(kA≠0∨nb=true)))):=⟨decide _,decide_eq_true_iff⟩;have AB:Hid _:=cl;have L5:Hid _:=C1;clear cl C1;obtain⟨bw,Oi⟩:∃bw,Rf.whats.contains cW=bw:=⟨_,rfl⟩;have ID:Hid _:=Oi;rw[Oi] at Mw;clear Oi;go_wp2_with fail;refine Mw.mono ?_;rintro e wf ⟨rfl,rfl⟩;go_upto_region 17 with (fail)
  go_cut [8,91] from 9 (fun _ v wx=>v=.bool bad∧wf=wx)
  case first=>
   have jO:bw=false∨(bw=true∧cW≠58)∨(bw=true∧cW=58∧kA≠0)∨(bw=true∧cW=58∧kA=0):=by
    cases bw with
    | false=>exact Or.inl rfl
    | true=>
     by_cases e1:cW=58
     ·by_cases e2:kA=0
      ·exact Or.inr (Or.inr (Or.inr ⟨rfl,e1,e2⟩))
      ·exact Or.inr (Or.inr (Or.inl ⟨rfl,e1,e2⟩))
     ·exact Or.inr (Or.inl ⟨rfl,e1⟩)
   have cl:=AB.out;rw[ID.out] at cl
   rcases jO with e1 |⟨e1,e2⟩ |⟨e1,e2,e3⟩ |⟨e1,e2,e3⟩
   ·have hv:bad=true:=cl.2 (Or.inl e1)
    rw[e1];clear cl e1 ID;go_wp2_with fail
    go_meet
    case rel=>exact ⟨by rw[hv],rfl⟩
   ·have hv:bad=false:=by
     cases hb:bad with
     | false=>rfl
     | true=>rcases cl.1 hb with e | e;rw[e1] at e;cases e;exact absurd e.1 e2
    have Qw:(cW==58)=false:=by simpa using e2
    rw[e1];clear cl e1 e2 ID;go_wp2_with fail
    go_meet
    case rel=>exact ⟨by rw[hv],rfl⟩
   ·have hv:bad=true:=cl.2 (Or.inr ⟨e2,Or.inl e3⟩)
    have Qw:(cW==58)=true:=by simpa using e2
    have bA:(kA==0)=false:=by simpa using e3
    have Ts:(kA !=0)=true:=by unfold bne;rw[bA];rfl
    rw[e1];clear cl e1 e2 e3 ID;go_wp2_with fail
    go_meet
    case rel=>exact ⟨by rw[hv],rfl⟩
   ·have hv:bad=nb:=by
     cases hb:bad with
     | false=>
      cases dt:nb with
      | false=>rfl
      | true=>rw [cl.2 (Or.inr ⟨e2,Or.inr dt⟩)] at hb;cases hb
     | true=>rcases cl.1 hb with e | e;rw[e1] at e;cases e;rcases e.2 with e | e;exact absurd e3 e;exact e.symm
    have Qw:(cW==58)=true:=by simpa using e2
    have bA:(kA==0)=true:=by simpa using e3
    have Ts:(kA !=0)=false:=by unfold bne;rw[bA];rfl
    rw[e1];clear cl e1 e2 e3 ID;go_wp2_with fail
    go_meet
    case rel=>exact ⟨by rw[hv],rfl⟩
  case rest=>
   obtain⟨rfl,rfl⟩:=hcut;clear Mw ID Vr Vv y9
   go_upto_if 91 with (fail)
   go_cut [] from 9 (fun wg=>Hid (SFl g wg B cb {r with s:=s8})∧Hid (CmB wg cb cW 0 (.slice none 0 0) false false 0)∧Hid (ae (·=g.x) w wg))
   case first=>
    have C1:=L5.out;have cl:=AB.out
    cases hb:bad with
    | true=>
     rw[if_pos (cl.1 hb)] at C1;have eO:=aB g wf s7 h5 3 s6.i BI;rw[C1] at eO;clear C1 cl hb AB L5;go_wp2_with fail;refine eO.mono ?_;rintro e wg ⟨rfl,IW,PM⟩;go_wp2_with fail
     go_meet
     case rel=>exact ⟨S5.moved IW PM,C5.keeps PM sx,aW O5 PM⟩
    | false=>
     rw[if_neg (fun e=>by rw[cl.2 e] at hb;cases hb)] at C1;rw[C1] at S5;clear C1 cl hb AB L5;go_wp2_with fail
     go_meet
     case rel=>exact ⟨S5,C5,O5⟩
   case rest=>
    generalize wc=wg at*
    have S6:=hcut.1.out;have C6:=hcut.2.1.out;have O6:=hcut.2.2.out;clear hcut S5 C5 O5 h5 AB L5;obtain⟨MJ,MN,q1,q2⟩:=S6.scn.cells;have c5:=(q1 5 _ rfl).1;have f5:=(q1 5 _ rfl).2;have c3:=(q1 3 _ rfl).1;have y9:=C6.known.1;obtain⟨da,eH,Av,Hr⟩:=Rf.hd_parts L0.out;clear q1 q2;by_cases he:HD.s.e=0
    ·obtain⟨mg,At,MF⟩:=Hr he
     have hR:=L3.out;rw[if_pos he,da,eH,MF] at hR;obtain⟨cC,aL,dJ⟩:=AD.out;obtain⟨eu,jO,p8⟩:=dJ he;rw[da] at jO p8;have Rq:s8.e=0:=by rw[←MF];exact he
     have Uh:r.s.i<s8.i:=by rw[←MF];exact(aL he).2
     have Fv:s8.count=r.s.count:=by rw[←Av];exact cC
     have gC:0≤s8.count:=by rw[Fv];exact Dc.out.1
     have TW:¬(40:Int)≤s8.count:=by omega
     have bE:(s8.e==0)=true:=by simpa using Rq
     have Tt:(s8.e !=0)=false:=by unfold bne;rw[bE];rfl
     have NN:Rf.Cnt {r with s:= {s8 with count:=s8.count+1}}:=by
      have h1:=Dc.out;unfold Rf.Cnt at*
      simp only;omega
     clear Fv;obtain⟨t10,t101,t102⟩:=C6.at 10 (by decide);obtain⟨t21,t211,t212⟩:=C6.at 21 (by decide);have C7:CmB (wg.setCell ⟨cb,10,none⟩ (.int .i64 (s6.i:Int))) cb cW s6.i (.slice none 0 0) false false 0:=C6.set 10 (.int .i64 (s6.i:Int)) rfl rfl rfl rfl rfl rfl;have C8:CmB ((wg.setCell ⟨cb,10,none⟩ (.int .i64 (s6.i:Int))).setCell ⟨cb,21,none⟩ (.int .i64 s8.count)) cb cW s6.i (.slice none 0 0) false false 0:=C7.set 21 (.int .i64 s8.count) rfl rfl rfl rfl rfl rfl;have fi:g.L≠ []→cb≠g.lb:=fun e=>by have:=S6.hl e;omega
     have Hf:cb≠g.pb:=by have:=S6.hp;omega
     have sx:cb≠g.x:=Hu;have S7:SFl g (wg.setCell ⟨cb,10,none⟩ (.int .i64 (s6.i:Int))) B cb {r with s:=s8}:=S6.moved2 (S6.scn.cmdSet sx fi Hf (ae.refl _ _) 10 _) C6.typ ((af wg cb 10 _).mono (fun _ _ e=>Or.inr e));have S8:SFl g ((wg.setCell ⟨cb,10,none⟩ (.int .i64 (s6.i:Int))).setCell ⟨cb,21,none⟩ (.int .i64 s8.count)) B cb {r with s:=s8}:=S7.moved2 (S7.scn.cmdSet sx fi Hf (ae.refl _ _) 21 _) C7.typ ((af _ cb 21 _).mono (fun _ _ e=>Or.inr e));have S9:SFl g (((wg.setCell ⟨cb,10,none⟩ (.int .i64 (s6.i:Int))).setCell ⟨cb,21,none⟩ (.int .i64 s8.count)).setCell ⟨g.x,5,none⟩ (.int .i64 (s8.count+1))) B cb {r with s:= {s8 with count:=s8.count+1}}:=S8.counted;have C9:=C8.keeps (af _ g.x 5 (.int .i64 (s8.count+1))) sx;have O9:ae (fun b=>b=g.x∨b=cb) w (((wg.setCell ⟨cb,10,none⟩ (.int .i64 (s6.i:Int))).setCell ⟨cb,21,none⟩ (.int .i64 s8.count)).setCell ⟨g.x,5,none⟩ (.int .i64 (s8.count+1))):=((O6.trans (af _ cb 10 _) (U:=fun b=>b=g.x∨b=cb) (fun _ e=>Or.inl e) (fun _ _ e=>Or.inr e)).trans (af _ cb 21 _) (fun _ e=>e) (fun _ _ e=>Or.inr e)).trans (af _ g.x 5 _) (fun _ e=>e) (fun _ _ e=>Or.inl e);have OM:r.labs.length≤900:=by have h1:=Dc.out.2.1;have h2:=Dc.out.2.2.1;omega
     have OH:r.jumps.length≤900:=by have h1:=Dc.out.2.1;have h2:=Dc.out.2.2.2;omega
     clear S7 S8 C7 C8 S6 C6 O6 fi Hf sx L0 L3 AD cC aL dJ eu da eH Av Hr MF he Rq;by_cases bU:cW=123
     ·have h5:=jO bU
      have CM:¬(5:Int)≤(nest:Int):=by omega
      rw[if_pos bU] at hR;have AK:(cW==123)=true:=by simpa using bU
      have JH:Hid _:=hR;have V2:Hid _:=p8;clear hR At p8 jO bU;go_upto_region 28 with (fail)
      generalize (((wg.setCell ⟨cb,10,none⟩ (.int .i64 (s6.i:Int))).setCell ⟨cb,21,none⟩ (.int .i64 s8.count)).setCell ⟨g.x,5,none⟩ (.int .i64 (s8.count+1)))=w9 at*
      have VV:=C9.known.1;obtain⟨t20,t201,t202⟩:=C9.at 20 (by decide);clear y9 t101 t102 t211 t212 c5 f5 c3;have dm:=SD.out (nest+1) (by omega) g w9 B _ (S9.more (Nat.le_of_lt C9.typ.lt)) NN (fun _=>by have:=yG.out;show g.L.length<s8.i+f;omega);have Fu:((nest+1:Nat):Int)=(nest:Int)+1:=by omega
      rw[Fu] at dm;have JI:=JH.out;rw[JI] at dm;clear JI Fu;go_wp2_with fail;refine dm.mono ?_;intro e wj hP;obtain⟨xa,xn,xc,rfl,xt,xk,xf,cu⟩:=yS iR hB S9 C9.typ O9 hP;have WR:=xk 20 (by decide) _ t201;have Vt:=xf 20 _ t201 t202;have HF:Hid _:=cu;clear hP cu xk xf S9 C9 O9 dm;go_wp2;go_ret;exact HF.out
     ·rw[if_neg bU] at hR
      have AK:(cW==123)=false:=by simpa using bU
      have Oh:=vg g _ B cb _ S9 cW s6.i _ C9 hB BI OM OH p8 bU;rw[hR] at Oh;clear hR At p8 jO bU;go_upto_region 28 with (fail)
      generalize (((wg.setCell ⟨cb,10,none⟩ (.int .i64 (s6.i:Int))).setCell ⟨cb,21,none⟩ (.int .i64 s8.count)).setCell ⟨g.x,5,none⟩ (.int .i64 (s8.count+1)))=w9 at*
      have VV:=C9.known.1;clear y9 t101 t102 t211 t212 c5 f5 c3;go_wp2_with fail;refine Oh.mono ?_;rintro e wj ⟨rfl,hP⟩;have HF:Hid _:=wC iR C9.typ O9 hP;clear hP S9 C9 O9 Oh;go_wp2;go_ret;exact HF.out
    ·have hR:=L3.out
     rw[if_neg he] at hR;have Dx:=L0.out;have bE:(HD.s.e==0)=false:=by simpa using he
     have Tt:(HD.s.e !=0)=true:=by unfold bne;rw[bE];rfl
     have bC:∀W,Scn g W HD.s→ae (·=g.x) wg W→IC g w B R (.returned (.pointer (some ⟨cb,0,none⟩))) W∧W.cell? ⟨g.x,3,none⟩=some (.int .i64 HD.s.e):=fun W hs o=>by
      rw[←hR];obtain⟨_,_,z1,_⟩:=hs.cells;exact⟨Dl iR (S6.moved hs o) (C6.typ.keeps o Hu) (aW O6 o),(z1 3 _ rfl).1⟩
     have cu:Hid _:=bC;have cU:=S6.scn;have RP:∀W,ae (·=g.x) wg W→W.cell? ⟨cb,9,none⟩=some (.int .i64 cW):=fun W o=>o.keeps y9 Hu;have Nd:Hid _:=RP;clear bC hR L3 AD S6 C6 O6 da eH Av Hr he L0 RP;have qW:(if cW=123∧5≤nest then Rf.no g.pl (if 40≤s8.count then Rf.no g.pl s8 5 s6.i else s8) 6 s6.i else (if 40≤s8.count then Rf.no g.pl s8 5 s6.i else s8))=HD.s:=by rw[←Dx]
     clear Dx;by_cases mg:40≤s8.count
     ·rw[if_pos mg] at qW
      have CX:=aB g wg s8 cU 5 s6.i BI;generalize Rf.no g.pl s8 5 s6.i=s9 at*
      by_cases bU:cW=123
      ·have AK:(cW==123)=true:=by simpa using bU
       by_cases h5:5≤nest
       ·have CM:(5:Int)≤(nest:Int):=by omega
        rw[if_pos ⟨bU,h5⟩] at qW;have I0:=fun W (hW:Scn g W s9)=>aB g W s9 hW 6 s6.i BI;rw[qW] at I0;have SL:Hid _:=I0;clear qW I0 bU h5;go_wp2_with fail;refine CX.mono ?_;rintro e wh ⟨rfl,hh,oh⟩;have Sy:=Nd.out wh oh;go_wp2_with fail;refine(SL.out _ hh).mono ?_;rintro e wi ⟨rfl,hi,oi⟩;obtain⟨tK,JT⟩:=cu.out wi hi (aW oh oi);have HF:Hid _:=tK;clear tK cu hi hh;go_wp2;go_ret;exact HF.out
       ·have CM:¬(5:Int)≤(nest:Int):=by omega
        rw[if_neg (fun e=>h5 e.2)] at qW;rw[qW] at CX;clear qW bU h5;go_wp2_with fail;refine CX.mono ?_;rintro e wh ⟨rfl,hh,oh⟩;have Sy:=Nd.out wh oh;obtain⟨tK,JT⟩:=cu.out wh hh oh;have HF:Hid _:=tK;clear tK cu hh;go_wp2;go_ret;exact HF.out
      ·have AK:(cW==123)=false:=by simpa using bU
       rw[if_neg (fun e=>bU e.1)] at qW;rw[qW] at CX;clear qW bU;go_wp2_with fail;refine CX.mono ?_;rintro e wh ⟨rfl,hh,oh⟩;have Sy:=Nd.out wh oh;obtain⟨tK,JT⟩:=cu.out wh hh oh;have HF:Hid _:=tK;clear tK cu hh;go_wp2;go_ret;exact HF.out
     ·rw[if_neg mg] at qW
      by_cases bU:cW=123
      ·have AK:(cW==123)=true:=by simpa using bU
       by_cases h5:5≤nest
       ·have CM:(5:Int)≤(nest:Int):=by omega
        rw[if_pos ⟨bU,h5⟩] at qW;have I0:=aB g wg s8 cU 6 s6.i BI;rw[qW] at I0;clear qW bU h5;go_wp2_with fail;refine I0.mono ?_;rintro e wi ⟨rfl,hi,oi⟩;obtain⟨tK,JT⟩:=cu.out wi hi oi;have HF:Hid _:=tK;clear tK cu hi;go_wp2;go_ret;exact HF.out
       ·have CM:¬(5:Int)≤(nest:Int):=by omega
        rw[if_neg (fun e=>h5 e.2)] at qW;rw[qW] at cU;obtain⟨tK,JT⟩:=cu.out wg cU (ae.refl _ _);have HF:Hid _:=tK;clear qW bU h5 tK cu c3;go_wp2;go_ret;exact HF.out
      ·have AK:(cW==123)=false:=by simpa using bU
       rw[if_neg (fun e=>bU e.1)] at qW;rw[qW] at cU;obtain⟨tK,JT⟩:=cu.out wg cU (ae.refl _ _);have HF:Hid _:=tK;clear qW bU tK cu c3;go_wp2;go_ret;exact HF.out
end
end Go.Proofs.YtbiobhghnldckaaGreatDoor
