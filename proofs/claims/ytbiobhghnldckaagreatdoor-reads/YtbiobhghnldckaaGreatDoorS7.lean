/- Proved: adzeref's name. Conditions: the Scan lies in memory as 'Scn' says. -/
import Derived.Test.YtbiobhghnldckaaGreatDoorS6
namespace Go.Proofs.YtbiobhghnldckaaGreatDoor
set_option linter.unusedVariables false
set_option maxRecDepth 100000
set_option maxHeartbeats 6400000
section
open Go.RowKit
attribute [local go_sem ↓] Go.wp_at_zero Go.wp_at_succ
def ff (g:SG) (v:Value) (nm:List Int):Prop:=∃ra rc,v=.slice ra nm.length rc∧(nm≠ []→∃o,ra=some ⟨g.lb,o,none⟩∧o+nm.length≤g.L.length∧∀j,j<nm.length→Adz.peek g.L (o+j)=nm.getD j 0)
def Rf.lS (L:List Int) (s:SS):SS:= {s with i:=s.i+(Rf.letters L s).length}
theorem Rf.l_go {L:List Int}{s:SS} (h:Adz.isLetter (Rf.now L s)=true):Rf.lS L s=Rf.lS L {s with i:=s.i+1}:=by
 unfold Rf.lS Rf.letters;unfold Rf.now at h;by_cases he:s.e=0
 ·rw[if_pos he] at h
  simp only[if_pos he];unfold Adz.lettersOf;rw[Adz.drop_peek (Adz.lt_of_letter h),List.takeWhile_cons,if_pos h,List.length_cons];congr 1;omega
 ·rw[if_neg he] at h
  cases h
theorem Rf.l_stop {L:List Int}{s:SS} (h:Adz.isLetter (Rf.now L s)=false):Rf.lS L s=s:=by
 unfold Rf.lS Rf.letters;unfold Rf.now at h;by_cases he:s.e=0
 ·rw[if_pos he] at h
  simp only[if_pos he];have:Adz.lettersOf L s.i= []:=Adz.takeWhile_stop h;rw[this]
  rfl
 ·simp[he]
theorem Rf.no_i (pl:List Int) (s:SS) (x:Int) (a:Nat):(Rf.no pl s x a).i=s.i:=by
 unfold Rf.no;split <;> rfl
theorem Rf.letters_at (L:List Int) (s:SS) (j:Nat) (hj:j<(Rf.letters L s).length):Adz.peek L (s.i+j)=(Rf.letters L s).getD j 0:=by
 unfold Rf.letters at*
 by_cases he:s.e=0
 ·rw[if_pos he] at hj ⊢
  have hp:Adz.lettersOf L s.i <+:L.drop s.i:=List.takeWhile_prefix _;have hl:=hp.length_le
  have h1:(Adz.lettersOf L s.i)[j]? =(L.drop s.i)[j]? :=by
   obtain⟨t,ht⟩:=hp;rw[←ht,List.getElem?_append_left hj]
  unfold Adz.peek;simp only[List.getD_eq_getElem?_getD];rw[h1,List.getElem?_drop];have:s.i+j<L.length:=by rw[List.length_drop] at hl;omega
  rw[List.getElem?_eq_getElem this]
  rfl
 ·rw[if_neg he] at hj
  simp at hj
theorem mH (g:SG) (w:World) (s:SS) (h:Scn g w s):
 Calls Tryz.prog 109 #[.pointer (some ⟨g.x,0,none⟩)] w fun e w'=>∃v,e=.returned v∧ff g v (Rf.letters g.L s)∧Scn g w' (Rf.name g.L g.pl s)∧ae (·=g.x) w w':=by
 obtain⟨T,hT⟩:∃T,Rf.lS g.L s=T:=⟨_,rfl⟩;obtain⟨F,hF⟩:∃F,Rf.name g.L g.pl s=F:=⟨_,rfl⟩;obtain⟨nm,dx⟩:∃nm,Rf.letters g.L s=nm:=⟨_,rfl⟩;have bJ:=Rf.letters_at g.L s;rw[dx] at bJ;have N9:T= {s with i:=s.i+nm.length}:=by rw[←hT,←dx];rfl
 have QR:F=if 8<nm.length then Rf.no g.pl T 4 s.i else T:=by rw[←hF,N9,←dx];rfl
 rw[hF,dx];have HT:Hid _:=hT;have Js:Hid _:=QR;have Qu:Hid _:=N9;have L7:Hid _:=bJ;clear hT hF QR dx N9 bJ;obtain⟨la,pc,k1,k2⟩:=h.cells;have c2:=(k1 2 _ rfl).1;clear k1 k2;have eN:=h.le;have dy:=h.small;go_enter Tryz.func109,Tryz.ntmps109;go_wp2_with fail
 go_loopg [] (g.L.length - s.i) (fun k wr=>∃sj:SS,k+sj.i=g.L.length∧Hid (Rf.lS g.L sj=T)∧Hid (Scn g wr sj)∧Hid (ae (·=g.x) w wr))
 case atStart=>exact ⟨s,by omega,HT,h,ae.refl _ _⟩
 case round=>
  obtain⟨sj,hk,hS,hC,hO⟩:=hrel;have aU:Scn g wr sj:=hC;have bQ:ae (·=g.x) w wr:=hO;have HK:Hid _:=hk;clear hC hO hk;obtain⟨la,pc,k1,k2⟩:=aU.cells;have c0:=(k1 0 _ rfl).1;have c2:=(k1 2 _ rfl).1;have f2:=(k1 2 _ rfl).2;have hle:=aU.le;have kE:=az g wr sj aU;have dK:=fun n=>az g (wr.drewN n) sj (aU.drewN n)
  cases hd:Adz.isLetter (Rf.now g.L sj) with
  | true=>
   have hr:97≤Rf.now g.L sj∧Rf.now g.L sj≤122:=by simpa[Adz.isLetter] using hd
   obtain⟨he,aw,DV⟩:=cr aU (by omega);have fm:=hS.out;rw[Rf.l_go hd] at fm;have CH:Hid _:=fm;have HF:Hid _:=fun n=>(aU.drewN n).step aw;have wU:=hr.1;have DZ:=hr.2;clear hd DV fm hS he k1 k2 HT hr;generalize Rf.now g.L sj=r at*
   have HW:Hid _:=dK;clear dK;go_wp2_with fail;refine kE.mono ?_;rintro e w1 ⟨rfl,n1,rfl⟩;go_wp2_with fail;refine(HW.out n1).mono ?_;rintro e w2 ⟨rfl,n2,rfl⟩;go_wp2;go_roundg (gk - 1)
   case measure=>have:=HK.out;omega
   case rel=>exact ⟨{sj with i:=sj.i+1},by have:=HK.out;show gk - 1+(sj.i+1)=_;omega,CH,(HF.out _).1,(bQ.drewN _).trans (HF.out _).2 (fun _ e=>e) (fun _ _ e=>e)⟩
  | false=>
   have fm:=hS.out;rw[Rf.l_stop hd] at fm;subst fm;have Mz:sj.i=s.i+nm.length:=by have:=congrArg SS.i Qu.out;exact this
   have iQ:Rf.now g.L sj<97∨(97≤Rf.now g.L sj∧122<Rf.now g.L sj):=by
    by_cases h1:97≤Rf.now g.L sj
    ·right
     refine⟨h1,?_⟩;by_cases h2:Rf.now g.L sj≤122
     ·exfalso
      have:Adz.isLetter (Rf.now g.L sj)=true:=by simp[Adz.isLetter];omega
      rw[this] at hd
      cases hd
     ·omega
    ·left;omega
   have RB:=aU.cap;have hF:=Js.out;have eO:=fun n=>aB g (wr.drewN n) sj (aU.drewN n) 4 s.i eN;have HW:Hid _:=dK;have HN:Hid _:=eO;have HJ:Hid _:=Mz;clear hd hS HT k1 k2 Js dK eO Qu Mz;generalize Rf.now g.L sj=r at*
   by_cases h8:8<nm.length
   ·rw[if_pos h8] at hF
    subst hF;have Up:8<(sj.i:Int) - (s.i:Int):=by have:=HJ.out;omega
    rcases iQ with hr |⟨hr,DZ⟩
    ·go_wp2_with fail
     refine kE.mono ?_;rintro e w1 ⟨rfl,n1,rfl⟩;go_wp2_with fail;refine(HN.out _).mono ?_;rintro e w2 ⟨rfl,h2,o2⟩;obtain⟨LB,LP,q1,q2⟩:=h2.cells;have d0:=(q1 0 _ rfl).1;have d2:=(q1 2 _ rfl).1;rw[Rf.no_i] at d2;have wP:(s.i:Int)≤(sj.i:Int):=by have:=HJ.out;omega
     have ct:(sj.i:Int)≤(g.lc:Int):=by omega
     by_cases hL:g.L= []
     ·have iS:=q2.1 hL
      subst iS;have e1:s.i=0:=by rw[hL] at eN;simpa using eN
      have e2:sj.i=0:=by rw[hL] at hle;simpa using hle
      have HL:Hid (ff g (.slice none 0 0) nm):=by
       have h0:nm= []:=List.eq_nil_of_length_eq_zero (by have:=HJ.out;omega);exact⟨none,0,by rw[h0];rfl,fun e=>absurd h0 e⟩
      have e3:g.L.length=0:=by rw[hL];rfl
      have e4:g.lc=0:=aU.cap0 hL;clear q1 q2;rw[e2] at d2;rw[e3,e4] at d0;go_wp2_with fail
      go_quiet (fail)
      go_wp2;go_ret;exact⟨_,rfl,HL.out,h2.drewN _,((bQ.drewN _).trans o2 (fun _ e=>e) (fun _ _ e=>e):ae (·=g.x) w w2).drewN _⟩
     ·have iS:=q2.2 hL
      subst iS
      have HL:Hid (ff g (.slice (some ⟨g.lb,s.i,none⟩) (sj.i - s.i) (g.lc - s.i)) nm):=by
       have hj:=HJ.out;exact⟨_,_,by rw[show sj.i - s.i=nm.length by omega],fun _=>⟨s.i,rfl,by omega,L7.out⟩⟩
      clear q1 q2;go_wp2_with fail
      go_quiet (fail)
      go_wp2;go_ret;exact⟨_,rfl,HL.out,h2.drewN _,((bQ.drewN _).trans o2 (fun _ e=>e) (fun _ _ e=>e):ae (·=g.x) w w2).drewN _⟩
    ·go_wp2_with fail
     refine kE.mono ?_;rintro e w1 ⟨rfl,n1,rfl⟩;go_wp2_with fail;refine(HW.out n1).mono ?_;rintro e w1 ⟨rfl,n2,rfl⟩;go_wp2_with fail;refine(HN.out _).mono ?_;rintro e w2 ⟨rfl,h2,o2⟩;obtain⟨LB,LP,q1,q2⟩:=h2.cells;have d0:=(q1 0 _ rfl).1;have d2:=(q1 2 _ rfl).1;rw[Rf.no_i] at d2;have wP:(s.i:Int)≤(sj.i:Int):=by have:=HJ.out;omega
     have ct:(sj.i:Int)≤(g.lc:Int):=by omega
     by_cases hL:g.L= []
     ·have iS:=q2.1 hL
      subst iS;have e1:s.i=0:=by rw[hL] at eN;simpa using eN
      have e2:sj.i=0:=by rw[hL] at hle;simpa using hle
      have HL:Hid (ff g (.slice none 0 0) nm):=by
       have h0:nm= []:=List.eq_nil_of_length_eq_zero (by have:=HJ.out;omega);exact⟨none,0,by rw[h0];rfl,fun e=>absurd h0 e⟩
      have e3:g.L.length=0:=by rw[hL];rfl
      have e4:g.lc=0:=aU.cap0 hL;clear q1 q2;rw[e2] at d2;rw[e3,e4] at d0;go_wp2_with fail
      go_quiet (fail)
      go_wp2;go_ret;exact⟨_,rfl,HL.out,h2.drewN _,((bQ.drewN _).trans o2 (fun _ e=>e) (fun _ _ e=>e):ae (·=g.x) w w2).drewN _⟩
     ·have iS:=q2.2 hL
      subst iS
      have HL:Hid (ff g (.slice (some ⟨g.lb,s.i,none⟩) (sj.i - s.i) (g.lc - s.i)) nm):=by
       have hj:=HJ.out;exact⟨_,_,by rw[show sj.i - s.i=nm.length by omega],fun _=>⟨s.i,rfl,by omega,L7.out⟩⟩
      clear q1 q2;go_wp2_with fail
      go_quiet (fail)
      go_wp2;go_ret;exact⟨_,rfl,HL.out,h2.drewN _,((bQ.drewN _).trans o2 (fun _ e=>e) (fun _ _ e=>e):ae (·=g.x) w w2).drewN _⟩
   ·rw[if_neg h8] at hF
    subst hF;have Up:¬8<(F.i:Int) - (s.i:Int):=by have:=HJ.out;omega
    have h2:=aU
    rcases iQ with hr |⟨hr,DZ⟩
    ·go_wp2_with fail
     refine kE.mono ?_;rintro e w1 ⟨rfl,n1,rfl⟩;clear c0;obtain⟨LB,LP,q1,q2⟩:=h2.cells;have d0:=(q1 0 _ rfl).1;have d2:=(q1 2 _ rfl).1;have wP:(s.i:Int)≤(F.i:Int):=by have:=HJ.out;omega
     have ct:(F.i:Int)≤(g.lc:Int):=by omega
     by_cases hL:g.L= []
     ·have iS:=q2.1 hL
      subst iS;have e1:s.i=0:=by rw[hL] at eN;simpa using eN
      have e2:F.i=0:=by rw[hL] at hle;simpa using hle
      have HL:Hid (ff g (.slice none 0 0) nm):=by
       have h0:nm= []:=List.eq_nil_of_length_eq_zero (by have:=HJ.out;omega);exact⟨none,0,by rw[h0];rfl,fun e=>absurd h0 e⟩
      have e3:g.L.length=0:=by rw[hL];rfl
      have e4:g.lc=0:=aU.cap0 hL;clear q1 q2;rw[e2] at d2;rw[e3,e4] at d0;go_wp2_with fail
      go_quiet (fail)
      go_wp2;go_ret;exact⟨_,rfl,HL.out,by first | exact aU.drewN _ | exact(aU.drewN _).drewN _,by first | exact bQ.drewN _ | exact(bQ.drewN _).drewN _⟩
     ·have iS:=q2.2 hL
      subst iS;clear q1 q2;by_cases DR:g.lc=s.i
      ·have HL:Hid (∀X C,ff g (.slice X (F.i - s.i) C) nm):=fun X C=>by
        have hj:=HJ.out;have h0:nm= []:=List.eq_nil_of_length_eq_zero (by omega);exact⟨X,_,by rw[show F.i - s.i=nm.length by omega],fun e=>absurd h0 e⟩
       go_wp2_with fail
       go_quiet (fail)
       go_wp2;go_ret;exact⟨_,rfl,HL.out _ _,by first | exact aU.drewN _ | exact(aU.drewN _).drewN _,by first | exact bQ.drewN _ | exact(bQ.drewN _).drewN _⟩
      ·have HL:Hid (ff g (.slice (some ⟨g.lb,s.i,none⟩) (F.i - s.i) (g.lc - s.i)) nm):=by
        have hj:=HJ.out;exact⟨_,_,by rw[show F.i - s.i=nm.length by omega],fun _=>⟨s.i,rfl,by omega,L7.out⟩⟩
       go_wp2_with fail
       go_quiet (fail)
       go_wp2;go_ret;exact⟨_,rfl,HL.out,by first | exact aU.drewN _ | exact(aU.drewN _).drewN _,by first | exact bQ.drewN _ | exact(bQ.drewN _).drewN _⟩
    ·go_wp2_with fail
     refine kE.mono ?_;rintro e w1 ⟨rfl,n1,rfl⟩;go_wp2_with fail;refine(HW.out n1).mono ?_;rintro e w1 ⟨rfl,n2,rfl⟩;clear c0;obtain⟨LB,LP,q1,q2⟩:=h2.cells;have d0:=(q1 0 _ rfl).1;have d2:=(q1 2 _ rfl).1;have wP:(s.i:Int)≤(F.i:Int):=by have:=HJ.out;omega
     have ct:(F.i:Int)≤(g.lc:Int):=by omega
     by_cases hL:g.L= []
     ·have iS:=q2.1 hL
      subst iS;have e1:s.i=0:=by rw[hL] at eN;simpa using eN
      have e2:F.i=0:=by rw[hL] at hle;simpa using hle
      have HL:Hid (ff g (.slice none 0 0) nm):=by
       have h0:nm= []:=List.eq_nil_of_length_eq_zero (by have:=HJ.out;omega);exact⟨none,0,by rw[h0];rfl,fun e=>absurd h0 e⟩
      have e3:g.L.length=0:=by rw[hL];rfl
      have e4:g.lc=0:=aU.cap0 hL;clear q1 q2;rw[e2] at d2;rw[e3,e4] at d0;go_wp2_with fail
      go_quiet (fail)
      go_wp2;go_ret;exact⟨_,rfl,HL.out,by first | exact aU.drewN _ | exact(aU.drewN _).drewN _,by first | exact bQ.drewN _ | exact(bQ.drewN _).drewN _⟩
     ·have iS:=q2.2 hL
      subst iS;clear q1 q2;by_cases DR:g.lc=s.i
      ·have HL:Hid (∀X C,ff g (.slice X (F.i - s.i) C) nm):=fun X C=>by
        have hj:=HJ.out;have h0:nm= []:=List.eq_nil_of_length_eq_zero (by omega);exact⟨X,_,by rw[show F.i - s.i=nm.length by omega],fun e=>absurd h0 e⟩
       go_wp2_with fail
       go_quiet (fail)
       go_wp2;go_ret;exact⟨_,rfl,HL.out _ _,by first | exact aU.drewN _ | exact(aU.drewN _).drewN _,by first | exact bQ.drewN _ | exact(bQ.drewN _).drewN _⟩
      ·have HL:Hid (ff g (.slice (some ⟨g.lb,s.i,none⟩) (F.i - s.i) (g.lc - s.i)) nm):=by
        have hj:=HJ.out;exact⟨_,_,by rw[show F.i - s.i=nm.length by omega],fun _=>⟨s.i,rfl,by omega,L7.out⟩⟩
       go_wp2_with fail
       go_quiet (fail)
       go_wp2;go_ret;exact⟨_,rfl,HL.out,by first | exact aU.drewN _ | exact(aU.drewN _).drewN _,by first | exact bQ.drewN _ | exact(bQ.drewN _).drewN _⟩
def oD (w:World) (v:Value) (l:List Int):Prop:=∃ra rc,v=.slice ra l.length rc∧(l≠ []→∃b o,ra=some ⟨b,o,none⟩∧∀j,j<l.length→w.cell? ⟨b,o+j,none⟩=some (.int .i64 (l.getD j 0)))
theorem ff.nums {g:SG}{w:World}{s:SS}{v:Value}{l:List Int} (h:ff g v l) (hs:Scn g w s):oD w v l:=by
 obtain⟨ra,rc,e,h1⟩:=h;refine⟨ra,rc,e,fun hn=> ?_⟩;obtain⟨o,e1,e2,e3⟩:=h1 hn;refine⟨g.lb,o,e1,fun j hj=> ?_⟩;rw[hs.runes (o+j) (by omega),e3 j hj]
theorem Ch {w:World}{B:Nat}{a:Option Addr}{c:Nat}{l:List Int} (h:w.ownsRow B 3 1 (.slice a l.length c) l.length (l.map (.int .i64))):oD w (.slice a l.length c) l:=by
 refine⟨a,c,rfl,fun aJ=> ?_⟩;have hl:l.length≠0:=fun e=>aJ (List.eq_nil_of_length_eq_zero e)
 obtain⟨b,rfl⟩:∃b,a=some ⟨b,0,none⟩:=by
  rcases h.2 with ⟨e,h0⟩ |⟨gb,cap,cur,e,_⟩
  ·exact absurd h0 hl
  ·injection e with e1;exact⟨gb,e1⟩
 refine⟨b,0,rfl,fun j hj=> ?_⟩;have:=h.cellAt j (by omega);rw[Nat.zero_add,this,List.getElem?_map,List.getElem?_eq_getElem hj];simp[List.getD_eq_getElem?_getD,List.getElem?_eq_getElem hj]
theorem vp (w:World) (va vb:Value) (a b:List Int) (ha:oD w va a) (hb:oD w vb b) (iS:a.length≤1000) (zq:b.length≤1000):
 Calls Tryz.prog 59 #[va,vb] w fun e w'=>e=.returned (.bool (a==b))∧∃n,w'=w.drewN n:=by
 obtain⟨ra,rc,rfl,h1⟩:=ha;obtain⟨rb,rd,rfl,h2⟩:=hb;obtain⟨T,hT⟩:∃T,(a==b)=T:=⟨_,rfl⟩;rw[hT];have HT:Hid _:=hT;clear hT;by_cases hl:a.length=b.length
 ·have bl:((a.length:Int)==(b.length:Int))=true:=by simp[hl]
  have JR:((a.length:Int) !=(b.length:Int))=false:=by unfold bne;rw[bl];rfl
  have HL:Hid _:=hl;clear hl;go_enter Tryz.func59,Tryz.ntmps59;go_wp2_with fail
  go_loopg [5] a.length (fun k v wr=>∃j:Nat,v=.int .i64 (j:Int)∧k+j=a.length∧Hid (∃n,wr=w.drewN n)∧Hid (∀i,i<j→a.getD i 0=b.getD i 0))
  case atStart=>exact ⟨0,rfl,by omega,⟨0,rfl⟩,fun i hi=>absurd hi (Nat.not_lt_zero _)⟩
  case round=>
   obtain⟨j,rfl,hk,hn,hA⟩:=hrel;have HK:Hid _:=hk;clear hk;by_cases aw:j<a.length
   ·have G6:j<b.length:=by have:=HL.out;omega
    obtain⟨ba,oa,rfl,q1⟩:=h1 (fun e=>by rw[e] at aw;simp at aw);obtain⟨bb,ob,rfl,q2⟩:=h2 (fun e=>by rw[e] at G6;simp at G6)
    have x1:wr.cell? ⟨ba,oa+j,none⟩=some (.int .i64 (a.getD j 0)):=by
     obtain⟨n,hw⟩:=hn.out;rw[hw];exact q1 j aw
    have x2:wr.cell? ⟨bb,ob+j,none⟩=some (.int .i64 (b.getD j 0)):=by
     obtain⟨n,hw⟩:=hn.out;rw[hw];exact q2 j G6
    have d1:(j:Int)<(a.length:Int):=by omega
    have d2:(j:Int)<(b.length:Int):=by omega
    clear q1 q2 h1 h2 bl JR;by_cases heq:a.getD j 0=b.getD j 0
    ·have be:(a.getD j 0==b.getD j 0)=true:=by rw[heq];exact beq_self_eq_true _
     have Tu:(a.getD j 0 !=b.getD j 0)=false:=by unfold bne;rw[be];rfl
     have HX:Hid (∀i,i<j+1→a.getD i 0=b.getD i 0):=fun i hi=>by
      by_cases e:i=j
      ·subst e;exact heq
      ·exact hA.out i (by omega)
     clear heq;generalize a.getD j 0=ya at*
     generalize b.getD j 0=yb at*
     go_wp2_with fail
     go_quiet (fail)
     go_wp2;go_roundg (gk - 1)
     case measure=>have:=HK.out;omega
     case rel=>exact ⟨j+1,by simp,by have:=HK.out;omega,(by obtain⟨n,hw⟩:=hn.out;exact⟨n+_,by rw[hw,World.drewN_drewN]⟩:∃n,_=w.drewN n),HX.out⟩
    ·have be:(a.getD j 0==b.getD j 0)=false:=by simpa using heq
     have Tu:(a.getD j 0 !=b.getD j 0)=true:=by unfold bne;rw[be];rfl
     have hf:T=false:=by
      rw[←HT.out]
      cases h:(a==b) with
      | false=>rfl
      | true=>exact absurd (by rw[eq_of_beq h]) heq
     subst hf;clear heq;generalize a.getD j 0=ya at*
     generalize b.getD j 0=yb at*
     go_wp2_with fail
     go_quiet (fail)
     go_wp2;go_ret;exact⟨rfl,by obtain⟨n,hw⟩:=hn.out;exact⟨n+_,by rw[hw,World.drewN_drewN]⟩⟩
   ·have d1:¬(j:Int)<(a.length:Int):=by omega
    have hf:T=true:=by
     rw[←HT.out];have hl:=HL.out
     have:a=b:=by
      apply List.ext_getElem hl;intro i h1 h2;have:=hA.out i (by omega);rw[List.getD_eq_getElem?_getD,List.getD_eq_getElem?_getD,List.getElem?_eq_getElem h1,List.getElem?_eq_getElem h2] at this;exact this
     rw[this];simp
    subst hf;clear bl JR;go_wp2;go_ret;exact⟨rfl,hn.out⟩
 ·have bl:((a.length:Int)==(b.length:Int))=false:=by simp;omega
  have JR:((a.length:Int) !=(b.length:Int))=true:=by unfold bne;rw[bl];rfl
  have hf:T=false:=by
   rw[←HT.out]
   cases h:(a==b) with
   | false=>rfl
   | true=>exact absurd (congrArg List.length (eq_of_beq h)) hl
  subst hf;clear hl;go_enter Tryz.func59,Tryz.ntmps59;go_wp2;go_ret;exact⟨rfl,0,rfl⟩
theorem rC:∀(l:List Int) (k i:Nat),k<i→i<l.length→l.getD i 0=l.getD k 0→Adz.hasTwice l=true
 | [],k,i,_,hi,_=>by simp at hi
 | r::l,0,i+1,hk,hi,e=>by
  have Mx:i<l.length:=by simpa using hi
  have e2:l.getD i 0=r:=e;unfold Adz.hasTwice
  have:r∈l:=by
   rw[←e2,List.getD_eq_getElem?_getD,List.getElem?_eq_getElem Mx];exact List.getElem_mem Mx
  simp[this]
 | r::l,k+1,i+1,hk,hi,e=>by
  unfold Adz.hasTwice;rw[rC l k i (by omega) (by simpa using hi) e];simp
theorem vG:∀(l:List Int),(∀i,i<l.length→∀k,k<i→l.getD i 0≠l.getD k 0)→Adz.hasTwice l=false
 | [],_=>rfl
 | r::l,h=>by
  unfold Adz.hasTwice
  have h1:l.contains r=false:=by
   cases hc:l.contains r with
   | false=>rfl
   | true=>
    obtain⟨i,hi,e⟩:=List.getElem_of_mem (List.contains_iff_mem.1 hc)
    exact absurd (show(r::l).getD (i+1) 0=(r::l).getD 0 0 by
     show l.getD i 0=r;rw[List.getD_eq_getElem?_getD,List.getElem?_eq_getElem hi,e]
     rfl) (h (i+1) (by simpa using hi) 0 (by omega))
  rw[h1,vG l (fun i hi k hk=>h (i+1) (by simpa using hi) (k+1) (by omega))]
  rfl
theorem td (w:World) (va:Value) (a:List Int) (ha:oD w va a) (iS:a.length≤1000):
 Calls Tryz.prog 114 #[va] w fun e w'=>e=.returned (.bool (Adz.hasTwice a))∧∃n,w'=w.drewN n:=by
 obtain⟨ra,rc,rfl,h1⟩:=ha;obtain⟨T,hT⟩:∃T,Adz.hasTwice a=T:=⟨_,rfl⟩;rw[hT];have HT:Hid _:=hT;clear hT;go_enter Tryz.func114,Tryz.ntmps114;go_wp2_with fail
 go_loopg [3] a.length (fun k v wr=>∃j:Nat,v=.int .i64 (j:Int)∧k+j=a.length∧Hid (∃n,wr=w.drewN n)∧Hid (∀i,i<j→∀k,k<i→a.getD i 0≠a.getD k 0))
 case atStart=>exact ⟨0,rfl,by omega,⟨0,rfl⟩,fun i hi=>absurd hi (Nat.not_lt_zero _)⟩
 case round=>
  obtain⟨j,rfl,hk,hn,hA⟩:=hrel;have HK:Hid _:=hk;clear hk;by_cases aw:j<a.length
  ·have d1:(j:Int)<(a.length:Int):=by omega
   have V4:Hid _:=aw;obtain⟨ba,oa,rfl,q1⟩:=h1 (fun e=>by rw[e] at aw;simp at aw);have HQ:Hid _:=q1;clear q1 h1;go_wp2_with fail
   go_loopg [4] j (fun k v wr=>∃i:Nat,v=.int .i64 (i:Int)∧k+i=j∧Hid (∃n,wr=w.drewN n)∧Hid (∀k,k<i→a.getD j 0≠a.getD k 0))
   case atStart=>exact ⟨0,rfl,by omega,hn,fun i hi=>absurd hi (Nat.not_lt_zero _)⟩
   case round=>
    obtain⟨i,rfl,fP,sq,hB⟩:=hrel;have Qk:Hid _:=fP;clear fP;by_cases hi:i<j
    ·have d2:(i:Int)<(j:Int):=by omega
     have d3:(i:Int)<(a.length:Int):=by omega
     have x1:wr.cell? ⟨ba,oa+j,none⟩=some (.int .i64 (a.getD j 0)):=by
      obtain⟨n,hw⟩:=sq.out;rw[hw];exact HQ.out j aw
     have x2:wr.cell? ⟨ba,oa+i,none⟩=some (.int .i64 (a.getD i 0)):=by
      obtain⟨n,hw⟩:=sq.out;rw[hw];exact HQ.out i (by omega)
     by_cases heq:a.getD j 0=a.getD i 0
     ·have hf:T=true:=by
       rw[←HT.out];exact rC a i j hi aw heq
      subst hf;have be:(a.getD j 0==a.getD i 0)=true:=by rw[heq];exact beq_self_eq_true _
      clear heq;generalize a.getD j 0=ya at*
      generalize a.getD i 0=yb at*
      go_wp2_with fail
      go_quiet (fail)
      go_wp2;go_ret;exact⟨rfl,by obtain⟨n,hw⟩:=sq.out;exact⟨n+_,by rw[hw,World.drewN_drewN]⟩⟩
     ·have be:(a.getD j 0==a.getD i 0)=false:=by simpa using heq
      have HX:Hid (∀k,k<i+1→a.getD j 0≠a.getD k 0):=fun k hk=>by
       by_cases e:k=i
       ·subst e;exact heq
       ·exact hB.out k (by omega)
      clear heq hB;generalize a.getD j 0=ya at*
      generalize a.getD i 0=yb at*
      go_wp2_with fail
      go_quiet (fail)
      go_wp2;go_roundg (j - (i+1))
      case measure=>have:=Qk.out;omega
      case rel=>exact ⟨i+1,by simp,by omega,(by obtain⟨n,hw⟩:=sq.out;exact⟨n+_,by rw[hw,World.drewN_drewN]⟩:∃n,_=w.drewN n),HX.out⟩
    ·have d2:¬(i:Int)<(j:Int):=by omega
     have IY:i=j:=by have:=Qk.out;omega
     have HX:Hid (∀x,x<j+1→∀k,k<x→a.getD x 0≠a.getD k 0):=fun x hx k hk=>by
      by_cases e:x=j
      ·subst e;exact hB.out k (by omega)
      ·exact hA.out x (by omega) k hk
     clear IY hB;go_wp2;go_roundg (a.length - (j+1))
     case measure=>have:=HK.out;omega
     case rel=>exact ⟨j+1,by simp,by omega,sq,HX.out⟩
  ·have d1:¬(j:Int)<(a.length:Int):=by omega
   have hf:T=false:=by
    rw[←HT.out];exact vG a (fun i hi k hk=>hA.out i (by omega) k hk)
   subst hf;go_wp2;go_ret;exact⟨rfl,hn.out⟩
theorem fK (g:SG) (w:World) (s:SS) (h:Scn g w s) (b:ByteArray) (hb:b.size≤100):
 Calls Tryz.prog 153 #[.pointer (some ⟨g.x,0,none⟩),.string b] w fun e w'=>e=.returned (.int .i64 (Rf.escaped g.L g.pl (bytesOf b) s).1)∧Scn g w' (Rf.escaped g.L g.pl (bytesOf b) s).2∧ae (·=g.x) w w':=by
 obtain⟨la,pc,k1,k2⟩:=h.cells;have c2:=(k1 2 _ rfl).1;have hle:=h.le;have dy:=h.small;have eP:=ef g w s h;unfold Rf.escaped;clear k1 k2;by_cases za:(Rf.next g.L g.pl s).1=110
 ·rw[if_pos za]
  rw[za] at eP;clear za;generalize (Rf.next g.L g.pl s).2=s1 at*
  go_enter Tryz.func153,Tryz.ntmps153;go_wp2_with fail;refine eP.mono ?_;rintro e w1 ⟨rfl,h1,o1⟩;go_wp2;go_ret;exact⟨rfl,h1,o1⟩
 ·rw[if_neg za]
  have Tk:((Rf.next g.L g.pl s).1==110)=false:=by simpa using za
  have lE:=fun w'=>j4 w' b hb (Rf.next g.L g.pl s).1;clear za
  cases hc:(bytesOf b).contains (Rf.next g.L g.pl s).1 with
  | true=>
   rw[hc] at lE;simp only[if_true];clear hc;generalize (Rf.next g.L g.pl s).2=s1 at*
   generalize (Rf.next g.L g.pl s).1=r at*
   have HH:Hid _:=lE;clear lE;go_enter Tryz.func153,Tryz.ntmps153;go_wp2_with fail;refine eP.mono ?_;rintro e w1 ⟨rfl,h1,o1⟩;go_wp2_with fail;refine(HH.out _).mono ?_;rintro e w2 ⟨rfl,rfl⟩;go_wp2;go_ret;exact⟨rfl,h1,o1⟩
  | false=>
   rw[hc] at lE;simp only[Bool.false_eq_true,if_false];clear hc;generalize (Rf.next g.L g.pl s).2=s1 at*
   generalize (Rf.next g.L g.pl s).1=r at*
   have HH:Hid _:=lE;clear lE;go_enter Tryz.func153,Tryz.ntmps153;go_wp2_with fail;refine eP.mono ?_;rintro e w1 ⟨rfl,h1,o1⟩;go_wp2_with fail;refine(HH.out _).mono ?_;rintro e w2 ⟨rfl,rfl⟩;go_wp2_with fail;refine(aB g _ s1 h1 3 s.i hle).mono ?_;rintro e w3 ⟨rfl,h3,o3⟩;go_wp2;go_ret;exact⟨rfl,h3,aW o1 o3⟩
theorem mU:bytesOf ⟨#[92,46,91,93,40,41,42,43,63,94,36,47,45]⟩=Adz.escapable:=by decide
theorem gY (g:SG) (w:World) (s:SS) (h:Scn g w s) (b:ByteArray) (hb:b.size≤100):
 Calls Tryz.prog 179 #[.pointer (some ⟨g.x,0,none⟩),.string b] w fun e w'=>e=.returned (.int .i64 (Rf.plain g.L g.pl (bytesOf b) s).1)∧Scn g w' (Rf.plain g.L g.pl (bytesOf b) s).2∧ae (·=g.x) w w':=by
 obtain⟨la,pc,k1,k2⟩:=h.cells;have c2:=(k1 2 _ rfl).1;have hle:=h.le;have dy:=h.small;have eP:=ef g w s h;unfold Rf.plain;clear k1 k2;by_cases kZ:(Rf.next g.L g.pl s).1=92
 ·rw[if_pos kZ]
  rw[kZ] at eP;clear kZ;generalize (Rf.next g.L g.pl s).2=s1 at*
  have he:=fun w1 (h1:Scn g w1 s1)=>fK g w1 s1 h1 ⟨#[92,46,91,93,40,41,42,43,63,94,36,47,45]⟩ (by decide);simp only[mU] at he;generalize (Rf.escaped g.L g.pl Adz.escapable s1).1=r2 at*
  generalize (Rf.escaped g.L g.pl Adz.escapable s1).2=s2 at*
  have HE:Hid _:=he;clear he;go_enter Tryz.func179,Tryz.ntmps179;go_wp2_with fail;refine eP.mono ?_;rintro e w1 ⟨rfl,h1,o1⟩;go_wp2_with fail;refine(HE.out _ h1).mono ?_;rintro e w2 ⟨rfl,h2,o2⟩;go_wp2;go_ret;exact⟨rfl,h2,aW o1 o2⟩
 ·rw[if_neg kZ]
  have E9:((Rf.next g.L g.pl s).1==92)=false:=by simpa using kZ
  have lE:=fun w'=>j4 w' b hb (Rf.next g.L g.pl s).1;clear kZ
  cases hc:(bytesOf b).contains (Rf.next g.L g.pl s).1 with
  | false=>
   rw[hc] at lE;simp only[Bool.false_eq_true,if_false];clear hc;generalize (Rf.next g.L g.pl s).2=s1 at*
   generalize (Rf.next g.L g.pl s).1=r at*
   have HH:Hid _:=lE;clear lE;go_enter Tryz.func179,Tryz.ntmps179;go_wp2_with fail;refine eP.mono ?_;rintro e w1 ⟨rfl,h1,o1⟩;go_wp2_with fail;refine(HH.out _).mono ?_;rintro e w2 ⟨rfl,rfl⟩;go_wp2;go_ret;exact⟨rfl,h1,o1⟩
  | true=>
   rw[hc] at lE;simp only[if_true];clear hc;generalize (Rf.next g.L g.pl s).2=s1 at*
   generalize (Rf.next g.L g.pl s).1=r at*
   have HH:Hid _:=lE;clear lE;go_enter Tryz.func179,Tryz.ntmps179;go_wp2_with fail;refine eP.mono ?_;rintro e w1 ⟨rfl,h1,o1⟩;go_wp2_with fail;refine(HH.out _).mono ?_;rintro e w2 ⟨rfl,rfl⟩;go_wp2_with fail;refine(aB g _ s1 h1 3 s.i hle).mono ?_;rintro e w3 ⟨rfl,h3,o3⟩;go_wp2;go_ret;exact⟨rfl,h3,aW o1 o3⟩
theorem mG (g:SG) (w:World) (s:SS) (h:Scn g w s) (c:Int) (gC:0≤c):
 Calls Tryz.prog 110 #[.pointer (some ⟨g.x,0,none⟩),.int .i64 c] w fun e w'=>e=.returned (.tuple #[])∧Scn g w' (Rf.must g.L g.pl s c)∧ae (·=g.x) w w':=by
 have hle:=h.le;have dy:=h.small;have dR:=aQ g w s h c gC;unfold Rf.must;unfold Rf.take at dR;by_cases hn:Rf.now g.L s=c
 ·rw[if_pos hn]
  rw[if_pos hn] at dR;clear hn;go_enter Tryz.func110,Tryz.ntmps110;go_wp2_with fail;refine dR.mono ?_;rintro e w1 ⟨rfl,h1,o1⟩;go_wp2;go_end0;exact⟨rfl,h1,o1⟩
 ·rw[if_neg hn]
  rw[if_neg hn] at dR;clear hn;go_enter Tryz.func110,Tryz.ntmps110;go_wp2_with fail;refine dR.mono ?_;rintro e w1 ⟨rfl,h1,o1⟩;obtain⟨la,pc,k1,k2⟩:=h1.cells;have c2:=(k1 2 _ rfl).1;clear k1 k2;go_wp2_with fail;refine(aB g _ s h1 3 s.i hle).mono ?_;rintro e w3 ⟨rfl,h3,o3⟩;go_wp2;go_end0;exact⟨rfl,h3,aW o1 o3⟩
def xF (v:Value):Prop:=∃k gr sa sl sc b m,v=.agg #[.int .u8 k,.int .i64 gr,.slice sa sl sc,.bool b,.int .u8 m]
theorem tY:bytesOf ⟨#[91,40,41,42,43,63,94,36,47,10]⟩=Rf.pieceBut:=by decide
theorem qN:bytesOf ⟨#[93,94,45,91,47,10]⟩=Rf.setBut:=by decide
theorem Scn.keeps {S:Nat→Prop}{g:SG}{w w':World}{s:SS} (h:Scn g w s) (o:ae S w w') (hx:¬S g.x) (hl:g.L≠ []→¬S g.lb) (hp:¬S g.pb):Scn g w' s:=by
 obtain⟨la,pc,k1,k2⟩:=h.cells;exact⟨h.typ.keeps o hx,⟨la,pc,k1.keeps o hx,k2⟩,fun j hj=>o.keeps (h.runes j hj) (hl (fun e=>by rw[e] at hj;simp at hj)),fun j hj=>o.keeps (h.places j hj) hp,h.nl,h.np,h.le,h.small,h.good,h.cap,h.cap0⟩
theorem Scn.high {g:SG}{w w':World}{s:SS} (h:Scn g w s) (B:Nat) (hx:g.x<B) (hl:g.L≠ []→g.lb<B) (hp:g.pb<B) (o:ae (fun b=>B≤b) w w'):Scn g w' s:=
 h.keeps o (by omega) (fun e=>by have:=hl e;omega) (by omega)
theorem Scn.lts {g:SG}{w:World}{s:SS} (h:Scn g w s):g.x<w.heap.size∧(g.L≠ []→g.lb<w.heap.size)∧g.pb<w.heap.size:=
 ⟨h.typ.lt,fun e=>World.block_lt_of_cell? _ _ (h.runes 0 (List.length_pos_iff.2 e)),World.block_lt_of_cell? _ _ (h.places 0 (Nat.zero_le _))⟩
theorem bS (w:World) (b:Nat) (v0 v1 v2 v3 v4:Value):ae (fun x=>b≤x) w (((((w.setCell ⟨b,0,none⟩ v0).setCell ⟨b,1,none⟩ v1).setCell ⟨b,2,none⟩ v2).setCell ⟨b,3,none⟩ v3).setCell ⟨b,4,none⟩ v4):=
 ae.setCell (p:=⟨b,4,none⟩) (ae.setCell (p:=⟨b,3,none⟩) (ae.setCell (p:=⟨b,2,none⟩) (ae.setCell (p:=⟨b,1,none⟩) (ae.setCell (p:=⟨b,0,none⟩) (ae.refl _ w) (fun _=>Nat.le_refl _) _) (fun _=>Nat.le_refl _) _) (fun _=>Nat.le_refl _) _) (fun _=>Nat.le_refl _) _) (fun _=>Nat.le_refl _) _
structure PcS (g:SG) (w wr:World) (s:SS) (sv:Value):Prop where
 scn:Scn g wr s
 res:ai wr w.heap.size [.int .u8 0,.int .i64 0,.slice none 0 0,.bool false,.int .u8 0]
 it:∃b,ai wr (w.heap.size+1) [.int .u8 120,.int .i64 0,sv,.bool b,.int .u8 49]
 o:ae (·=g.x) w wr
 lt:w.heap.size+2≤wr.heap.size
theorem PcS.moved {g:SG}{w wr w':World}{s s':SS}{sv:Value} (h:PcS g w wr s sv) (hx:g.x<w.heap.size) (hs:Scn g w' s') (o:ae (·=g.x) wr w'):PcS g w w' s' sv:=by
 obtain⟨b,h1⟩:=h.it;exact⟨hs,h.res.keeps o (by omega),⟨b,h1.keeps o (by omega)⟩,aW h.o o,Nat.le_trans h.lt o.size⟩
theorem PcS.new {g:SG}{w:World}{s:SS} (h:Scn g w s):PcS g w ((w.alloc (.cells #[.int .u8 0,.int .i64 0,.slice none 0 0,.bool false,.int .u8 0] 200)).alloc (.cells #[.int .u8 120,.int .i64 0,.slice none 0 0,.bool false,.int .u8 49] 200)) s (.slice none 0 0):=by
 have o0:ae (fun _=>False) w ((w.alloc (.cells #[.int .u8 0,.int .i64 0,.slice none 0 0,.bool false,.int .u8 0] 200)).alloc (.cells #[.int .u8 120,.int .i64 0,.slice none 0 0,.bool false,.int .u8 49] 200)):=((ae.refl _ w).alloc _).alloc _;have zd:=ai.new (w.alloc (.cells #[.int .u8 0,.int .i64 0,.slice none 0 0,.bool false,.int .u8 0] 200)) #[.int .u8 120,.int .i64 0,.slice none 0 0,.bool false,.int .u8 49] 200;have hz:(w.alloc (.cells #[.int .u8 0,.int .i64 0,.slice none 0 0,.bool false,.int .u8 0] 200)).heap.size=w.heap.size+1:=by simp
 rw[hz] at zd;exact⟨h.keeps o0 id (fun _=>id) id,(ai.new w #[.int .u8 0,.int .i64 0,.slice none 0 0,.bool false,.int .u8 0] 200).alloc _,⟨_,zd⟩,o0.mono (fun _ _ e=>e.elim),by simp⟩
theorem PcS.mark {g:SG}{w wr:World}{s:SS}{sv:Value} (h:PcS g w wr s sv) (hl:Scn g w s∨True) (lx:g.x<w.heap.size) (ll:g.L≠ []→g.lb<w.heap.size) (lp:g.pb<w.heap.size) (b:Bool):PcS g w (wr.setCell ⟨w.heap.size+1,3,none⟩ (.bool b)) s sv:=by
 obtain⟨b0,h1⟩:=h.it;have o:=af wr (w.heap.size+1) 3 (.bool b);refine⟨h.scn.keeps o (by omega) (fun e=>by have:=ll e;omega) (by omega),h.res.keeps o (by omega),⟨b,h1.set 3 _⟩,h.o.trans o (fun _ e=>e) (fun x hx e=>by omega),Nat.le_trans h.lt o.size⟩
theorem PcS.quiet {g:SG}{w wr w':World}{s:SS}{sv:Value} (h:PcS g w wr s sv) (o:ae (fun _=>False) wr w'):PcS g w w' s sv:=by
 obtain⟨b,h1⟩:=h.it;exact⟨h.scn.keeps o id (fun _=>id) id,h.res.keeps o id,⟨b,h1.keeps o id⟩,h.o.trans o (fun _ e=>e) (fun _ _ e=>e.elim),Nat.le_trans h.lt o.size⟩
theorem PcS.pairs {g:SG}{w wr wb:World}{s:SS}{sv:Value} (h:PcS g w wr s sv) (lx:g.x<w.heap.size) (ll:g.L≠ []→g.lb<w.heap.size) (lp:g.pb<w.heap.size) (ob:ae (fun b=>w.heap.size+2≤b) wr wb) (PW:Value):PcS g w (wb.setCell ⟨w.heap.size+1,2,none⟩ PW) s PW:=by
 obtain⟨b0,h1⟩:=h.it;have o:=af wb (w.heap.size+1) 2 PW;refine⟨(h.scn.keeps ob (by omega) (fun e=>by have:=ll e;omega) (by omega)).keeps o (by omega) (fun e=>by have:=ll e;omega) (by omega),(h.res.keeps ob (by omega)).keeps o (by omega),⟨b0,(h1.keeps ob (by omega)).set 2 _⟩,(h.o.trans ob (U:=(·=g.x)) (fun _ e=>e) (fun x hx e=>by omega)).trans o (fun _ e=>e) (fun x hx e=>by omega),Nat.le_trans h.lt (Nat.le_trans ob.size o.size)⟩
theorem xo (g:SG) (w:World) (s:SS) (h:Scn g w s) (xS:Rf.now g.L s=46):
 Calls Tryz.prog 152 #[.pointer (some ⟨g.x,0,none⟩)] w fun e w'=>∃v,e=.returned v∧xF v∧Scn g w' (Rf.piece g.L g.pl s)∧ae (·=g.x) w w':=by
 have hle:=h.le;have dy:=h.small;obtain⟨F,hF⟩:∃F,Rf.piece g.L g.pl s=F:=⟨_,rfl⟩;rw[hF];unfold Rf.piece Rf.single at hF;obtain⟨lx,ll,lp⟩:=h.lts;have hP:=PcS.new h;have mq:=aQ g _ s hP.scn 46 (by decide);unfold Rf.take at mq;rw[if_pos xS] at hF mq;have HF:Hid _:=hF;clear hF xS;go_enter Tryz.func152,Tryz.ntmps152;go_wp2_with fail;refine mq.mono ?_;rintro e w1 ⟨rfl,h1,o1⟩;have P1:=hP.moved lx h1 o1;have P:=P1.mark (Or.inr trivial) lx ll lp true;obtain⟨Nk,Bf⟩:=P1.it;have k3:=Bf 3 _ rfl;clear Bf hP P1 h1 o1;go_wp2_with fail;generalize w1.setCell ⟨w.heap.size+1,3,none⟩ (.bool true)=wz at*
 have h1:=P.scn;obtain⟨AN,hN⟩:=P.it;have lA:=P.res;have oW:=P.o;have lz:=P.lt;obtain⟨MJ,MN,xe,Hz⟩:=h1.cells;have Nw:=(xe 2 _ rfl).1;have f92:=(xe 2 _ rfl).2;have m0:=hN 0 _ rfl;have m1:=hN 1 _ rfl;have m2:=hN 2 _ rfl;have m3:=hN 3 _ rfl;have m4:=hN 4 _ rfl;have v0:=lA 0 _ rfl;have v1:=lA 1 _ rfl;have v2:=lA 2 _ rfl;have v3:=lA 3 _ rfl;have v4:=lA 4 _ rfl;have gU:=h1.le;have ng:=h1.small;have pg:=az g _ _ h1;have oB:=HF.out;unfold Rf.many at oB;clear xe Hz HF P hN lA;have n1:¬(w.heap.size+1=g.x):=by omega
 have n2:¬(w.heap.size=g.x):=by omega
 by_cases mY:Rf.now g.L {s with i:=s.i+1}=42∨Rf.now g.L {s with i:=s.i+1}=43∨Rf.now g.L {s with i:=s.i+1}=63
 ·rw[if_pos mY] at oB
  subst oB;have wT:=(cr h1 (by omega)).2.1;have HO:Hid _:=oW;have HX:Hid _:=h1;generalize Rf.now g.L {s with i:=s.i+1}=r9 at*
  clear h1
  rcases mY with rfl | rfl | rfl
  all_goals
   go_wp2_with fail;refine pg.mono ?_;rintro e w9 ⟨rfl,n9,rfl⟩;go_wp2;have Hj:=fun m=>Scn.high (HX.out.drewN n9) w.heap.size lx ll lp (ae.setCell (S:=fun b=>w.heap.size≤b) (p:=⟨w.heap.size+1,4,none⟩) (ae.refl _ _) (fun _=>Nat.le_succ _) (.int .u8 m));have mZ:=fun m=>(Hj m).step wT;refine bodyPost_ret (v:=.agg #[.int .u8 120,.int .i64 0,.slice none 0 0,.bool AN,.int .u8 _]) (by simp[results,Tryz.results152,go_sem,v0,v1,v2,v3,v4];rfl) rfl ⟨_,rfl,⟨_,_,_,_,_,_,_,rfl⟩,Scn.high (mZ _).1 w.heap.size lx ll lp (bS _ _ _ _ _ _ _),?_⟩;exact(((HO.out.drewN n9).setCell (p:=⟨w.heap.size+1,4,none⟩) (fun e=>absurd e (by show ¬w.heap.size+1<w.heap.size;omega)) _).trans (mZ _).2 (fun _ e=>e) (fun _ _ e=>e)).trans (bS _ _ _ _ _ _ _) (fun _ e=>e) (fun b hb e=>absurd e (by omega))
 ·rw[if_neg mY] at oB
  subst oB;have q1:(Rf.now g.L {s with i:=s.i+1}==42)=false:=by simp;omega
  have q2:(Rf.now g.L {s with i:=s.i+1}==43)=false:=by simp;omega
  have q3:(Rf.now g.L {s with i:=s.i+1}==63)=false:=by simp;omega
  generalize Rf.now g.L {s with i:=s.i+1}=r9 at*
  go_wp2_with fail;refine pg.mono ?_;rintro e w9 ⟨rfl,n9,rfl⟩;go_wp2;refine bodyPost_ret (v:=.agg #[.int .u8 120,.int .i64 0,.slice none 0 0,.bool AN,.int .u8 49]) (by simp[results,Tryz.results152,go_sem,v0,v1,v2,v3,v4]) rfl ⟨_,rfl,⟨_,_,_,_,_,_,_,rfl⟩,Scn.high (h1.drewN n9) w.heap.size lx ll lp (bS _ _ _ _ _ _ _),?_⟩;exact(oW.drewN n9).trans (bS _ _ _ _ _ _ _) (fun _ e=>e) (fun b hb e=>absurd e (by omega))
theorem sZ (g:SG) (w:World) (s:SS) (h:Scn g w s) (xS:Rf.now g.L s≠46) (CN:Rf.now g.L s≠91):
 Calls Tryz.prog 152 #[.pointer (some ⟨g.x,0,none⟩)] w fun e w'=>∃v,e=.returned v∧xF v∧Scn g w' (Rf.piece g.L g.pl s)∧ae (·=g.x) w w':=by
 have hle:=h.le;have dy:=h.small;obtain⟨F,hF⟩:∃F,Rf.piece g.L g.pl s=F:=⟨_,rfl⟩;rw[hF];unfold Rf.piece Rf.single at hF;obtain⟨lx,ll,lp⟩:=h.lts;have hP:=PcS.new h;have mq:=aQ g _ s hP.scn 46 (by decide);unfold Rf.take at mq;rw[if_neg xS,if_neg CN] at hF;rw[if_neg xS] at mq;have nU:=fun w1 (h1:Scn g w1 s)=>aQ g w1 s h1 91 (by decide);have eX:=fun w1 (h1:Scn g w1 s)=>gY g w1 s h1 ⟨#[91,40,41,42,43,63,94,36,47,10]⟩ (by decide);simp only[tY] at eX;unfold Rf.take at nU;simp only[if_neg CN] at nU;generalize (Rf.plain g.L g.pl Rf.pieceBut s).1=r1 at*
 generalize (Rf.plain g.L g.pl Rf.pieceBut s).2=s1 at*
 have H2:Hid _:=nU;have HP:Hid _:=eX;have HF:Hid _:=hF;clear hF xS CN nU eX;go_enter Tryz.func152,Tryz.ntmps152;go_wp2_with fail;refine mq.mono ?_;rintro e w1 ⟨rfl,h1,o1⟩;have P1:=hP.moved lx h1 o1;go_wp2_with fail;refine(H2.out _ h1).mono ?_;rintro e w2 ⟨rfl,h2,o2⟩;have P2:=P1.moved lx h2 o2;go_wp2_with fail;refine(HP.out _ h2).mono ?_;rintro e w3 ⟨rfl,h3,o3⟩;have P3:=P2.moved lx h3 o3;have P:=(P3.pairs lx ll lp (ae.refl (fun b=>w.heap.size+2≤b) w3) (.slice (some ⟨w3.heap.size,0,none⟩) 2 2)).quiet ((ae.refl (fun _=>False) _).alloc (.cells #[.int .i64 r1,.int .i64 r1] 3));obtain⟨Nk,Bf⟩:=P3.it;have k2:=Bf 2 _ rfl;have lz:=P3.lt;have WY:w.heap.size+1<w3.heap.size:=by omega
 clear Bf hP P1 P2 h1 o1 h2 o2 h3 o3;go_wp2_with fail;generalize (w3.setCell ⟨w.heap.size+1,2,none⟩ (.slice (some ⟨w3.heap.size,0,none⟩) 2 2)).alloc (.cells #[.int .i64 r1,.int .i64 r1] 3)=wz at*
 have h1:=P.scn;obtain⟨AN,hN⟩:=P.it;have lA:=P.res;have oW:=P.o;obtain⟨MJ,MN,xe,Hz⟩:=h1.cells;have Nw:=(xe 2 _ rfl).1;have f92:=(xe 2 _ rfl).2;have m0:=hN 0 _ rfl;have m1:=hN 1 _ rfl;have m2:=hN 2 _ rfl;have m3:=hN 3 _ rfl;have m4:=hN 4 _ rfl;have v0:=lA 0 _ rfl;have v1:=lA 1 _ rfl;have v2:=lA 2 _ rfl;have v3:=lA 3 _ rfl;have v4:=lA 4 _ rfl;have gU:=h1.le;have ng:=h1.small;have pg:=az g _ _ h1;have oB:=HF.out;unfold Rf.many at oB;clear xe Hz HF P hN lA;have n1:¬(w.heap.size+1=g.x):=by omega
 have n2:¬(w.heap.size=g.x):=by omega
 by_cases mY:Rf.now g.L s1=42∨Rf.now g.L s1=43∨Rf.now g.L s1=63
 ·rw[if_pos mY] at oB
  subst oB;have wT:=(cr h1 (by omega)).2.1;have HO:Hid _:=oW;have HX:Hid _:=h1;generalize Rf.now g.L s1=r9 at*
  clear h1
  rcases mY with rfl | rfl | rfl
  all_goals
   go_wp2_with fail;refine pg.mono ?_;rintro e w9 ⟨rfl,n9,rfl⟩;go_wp2;have Hj:=fun m=>Scn.high (HX.out.drewN n9) w.heap.size lx ll lp (ae.setCell (S:=fun b=>w.heap.size≤b) (p:=⟨w.heap.size+1,4,none⟩) (ae.refl _ _) (fun _=>Nat.le_succ _) (.int .u8 m));have mZ:=fun m=>(Hj m).step wT;refine bodyPost_ret (v:=.agg #[.int .u8 120,.int .i64 0,.slice (some ⟨w3.heap.size,0,none⟩) 2 2,.bool AN,.int .u8 _]) (by simp[results,Tryz.results152,go_sem,v0,v1,v2,v3,v4];rfl) rfl ⟨_,rfl,⟨_,_,_,_,_,_,_,rfl⟩,Scn.high (mZ _).1 w.heap.size lx ll lp (bS _ _ _ _ _ _ _),?_⟩;exact(((HO.out.drewN n9).setCell (p:=⟨w.heap.size+1,4,none⟩) (fun e=>absurd e (by show ¬w.heap.size+1<w.heap.size;omega)) _).trans (mZ _).2 (fun _ e=>e) (fun _ _ e=>e)).trans (bS _ _ _ _ _ _ _) (fun _ e=>e) (fun b hb e=>absurd e (by omega))
 ·rw[if_neg mY] at oB
  subst oB;have q1:(Rf.now g.L s1==42)=false:=by simp;omega
  have q2:(Rf.now g.L s1==43)=false:=by simp;omega
  have q3:(Rf.now g.L s1==63)=false:=by simp;omega
  generalize Rf.now g.L s1=r9 at*
  go_wp2_with fail;refine pg.mono ?_;rintro e w9 ⟨rfl,n9,rfl⟩;go_wp2;refine bodyPost_ret (v:=.agg #[.int .u8 120,.int .i64 0,.slice (some ⟨w3.heap.size,0,none⟩) 2 2,.bool AN,.int .u8 49]) (by simp[results,Tryz.results152,go_sem,v0,v1,v2,v3,v4]) rfl ⟨_,rfl,⟨_,_,_,_,_,_,_,rfl⟩,Scn.high (h1.drewN n9) w.heap.size lx ll lp (bS _ _ _ _ _ _ _),?_⟩;exact(oW.drewN n9).trans (bS _ _ _ _ _ _ _) (fun _ e=>e) (fun b hb e=>absurd e (by omega))
end
section
namespace Rf
open Adz (Flt)
def Good (L:List Int):Prop:=∀j,j<L.length→0≤Adz.peek L j
def Er (s:SS) (f:Flt):Prop:=s.e=f.1∧s.p=f.2∧f.1≠0
theorem pH {L:List Int}{s:SS} (h:s.e≠0):now L s= -1:=by unfold now;rw[if_neg h]
theorem mB {pl:List Int}{s:SS}{x:Int}{a:Nat} (h:s.e≠0):no pl s x a=s:=by unfold no;rw[if_neg h]
theorem En {L pl:List Int}{s:SS} (h:s.e≠0):next L pl s=(-1,s):=by unfold next;rw[pH h,if_pos (by decide),mB h]
theorem yC {L:List Int}{s:SS}{c:Int} (h:s.e≠0) (hc:0≤c):take L s c=(false,s):=by unfold take;rw[pH h,if_neg (by omega)]
theorem kU {L:List Int}{s:SS}{g:Bool} (h:s.e≠0):skip L s g=s:=by unfold skip;rw[if_neg h]
theorem EV {L pl:List Int}{lo:Int×SS} (h:lo.2.e≠0):upto L pl lo=lo:=by
 unfold upto;rw[yC h (by decide)];simp
theorem members_er {L pl:List Int}{s:SS} (h:s.e≠0) (n:Nat) (b:Bool):members L pl n b s=s:=by
 cases n with
 | zero=>rfl
 | succ n=>unfold members;rw[if_neg h]
theorem Eh {L:List Int}{s:SS} (h:s.e≠0):many L s=s:=by unfold many;rw[pH h,if_neg (by decide)]
theorem Ec {L:List Int}{s:SS} (h:s.e≠0):line L s=s:=by unfold line;rw[if_neg h]
theorem pattern_er {L pl:List Int}{first:Nat}{n:Nat}{t:PS} (h:t.s.e≠0):pattern L pl first n t=t:=by
 cases n with
 | zero=>rfl
 | succ n=>unfold pattern;rw[if_neg h]
theorem replacement_er {L pl:List Int}{gr:Nat}{n:Nat}{s:SS} (h:s.e≠0):replacement L pl gr n s=s:=by
 cases n with
 | zero=>rfl
 | succ n=>unfold replacement;rw[if_neg h]
theorem runes_er {L pl:List Int}{n:Nat}{l:List Int}{s:SS} (h:s.e≠0):runes L pl n l s=(l,s):=by
 cases n with
 | zero=>rfl
 | succ n=>unfold runes;rw[if_neg h]
theorem flags_er {L pl:List Int}{n:Nat}{f:FgS} (h:f.s.e≠0):flags L pl n f=f:=by
 cases n with
 | zero=>rfl
 | succ n=>unfold flags;rw[if_neg h]
theorem mc {L pl:List Int}{n nest:Nat}{r:RS} (h:r.s.e≠0):commands L pl n nest r=r:=by
 cases n with
 | zero=>rfl
 | succ n=>unfold commands;rw[if_neg h]
theorem xy {L pl:List Int}{s:SS} (h:s.e≠0):tailEnd L pl s=s:=by
 unfold tailEnd;rw[kU h];simp only;rw[pH h,if_neg (by decide)]
theorem eZ (L:List Int) (i:Nat) (q k:Int):now L ⟨i,0,q,k⟩=Adz.peek L i:=rfl
theorem iX {L pl:List Int}{i:Nat}{q k:Int} (h:Adz.peek L i= -1):next L pl ⟨i,0,q,k⟩=(-1,⟨i,3,Adz.place pl i,k⟩):=by
 unfold next;rw[eZ,h,if_pos (by decide)]
 rfl
theorem kL {L pl:List Int}{i:Nat}{q k:Int} (h:0≤Adz.peek L i):next L pl ⟨i,0,q,k⟩=(Adz.peek L i,⟨i+1,0,q,k⟩):=by
 unfold next;rw[eZ,if_neg (by omega)]
theorem c8 {L:List Int} (hg:Good L) (i:Nat):(Adz.peek L i= -1∧L.length≤i)∨(0≤Adz.peek L i∧i<L.length):=by
 by_cases h:i<L.length
 ·exact Or.inr ⟨hg i h,h⟩
 ·exact Or.inl ⟨Adz.peek_ge (by omega),by omega⟩
theorem bD {L:List Int}{i:Nat} (h:0≤Adz.peek L i):i<L.length:=Adz.lt_of_peek (by omega)
theorem iL {L pl may:List Int} (hg:Good L) (hm:may.contains (-1)=false) (i:Nat) (q k:Int):
 (∀c i',Adz.escaped L pl may i=.ok (c,i')→escaped L pl may ⟨i,0,q,k⟩=(c,⟨i',0,q,k⟩)∧i'=i+1∧i<L.length∧0≤c)∧
 (∀f,Adz.escaped L pl may i=.error f→Er (escaped L pl may ⟨i,0,q,k⟩).2 f):=by
 unfold Adz.escaped escaped
 rcases c8 hg i with ⟨h1,h2⟩ |⟨h1,h2⟩
 ·rw[iX h1,h1]
  have G8:¬(-1:Int)∈may:=by simpa using hm
  refine⟨fun c i' h=> ?_,fun f h=> ?_⟩
  ·simp[G8] at h
  ·simp[G8] at h
   subst h;simp[G8,no,Er,Adz.wrong]
 ·rw[kL h1]
  by_cases c1:Adz.peek L i=110
  ·refine⟨fun c i' h=> ?_,fun f h=> ?_⟩
   ·simp only[c1,beq_self_eq_true,if_true] at h ⊢
    injection h with h;injection h with h3 h4;subst h3;subst h4;exact⟨rfl,rfl,h2,by decide⟩
   ·simp[c1] at h
  ·by_cases c2:may.contains (Adz.peek L i)=true
   ·refine⟨fun c i' h=> ?_,fun f h=> ?_⟩
    ·simp only[c2,beq_iff_eq,c1,if_false,if_true] at h ⊢
     injection h with h;injection h with h3 h4;subst h3;subst h4;exact⟨rfl,rfl,h2,h1⟩
    ·simp only[c2,beq_iff_eq,c1,if_false,if_true] at h
     cases h
   ·refine⟨fun c i' h=> ?_,fun f h=> ?_⟩
    ·simp only[c2,beq_iff_eq,c1,if_false] at h
     cases h
    ·simp only[c2,beq_iff_eq,c1,if_false] at h ⊢
     injection h with h;subst h;simp[no,Er,Adz.wrong]
theorem ry {L pl but but':List Int} (hg:Good L) (kZ:but.contains 92=false) (hb:∀c,0≤c→c≠92→(but.contains c=(c==10 || but'.contains c))) (i:Nat) (q k:Int):
 (∀c i',Adz.character L pl but' i=.ok (c,i')→plain L pl but ⟨i,0,q,k⟩=(c,⟨i',0,q,k⟩)∧i<i'∧i'≤L.length∧0≤c)∧
 (∀f,Adz.character L pl but' i=.error f→Er (plain L pl but ⟨i,0,q,k⟩).2 f):=by
 unfold Adz.character plain
 rcases c8 hg i with ⟨h1,h2⟩ |⟨h1,h2⟩
 ·rw[iX h1,h1]
  unfold Adz.plain;rw[h1];refine⟨fun c i' h=> ?_,fun f h=> ?_⟩
  ·simp at h
  ·simp at h
   subst h;simp only[Er,Adz.wrong];rw[if_neg (by decide)];simp only;split
   ·simp[no]
   ·simp
 ·rw[kL h1]
  by_cases c1:Adz.peek L i=92
  ·have ha:=iL hg (may:=Adz.escapable) (pl:=pl) (by decide) (i+1) q k
   simp only[c1,beq_self_eq_true,if_true];refine⟨fun c i' h=> ?_,fun f h=> ?_⟩
   ·obtain⟨e1,e2,e3,e4⟩:=ha.1 c i' h
    exact⟨e1,by omega,by omega,e4⟩
   ·exact ha.2 f h
  ·simp only[c1,beq_iff_eq,if_false]
   unfold Adz.plain;have sd:=hb _ h1 c1;have gz:(Adz.peek L i== -1)=false:=by simp;omega
   rw[sd,gz];simp only[Bool.false_or]
   cases hc:(Adz.peek L i==10 || but'.contains (Adz.peek L i)) with
   | true=>
    refine⟨fun c i' h=> ?_,fun f h=> ?_⟩
    ·simp at h
    ·simp at h
     subst h;simp[no,Er,Adz.wrong]
   | false=>
    refine⟨fun c i' h=> ?_,fun f h=> ?_⟩
    ·simp at h
     obtain⟨rfl,rfl⟩:=h;simp;omega
    ·simp at h
theorem Ae:∀c:Int,0≤c→c≠92→(setBut.contains c=(c==10 || Adz.notAMember.contains c)):=by
 intro c h0 h1;simp only[setBut,Adz.notAMember,List.contains_cons,List.contains_nil];have e:(c==92)=false:=by simpa using h1
 rw[e];simp only[Bool.or_false,Bool.false_or]
 rcases h:(c==10) with _ | _ <;> simp[Bool.or_comm,Bool.or_left_comm,Bool.or_assoc]
end Rf
end
end Go.Proofs.YtbiobhghnldckaaGreatDoor
