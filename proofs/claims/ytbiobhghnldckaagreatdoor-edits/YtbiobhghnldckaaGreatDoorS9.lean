/- Proved: steps on the way to the card. Conditions: as each states. -/
import Derived.Test.YtbiobhghnldckaaGreatDoorS8
namespace Go.Proofs.YtbiobhghnldckaaGreatDoor
open List renaming replicate->VE,getElem_mem->VJ,length_map->VL
open Nat renaming zero_le->VF,le_refl->VG,le_add_right->VK
open Or renaming inl->VH,inr->VI
open Go.Proofs.Tryz
open A V Er Rr Rm
set_option linter.unusedVariables false
set_option maxRecDepth 100000
set_option maxHeartbeats 6400000
section
open Go.RowKit
attribute [local go_sem ↓] Go.wp_at_zero Go.wp_at_succ
def KS(X:A.Fx)(eb:Nat)(w:World)(s:Er.St):Prop:=∃d f a b c qc,EV X eb w s d f a b c qc
structure Dd(n:Nat)(s:Er.St):Prop where
 qu:s.aA.length<=s.ar
 st:s.ew=0->s.ar<=5000
 SO:s.ar<=5001
 op:s.ai.length=n
theorem Ik{s}(h:(bM (aP s)).ew=0):bM (aP s)={s with ar:=s.ar+1}/\s.ew=0/\s.ar+1<=5000/\s.sp.length<=400/\s.aS.length<=400:=by unfold aP at h ⊢;by_cases a:s.ew=0/\(400<s.sp.length\/400<s.aS.length);{rw[if_pos a]at h;unfold bM at h;simp at h};{rw[if_neg a]at h ⊢;unfold bM at h ⊢;by_cases b:s.ew=0/\5000<s.ar+1;{simp_all};{simp_all}}
theorem DO(f X F eb g cs)(P:wY f X F eb g cs)(w)(av:aG f w)(s)(h:KS X eb w s)(a2:Dd cs.length s)(l:s.next<cs.length):aO 71 #[az eb] w fun e i=>(∃v,e=.returned v)/\KS X eb i (Er.step F jU cs s)/\aG f i:=by
 have⟨M,N,C,D,L,qc,h⟩:=h;obtain⟨cD,b2⟩:=P.cv l;have d2:=P.eb;have d4:=P.lo;have c9:=P.n5;have bb:=tO X eb w s h;have SO:=a2.SO;have cb:(aP s).ar=s.ar:=zw.2.2.2.1;obtain⟨U,a1⟩:∃U:World->Prop,U=fun i=>KS X eb i (Er.step F jU cs s)/\aG f i:=⟨_,rfl⟩;have n:=Y a1
 have cM:aO 71 #[az eb] w fun e i=>(∃v,e=.returned v)/\U i:=by
  clear a1;have cW:=Y h;have z:=Y P;have B:=Y a2;have ad:=Y av;clear h P a2 av;go_enter func71,ntmps71;go_wp21;refine bb.mono ?_;rintro e cm ⟨⟨v1,rfl⟩,bi,ch⟩;have b1:=BU X eb cm (aP s) bi E;clear bb;go_wp21;refine b1.mono ?_;rintro e j ⟨⟨v2,rfl⟩,a,cj⟩;have aa:R (·=eb) w j:=cE ch cj;have an:=(a.ed.get 15 E _ rfl).1;have r:=eR eb j _ an;clear b1 bi;by_cases q:(bM (aP s)).ew=0;{obtain⟨a0,ao,d0,c1,c2⟩:=Ik q;have b:((bM (aP s)).ew==0)=true:=bS q;rw[b]at r;rw[a0]at a;clear b an cb;have bv:=(a.ed.get 9 E _ rfl).1;have ap:=(a.ed.get 9 E _ rfl).2;have am:=(a.ed.get 0 E _ rfl).1;rw[b2]at am;have d7:IntKind.i64.wrap ((s.next:Int)+1)=(s.next:Int)+1:=fF;have d5:(s.next:Int)<cs.length:=E;have bq:=ah j eb 9 (Z ((s.next:Int)+1));have bh:EV X eb (j.setCell ⟨eb,9,none⟩ (Z ((s.next:Int)+1))) {s with ar:=s.ar+1,next:=s.next+1} M N C D L qc:=a.cells bq (a.ed.set 9 E (Z ((s.next:Int)+1))) rfl rfl rfl rfl a.b3 a.b5 a.b6;have ci:R (·=eb) w (j.setCell ⟨eb,9,none⟩ (Z ((s.next:Int)+1))):=cE aa bq;have bs:aG f (j.setCell ⟨eb,9,none⟩ (Z ((s.next:Int)+1))):=ad.o.t ci;have bx:=Y a0;clear a0 q a aa;go_wp21;refine r.mono ?_;rintro e bw ⟨rfl,rfl⟩;clear r;go_wp21;generalize bw.setCell ⟨eb,9,none⟩ (Z ((s.next:Int)+1))=u at*;have a4:=z.o.Uo s.next l;have G:=z.o.ok cs[s.next] (VJ l);have bc:Er.step F jU cs s=if (Er.cR F cs[s.next].bN s.next {s with ar:=s.ar+1,next:=s.next+1}).1≠cs[s.next].neg then Er.gE F jU cs.length cs[s.next] (Er.cR F cs[s.next].bN s.next {s with ar:=s.ar+1,next:=s.next+1}).2 else if cs[s.next].ag=123 then {(Er.cR F cs[s.next].bN s.next {s with ar:=s.ar+1,next:=s.next+1}).2 with next:=cs[s.next].cM.toNat}else (Er.cR F cs[s.next].bN s.next {s with ar:=s.ar+1,next:=s.next+1}).2:=by{unfold Er.step;rw[bx.o];simp only[ao,if_true];rw[show cs.getD s.next {}=cs[s.next] by simp[l]]};have p:=a4.T bs.drew;have a5:=B1 F X (by rw[z.o.aT,VL]) eb u.drew {s with ar:=s.ar+1,next:=s.next+1} (bh.quiet (R.refl _ u).drew) (by show s.sp.length<=1000000;omega) g cs.length cD s.next b2 l c9 cs[s.next] p G.kP G.VD B.o.op;unfold Uj at a5;have b4:=fun u2 (ce:aG f u2) (m:Er.St) {M C L:Option Addr} {N D qc:Nat} (c8:EV X eb u2 m M N C D L qc) (c3:m.ew=0) (c4:m.sp.length<=400) (c5:m.aS.length<=400) (c6:m.aA.length<=100000)=>PH f X F eb g cs z.o u2 ce m c8 s.next l c3 c4 c5 c6;have ba:=p.neg;have be:=p.ag;have b7:=p.cM;have d3:=a4.lt;have a3:¬(g<eb/\X.lo<=g):=E;have ca:B.o.qu=B.o.qu:=rfl;have d6:=B.o.qu;obtain⟨bk,bl,bm,bp,cc⟩:(Er.cR F cs[s.next].bN s.next {s with ar:=s.ar+1,next:=s.next+1}).2.sp=s.sp/\(Er.cR F cs[s.next].bN s.next {s with ar:=s.ar+1,next:=s.next+1}).2.aS=s.aS/\(Er.cR F cs[s.next].bN s.next {s with ar:=s.ar+1,next:=s.next+1}).2.aA=s.aA/\(Er.cR F cs[s.next].bN s.next {s with ar:=s.ar+1,next:=s.next+1}).2.ew=s.ew/\True:=by{unfold Er.cR;split;{exact⟨rfl,rfl,rfl,rfl,trivial⟩};{exact⟨rfl,rfl,rfl,rfl,trivial⟩};{split;{exact⟨rfl,rfl,rfl,rfl,trivial⟩};{split <;> exact⟨rfl,rfl,rfl,rfl,trivial⟩}}};have b9:=G.cM;generalize Er.cR F cs[s.next].bN s.next {s with ar:=s.ar+1,next:=s.next+1}=m at*;generalize cs[s.next]=c at*;have O:=Y b4;have S:=Y bc;have bA:Hid (m.2.sp=s.sp/\m.2.aS=s.aS/\m.2.aA=s.aA/\m.2.ew=s.ew):=⟨bk,bl,bm,bp⟩;clear b4 bc am bv ap bh a4 p G bk bl bm bp cc ca;go_region_with (go_at_call 95;refine a5.mono ?_;rintro e y ⟨rfl,d,H⟩;have dk:=H.T ba a3);all_goals(have cn:=H.T be a3;have co:=H.T b7 a3;have I:aG f y:=bs.drew.t H;clear a5 ba be b7;obtain⟨W,b⟩:∃W:Bool,(!(m.1==c.neg))=W:=⟨_,rfl⟩;(try rw[b]);have cp:=Y b;obtain⟨a6,a7,a8,a9⟩:=bA.o;cases W with|true=>have b0:=O.o y I m.2 d (by rw[a9];exact ao) (by rw[a6];exact c1) (by rw[a7];exact c2) (by rw[a8];omega);unfold kT at b0;have k:m.1≠c.neg:=bS b;have o:Hid (Er.step F jU cs s=Er.gE F jU cs.length c m.2):=by{show _=_;rw[S.o,if_pos k]};clear O b k a6 a7 a8 a9;generalize Er.gE F jU cs.length c m.2=d9 at*;go_wp21;refine b0.mono ?_;rintro e dg ⟨⟨v5,rfl⟩,c7,cl⟩;go_wp2;go_end0;rw[n.o];exact⟨⟨_,rfl⟩,by rw[o.o];exact c7,I.t cl⟩|false=>have k:¬m.1≠c.neg:=bS b;by_cases x:c.ag=123;{have o:Hid (Er.step F jU cs s={m.2 with next:=c.cM.toNat}):=by{show _=_;rw[S.o,if_neg k,if_pos x]};rw[x]at cn;rw[<-Int.toNat_of_nonneg b9]at co;have bv:=(d.ed.get 9 E _ rfl).1;have ap:=(d.ed.get 9 E _ rfl).2;have bE:Hid (EV X eb (y.setCell ⟨eb,9,none⟩ (Z (c.cM.toNat:Int))) {m.2 with next:=c.cM.toNat} M N C D L qc):=d.cells (ah _ _ _ _) (d.ed.set 9 E (Z (c.cM.toNat:Int))) rfl rfl rfl rfl d.b3 d.b5 d.b6;have c0:Hid (aG f (y.setCell ⟨eb,9,none⟩ (Z (c.cM.toNat:Int)))):=I.t (ah y eb 9 (Z (c.cM.toNat:Int)));clear O b k a6 a7 a8 a9 d x b9;generalize c.cM.toNat=d1 at*;go_wp2;go_end0;rw[n.o];exact⟨⟨_,rfl⟩,by rw[o.o];exact⟨_,_,_,_,_,_,bE.o⟩,c0.o⟩};{have o:Hid (Er.step F jU cs s=m.2):=by{show _=_;rw[S.o,if_neg k,if_neg x]};have d8:(c.ag==123)=false:=bS x;have bz:=Y d;generalize c.ag=dj at*;go_wp2;go_end0;rw[n.o];exact⟨⟨_,rfl⟩,by rw[o.o];exact⟨_,_,_,_,_,_,bz.o⟩,I⟩})}
  ·have b:((bM (aP s)).ew==0)=false:=bS q
   rw[b]at r
   have ab:Hid (Er.step F jU cs s=bM (aP s)):=by show _=_;unfold Er.step;simp only;rw[if_neg q]
   have ac:=Y a;have al:Hid (aG f j):=ad.o.t aa
   go_wp21
   refine r.mono ?_;rintro e bw ⟨rfl,rfl⟩;go_wp2
   try go_end0
   first
   | (rw[n.o];exact⟨⟨_,rfl⟩,by rw[ab.o];exact⟨_,_,_,_,_,_,ac.o⟩,al.o⟩)
   | (refine bodyPost_ret (results_none rfl _ _ _) rfl ?_;rw[n.o];exact⟨⟨_,rfl⟩,by rw[ab.o];exact⟨_,_,_,_,_,_,ac.o⟩,al.o⟩)
 rwa [a1]at cM
end
section
theorem AS{F t}(h:t.e≠0)(l):Rr.ay F l t=t:=if_neg h
theorem A7{F}:∀(q:List (List Int)) {t:Rr.St},t.e≠0->Rr.fI F q t=t
 |[],t,h=>rfl
 |l::q,t,h=>by
  unfold Rr.fI;rw[AS h];exact A7 q h
theorem zC{F t}(h:t.e≠0):(Rr.eG F t).e=t.e:=by unfold Rr.eG;simp only;rw[A7 _ h]
theorem Du{t}(h:t.e≠0):eN t=t:=by unfold eN;split;{exact Cs h};{rfl}
theorem Pz{F t}(h:t.e≠0):(fY F t).e=t.e:=by unfold fY;rw[Du h,AS h];split;{exact zC h};{exact zC h}
theorem JB{t}(h:t.e≠0):(aC t).e=t.e:=by unfold aC;split;{rw[Cs (show ¬({t with ar:=t.ar+1}:Rr.St).e=0 from h)]};{rfl}
theorem Pm(F dr row):∀(n i:Nat) {t:Rr.St},t.e≠0->(sU F dr row n i t).2.e=t.e
 |0,i,t,h=>rfl
 |n+1,i,t,h=>by
  unfold sU;have a:(aC (eN t)).e=t.e:=by rw[Du h];exact JB h
  split
  ·simp_all
  ·exact Pz h
theorem KP{F t}(h:t.aA= []):Rr.eG F t=t:=by unfold Rr.eG;rw[h];show({t with aA:= []}:Rr.St)=t;rw[<-h]
theorem JG(F t):(fY F t).aA= []:=rfl
def Fin(F:nL)(s:Er.St)(h:Nat)(t:Rr.St):Prop:=
 (s.ew≠0/\(if h=3 then t.e else (Rr.eG F t).e)=s.ew)\/(s.ew=0/\((h=3/\s.lJ=true/\mL F s t)\/(h≠3/\s.lJ=false/\mL F s (Rr.eG F t))))
structure An(F:nL)(cs:List fZ)(row:List Rr.RC):Prop where
 len:cs.length=row.length
 my:∀i,i<cs.length->Ib F row i (cs.getD i {}) (row.getD i {})
theorem yR{F dg cs s}(h:s.ew≠0):∀n,Er.loop F dg cs n s=s
 |0=>rfl
 |n+1=>if_neg (fun e=>h e.1)
theorem uc{F dg cs s}(h:¬s.next<cs.length):∀n,Er.loop F dg cs n s=s
 |0=>rfl
 |n+1=>if_neg (fun e=>h e.2)
theorem mv{F s}(h:s.ew≠0):dy F s=s:=if_neg (fun e=>h e.1)
theorem PC{F dg dr cs row s t}(b:mL F s t)(a:s.ew≠0)(n i):Fin F (dy F (Er.loop F dg cs n s)) (sU F dr row n i t).1 (sU F dr row n i t).2:=by rw[yR a,mv a];have d:t.e≠0:=by{rwa [<-b.ew]};have c:=Pm F dr row n i d;refine VH ⟨a,?_⟩;split;{rw[c,b.ew]};{rw[zC E,c,b.ew]}
theorem gH(b s):(Er.ay b s).ar=s.ar:=by unfold Er.ay;split <;> rfl
theorem ow:∀(q:List (List UInt8)) (s:Er.St),(Er.fI q s).ar=s.ar
 |[],s=>rfl
 |b::q,s=>(ow q _).trans (gH b s)
theorem kJ(s):(Er.eG s).ar=s.ar:=ow s.aA s
theorem vw(F s):(jk F s).ar=s.ar:=by have a:(aP s).ar=s.ar:=GS;unfold jk;rw[kJ];split;{exact a};{rwa [gH]}
theorem SQ(F c s):(Er.gy F c s).ar=s.ar:=by unfold Er.gy;split;{split;{exact gH _ _};{rfl}};{rfl}
theorem CZ(n s):(mx n s).ar=s.ar:=kJ s
theorem iR{p} [Decidable p] {a b:Er.St} {n} (c:a.ar=n) (d:b.ar=n):(if p then a else b).ar=n:=by grind
theorem Lu(F dg n c s):(Er.gE F dg n c s).ar=s.ar:=by unfold Er.gE;refine iR (gH _ _) (iR rfl (iR rfl (iR ((CZ _ _).trans (gH _ _)) (iR (CZ _ _) (iR (iR (CZ _ _) (kJ _)) (iR rfl (iR rfl (iR rfl (iR rfl (iR (gH _ _) (iR (iR (vw F s) rfl) (iR (iR (kJ _) rfl) (iR (gH _ _) (iR (gH _ _) (iR rfl (iR (SQ F c s) (iR (iR rfl rfl) (iR rfl (iR rfl rfl)))))))))))))))))))
theorem nW{F dg dr}(h3:∀n,dg n=F.cg (dr n)){cs row}(c7:An F cs row):∀(n i:Nat) (s:Er.St) (t:Rr.St),mL F s t->s.ew=0->s.next=i->s.drop=false->s.lJ=false->5001<=n+s.ar->
 Fin F (dy F (Er.loop F dg cs n s)) (sU F dr row n i t).1 (sU F dr row n i t).2
 |0,i,s,t,h,he,hn,hd,ho,hf=>by
  have:=h.iW he;omega
 |n+1,i,s,t,h,he,hn,hd,ho,hf=>by
  by_cases o:i<cs.length
  ·have N:Er.loop F dg cs (n+1) s=Er.loop F dg cs n (Er.step F dg cs s):=if_pos ⟨he,by rw[hn];exact o⟩
   rw[N];unfold sU;rw[if_pos (by rw[<-c7.len];exact o)];have q:=JC (A6 h);have C:=(sQ s).trans (FK (aP s))
   have X:(bM (aP s)).ar=s.ar+1:=by
    have b:(aP s).ar=s.ar:=GS;unfold bM;split
    ·simp_all
    ·simp_all
   unfold Er.step;simp only;generalize bM (aP s)=s1,aC (eN t)=H at*
   have S:=C.2.1.trans hd;have W:=C.2.2.trans ho;by_cases f:s1.ew=0
   ·rw[if_pos f,if_pos (show H.e=0 by rw[<-q.ew];exact f),(C.1.trans hn)]
    have j:=c7.my i o;generalize cs.getD i {}=c,row.getD i {}=r at*
    have a0:=q.at (i+1) s1.drop s1.lJ;have⟨a2,g2,D,a3,a4⟩:=Kc j a0;generalize Er.cR F c.bN i {s1 with next:=i+1}=M,cS F r H=a at*
    have sc:=a3.trans f;have a7:=a4.trans X;have G:=D.1;have s5:=D.2.1.trans S;have mo:=D.2.2.trans W;by_cases z:M.1≠c.neg
    ·rw[if_pos z,if_neg (show ¬a.1=false by rw[a2.1 z];decide),j.ag]
     by_cases g:c.ag=98
     ·rw[if_pos (VH g)]
      have x:Er.gE F dg cs.length c M.2={M.2 with next:=c.cM.toNat}:=by
       unfold Er.gE;rw[if_neg E,if_neg E,if_pos g]
      have y:(if c.ag=116 then {a.2 with done:=false}else a.2)=a.2:=if_neg E;rw[x,y,<-j.cM (VH g)];exact MV
     ·by_cases d:c.ag=116
      ·have x:Er.gE F dg cs.length c M.2=if M.2.cx then {M.2 with cx:=false,next:=c.cM.toNat}else M.2:=by
        unfold Er.gE
        iterate 17 rw[if_neg E]
        rw[if_pos d]
       rw[x]
       cases a5:M.2.cx with
       |true=>
        have B:a.2.done=true:=by rwa [<-g2.cx]
        have y:(if c.ag=116 then {a.2 with done:=false}else a.2)={a.2 with done:=false}:=if_pos d;rw[if_pos rfl,if_pos (VI ⟨d,B⟩),y,<-j.cM (VI d)];have a1:mL F {M.2 with cx:=false,next:=c.cM.toNat} {a.2 with done:=false}:=⟨g2.aI,g2.sp,g2.aS,g2.aA,g2.ai,rfl,g2.ar,g2.out,g2.ew,g2.le,g2.iW⟩;exact nW h3 c7 n _ _ _ a1 sc rfl s5 mo NI
       |false=>
        have B:a.2.done=false:=by rwa [<-g2.cx]
        rw[if_neg (show ¬false=true by decide),if_neg (show ¬(c.ag=98\/(c.ag=116/\a.2.done=true)) from fun e=>by rcases e with e|e;exact g e;rw[B]at e;cases e.2),if_pos d];exact nW h3 c7 n _ _ _ g2 sc G s5 mo E
      ·rw[if_neg (show ¬(c.ag=98\/(c.ag=116/\a.2.done=true)) from fun e=>by rcases e with e|e;exact g e;exact d e.1),if_neg d]
       have P:=Se h3 (n:=cs.length) j g2 sc G s5 mo g d;have a6:=Lu F dg cs.length c M.2;generalize Er.gE F dg cs.length c M.2=s2,Rr.gE F dr r a.2=l at*
       rcases P with ⟨b,c6,hg,io,kf⟩ |⟨b,c6,hg,io,kf⟩ |⟨b,c6,hg,io,kf⟩ |⟨b,c6,hg,io,kf,L⟩
       ·rw[if_pos b]
        exact My
       ·rw[if_neg (show ¬l.1=0 by omega),if_neg (show ¬l.1=2 by omega),uc (by rw[hg];omega)]
        by_cases n2:s2.ew=0
        ·have m:dy F s2=s2:=if_neg (fun e=>by rw[io]at e;cases e.2)
         rw[m];exact VI ⟨n2,VI ⟨E,kf,c6⟩⟩
        ·rw[mv n2]
         refine VH ⟨n2,?_⟩;rw[if_neg E];exact c6.ew.symm
       ·rw[if_neg (show ¬l.1=0 by omega),if_pos b]
        exact My
       ·rw[if_neg (show ¬l.1=0 by omega),if_neg (show ¬l.1=2 by omega),uc (by rw[hg];omega)]
        have m:dy F s2=jk F s2:=if_pos ⟨L,io⟩;rw[m];by_cases n2:(jk F s2).ew=0
        ·exact VI ⟨n2,VH ⟨b,(yl F s2).2.2.trans kf,c6⟩⟩
        ·refine VH ⟨n2,?_⟩
         rw[if_pos b];exact c6.ew.symm
    ·rw[if_neg z]
     have U:a.1=false:=by
      simp_all
     rw[if_pos U,j.next];by_cases p:c.ag=123
     ·rw[if_pos p,if_pos p]
      exact MV
     ·rw[if_neg p,if_neg p]
      exact nW h3 c7 n _ _ _ g2 sc G s5 mo E
   ·rw[if_neg f,if_neg (show ¬H.e=0 by rw[<-q.ew];exact f),yR f,mv f]
    refine VH ⟨f,?_⟩;rw[if_pos rfl];exact q.ew.symm
  ·rw[uc (by rw[hn];exact o)]
   have m:dy F s=jk F s:=if_pos ⟨he,hd⟩
   have O:sU F dr row (n+1) i t=(0,fY F t):=by
    unfold sU;rw[if_neg (by rw[<-c7.len];exact o)]
   rw[m,O];have k:=xH h;have I:Rr.eG F (fY F t)=fY F t:=KP (JG F t);by_cases n2:(jk F s).ew=0
   ·exact VI ⟨n2,VI ⟨fun e=>absurd (show(0:Nat)=3 from e) ae,(yl F s).2.2.trans ho,by rw[I];exact k⟩⟩
   ·refine VH ⟨n2,?_⟩
    rw[if_neg (fun e=>absurd (show(0:Nat)=3 from e) ae)];simp only;rw[I];exact k.ew.symm
theorem EJ{F dg cs s}(h:s.ew≠0\/s.lJ=true):∀n,Er.jG F dg cs n s=s
 |0=>rfl
 |n+1=>if_neg (fun e=>by
  rcases h with h|h
  ·exact h e.1
  ·rw[h]at e;cases e.2.1)
theorem KB{F dr row t}(h:t.e≠0):∀n,Rr.jG F dr row n t=t
 |0=>rfl
 |n+1=>if_neg (fun e=>h e.2)
theorem EI{F dg dr}(l:∀n,dg n=F.cg (dr n)){cs row}(j:An F cs row):∀(n:Nat) (s:Er.St) (t:Rr.St),mL F s t->s.lJ=false->
 ((Er.jG F dg cs n s).ew=(Rr.jG F dr row n t).e)/\((Er.jG F dg cs n s).ew=0->(Er.jG F dg cs n s).out=(Rr.jG F dr row n t).out)
 |0,s,t,h,ho=>⟨h.ew,fun _=>h.out⟩
 |n+1,s,t,h,ho=>by
  by_cases a:s.ew=0/\s.aI<F.aT.length
  ·have d:Er.jG F dg cs (n+1) s=Er.jG F dg cs n (pQ F dg cs s):=if_pos ⟨a.1,ho,a.2⟩
   have f:Rr.jG F dr row (n+1) t=if (sU F dr row 5002 0 {Rr.gP t with sp:=Rr.bd F t}).1=3 then (sU F dr row 5002 0 {Rr.gP t with sp:=Rr.bd F t}).2 else Rr.jG F dr row n (Rr.eG F (sU F dr row 5002 0 {Rr.gP t with sp:=Rr.bd F t}).2):=if_pos ⟨by rw[<-h.aI];exact a.2,by rw[<-h.ew];exact a.1⟩
   rw[d,f]
   have o:mL F {Er.gP s with sp:=Er.bd F s,next:=0,drop:=false} {Rr.gP t with sp:=Rr.bd F t}:=by
    have k:=zn h a.2 (Er.bd F s);rw[yM h]at k ⊢;exact k.at 0 false s.lJ
   have key:=nW l j 5002 0 _ _ o a.1 rfl rfl ho E;unfold pQ;generalize sU F dr row 5002 0 {Rr.gP t with sp:=Rr.bd F t}=H,dy F (Er.loop F dg cs 5002 {Er.gP s with sp:=Er.bd F s,next:=0,drop:=false})=s' at*
   rcases key with ⟨g,b⟩ |⟨g,⟨b,i,c⟩ |⟨b,i,c⟩⟩
   ·rw[EJ (VH g)]
    by_cases m:H.1=3
    ·simp_all
    ·rw[if_neg m]at b ⊢
     rw[KB E];exact⟨b.symm,fun e=>absurd e g⟩
   ·rw[EJ (VI i),if_pos b]
    exact⟨c.ew,fun _=>c.out⟩
   ·rw[if_neg b]
    exact EI l j n s' _ c i
  ·have d:Er.jG F dg cs (n+1) s=s:=if_neg (fun e=>a ⟨e.1,e.2.2⟩)
   have f:Rr.jG F dr row (n+1) t=t:=if_neg (fun e=>a ⟨by rw[h.ew];exact e.2,by rw[h.aI];exact e.1⟩);rw[d,f];exact⟨h.ew,fun _=>h.out⟩
theorem Qj{F dg dr}(g:∀n,dg n=F.cg (dr n)){cs row}(f:An F cs row):Er.run F dg cs=Rr.run F dr row cs.length:=by have b:mL F {ai:=VE cs.length false} {ai:=VE cs.length false}:=⟨rfl,rfl,rfl,rfl,rfl,rfl,rfl,rfl,rfl,VF _,fun _=>VF _⟩;have⟨c,d⟩:=EI g f (F.aT.length+1) _ _ b rfl;unfold Er.run Rr.run;simp only;by_cases a:(Er.jG F dg cs (F.aT.length+1) {ai:=VE cs.length false}).ew=0;{rw[if_pos a,if_pos (by rw[<-c];exact a),d a]};{simp_all}
end
section
open Go.RowKit
structure nK(s u:Er.St):Prop where
 ar:u.ar=s.ar
 ai:u.ai=s.ai
 aA:u.aA.length<=s.aA.length+1
theorem nK.same{s u}(a:u.ar=s.ar)(b:u.ai=s.ai)(c:u.aA=s.aA):nK s u:=⟨a,b,by rw[c];omega⟩
theorem nK.ite{s a b p} [Decidable p] (c:nK s a) (d:nK s b):nK s (if p then a else b):=by grind
theorem xC(s):(Er.eG s).ar=s.ar/\(Er.eG s).ai=s.ai/\(Er.eG s).aA= []:=⟨(qq s.aA s).2.2.2.2.2,(qq s.aA s).2.2.2.1,rfl⟩
theorem Dt(s):(aP s).ar=s.ar/\(aP s).ai=s.ai:=by unfold aP;split <;> exact⟨rfl,rfl⟩
theorem Lp(F s):(jk F s).ar=s.ar/\(jk F s).ai=s.ai/\(jk F s).aA= []:=by unfold jk;have⟨d,f⟩:=Dt s;split;{have⟨a,b,c⟩:=xC (aP s);exact⟨a.trans d,b.trans f,c⟩};{have⟨a,b,c⟩:=xC (Er.ay (F.cg (aP s).sp) (aP s));have g:=lC (F.cg (aP s).sp) (aP s);exact⟨a.trans (g.2.2.2.2.2.trans d),b.trans (g.2.2.2.1.trans f),c⟩}
theorem Tt(F dg n c s):nK s (Er.gE F dg n c s):=by have f:∀t (u:Er.St),nK s u->nK s (Er.ay t u):=fun t u h=>⟨(lC t u).2.2.2.2.2.trans h.ar,(lC t u).2.2.2.1.trans h.ai,by rw[(lC t u).2.2.1];exact h.aA⟩;have d:nK s s:=nK.same rfl rfl rfl;have hd:∀u,nK s u->nK s (mx n u):=fun u h=>by{have⟨a,b,c⟩:=xC u;exact⟨a.trans h.ar,b.trans h.ai,by show(Er.eG u).aA.length<=_;rw[c];simp⟩};have g:∀u,u.ar=s.ar->u.ai=s.ai->nK s (Er.eG u):=fun u i j=>by{have⟨a,b,c⟩:=xC u;exact⟨a.trans i,b.trans j,by rw[c];simp⟩};have same:∀u:Er.St,u.ar=s.ar->u.ai=s.ai->u.aA=s.aA->nK s u:=fun u=>nK.same;unfold Er.gE;refine nK.ite (f _ _ d) ?_;refine nK.ite ⟨rfl,rfl,aK⟩ ?_;refine nK.ite (same _ rfl rfl rfl) ?_;refine nK.ite (hd _ (f _ _ d)) ?_;refine nK.ite (hd _ d) ?_;refine nK.ite (nK.ite (hd _ d) ?_) ?_;{have:=g {s with sp:=s.sp.drop (aW s.sp+1)} rfl rfl;exact⟨this.ar,this.ai,this.aA⟩};refine nK.ite (same _ rfl rfl rfl) ?_;refine nK.ite (same _ rfl rfl rfl) ?_;refine nK.ite (same _ rfl rfl rfl) ?_;refine nK.ite (same _ rfl rfl rfl) ?_;refine nK.ite (f _ _ d) ?_;refine nK.ite (nK.ite ?_ (same _ rfl rfl rfl)) ?_;{have⟨a,b,c⟩:=Lp F s;exact⟨a,b,by show(jk F s).aA.length<=_;rw[c];simp⟩};refine nK.ite (nK.ite (g _ rfl rfl) (same _ rfl rfl rfl)) ?_;refine nK.ite (f _ _ d) ?_;refine nK.ite (f _ _ d) ?_;refine nK.ite (same _ rfl rfl rfl) ?_;refine nK.ite ?_ ?_;{unfold Er.gy;exact nK.ite (nK.ite (f _ _ (same _ rfl rfl rfl)) (same _ rfl rfl rfl)) d};refine nK.ite (nK.ite (same _ rfl rfl rfl) d) ?_;refine nK.ite (same _ rfl rfl rfl) ?_;exact nK.ite (same _ rfl rfl rfl) d
theorem Lq(F b a s):(Er.cR F b a s).2.ar=s.ar/\(Er.cR F b a s).2.ai.length=s.ai.length/\(Er.cR F b a s).2.aA=s.aA:=by unfold Er.cR;split;{simp};{simp};{grind}
theorem Ij{F dg cs s n}(h:Dd n s)(j:s.ew=0):Dd n (Er.step F dg cs s)/\(Er.step F dg cs s).ar=s.ar+1:=by have a:(bM (aP s)).ar=s.ar+1/\(bM (aP s)).ai=s.ai/\(bM (aP s)).aA=s.aA:=by{have d:=Dt s;have k:(aP s).aA=s.aA:=zw.2.2.1;unfold bM;split <;> exact⟨by simp only;rw[d.1],d.2,k⟩};have B:=h.st j;have z:=h.qu;have f:=h.op;unfold Er.step;simp only;split;{rename_i b;have⟨x,p,q,r,t⟩:=Ik b;have c:=Lq F (cs.getD (bM (aP s)).next {}).bN (bM (aP s)).next {bM (aP s)with next:=(bM (aP s)).next+1};have key:∀u:Er.St,u.ar=s.ar+1->u.ai.length=s.ai.length->u.aA.length<=s.aA.length+1->Dd n u/\u.ar=s.ar+1:=fun u g i y=>⟨⟨E,fun _=>by omega,E,by rw[i];exact f⟩,g⟩;have l:=c.1.trans a.1;have m:=c.2.1.trans (by rw[a.2.1]);have o:=c.2.2.trans a.2.2;split;{have hd:=Tt F dg cs.length (cs.getD (bM (aP s)).next {}) (Er.cR F (cs.getD (bM (aP s)).next {}).bN (bM (aP s)).next {bM (aP s)with next:=(bM (aP s)).next+1}).2;exact key _ (hd.ar.trans l) (by rw[hd.ai];exact m) (by have:=hd.aA;rwa [o]at this)};{grind}};{rename_i b;exact⟨⟨by rw[a.2.2,a.1];omega,fun e=>absurd e b,by rw[a.1];omega,by rw[a.2.1];exact f⟩,a.1⟩}
theorem Ii{F dg cs n}:∀(k:Nat) {s:Er.St},Dd n s->Dd n (Er.loop F dg cs k s)
 |0,s,h=>h
 |k+1,s,h=>by
  unfold Er.loop;split
  ·rename_i a
   exact Ii k (Ij h a.1).1
  ·exact h
theorem Dd.fI{n F s}(h:Dd n s)(d:s.ew=0):Dd n (jk F s):=by have⟨a,b,c⟩:=Lp F s;exact⟨by rw[c];simp,fun _=>by rw[a];exact h.st d,by rw[a];exact h.SO,by rw[b];exact h.op⟩
theorem Lo{F dg cs n s}(h:Dd n s):Dd n (pQ F dg cs s):=by have b:Dd n {Er.gP s with sp:=Er.bd F s,next:=0,drop:=false}:=⟨h.qu,h.st,h.SO,h.op⟩;have a:=Ii (F:=F) (dg:=dg) (cs:=cs) 5002 b;unfold pQ dy;split;{rename_i c;exact a.fI c.1};{exact a}
theorem BV(C X F eb g cs)(P:wY C X F eb g cs)(w)(b1:R (fun _=>False) C w)(s)(h:KS X eb w s)(H:Dd cs.length s)(a9:s.aI<X.aT.length):Calls prog 46 #[.pointer (some ⟨eb,0,none⟩)] w fun e p=>(∃v,e=.returned v)/\KS X eb p (pQ F jU cs s)/\R (fun _=>False) C p:=by obtain⟨ca,cb,bz,bA,c9,qc,h⟩:=h;obtain⟨ce,cD,b2,_⟩:=P.Vg;have ch:=P.eb;have cm:=P.n5;have c1:=P.UJ X.aT[s.aI] (VJ a9);have co:=og X.aT[s.aI];have ba:Er.bd F s=A.bL X.aT[s.aI]:=by{unfold Er.bd;rw[P.aT,List.getD_eq_getElem?_getD,List.getElem?_map,List.getElem?_eq_getElem a9];rfl};have bc:=qD X eb w s h a9 c1;have a0:Dd cs.length {Er.gP s with sp:=Er.bd F s,next:=0,drop:=false}:=⟨H.qu,H.st,H.SO,H.op⟩;have cv:=H.SO;obtain⟨z,I⟩:∃z,z=Er.loop F jU cs 5002 {Er.gP s with sp:=Er.bd F s,next:=0,drop:=false}:=⟨_,rfl⟩;have b4:pQ F jU cs s=dy F z:=by{rw[I];rfl};rw[b4];rw[ba]at a0 I;generalize X.aT[s.aI]=ln at*;obtain⟨n,aa⟩:=b8 (cs.length);have am:=Y aa;rw[aa]at b2 a0;obtain⟨a5,a8⟩:∃a5:World->Prop,a5=fun p=>KS X eb p (dy F z)/\aG C p:=⟨_,rfl⟩;have q9:=Y a8;have cM:aO 46 #[az eb] w fun e p=>(∃v,e=.returned v)/\a5 p:=by{have a4:=Y P;have ao:=Y I;have bm:=Y a0;have bk:Hid (EV X eb w s ca cb bz bA c9 qc):=h;have bl:=Y b1;clear b4 I a0 ba H P h b1 a8 aa;go_enter func46,ntmps46;go_wp21;refine bc.mono ?_;clear bc;rintro e r ⟨b,rc,rfl,ab,W,ac⟩;have c7:=(W.ed.get 4 E _ rfl).1;have bs:=(W.ed.get 4 E _ rfl).2;have x:=EV.E5 bk.o ac W (jH.aJ ab) (ab.lt b rfl).1 E;have c8:=(x.ed.get 9 E _ rfl).1;have bv:=(x.ed.get 9 E _ rfl).2;have U:=x.ed.set 9 E aB;have c6:=(U.get 10 E _ rfl).1;have bq:=(U.get 10 E _ rfl).2;have b0:=U.set 10 E (.bool false);have bh:=ah r eb 4 (.slice (some ⟨b,0,none⟩) (A.bL ln).length rc);have ad:=ah (r.setCell ⟨eb,4,none⟩ (.slice (some ⟨b,0,none⟩) (A.bL ln).length rc)) eb 9 aB;have al:=ah ((r.setCell ⟨eb,4,none⟩ (.slice (some ⟨b,0,none⟩) (A.bL ln).length rc)).setCell ⟨eb,9,none⟩ aB) eb 10 (.bool false);have ap:Hid (KS X eb (((r.setCell ⟨eb,4,none⟩ (.slice (some ⟨b,0,none⟩) (A.bL ln).length rc)).setCell ⟨eb,9,none⟩ aB).setCell ⟨eb,10,none⟩ (.bool false)) {Er.gP s with sp:=A.bL ln,next:=0,drop:=false}):=⟨_,_,_,_,_,_,x.cells (cE ad al) b0 rfl rfl rfl rfl x.b3 x.b5 x.b6⟩;have be:R (·=eb) w _:=cE (cE (cE ac bh) ad) al;have an:Hid (aG C (((r.setCell ⟨eb,4,none⟩ (.slice (some ⟨b,0,none⟩) (A.bL ln).length rc)).setCell ⟨eb,9,none⟩ aB).setCell ⟨eb,10,none⟩ (.bool false))):=bl.o.t be;clear b0 U W x ab bh ad al be ac;go_wp21;generalize ((r.setCell ⟨eb,4,none⟩ (.slice (some ⟨b,0,none⟩) (A.bL ln).length rc)).setCell ⟨eb,9,none⟩ aB).setCell ⟨eb,10,none⟩ (.bool false)=d4 at*;go_loopg [] 5002 (fun j wr=>∃a,Hid (Er.loop F jU cs j a=z/\Dd n a/\5002<=j+a.ar)/\Hid (KS X eb wr a)/\Hid (aG C wr));(case atStart=>exact ⟨_,⟨ao.o.symm,bm.o,VK _ _⟩,ap,an⟩);case round=>clear ao ap an c7 bs c8 bv c6 bq;obtain⟨a,a3,O,D⟩:=hrel;obtain⟨a2,B,b9⟩:=a3.o;obtain⟨d1,d2,ci,cj,cW,d0,l⟩:=O.o;have d:=(l.ed.get 15 E _ rfl).1;have a6:=(l.ed.get 9 E _ rfl).1;have S:=(l.ed.get 0 E _ rfl).1;rw[b2]at S;have m:∀k,aO 44 #[az eb] (wr.drewN k) fun e p=>e=.returned (.bool (a.ew==0))/\p=wr.drewN k:=fun k=>eR eb (wr.drewN k) a.ew d;by_cases M:a.ew=0/\a.next<n;{obtain⟨c,c2⟩:=M;have c4:=B.st c;obtain⟨j,rfl⟩:∃j,gk=j+1:=⟨gk-1,E⟩;have c3:(a.next:Int)<n:=E;have y:=jD c;rw[y]at m;have G:=am.o;have bb:Er.loop F jU cs j (Er.step F jU cs a)=z:=by{rw[<-a2];show _=Er.loop F jU cs (j+1) a;rw[Er.loop,if_pos ⟨c,E⟩]};obtain⟨bi,cc⟩:=Ij (F:=F) (dg:=jU) (cs:=cs) B c;have gN:Hid (Er.loop F jU cs j (Er.step F jU cs a)=z/\Dd n (Er.step F jU cs a)/\5002<=j+(Er.step F jU cs a).ar):=⟨bb,bi,E⟩;have bp:=Y B;clear bb bi cc a2 B b9 a3 c c4 y;go_wp21;go_quiet ((go_at_call 44;exact(m _).mono (fun e r ⟨c,N⟩=>⟨c,_,N⟩)));have f:aG wr (wr.drewN nq):=(R.refl _ wr).drewN nq;have bE:=DO C X F eb g cs a4.o (wr.drewN nq) (D.o.t f) a ⟨_,_,_,_,_,_,l.quiet f⟩ (by rw[G];exact bp.o) (by rw[G];exact c2);generalize wr.drewN nq=u at*;clear d a6 S m f l O D G;go_wp21;refine bE.mono ?_;rintro e d5 ⟨⟨v5,rfl⟩,fl,ho⟩;exact Np};{have G:=am.o;have I:a=z:=by{rw[<-a2];by_cases c:a.ew=0;{exact(uc (by rw[G];exact fun e=>M ⟨c,e⟩) gk).symm};{exact(yR c gk).symm}};subst I;have cn:=B.qu;have cp:=B.SO;clear a2 B b9 a3 G;have a1:a.ew=0->a.drop=false->dy F a=jk F a:=fun a7 bw=>by{unfold dy;rw[if_pos ⟨a7,bw⟩]};have L:¬(a.ew=0/\a.drop=false)->dy F a=a:=fun a7=>by{unfold dy;rw[if_neg a7]};by_cases c:a.ew=0;{have c3:¬(a.next:Int)<n:=by{intro e;exact M ⟨c,E⟩};have cl:decide ((a.next:Int)<n)=false:=bQ;have y:=jD c;rw[y]at m;clear M y;go_wp21;go_quiet ((go_at_call 44;exact(m _).mono (fun e r ⟨c,N⟩=>⟨c,_,N⟩)));have f:aG wr (wr.drewN nq):=(R.refl _ wr).drewN nq;have i:=l.quiet f;have x1:=D.o.t f;generalize wr.drewN nq=u at*;clear d a6 S m f l O D;have d:=(i.ed.get 15 E _ rfl).1;have av:=(i.ed.get 10 E _ rfl).1;rw[c]at d;cases hd:a.drop with|true=>have n9:Hid (dy F a=a):=L (fun e=>by rw[hd]at e;simp at e);rw[hd]at av;have f7:=Y i;clear a1 L hd i;go_wp21;refine(eR eb _ 0 d).kk ?_;exact MK|false=>have n9:Hid (dy F a=jk F a):=a1 c hd;rw[hd]at av;have c0:=yu F a4.o.cg X a4.o.q eb u a i E;clear a1 L hd i;generalize jk F a=d3 at*;go_wp21;refine(eR eb _ 0 d).kk ?_;go_wp21;refine c0.mono ?_;rintro e d6 ⟨⟨v7,rfl⟩,bx,c5⟩;go_wp2;go_end0;rw[q9.o];exact⟨⟨_,rfl⟩,by rw[n9.o];exact⟨_,_,_,_,_,_,bx⟩,x1.t c5⟩};{have y:=bP c;rw[y]at m;have n9:Hid (dy F a=a):=L (fun e=>c e.1);clear M y a1 L;go_wp21;go_quiet ((go_at_call 44;exact(m _).mono (fun e r ⟨c,N⟩=>⟨c,_,N⟩)));have f:aG wr (wr.drewN nq):=(R.refl _ wr).drewN nq;have i:=l.quiet f;have x1:=D.o.t f;generalize wr.drewN nq=u at*;clear d a6 S m f l O D;have d:=(i.ed.get 15 E _ rfl).1;have b7:=eR eb u a.ew d;rw[show (a.ew==0)=false by simpa using c]at b7;have f7:=Y i;clear i d;go_wp21;refine b7.kk ?_;exact MK}}};rw[a8]at cM;exact cM
theorem cV{L}{a b:Er.St}{p} [Decidable p] (c:L<=a.aI) (d:L<=b.aI):L<=(if p then a else b).aI:=by grind
theorem mZ(s):(Er.eG s).aI=s.aI:=(qq s.aA s).2.2.2.2.1
theorem nV(t s):(Er.ay t s).aI=s.aI:=(lC t s).2.2.2.2.1
theorem yQ(s):(aP s).aI=s.aI:=by unfold aP;split <;> rfl
theorem L6(F s):(jk F s).aI=s.aI:=by unfold jk;rw[mZ];split;{exact yQ s};{rw[nV];exact yQ s}
theorem L5(F dg n c s):s.aI<=(Er.gE F dg n c s).aI:=by have a:∀t (u:Er.St),s.aI<=u.aI->s.aI<=(Er.ay t u).aI:=fun t u h=>by{rwa [nV]};have r:s.aI<=s.aI:=VG _;have hd:∀u:Er.St,s.aI<=u.aI->s.aI<=(mx n u).aI:=fun u h=>by{show s.aI<=(Er.eG u).aI;rwa [mZ]};unfold Er.gE;refine cV (a _ _ r) ?_;refine cV r ?_;refine cV r ?_;refine cV (hd _ (a _ _ r)) ?_;refine cV (hd _ r) ?_;refine cV (cV (hd _ r) ?_) ?_;{show s.aI<=(Er.eG {s with sp:=s.sp.drop (aW s.sp+1)}).aI;rwa [mZ]};refine cV r ?_;refine cV r ?_;refine cV r ?_;refine cV r ?_;refine cV (a _ _ r) ?_;refine cV (cV ?_ r) ?_;{show s.aI<=(jk F s).aI+1;rw[L6];omega};refine cV (cV ?_ r) ?_;{rw[mZ];show s.aI<=s.aI+1;omega};refine cV (a _ _ r) ?_;refine cV (a _ _ r) ?_;refine cV r ?_;refine cV ?_ ?_;{unfold Er.gy;exact cV (cV (a _ _ r) r) r};refine cV (cV r r) ?_;refine cV r ?_;exact cV r r
theorem L7(F b a s):(Er.cR F b a s).2.aI=s.aI:=by unfold Er.cR;split;{rfl};{rfl};{grind}
theorem PX(F dg cs s):s.aI<=(Er.step F dg cs s).aI:=by have a:(bM (aP s)).aI=s.aI:=by{unfold bM;split <;> exact yQ s};have b:=L7 F (cs.getD (bM (aP s)).next {}).bN (bM (aP s)).next {bM (aP s)with next:=(bM (aP s)).next+1};unfold Er.step;simp only;refine cV (cV ?_ (cV ?_ ?_)) ?_;{have:=L5 F dg cs.length (cs.getD (bM (aP s)).next {}) (Er.cR F (cs.getD (bM (aP s)).next {}).bN (bM (aP s)).next {bM (aP s)with next:=(bM (aP s)).next+1}).2;rwa [(b.trans a)]at this};{simp_all};{simp_all};{omega}
theorem IA(F dg cs):∀(k:Nat) (s:Er.St),s.aI<=(Er.loop F dg cs k s).aI
 |0,s=>VG _
 |k+1,s=>by
  unfold Er.loop;exact cV (Nat.le_trans (PX F dg cs s) (IA F dg cs k _)) (VG _)
theorem L4(F dg cs s):s.aI+1<=(pQ F dg cs s).aI:=by have h:=IA F dg cs 5002 {Er.gP s with sp:=Er.bd F s,next:=0,drop:=false};have a:=h;unfold pQ dy;refine cV ?_ a;rwa [L6]
theorem Lz{U}(d q){c}(f){a n ob lo eb}(m:jd U c a)(i:a.length<=100000)(p:ob<U.heap.size)(o:lo<=ob)(g:aR U ob 4)(j:aX U ob (VE n (.bool false)))(l:U.heap.size=eb):KS ⟨d,q,c,f,a,bJ ob n n,lo⟩ eb (U.alloc (.cells #[d,.bool q,.slice c a.length f,aB,aM,aM,aM,bJ ob n n,.bool false,aB,.bool false,.bool false,aB,.pointer none,aM,aB] 108)) {ai:=VE n false}:=by subst l;have r:=(R.refl (fun _=>False) U).alloc (.cells #[d,.bool q,.slice c a.length f,aB,aM,aM,aM,bJ ob n n,.bool false,aB,.bool false,.bool false,aB,.pointer none,aM,aB] 108);exact⟨none,0,none,0,none,0,Sf U d (.bool q) (.slice c a.length f) (bJ ob n n),⟨VG _,VH ⟨rfl,rfl⟩⟩,⟨VG _,VH ⟨rfl,rfl⟩⟩,(fun b k s k' e=>by cases e),World.ownsRow_nil _ _ _ _,m.at r,Kj rfl p o (g.alloc _) (j.alloc _),VF _,VF _,VF _,i,VF _,fun _=>VF _,(fun t g=>by cases g)⟩
theorem UW(w a9 g i o cs)(ap:w.c a9 0=some (.slice i cs.length o))(c6:cs≠ []->i=some ⟨g,0,none⟩)(bm:cs.length<=500)(c7:∀(j:Nat) (d3:j<cs.length),mM w g (j*14) cs[j])(ci:cs≠ []->aR w g 167)(cb:∀c∈cs,zI c)(ce:O7 w)(s F)(c3:F.cg=fun l=>(runesBytes l).data.toList)(d5:s.size<=3000)(cj:aO 42 #[.string s] w fun e O=>e=.returned (.bool true)/\aG w O)(d)(bk:F.aT=d.map A.bL)(c9:∀l∈d,l.size<=100000)(c8:d.length<=100000)(cp:∀u,aG w u->aO 43 #[.string s] u fun e O=>∃p m,e=.returned (.slice p d.length m)/\jd O p d/\aG u O):aO 31 #[az a9,.string s,.bool F.q] w fun e O=>e=.returned (.tuple #[.string ⟨(Er.run F jU cs).1.toArray⟩,Z (Er.run F jU cs).2])/\aG w O:=by obtain⟨n,an⟩:=b8 (cs.length);obtain⟨q,bp⟩:=b8 (F.q);have b6:Hid _:=an;have c0:Hid _:=bp;have b5:Hid (F.aT.length=d.length):=by{rw[bk,VL];rfl};rw[an]at ap bm;rw[bp];obtain⟨c2,bl⟩:=gz (Er.run F jU cs);obtain⟨r,a5⟩:∃r,r=Er.jG F jU cs (d.length+1) {ai:=VE n false}:=⟨_,rfl⟩;have ab:Hid ((r.ew=0->c2=(r.out,0))/\(r.ew≠0->c2=([],r.ew))):=by{have e:Er.run F jU cs=if r.ew=0 then (r.out,0)else ([],r.ew):=by{rw[a5,<-an,<-b5.o];rfl};rw[bl,e];exact⟨fun h=>if_pos h,fun h=>if_neg h⟩};rw[<-bl];have ac:Hid (∀p m ob eb,w.heap.size<=eb->wY w ⟨.slice i n o,q,p,m,d,bJ ob n n,w.heap.size⟩ F eb g cs):=fun p m ob eb cn=>⟨c3,c0.o.symm,bk,c9,⟨i,o,by rw[b6.o],c6⟩,by rw[b6.o];exact bm,c7,ci,cb,ce,cn,VG _⟩;have c1:=Y a5;have bz:Hid _:=c8;clear an bp bl a5 c7 ci cb ce c3 bk c9 c6 c8 c0;obtain⟨H,ca,d4⟩:=N0 n bm;have bA:Hid _:=ca;clear ca;have d0:¬((3000:Int)<(s.size:Int)):=E;go_enter func31,ntmps31;go_wp21;refine cj.mono ?_;clear cj;rintro e L ⟨rfl,N⟩;have a4:=N.T ap id;have av:∀(u:World) (G:Obj),u.c a9 0=some (.slice i n o)->(u.alloc G).c a9 0=some (.slice i n o):=fun u G cv=>by{have oo:aG u (u.alloc G):=(R.refl _ u).alloc G;exact oo.T cv id};have a8:=N.drew;have bv:∀G:Obj,aG w (L.drew.alloc G):=fun G=>a8.alloc G;go_wp21;go_region_held3 (fun u=>u.c a9 0=some (.slice i n o)) (first|exact a4|exact av _ _ (by assumption)|assumption) ((go_at_call 43;refine(cp _ (by first|exact a8|exact bv _)).mono ?_;rintro e f ⟨p,m,rfl,ao,B⟩;have cc:=B.T (by first|exact a4|exact av _ _ a4) id));(all_goals first|(rename_i hHeld0;have bi:=N.size;have a0:=B.size;simp only[World.drew]at a0;have a7:=((a8.t B).alloc (.cells H 4));have W:=Lz (.slice i n o) q m (n:=n) (ob:=f.heap.size) (lo:=w.heap.size) (eb:=f.heap.size+1) (ao.T ((R.refl (fun _=>False) f).alloc (.cells H 4))) bz.o aK E (aR.cG f H _ (0,0)) (by rw[<-bA.o];exact aX.cG f H _) aK;have P:=a7.alloc (.cells #[.slice i n o,.bool q,.slice p d.length m,aB,aM,aM,aM,bJ f.heap.size n n,.bool false,aB,.bool false,.bool false,aB,.pointer none,aM,aB] 108);have a3:w.heap.size<=f.heap.size+1:=E;have U:=ac.o p m f.heap.size (f.heap.size+1) a3;clear a7 bi a0 ao cc B a4 av a8 bv ac N ap;go_wp21;generalize (f.alloc (.cells H 4)).alloc (.cells #[.slice i n o,.bool q,.slice p d.length m,aB,aM,aM,aM,bJ f.heap.size n n,.bool false,aB,.bool false,.bool false,aB,.pointer none,aM,aB] 108)=W5,f.heap.size+1=eb at*;obtain⟨X,y⟩:∃X:A.Fx,X=⟨.slice i n o,q,p,m,d,bJ f.heap.size n n,w.heap.size⟩:=⟨_,rfl⟩;have ad:Hid (X.aT.length=d.length):=(by rw[y];rfl);have bb:Hid (KS X eb W5 {ai:=VE n false}):=(by rw[y];exact W);have bE:Hid (wY w X F eb g cs):=(by rw[y];exact U);have b7:Hid _:=P;clear y W U P hHeld0)|(rename_i hHeld0;have bi:=N.size;have a0:=B.size;simp only[World.size_alloc,World.drew]at a0;have a7:=(((N.alloc (.cells H 4)).drew).t B);have W:=Lz (.slice i n o) q m (n:=n) (ob:=L.heap.size) (lo:=w.heap.size) (eb:=f.heap.size) ao bz.o E E ((aR.cG L H _ (0,0)).drew.T B id) (by rw[<-bA.o];exact(aX.cG L H _).drew.T B id) rfl;have P:=a7.alloc (.cells #[.slice i n o,.bool q,.slice p d.length m,aB,aM,aM,aM,bJ L.heap.size n n,.bool false,aB,.bool false,.bool false,aB,.pointer none,aM,aB] 108);have a3:w.heap.size<=f.heap.size:=E;have U:=ac.o p m L.heap.size f.heap.size a3;clear a7 bi a0 ao cc B a4 av a8 bv ac N ap;go_wp21;generalize f.alloc (.cells #[.slice i n o,.bool q,.slice p d.length m,aB,aM,aM,aM,bJ L.heap.size n n,.bool false,aB,.bool false,.bool false,aB,.pointer none,aM,aB] 108)=W5,f.heap.size=eb at*;obtain⟨X,y⟩:∃X:A.Fx,X=⟨.slice i n o,q,p,m,d,bJ L.heap.size n n,w.heap.size⟩:=⟨_,rfl⟩;have ad:Hid (X.aT.length=d.length):=(by rw[y];rfl);have bb:Hid (KS X eb W5 {ai:=VE n false}):=(by rw[y];exact W);have bE:Hid (wY w X F eb g cs):=(by rw[y];exact U);have b7:Hid _:=P;clear y W U P hHeld0));all_goals(go_loopg [] (d.length+1) (fun j wr=>∃a,Hid (Er.jG F jU cs j a=r/\Dd n a/\d.length+1<=j+a.aI)/\Hid (KS X eb wr a)/\Hid (aG w wr));(case atStart=>exact ⟨_,⟨c1.o.symm,⟨VF _,fun _=>VF _,VF _,aK⟩,VK _ _⟩,bb,b7⟩);case round=>obtain⟨a,b9,bc,S⟩:=hrel;clear bb b7 c1;obtain⟨b0,b1,ch⟩:=b9.o;obtain⟨d9,dg,d1,d2,d7,d8,C⟩:=bc.o;have am:=(C.ed.get 15 E _ rfl).1;have bh:=(C.ed.get 11 E _ rfl).1;have c5:=C.b3;rw[ad.o]at c5;obtain⟨j,rfl⟩:∃j,gk=j+1:=⟨gk-1,E⟩;have z:=oY X eb wr a C;rw[ad.o]at z;have M:=eR eb wr a.ew am;have ba:Hid (∀u,aG wr u->_):=fun u I=>rI eb u _ _ (C.quiet I).ed;have bx:Hid (∀u,aG wr u->u.c eb 15=some (Z a.ew)):=fun u I=>I.T am id;by_cases a1:a.ew=0/\a.lJ=false/\a.aI<d.length;{obtain⟨x,be,al⟩:=a1;have D:=jD x;have a2:decide ((a.aI:Int)<d.length)=true:=by{simp;exact al};rw[D]at M;rw[be]at bh;rw[a2]at z;have gN:Hid (Er.jG F jU cs j (pQ F jU cs a)=r/\Dd n (pQ F jU cs a)/\d.length+1<=j+(pQ F jU cs a).aI):=⟨by rw[<-b0];show _=Er.jG F jU cs (j+1) a;rw[Er.jG,if_pos ⟨x,be,by rw[b5.o];exact al⟩],Lo b1,by have:=L4 F jU cs a;omega⟩;have bw:Hid (∀u,aG wr u->_):=fun u I=>BV w X F eb g cs bE.o u (S.o.t I) a ⟨_,_,_,_,_,_,C.quiet I⟩ (by rw[b6.o];exact b1) (by rw[ad.o];exact al);clear b0 b1 ch b9 bc S C x be al D a2 c5;go_wp21;refine M.kk ?_;go_wp21;refine z.mono ?_;clear z;rintro e b4 ⟨rfl,a6⟩;have cm:=bw.o b4 a6;clear bw;go_wp21;refine cm.mono ?_;rintro e dj ⟨⟨v6,rfl⟩,fl,ho⟩;exact Np};{have a5:a=r:=by{rw[<-b0,Er.jG,if_neg (by rw[b5.o];exact a1)]};subst a5;clear b0 b1 ch b9 bc C;by_cases x:a.ew=0;{have c4:=ab.o.1 x;have D:=jD x;rw[D]at M;rw[x]at am;have cl:Hid (∀u,aG wr u->u.c eb 15=some aB):=fun u I=>I.T am id;have aa:Hid _:=c4;clear D c4 ab;cases b2:a.lJ with|true=>rw[b2]at bh;have bq:=ba.o wr (R.refl _ _);clear bx z;go_wp21;refine M.kk ?_;go_wp21;refine bq.k fun cW bs=>?_;go_wp2;go_ret2;rw[aa.o];exact⟨rfl,En S.o bs a3 (fun b e=>e)⟩|false=>rw[b2]at bh;have co:¬a.aI<d.length:=fun h=>a1 ⟨x,b2,h⟩;have a2:decide ((a.aI:Int)<d.length)=false:=bQ;rw[a2]at z;clear a2 co a1 b2;go_wp21;refine M.kk ?_;go_wp21;refine z.mono ?_;clear z;rintro e b4 ⟨rfl,a6⟩;have d6:=cl.o b4 a6;have bq:=ba.o b4 a6;go_wp21;refine bq.k fun cW bs=>?_;go_wp2;go_ret2;rw[aa.o];exact⟨rfl,En (S.o.t a6) bs a3 (fun b e=>e)⟩};{have aa:Hid _:=ab.o.2 x;have D:=bP x;rw[D]at M;clear ab D z ba bx a1;go_wp21;refine M.kk ?_;go_wp21;go_quiet (fail);go_wp2;go_ret2;rw[aa.o];exact⟨rfl,S.o.drewN _⟩}})
end
end Go.Proofs.YtbiobhghnldckaaGreatDoor
