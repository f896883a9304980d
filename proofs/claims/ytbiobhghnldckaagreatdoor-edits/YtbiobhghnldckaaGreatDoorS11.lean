/- Proved: steps on the way to the card. Conditions: as each states. -/
import Derived.Test.YtbiobhghnldckaaGreatDoorS10
import Derived.Test.YtbiobhghnldckaaGreatDoorS8
namespace Go.Proofs.YtbiobhghnldckaaGreatDoor
open Or renaming inr->VE,inl->VF
open List renaming getD_eq_getElem?_getD->VG,mem_append->VH,length_singleton->VI,length_append->VJ,eq_nil_of_length_eq_zero->VL,mem_append_left->VM,mem_cons_of_mem->VP,takeWhile_sublist->VS,drop_of_length_le->VT,mem_of_getLast?->VU,takeWhile_cons->VV,length_pos_iff->VW,mem_cons_self->VX
open Bool renaming false_eq_true->VK
open Int renaming toNat_natCast->VN
open Nat renaming zero_le->VO,le_refl->VQ
open World renaming ownsRow_nil->VR
open Value renaming slice->VY
open Go.Proofs.Tryz
open A V Er Rr Rm
set_option linter.unusedVariables false
set_option maxRecDepth 100000
set_option maxHeartbeats 6400000
section
namespace V
open A (iD)
theorem qY(row rc a):jM (row++[rc]) ((row++[rc]).length-1) a=row++[a rc]:=by unfold jM;have e:(row++[rc]).length-1=row.length:=aK;rw[e];simp
structure Uh(L pl:List Int)(i:Nat)(c:fZ)(r:Rr.RC):Prop where
 ag:r.ag=c.ag
 neg:r.neg=c.neg
 dx:r.dx=i
 bN:Uq L pl c.bN r.a r.b
 next:r.next=i+1
 c0:c={bN:=c.bN,neg:=c.neg,ag:=c.ag}
 r0:r.text= []/\r.ys= []/\r.af=0/\r.fL= []/\r.iY= []/\r.cG= []
 wh:c.ag∈eY
theorem C4{L i p b}(h:b∈(L.drop i).takeWhile p):∃j,j<L.length/\b=aj L j:=by have⟨j,a,e⟩:=List.mem_iff_getElem.1 (List.mem_of_mem_drop ((VS p).mem h));refine⟨j,a,?_⟩;unfold aj;rw[VG,List.getElem?_eq_getElem a,e];rfl
theorem Hx{L:List Int}{i p}:((L.drop i).takeWhile p).length<=L.length:=by have a:=(VS p (l:=L.drop i)).length_le;rw[List.length_drop]at a;omega
theorem CX{L pl i c b}(h:fP L pl i=.ok (c,b)):(c=10\/∃j,j<L.length/\c=aj L j)/\i<b:=by have g:∀j,aj L j≠ -1->j<L.length:=fun j f=>cJ f;unfold fP at h;split at h;{unfold A.cQ at h;split at h;{grind};{split at h;{rename_i a;injection h with h;injection h with d k;refine⟨VE ⟨i+1,g _ (fun e=>?_),d.symm⟩,E⟩;rw[e]at a;revert a;decide};{cases h}}};{unfold A.plain at h;split at h;{cases h};{grind}}
theorem zv{L pl}:∀(n:Nat) (rs:List Int) (i:Nat) (d:List Int) (b:Nat),mN L pl n rs i=.ok (d,b)->rs.length<=i->i<=L.length->(∀a∈rs,a=10\/∃j,j<L.length/\a=aj L j)->(∀a∈d,a=10\/∃j,j<L.length/\a=aj L j)/\d.length<b/\b<=L.length+1
 |0,rs,i,d,b,h,hl,hi,hm=>by cases h
 |n+1,rs,i,d,b,h,hl,hi,hm=>by
  unfold mN at h;split at h
  ·grind
  ·cases f:fP L pl i with
   |error o=>rw [f]at h;cases h
   |ok a=>
    have⟨c,g⟩:=a;rw[f]at h;have⟨p,q⟩:=CX f;by_cases k:g<=L.length
    ·refine zv n (rs++[c]) g d b h cr k (fun a m=>?_)
     rcases VH.1 m with e|e
     ·exact hm a e
     ·simp_all
    ·exfalso
     have l:aj L g= -1:=pC E
     cases n with
     |zero=>cases h
     |succ n=>
      unfold mN fP A.plain at h;simp[l]at h
theorem Le{L pl}(B:iZ L)(ps c)(d1:c.ag≠123)(at_ i2)(b9:i2<=L.length)(q k ak bu row rc)(l:Uh L pl row.length c rc)(M os cc i3)(h:A.bR L pl ps c (aD pl at_) i2=.ok (M,os,cc,i3)):∃bc,(bR L pl c.ag at_ ⟨⟨i2,0,q,k⟩,ak,bu,row++[rc]⟩).row=row++[bc]/\dJ L pl row.length M bc/\M.cM=0:=by obtain⟨P,X,a0,a1,s,t⟩:=l.r0;have a2:=l.c0;have O:c.cM=0:=by{rw[a2]};unfold bR;unfold A.bR at h;rcases rq c.ag l.wh with ⟨e,o⟩ |⟨e,o⟩ |⟨e,o⟩ |⟨e,o⟩ |⟨e,o⟩ |⟨e,o⟩ |⟨e,o⟩;{omega};{rw[o]at h;simp only at h;rw[if_pos e];refine⟨{rc with text:=mI L pl ⟨i2,0,q,k⟩},qY row rc (fun c=>{c with text:=mI L pl ⟨i2,0,q,k⟩}),?_⟩;have C:bj L ⟨i2,0,q,k⟩=aj L i2:=rfl;have key:M={c with text:=cg (mI L pl ⟨i2,0,q,k⟩)}/\(mI L pl ⟨i2,0,q,k⟩= []\/∃j,mI L pl ⟨i2,0,q,k⟩=A.bd L j):=by{rcases n:iM L pl c i2 with r |⟨c',G⟩ <;> rw[n]at h;{cases h};injection h with h;injection h with m h;subst m;unfold iM at n;simp only at n;unfold mI;simp only[C];split at n;{rename_i z;have c4:aj L i2=10\/aj L i2= -1:=bS z;injection n with n;injection n with al c3;rw[if_neg (show ¬(0<=aj L i2/\aj L i2≠32/\aj L i2≠9/\aj L i2≠10) by omega),if_neg (show ¬(aj L i2=32\/aj L i2=9) by omega)];simp only[if_true];have c6:A.bd L i2= []:=by{unfold A.bd;rcases c4 with b6|b6;{exact ie (by rw[b6];rfl)};{rcases gh B i2 with ⟨_,c1⟩ |⟨m,_⟩;{rw[VT c1];rfl};{omega}}};rw[c6,<-al];refine⟨?_,VF rfl⟩;rw[a2];rfl};{split at n;{cases n};{rename_i d2 N;injection n with n;injection n with al c3;have c2:aj L i2=32\/aj L i2=9:=by{unfold bU at N;simp at N;omega};rw[if_neg (show ¬(0<=aj L i2/\aj L i2≠32/\aj L i2≠9/\aj L i2≠10) by omega),if_pos c2];simp only[if_true];exact⟨al.symm,VE ⟨_,rfl⟩⟩}}};obtain⟨c9,ca⟩:=key;have ba:(mI L pl ⟨i2,0,q,k⟩).length<=L.length/\∀I∈mI L pl ⟨i2,0,q,k⟩,∃j,j<L.length/\I=aj L j:=by{rcases ca with aa |⟨j,aa⟩;{rw[aa];simp};{rw[aa];exact⟨Hx,fun I U=>C4 U⟩}};subst c9;refine⟨⟨l.ag,l.neg,l.dx,l.bN,fun _=>rfl,fun g=>absurd g lM,fun g=>absurd g lM,fun _=>⟨X,a0,a1⟩,fun g=>absurd g lM,⟨ba.1,by rw[s];simp,by rw[s,t]⟩,⟨ba.2,by rw[t];simp⟩,fun _=>l.next,l.wh⟩,O⟩};{rw[o]at h;simp only at h;have H:¬(c.ag=97\/c.ag=99\/c.ag=105):=E;rw[if_neg H,if_pos e];have C:=uf (L:=L) (pl:=pl) i2 b9 q k;refine⟨{rc with text:=dA L ⟨i2,0,q,k⟩},qY row rc (fun c=>{c with text:=dA L ⟨i2,0,q,k⟩}),?_⟩;have am:M={c with name:=cg (aN L i2)}:=by{rcases f:fm L pl ps c (aD pl at_) i2 with r |⟨c',cb,G⟩ <;> rw[f]at h;{cases h};injection h with h;injection h with m h;subst m;unfold fm at f;split at f;{cases f};{cases D:iB L pl i2 with|error r=>rw [D]at f;cases f|ok y=>obtain⟨ci,G⟩:=y;obtain⟨a,b,d,bm⟩:=C.1 _ _ D;rw[D]at f;simp only at f;split at f;{cases f};{injection f with f;injection f with F f;rw[<-F,b]}}};rw[C.2.2];subst am;refine⟨⟨l.ag,l.neg,l.dx,l.bN,fun g=>absurd g lM,fun _=>⟨rfl,ru L i2⟩,fun g=>absurd g lM,fun _=>⟨X,a0,a1⟩,fun g=>absurd g lM,⟨Hx,by rw[s];simp,by rw[s,t]⟩,⟨fun I U=>C4 U,by rw[t];simp⟩,fun _=>l.next,l.wh⟩,O⟩};{rw[o]at h;simp only at h;have H:¬(c.ag=97\/c.ag=99\/c.ag=105):=E;have W:¬c.ag=58:=E;rw[if_neg H,if_neg W,if_pos e];have c5:=ix (L:=L) i2 b9;have C:=uf (L:=L) (pl:=pl) (bB L i2) c5 q k;refine⟨{rc with text:=dA L (skip L ⟨i2,0,q,k⟩ false)},qY row rc (fun c=>{c with text:=dA L (skip L ⟨i2,0,q,k⟩ false)}),?_⟩;have am:M={c with name:=cg (aN L (bB L i2))}:=by{rcases f:fh L pl ps c (aD pl at_) i2 with r |⟨c',cb,G⟩ <;> rw[f]at h;{cases h};injection h with h;injection h with m h;subst m;unfold fh at f;simp only at f;split at f;{rename_i z;injection f with f;injection f with F f;have c8:=yI (L:=L) (i:=bB L i2) (bS z);rw[<-F,c8,a2];rfl};{cases D:iB L pl (bB L i2)with|error r=>rw [D]at f;cases f|ok y=>obtain⟨ci,G⟩:=y;obtain⟨a,b,d,bm⟩:=C.1 _ _ D;rw[D]at f;simp only at f;injection f with f;injection f with F f;rw[<-F,b]}};rw[eX,C.2.2];subst am;refine⟨⟨l.ag,l.neg,l.dx,l.bN,fun g=>absurd g lM,fun _=>⟨rfl,ru L _⟩,fun g=>absurd g lM,fun _=>⟨X,a0,a1⟩,fun g=>absurd g lM,⟨Hx,by rw[s];simp,by rw[s,t]⟩,⟨fun I U=>C4 U,by rw[t];simp⟩,fun _=>l.next,l.wh⟩,O⟩};{rw[o]at h;simp only at h;have H:¬(c.ag=97\/c.ag=99\/c.ag=105):=E;have W:¬c.ag=58:=E;have b0:¬(c.ag=98\/c.ag=116):=E;rw[if_neg H,if_neg W,if_neg b0,if_pos e];refine⟨gy L pl ⟨i2,0,q,k⟩ rc,qY row rc _,?_⟩;rcases f:cI L pl c i2 with r |⟨c',G⟩ <;> rw[f]at h;{cases h};injection h with h;injection h with m h;subst m;unfold cI at f;split at f;{cases f};{rename_i z;have ac:aj L i2=47:=bS z;have S:=di (L:=L) (i:=i2) E;rcases ap:fA L pl (i2+1)with r |⟨p,x⟩ <;> rw[ap]at f;{cases f};simp only at f;obtain⟨⟨a6,a7,a8,b2⟩,bh⟩:=(uj (pl:=pl) B (i2+1) S q k).1 _ _ ap;rcases a3:A.bO L pl p.af (L.length+1) [] x with r |⟨be,a4⟩ <;> rw[a3]at f;{cases f};simp only at f;rw[a7]at a3;obtain⟨a9,bi,b3⟩:=(lQ (pl:=pl) B q k _ (L.length+1) [] x E b2).1 _ _ a3;obtain⟨bk,bl⟩:=AW B q k _ (L.length+1) [] [] x be a4 E b2 a3 trivial (VO _);have an:c.all=false/\c.ay=false/\c.dc=0:=by{rw[a2];exact⟨rfl,rfl,rfl⟩};have b7:=oQ (pl:=pl) B q k (L.length+1) {c with fk:=p,cx:=be} a4 c' G E b3 f;simp only[an.1,an.2.1,an.2.2]at b7;obtain⟨bp,bs,bv,ab,bw,bx,bz,bA,cn,cj,bq,cl,cm⟩:=b7;have ao:mc L pl ⟨i2,0,q,k⟩ 47=⟨i2+1,0,q,k⟩:=xM ac;have av:=bx;unfold gy;simp only;rw[ao,a6,a9];refine⟨⟨l.ag.trans av.symm,l.neg.trans bA.symm,l.dx,by rw[bz];exact l.bN,fun g=>absurd g E,fun g=>absurd g E,fun _=>⟨by rw[ab];exact bh,by rw[ab];exact a7.symm,by rw[bw];exact bk,bl,bv,bp,bs,i2+1,x,S,by rw[ab];exact ap⟩,fun g=>absurd (av.trans e) g,fun g=>absurd g E,⟨by show rc.text.length<=_;rw[P];simp,by show rc.iY.length<=_;rw[s];simp,by show rc.iY.length=rc.cG.length;rw[s,t]⟩,⟨by show ∀I∈rc.text,_;rw[P];simp,by show ∀I∈rc.cG,_;rw[t];simp⟩,fun _=>l.next,by rw[av];exact l.wh⟩,bq.trans O⟩}};{rw[o]at h;simp only at h;have H:¬(c.ag=97\/c.ag=99\/c.ag=105):=E;have W:¬c.ag=58:=E;have b0:¬(c.ag=98\/c.ag=116):=E;have ch:¬c.ag=115:=E;rw[if_neg H,if_neg W,if_neg b0,if_neg ch,if_pos e];refine⟨yn L pl ⟨i2,0,q,k⟩ rc,qY row rc _,?_⟩;rcases f:eQ L pl c (aD pl at_) i2 with r |⟨c',G⟩ <;> rw[f]at h;{cases h};injection h with h;injection h with m h;subst m;unfold eQ at f;split at f;{cases f};{rename_i z;have ac:aj L i2=47:=bS z;have S:=di (L:=L) (i:=i2) E;have ao:mc L pl ⟨i2,0,q,k⟩ 47=⟨i2+1,0,q,k⟩:=xM ac;rcases ad:mN L pl (L.length+1) [] (i2+1)with r |⟨a5,x⟩ <;> rw[ad]at f;{cases f};simp only at f;obtain⟨a6,a7,a8⟩:=(oe (pl:=pl) B q k (L.length+1) [] (i2+1) E S).1 _ _ ad;obtain⟨d4,d5,d6⟩:=zv (L.length+1) [] (i2+1) a5 x ad (VO _) S aK;rcases N:mN L pl (L.length+1) [] x with r |⟨b1,a4⟩ <;> rw[N]at f;{cases f};simp only at f;obtain⟨a9,bi,b3⟩:=(oe (pl:=pl) B q k (L.length+1) [] x E a8).1 _ _ N;obtain⟨ce,d7,d8⟩:=zv (L.length+1) [] x b1 a4 N (VO _) a8 aK;split at f;{cases f};{rename_i bb;injection f with f;injection f with F d3;have c7:a5.length=b1.length:=by{simp only[Bool.or_eq_true,bne_iff_ne,ne_eq,not_or,Decidable.not_not]at bb;exact bb.1};subst F;unfold yn;simp only;rw[ao,a6,a9];refine⟨⟨l.ag,l.neg,l.dx,l.bN,fun g=>absurd g lM,fun g=>absurd g lM,fun g=>absurd g lM,fun _=>⟨X,a0,a1⟩,fun _=>⟨rfl,rfl⟩,⟨by show rc.text.length<=_;rw[P];simp,by show a5.length<=_;omega,c7⟩,⟨by show ∀I∈rc.text,_;rw[P];simp,ce⟩,fun _=>l.next,l.wh⟩,O⟩}}};{rw[o]at h;simp only at h;injection h with h;injection h with m h;subst m;obtain⟨co,cp,cs,cv,bE,cW,d0,b4,b5⟩:=e;rw[if_neg E,if_neg bE,if_neg E,if_neg b4,if_neg b5];refine⟨rc,rfl,⟨l.ag,l.neg,l.dx,l.bN,fun g=>absurd g E,fun g=>absurd g E,fun g=>absurd g b4,fun _=>⟨X,a0,a1⟩,fun g=>absurd g b5,⟨by rw[P];simp,by rw[s];simp,by rw[s,t]⟩,⟨by rw[P];simp,by rw[t];simp⟩,fun _=>l.next,l.wh⟩,O⟩}
theorem Uh.Ve{L pl i c r}(h:Uh L pl i c r)(f:c.ag=123):dJ L pl i c r/\c.cM=0:=by have⟨a,g,j,k,b,d⟩:=h.r0;exact⟨⟨h.ag,h.neg,h.dx,h.bN,fun e=>absurd e E,fun e=>absurd e E,fun e=>absurd e E,fun _=>⟨g,j,k⟩,fun e=>absurd e E,⟨by rw[a];simp,by rw[b];simp,by rw[b,d]⟩,⟨by rw[a];simp,by rw[d];simp⟩,fun e=>absurd f e,h.wh⟩,by rw[h.c0]⟩
theorem kx(cs)(c:fZ)(i):(cs++[c]).getD i {}=if i<cs.length then cs.getD i {}else if i=cs.length then c else {}:=by grind
structure zK(ak:List pZ)(cs:List fZ):Prop where
 a:∀i,i<cs.length->(cs.getD i {}).ag=58->∃u∈ak,u.name=(cs.getD i {}).name/\u.set=(i:Int)
 b:∀u∈ak,u.set≠ -1->∃i,i<cs.length/\u.set=(i:Int)/\(cs.getD i {}).ag=58/\(cs.getD i {}).name=u.name
 c:∀i,i<cs.length->(cs.getD i {}).ag=98\/(cs.getD i {}).ag=116->(cs.getD i {}).name≠ []->∃u∈ak,u.name=(cs.getD i {}).name
theorem zK.qd{ak cs}(h:zK ak cs){c:fZ}(m:c.ag≠58)(n:c.ag=98\/c.ag=116->c.name≠ []->∃u∈ak,u.name=c.name):zK ak (cs++[c]):=by refine⟨fun i j d=>?_,fun u l k=>?_,fun i j d g=>?_⟩;{rw[kx]at d ⊢;by_cases f:i<cs.length;{rw[if_pos f]at d ⊢;exact h.a i f d};{grind}};{have⟨i,o,a4,ab,be⟩:=h.b u l k;exact ML};{rw[kx]at d g ⊢;by_cases f:i<cs.length;{rw[if_pos f]at d g ⊢;exact h.c i f d g};{grind}}
theorem Lh{L pl}(ps c)(H:c.ag∈eY)(t i2 z os F i3)(h:A.bR L pl ps c t i2=.ok (z,os,F,i3))(a0:z.ag=c.ag)(U:c.name= [])(X:∀u∈ps.ak,∀v∈ps.ak,u.name=v.name->u=v)(g4:zK ps.ak ps.au):zK F (ps.au++[z]):=by unfold A.bR at h;rcases rq c.ag H with ⟨e,g⟩ |⟨e,g⟩ |⟨e,g⟩ |⟨e,g⟩ |⟨e,g⟩ |⟨e,g⟩ |⟨e,g⟩;{rw[g]at h;simp only at h;exact D7};{rw[g]at h;simp only at h;split at h;{cases h};{exact D7}};{rw[g]at h;simp only at h;rcases d:fm L pl ps c t i2 with f |⟨c',P,N⟩ <;> rw[d]at h;{cases h};injection h with h;injection h with o h;injection h with a4 h;injection h with ab be;subst o;subst ab;unfold fm at d;split at d;{cases d};{split at d;{cases d};{rename_i bE O G;simp only at d;split at d;{cases d};{rename_i W;injection d with d;injection d with j d;injection d with s d;have D:(cF ps.ak bE).name=bE:=by{exact Nc};have n:∀u∈ps.ak,u.set≠ -1->u.name≠bE:=fun u x j m=>by{exact Nb};subst j;subst s;refine⟨fun i q k=>?_,fun u x j=>?_,fun i q k n=>?_⟩;{rw[kx]at k ⊢;by_cases r:i<ps.au.length;{rw[if_pos r]at k ⊢;have⟨u,u1,u2,u3⟩:=g4.a i r k;exact⟨u,cz.2 (VE ⟨u1,by show u.name≠(cF ps.ak bE).name;rw[D];exact n u u1 E⟩),u2,u3⟩};{rw[VJ,VI]at q;have B:i=ps.au.length:=E;rw[if_neg r,if_pos B];exact⟨_,cz.2 (VF rfl),D,by rw[B]⟩}};{rcases cz.1 x with m |⟨m,an⟩;{grind};{have⟨i,o,a4,ab,be⟩:=g4.b u m j;exact ML}};{rw[kx]at k n ⊢;by_cases r:i<ps.au.length;{rw[if_pos r]at k n ⊢;have⟨u,u1,u2⟩:=g4.c i r k n;by_cases p:u.name=(cF ps.ak bE).name;{exact⟨_,cz.2 (VF rfl),by show(cF ps.ak bE).name=_;rw[<-p];exact u2⟩};{exact⟨u,cz.2 (VE ⟨u1,p⟩),u2⟩}};{grind}}}}}};{rw[g]at h;simp only at h;rcases d:fh L pl ps c t i2 with f |⟨c',P,N⟩ <;> rw[d]at h;{cases h};injection h with h;injection h with o h;injection h with a4 h;injection h with ab be;subst o;subst ab;have C:c'.ag≠58:=E;unfold fh at d;simp only at d;split at d;{rename_i S;injection d with d;injection d with j d;injection d with s d;subst s;exact g4.qd C (fun _ n=>absurd aU n)};{split at d;{cases d};{rename_i bE O G;injection d with d;injection d with j d;injection d with s d;obtain⟨l,I⟩:∃l,l=(if (cF ps.ak bE).bX== -1 then {cF ps.ak bE with bX:=t}else cF ps.ak bE):=⟨_,rfl⟩;rw[<-I]at s;have y:l.set=(cF ps.ak bE).set/\l.name=(cF ps.ak bE).name:=cr;subst s;have M:l.name=bE:=by{rw[y.2];exact Nc};refine zK.qd ⟨fun i q k=>?_,fun u x j=>?_,fun i q k n=>?_⟩ C (fun _ _=>⟨l,cz.2 (VF rfl),by rw[M,<-j]⟩);{have⟨u,u1,u2,u3⟩:=g4.a i q k;by_cases p:u.name=l.name;{refine⟨l,cz.2 (VF rfl),by rw[<-p];exact u2,?_⟩;exact Nb};{exact⟨u,cz.2 (VE ⟨u1,p⟩),u2,u3⟩}};{rcases cz.1 x with m |⟨m,an⟩;{rcases eM ps.ak bE with ⟨cl,c0⟩ |⟨cl,c0⟩;{rw[m,y.1]at j;have⟨i,o,a4,ab,be⟩:=g4.b _ cl j;exact⟨i,o,by rw[m,y.1];exact a4,ab,by rw[m,y.2];exact be⟩};{simp_all}};{exact g4.b u m j}};{have⟨u,u1,u2⟩:=g4.c i q k n;by_cases p:u.name=l.name;{exact⟨l,cz.2 (VF rfl),by rw[<-p];exact u2⟩};{exact⟨u,cz.2 (VE ⟨u1,p⟩),u2⟩}}}}};{rw[g]at h;simp only at h;split at h;{cases h};{exact D7}};{rw[g]at h;simp only at h;split at h;{cases h};{exact D7}};{rw[g]at h;simp only at h;exact D7}
end V
namespace V
open A (iD)
def gd(L pl:List Int)(m:Nat)(ps:A.Ps):Except iD A.Ps:=
 match iE L pl m ps with
 | .error f=>.error f
 | .ok s=>if s.ai.length>0 then .error (3,aD pl s.i)else .ok s
theorem AA{L pl m ps}(h:aj L ps.i= -1):gd L pl (m+1) ps=if ps.ai.length>0 then .error (3,aD pl ps.i)else .ok ps:=by unfold gd iE;simp only[h,beq_self_eq_true,if_true]
theorem ku{L pl m ps a}(h:aj L ps.i≠ -1)(c:cB L pl ps=.ok a):gd L pl (m+1) ps=gd L pl m a:=by
 unfold gd;have b:=bP h
 conv=>lhs;unfold iE
 rw[b];simp;rw[c]
theorem LK{L pl m ps a}(h:aj L ps.i≠ -1)(c:cB L pl ps=.error a):gd L pl (m+1) ps=.error a:=by unfold gd iE;have b:=bP h;rw[b];simp;rw[c]
structure uI(L pl:List Int)(op:List Int)(cs:List fZ)(row:List Rr.RC):Prop where
 len:cs.length=row.length
 my:∀i,i<cs.length->dJ L pl i (cs.getD i {}) (row.getD i {})/\((cs.getD i {}).ag=123->(i:Int) ∉ op->((row.getD i {}).next:Int)=(cs.getD i {}).cM)/\((cs.getD i {}).ag≠123->(cs.getD i {}).cM=0)/\(cs.getD i {}).cM<=(cs.length:Int)
structure Ia(L pl:List Int)(q:Int)(nest:Nat)(ox:List Int)(r:RS)(ps:A.Ps):Prop where
 s:r.s=⟨ps.i,0,q,(ps.au.length:Int)⟩
 le:ps.i<=L.length
 op:ps.ai.length=nest
 lr:mr pl ps.i r.ak r.bu ps.ak
 n5:nest<=5
 Ll:ps.au.length<=40
 row:uI L pl ox ps.au r.row
 lk:zK ps.ak ps.au
 ops:∀x∈ox,∃j:Nat,x=(j:Int)/\j<ps.au.length/\(ps.au.getD j {}).ag=123
theorem JR(cs)(c:Rr.RC)(i):(cs++[c]).getD i {}=if i<cs.length then cs.getD i {}else if i=cs.length then c else {}:=by grind
theorem uI.qd{L pl op cs row}(h:uI L pl op cs row){c r}(q:dJ L pl cs.length c r)(o:c.cM=0)(g)(j:∀x∈op,x∈g)(p:c.ag=123->(cs.length:Int)∈g):uI L pl g (cs++[c]) (row++[r]):=by refine⟨by simp[h.len],fun i k=>?_⟩;rw[kx,JR,<-h.len];rw[VJ,VI]at k;by_cases f:i<cs.length;{rw[if_pos f,if_pos f];have⟨a,b,d,n⟩:=h.my i f;exact⟨a,fun e m=>b e (fun l=>m (j _ l)),d,by rw[VJ,VI];omega⟩};{grind}
theorem nk(cs k g i)(a:k<cs.length):(fS cs k g).getD i {}=if i=k then {cs.getD i {}with cM:=g}else cs.getD i {}:=by unfold fS;rw[VG,List.getElem?_modify];by_cases h:i=k;{simp_all};{grind}
theorem dJ.cM{L pl i c r}(h:dJ L pl i c r)(g):dJ L pl i {c with cM:=g} r:=⟨h.ag,h.neg,h.dx,h.bN,h.text,h.name,h.sub,h.SV,h.fu,h.len,h.mem,h.next,h.wh⟩
theorem Ir{c}:xI true c=(bU c || c==10 || c==59):=by unfold xI bU;simp[Bool.or_assoc]
theorem JQ{L pl}(ps:A.Ps):∀(n j m:Nat),L.length-j<=n->j<=L.length->L.length<m+j-> ∃d,L.length<d+(j+((L.drop j).takeWhile (xI true)).length)/\gd L pl m {ps with i:=j}=gd L pl d {ps with i:=j+((L.drop j).takeWhile (xI true)).length}:=by intro n;induction n with|zero=>intro j m f g k;refine⟨m,E,?_⟩;rw[VT E];rfl|succ n q=>intro j m f g k;by_cases o:j<L.length;{rw[gA o,VV];cases c:xI true (aj L j)with|true=>{simp;cases m with|zero=>omega|succ m=>have⟨d,a,b⟩:=q (j+1) m E E E;refine⟨d,E,?_⟩;have p:aj L j≠ -1:=fun e=>by{rw[e]at c;revert c;decide};have l:cB L pl {ps with i:=j}=.ok {ps with i:=j+1}:=by{unfold cB;rw[Ir]at c;simp only[c,if_true]};rw[ku (by exact p) l,b,show j+(((L.drop (j+1)).takeWhile (xI true)).length+1)=j+1+((L.drop (j+1)).takeWhile (xI true)).length by omega]}|false=>refine⟨m,bQ,?_⟩;rfl};{grind}
theorem Qp{L}:∀(n j:Nat),L.length-j<=n->xI true (aj L (j+((L.drop j).takeWhile (xI true)).length))=false:=by intro n;induction n with|zero=>intro j h;rw[pC E];decide|succ n c=>intro j h;by_cases b:j<L.length;{rw[gA b,VV];cases a:xI true (aj L j)with|true=>simp;rw[show j+(((L.drop (j+1)).takeWhile (xI true)).length+1)=j+1+((L.drop (j+1)).takeWhile (xI true)).length by omega];exact c (j+1) E|false=>exact a};{grind}
theorem fH(cs k g):(fS cs k g).length=cs.length:=by unfold fS;simp
theorem qi{L pl ps c g a i i3 os j}(h:A.bR L pl ps c a i=.ok (g,os,j,i3)):g.ag=c.ag:=by unfold A.bR at h;split at h;{simp_all};{split at h;{cases h};{rename_i b;injection h with h;injection h with d f;unfold iM at b;simp only at b;split at b;{simp_all};{grind}}};{split at h;{cases h};{rename_i b;injection h with h;injection h with d f;unfold fm at b;split at b;{cases b};{grind}}};{split at h;{cases h};{rename_i b;injection h with h;injection h with d f;unfold fh at b;simp only at b;split at b;{simp_all};{grind}}};{split at h;{cases h};{rename_i b;injection h with h;injection h with d f;unfold cI at b;split at b;{cases b};{split at b;{cases b};{split at b;{cases b};{rw[<-d,kZ b]}}}}};{split at h;{cases h};{rename_i b;injection h with h;injection h with d f;unfold eQ at b;split at b;{cases b};{grind}}};{simp_all}
def Fk(op:List Int)(a:A.Ps):Prop:=a.ai=op.dropLast/\∀k,op.getLast? =some k->(a.au.getD k.toNat {}).cM=(a.au.length:Int)
theorem LQ{L pl}(n:iZ L)(b i)(p:i<=L.length)(s:bU (aj L i)=false)(q ps)(t:ps.ai.length=b)(r:b<=5)(m:ps.au.length<=40)(c d a i2)(o:A.head L pl i=.ok (c,d))(x:ag L pl ps c d=.ok (a,i2))(y:a.ag∈eY)(f):Uh L pl f a (gv L pl b ⟨i,0,q,(ps.au.length:Int)⟩ f):=by have⟨g,j,k,l⟩:=JV (pl:=pl) n b i p s q ps t r m c d a i2 o x f;exact⟨k,j,rfl,g,rfl,l,⟨rfl,rfl,rfl,rfl,rfl,rfl⟩,y⟩
theorem uI.Ts{L pl op}{n:Nat}{cs row}(h:uI L pl (op++[(n:Int)]) cs row)(q:n<cs.length)(k:(cs.getD n {}).cM=(cs.length:Int))(p:(cs.getD n {}).ag=123):uI L pl op cs (jM row n (fun c=>{c with next:=row.length})):=by have g:=h.len;refine⟨by unfold jM;rw[List.length_set];exact g,fun i l=>?_⟩;have⟨a,b,d⟩:=h.my i l;by_cases e:i=n;{subst e;have eg:(jM row i (fun c=>{c with next:=row.length})).getD i {}={row.getD i {}with next:=row.length}:=by{unfold jM;rw[VG,List.getElem?_set_self E];rfl};rw[eg];refine⟨⟨a.ag,a.neg,a.dx,a.bN,a.text,a.name,a.sub,a.SV,a.fu,a.len,a.mem,fun e=>absurd p e,a.wh⟩,fun _ _=>?_,d⟩;show((row.length:Nat):Int)=_;rw[k,g]};{have eg:(jM row n (fun c=>{c with next:=row.length})).getD i {}=row.getD i {}:=by{unfold jM;rw[VG,List.getElem?_set_ne (Ne.symm e),VG]};rw[eg];refine⟨a,fun j o=>b j (fun m=>?_),d⟩;rcases VH.1 m with f|f;{exact o f};{grind}}
theorem oI{L pl}(a6:iZ L)(ci:∀a b,a<=b->b<=L.length->aD pl a<=aD pl b)(cl:∀a,0<=aD pl a)(q):∀(n g:Nat) (r:RS) (ps:A.Ps),Ia L pl q g ps.ai r ps->L.length<n+ps.i->
 ((aY L pl n g r).s.e≠0->∀m,L.length<m+ps.i->gd L pl m ps=.error ((aY L pl n g r).s.e,(aY L pl n g r).s.p))/\
 ((aY L pl n g r).s.e=0->g=0->∃l,Ia L pl q 0 [] (aY L pl n g r) l/\∀m,L.length<m+ps.i->gd L pl m ps=.ok l)/\
 ((aY L pl n g r).s.e=0->0<g->∃l,Ia L pl q (g-1) ps.ai (aY L pl n g r) l/\(ps.i<l.i/\Fk ps.ai l)/\∀m,L.length<m+ps.i->∃o,L.length<o+l.i/\gd L pl m ps=gd L pl o l)
 |0,g,r,ps,hR,hf=>by have:=hR.le;omega
 |n+1,g,r,ps,hR,hf=>by
  have bm:=fun g r ps=>oI a6 ci cl q n g r ps;obtain⟨d,hd⟩:=b8 (((L.drop ps.i).takeWhile (xI true)).length);have ch:=hR.le;have bz:ps.i+d<=L.length:=by rw[<-hd];exact E6 _ ch _
  have dq:xI true (aj L (ps.i+d))=false:=by rw[<-hd];exact Qp _ ps.i (VQ _)
  have f3:skip L r.s true=⟨ps.i+d,0,q,(ps.au.length:Int)⟩:=by
   rw[hR.s];unfold skip;rw[if_pos rfl,hd]
  obtain⟨f,b2⟩:∃f:A.Ps,f={ps with i:=ps.i+d}:=⟨_,rfl⟩
  have fo:∀m,L.length<m+ps.i->∃o,L.length<o+(ps.i+d)/\gd L pl m ps=gd L pl o f:=by
   intro m M;obtain⟨o,a,b⟩:=JQ (L:=L) (pl:=pl) ps _ ps.i m (VQ _) ch M;rw[hd]at a b;rw[b2];exact⟨o,a,b⟩
  have av:mr pl (ps.i+d) r.ak r.bu ps.ak:=hR.lr.mono E
  suffices c4:((aY L pl (n+1) g r).s.e≠0->∀m,L.length<m+(ps.i+d)->gd L pl m f=.error ((aY L pl (n+1) g r).s.e,(aY L pl (n+1) g r).s.p))/\
   ((aY L pl (n+1) g r).s.e=0->g=0->∃l,Ia L pl q 0 [] (aY L pl (n+1) g r) l/\∀m,L.length<m+(ps.i+d)->gd L pl m f=.ok l)/\
   ((aY L pl (n+1) g r).s.e=0->0<g->∃l,Ia L pl q (g-1) ps.ai (aY L pl (n+1) g r) l/\(ps.i+d<l.i/\Fk ps.ai l)/\∀m,L.length<m+(ps.i+d)->∃o,L.length<o+l.i/\gd L pl m f=gd L pl o l) by
   obtain⟨fd,fe,ff⟩:=c4;refine⟨fun h m M=>?_,fun h C=>?_,fun h C=>?_⟩
   ·grind
   ·grind
   ·grind
  have N:f.i=ps.i+d:=by rw[b2]
  have B:f.ai=ps.ai:=by rw[b2]
  have ii:f.au=ps.au:=by rw[b2]
  have X:f.ak=ps.ak:=by rw[b2]
  have S:=hR.op
  have dj:aY L pl (n+1) g r=if bj L (⟨ps.i+d,0,q,(ps.au.length:Int)⟩:SS)<0 then {r with s:=if 0<g then no pl ⟨ps.i+d,0,q,(ps.au.length:Int)⟩ 3 L.length else ⟨ps.i+d,0,q,(ps.au.length:Int)⟩}
   else if 0<g/\bj L (⟨ps.i+d,0,q,(ps.au.length:Int)⟩:SS)=125 then {r with s:=⟨ps.i+d+1,0,q,(ps.au.length:Int)⟩}
   else aY L pl n g (if (head L pl g ⟨ps.i+d,0,q,(ps.au.length:Int)⟩).s.e=0 then (if (head L pl g ⟨ps.i+d,0,q,(ps.au.length:Int)⟩).ag=123 then {aY L pl n (g+1) {r with s:={(head L pl g ⟨ps.i+d,0,q,(ps.au.length:Int)⟩).s with aC:=(head L pl g ⟨ps.i+d,0,q,(ps.au.length:Int)⟩).s.aC+1},row:=r.row++[gv L pl g ⟨ps.i+d,0,q,(ps.au.length:Int)⟩ r.row.length]}with row:=jM (aY L pl n (g+1) {r with s:={(head L pl g ⟨ps.i+d,0,q,(ps.au.length:Int)⟩).s with aC:=(head L pl g ⟨ps.i+d,0,q,(ps.au.length:Int)⟩).s.aC+1},row:=r.row++[gv L pl g ⟨ps.i+d,0,q,(ps.au.length:Int)⟩ r.row.length]}).row r.row.length (fun c=>{c with next:=(aY L pl n (g+1) {r with s:={(head L pl g ⟨ps.i+d,0,q,(ps.au.length:Int)⟩).s with aC:=(head L pl g ⟨ps.i+d,0,q,(ps.au.length:Int)⟩).s.aC+1},row:=r.row++[gv L pl g ⟨ps.i+d,0,q,(ps.au.length:Int)⟩ r.row.length]}).row.length})}else bR L pl (head L pl g ⟨ps.i+d,0,q,(ps.au.length:Int)⟩).ag (head L pl g ⟨ps.i+d,0,q,(ps.au.length:Int)⟩).at_ {r with s:={(head L pl g ⟨ps.i+d,0,q,(ps.au.length:Int)⟩).s with aC:=(head L pl g ⟨ps.i+d,0,q,(ps.au.length:Int)⟩).s.aC+1},row:=r.row++[gv L pl g ⟨ps.i+d,0,q,(ps.au.length:Int)⟩ r.row.length]})else {r with s:=(head L pl g ⟨ps.i+d,0,q,(ps.au.length:Int)⟩).s}):=by
   conv=>lhs;unfold aY
   rw[if_pos (by rw[hR.s])];simp only;rw[f3]
  rw[dj,gQ];generalize fr:ps.i+d=j at*
  by_cases ba:aj L j= -1
  ·have cb:j=L.length:=by
    rcases gh a6 j with ⟨_,h⟩ |⟨h,_⟩
    ·omega
    ·omega
   rw[if_pos (by rw[ba];decide)];have P:aj L f.i= -1:=by rw[N];exact ba
   by_cases C:0<g
   ·rw[if_pos C]
    have x:=jW (s:=⟨j,0,q,(ps.au.length:Int)⟩) rfl pl 3 L.length ae;refine⟨fun _ m M=>?_,fun h=>absurd h x.ne,fun h=>absurd h x.ne⟩
    cases m with
    |zero=>omega
    |succ m=>
     rw[AA P,if_pos (by rw[B,S];exact C),N,cb];rw[cb]at x;rw[x.1,x.2.1]
   ·rw[if_neg C]
    refine⟨fun h=>absurd rfl h,fun _ be=>⟨f,⟨by rw[N,ii],by rw[N];exact bz,by rw[B,S,be],by rw[N,X];exact av,E,by rw[ii];exact hR.Ll,by rw[ii];have:=hR.row;rwa [VL (S.trans be)]at this,by rw[X,ii];exact hR.lk,aK⟩,fun m M=>?_⟩,fun _ h=>absurd h C⟩
    cases m with
    |zero=>omega
    |succ m=>
     rw[AA P,if_neg (by rw[B,S];exact C)]
  ·have dg:0<=aj L j:=by
    rcases gh a6 j with ⟨h,_⟩ |⟨h,_⟩
    ·exact absurd h ba
    ·exact h
   have fv:=di dg;have P:aj L f.i≠ -1:=by rw[N];exact ba
   rw[if_neg E];have bb:=dq;rw[Ir]at bb
   have bx:(bU (aj L f.i) || aj L f.i==10 || aj L f.i==59)=false:=by rw[N];exact bb
   have cj:bU (aj L j)=false:=by
    cases h:bU (aj L j)with
    |false=>rfl
    |true=>rw [h]at bb;cases bb
   by_cases b7:0<g/\aj L j=125
   ·rw[if_pos b7]
    refine⟨fun h=>absurd rfl h,fun _ h=>by omega,fun _ _=>?_⟩;have bh:ps.ai≠ []:=fun e=>by rw[e]at S;simp at S;omega
    obtain⟨k,b0⟩:∃k,ps.ai.getLast? =some k:=⟨_,List.getLast?_eq_some_getLast bh⟩;have ce:=VU b0;obtain⟨g0,b1,dr,dz⟩:=hR.ops k ce;have bc:k.toNat<ps.au.length:=by rw[b1,VN];exact dr
    have ds:(ps.au.getD k.toNat {}).ag=123:=by rw[b1,VN];exact dz
    have b1:=b1.symm
    have H:cB L pl f=.ok {f with i:=f.i+1,au:=fS f.au k.toNat f.au.length,ai:=f.ai.dropLast}:=by
     unfold cB;simp only[bx,VK,if_false];rw[N,b7.2,B,b0]
     rfl
    refine⟨{f with i:=f.i+1,au:=fS f.au k.toNat f.au.length,ai:=f.ai.dropLast},⟨?_,?_,?_,?_,?_,?_,?_,?_,?_⟩,⟨?_,?_⟩,fun m M=>?_⟩
    ·simp only[fH,N,ii]
    ·show f.i+1<=L.length
     omega
    ·show f.ai.dropLast.length=g-1
     rw[B,List.length_dropLast,S]
    ·show mr pl (f.i+1) r.ak r.bu f.ak
     rw[X];exact av.mono E
    ·have:=hR.n5;omega
    ·show(fS f.au k.toNat f.au.length).length<=40
     rw[fH,ii];exact hR.Ll
    ·show uI L pl ps.ai (fS f.au k.toNat f.au.length) r.row
     rw[ii];refine⟨by rw[fH];exact hR.row.len,fun i a2=>?_⟩;rw[fH]at a2;rw[nk _ _ _ _ bc];obtain⟨a,b,c6⟩:=hR.row.my i a2;by_cases b6:i=k.toNat
     ·rw[if_pos b6]
      refine⟨a.cM _,fun _ C=>absurd ?_ C,fun e=>absurd ?_ e,by rw[fH];exact Int.le_refl _⟩
      ·have c8:(i:Int)=k:=by rw[b6,<-b1,VN]
       rw[c8];exact ce
      ·show(ps.au.getD i {}).ag=123
       rw[b6];exact ds
     ·rw[if_neg b6]
      exact⟨a,b,c6.1,by rw[fH];exact c6.2⟩
    ·show zK f.ak (fS f.au k.toNat f.au.length)
     rw[X,ii]
     have ab:∀i,((fS ps.au k.toNat ps.au.length).getD i {}).ag=(ps.au.getD i {}).ag/\((fS ps.au k.toNat ps.au.length).getD i {}).name=(ps.au.getD i {}).name:=fun i=>by
      rw[nk _ _ _ _ bc];split <;> exact⟨rfl,rfl⟩
     refine⟨fun i a2 b4=>?_,fun u f4 f2=>?_,fun i a2 b4 bh=>?_⟩
     ·rw[fH]at a2
      rw[(ab i).1]at b4;rw[(ab i).2];exact hR.lk.a i a2 b4
     ·obtain⟨i,al,am,an,d9⟩:=hR.lk.b u f4 f2
      exact⟨i,by rw[fH];exact al,am,by rw[(ab i).1];exact an,by rw[(ab i).2];exact d9⟩
     ·rw[fH]at a2
      rw[(ab i).1]at b4;rw[(ab i).2]at bh ⊢;exact hR.lk.c i a2 b4 bh
    ·intro F O
     obtain⟨G,bq,bs,c7⟩:=hR.ops F O;refine⟨G,bq,?_,?_⟩
     ·show G<(fS f.au k.toNat f.au.length).length
      rw[fH,ii];exact bs
     ·show((fS f.au k.toNat f.au.length).getD G {}).ag=123
      rw[ii,nk _ _ _ _ bc];split <;> exact c7
    ·show j<f.i+1
     omega
    ·refine⟨by show f.ai.dropLast=ps.ai.dropLast;rw[B],fun k' cc=>?_⟩
     rw[b0]at cc
     cases cc
     show((fS f.au k.toNat f.au.length).getD k.toNat {}).cM=((fS f.au k.toNat f.au.length).length:Int);rw[fH,ii,nk _ _ _ _ bc,if_pos rfl]
    ·cases m with
     |zero=>omega
     |succ m=>exact ⟨m,by show L.length<m+(f.i+1);omega,ku P H⟩
   ·rw[if_neg b7]
    have ao:=DU (pl:=pl) a6 g j bz cj q f (by rw[B];exact S) hR.n5 (by rw[ii];exact hR.Ll);rw[ii]at ao;generalize fp:head L pl g ⟨j,0,q,(ps.au.length:Int)⟩=c4 at*
    have t:∀a5,cB L pl f=.error a5->∀rr:RS,Er rr.s a5->
     ((aY L pl n g rr).s.e≠0->∀m,L.length<m+j->gd L pl m f=.error ((aY L pl n g rr).s.e,(aY L pl n g rr).s.p))/\
     ((aY L pl n g rr).s.e=0->g=0->∃l,Ia L pl q 0 [] (aY L pl n g rr) l/\∀m,L.length<m+j->gd L pl m f=.ok l)/\
     ((aY L pl n g rr).s.e=0->0<g->∃l,Ia L pl q (g-1) ps.ai (aY L pl n g rr) l/\(j<l.i/\Fk ps.ai l)/\∀m,L.length<m+j->∃o,L.length<o+l.i/\gd L pl m f=gd L pl o l):=by
     intro a5 H rr x;rw[vJ x.ne];refine⟨fun _ m M=>?_,fun h=>absurd h x.ne,fun h=>absurd h x.ne⟩
     cases m with
     |zero=>omega
     |succ m=>rw [LK P H,x.1,x.2.1]
    have I:∀a7,cB L pl f=.ok a7->∀rr:RS,Ia L pl q g a7.ai rr a7->a7.ai=ps.ai->j<a7.i->
     ((aY L pl n g rr).s.e≠0->∀m,L.length<m+j->gd L pl m f=.error ((aY L pl n g rr).s.e,(aY L pl n g rr).s.p))/\
     ((aY L pl n g rr).s.e=0->g=0->∃l,Ia L pl q 0 [] (aY L pl n g rr) l/\∀m,L.length<m+j->gd L pl m f=.ok l)/\
     ((aY L pl n g rr).s.e=0->0<g->∃l,Ia L pl q (g-1) ps.ai (aY L pl n g rr) l/\(j<l.i/\Fk ps.ai l)/\∀m,L.length<m+j->∃o,L.length<o+l.i/\gd L pl m f=gd L pl o l):=by
     intro a7 H rr dk f0 fz;obtain⟨bk,c5,bl⟩:=bm g rr a7 dk E;refine⟨fun h m M=>?_,fun h C=>?_,fun h C=>?_⟩
     ·cases m with
      |zero=>omega
      |succ m=>rw [ku P H];exact bk h m E
     ·obtain⟨l,a,b⟩:=c5 h C
      refine⟨l,a,fun m M=>?_⟩
      cases m with
      |zero=>omega
      |succ m=>rw [ku P H];exact b m E
     ·obtain⟨l,a,a3,b⟩:=bl h C
      rw[f0]at a a3;refine⟨l,a,⟨bV a3.1,a3.2⟩,fun m M=>?_⟩
      cases m with
      |zero=>omega
      |succ m=>
       obtain⟨o,a4,z⟩:=b m E;exact⟨o,a4,by rw[ku P H];exact z⟩
    by_cases a9:aj L j=125
    ·have be:g=0:=by
      by_cases h:0<g
      ·exact absurd ⟨h,a9⟩ b7
      ·omega
     have dS:f.ai.getLast? =none:=by
      rw[B];have:ps.ai= []:=VL (by rw[S];exact be);rw[this]
      rfl
     have H:cB L pl f=.error (3,aD pl j):=by
      unfold cB;simp only[bx,VK,if_false];rw[N,a9,dS]
      rfl
     have W:A.head L pl j=.ok ({bN:= []},j):=by
      have dn:cH L j=false:=by
       unfold cH;rw[a9]
       rfl
      unfold A.head;rw[dn];simp only[VK,if_false];rw[a9]
      rfl
     have a1:ag L pl f {bN:= []} j=.error (3,aD pl j):=by
      unfold ag;rw[a9,uX ae]
      rfl
     have x:=ao.2.2 _ _ _ W a1;rw[if_neg x.ne];exact t _ H _ x
    ·have c9:cB L pl f=kq L pl f:=by
      unfold cB;simp only[bx,VK,if_false];have:(aj L f.i==125)=false:=by rw[N];simpa using a9
      rw[this]
      rfl
     rw[c9]at t I;unfold kq at t I;rw[N]at t I
     cases W:A.head L pl j with
     |error a5=>
      have x:=ao.2.1 _ W;rw[W]at t;rw[if_neg x.ne];exact t _ rfl _ x
     |ok F=>
      obtain⟨c,ac⟩:=F;rw[W]at t I;simp only at t I
      cases a1:ag L pl f c ac with
      |error a5=>
       have x:=ao.2.2 _ _ _ W a1;rw[a1]at t;rw[if_neg x.ne];exact t _ rfl _ x
      |ok y=>
       obtain⟨z,i2⟩:=y;rw[a1]at t I;simp only at t I;obtain⟨bq,bs,c7,bv,bw,d6,d7,d8,c8,d5⟩:=ao.1 _ _ _ _ W a1;have ap:=LQ (pl:=pl) a6 g j bz cj q f (by rw[B];exact S) hR.n5 (by rw[ii];exact hR.Ll) c ac z i2 W a1 bw r.row.length;rw[ii]at ap;generalize gv L pl g ⟨j,0,q,(ps.au.length:Int)⟩ r.row.length=a8 at*
       rw[bq,if_pos rfl];simp only;by_cases D:z.ag=123
       ·rw[if_pos D]
        have b0:aQ z.ag=some 1:=by rw[D];decide
        have aa:A.bR L pl f z (aD pl ac) i2=.ok (z,f.ai++[(f.au.length:Int)],f.ak,i2):=by
         unfold A.bR;rw[b0]
         rfl
        rw[aa]at t I;simp only[D,beq_self_eq_true,if_true]at t I
        have dl:Ia L pl q (g+1) (f.ai++[(f.au.length:Int)]) {r with s:=⟨i2,0,q,(ps.au.length:Int)+1⟩,row:=r.row++[a8]} {i:=i2,au:=f.au++[z],ai:=f.ai++[(f.au.length:Int)],ak:=f.ak}:=by
         refine⟨?_,bv,?_,?_,?_,?_,?_,?_,?_⟩
         ·exact Nq
         ·simp[B,S]
         ·show mr pl i2 r.ak r.bu f.ak
          rw[X];exact av.mono E
         ·have:=d5 D;omega
         ·exact No
         ·show uI L pl (f.ai++[(f.au.length:Int)]) (f.au++[z]) (r.row++[a8])
          rw[ii,B];refine hR.row.qd ?_ (ap.Ve D).2 _ (fun F O=>VM _ O) (fun _=>aK);have:=(ap.Ve D).1
          rwa [<-hR.row.len]at this
         ·show zK f.ak (f.au++[z])
          rw[X,ii];exact hR.lk.qd (by rw[D];decide) (fun e=>absurd e (by rw[D];decide))
         ·intro F O
          show ∃G:Nat,F=(G:Int)/\G<(f.au++[z]).length/\((f.au++[z]).getD G {}).ag=123;rw[ii,VJ,VI]
          rcases VH.1 O with e|e
          ·rw[B]at e
           obtain⟨G,al,am,an⟩:=hR.ops F e;exact⟨G,al,E,by rw[kx,if_pos am];exact an⟩
          ·rw[ii]at e
           exact⟨ps.au.length,List.mem_singleton.1 e,E,by rw[kx,if_neg E,if_pos rfl];exact D⟩
        obtain⟨bk,c5,bl⟩:=bm (g+1) {r with s:=⟨i2,0,q,(ps.au.length:Int)+1⟩,row:=r.row++[a8]} {i:=i2,au:=f.au++[z],ai:=f.ai++[(f.au.length:Int)],ak:=f.ak} dl (by show L.length<n+i2;omega)
        have H:cB L pl f=.ok {i:=i2,au:=f.au++[z],ai:=f.ai++[(f.au.length:Int)],ak:=f.ak}:=by
         rw[c9];unfold kq;rw[N,W];simp only;rw[a1];simp only;rw[aa];simp only[D,beq_self_eq_true,if_true]
        generalize aY L pl n (g+1) {r with s:=⟨i2,0,q,(ps.au.length:Int)+1⟩,row:=r.row++[a8]}=rr at*
        by_cases b3:rr.s.e=0
        ·obtain⟨l,a,a3,b⟩:=bl b3 E
         have fl:i2<l.i:=a3.1
         have bA:l.ai=ps.ai:=by
          have:=a3.2.1;simp only[List.dropLast_concat]at this;rw[this,B]
         have cW:Ia L pl q g l.ai {rr with row:=jM rr.row r.row.length (fun c=>{c with next:=rr.row.length})} l:=by
          obtain⟨F,f6,cm,cn⟩:=a.ops (f.au.length:Int) aK;have f7:ps.au.length=F:=by rw[ii]at f6;omega
          rw[<-f7]at cm cn;have f1:uI L pl (ps.ai++[(ps.au.length:Int)]) l.au rr.row:=by have:=a.row;rwa [B,ii]at this
          have ca:=a3.2.2 (f.au.length:Int) aK;rw[VN,ii]at ca;refine⟨a.s,a.le,a.op,a.lr,a.n5,a.Ll,?_,a.lk,fun F O=>a.ops F (by rw[bA,<-B]at O;exact VM _ O)⟩;show uI L pl l.ai l.au (jM rr.row r.row.length (fun c=>{c with next:=rr.row.length}));rw[bA,<-hR.row.len];exact f1.Ts cm ca cn
         obtain⟨cp,cs,cv⟩:=bm g _ l cW E;refine⟨fun h m M=>?_,fun h C=>?_,fun h C=>?_⟩
         ·cases m with
          |zero=>omega
          |succ m=>
           rw[ku P H];obtain⟨o,a4,ad⟩:=b m Co;rw[ad];exact cp h o a4
         ·obtain⟨c1,bi,c3⟩:=cs h C
          refine⟨c1,bi,fun m M=>?_⟩
          cases m with
          |zero=>omega
          |succ m=>
           rw[ku P H];obtain⟨o,a4,ad⟩:=b m Co;rw[ad];exact c3 o a4
         ·obtain⟨c1,bi,c2,c3⟩:=cv h C
          rw[bA]at bi c2;refine⟨c1,bi,⟨bV c2.1,c2.2⟩,fun m M=>?_⟩
          cases m with
          |zero=>omega
          |succ m=>
           obtain⟨o,a4,ad⟩:=b m Co;obtain⟨f8,d3,d4⟩:=c3 o a4;exact⟨f8,d3,by rw[ku P H,ad];exact d4⟩
        ·rw[vJ (by exact b3)]
         refine⟨fun _ m M=>?_,fun h=>absurd h b3,fun h=>absurd h b3⟩
         cases m with
         |zero=>omega
         |succ m=>
          rw[ku P H];exact bk b3 m Co
       ·rw[if_neg D]
        have aa:=FA (pl:=pl) a6 ci cl f z bw D d6 d7 d8 j ac i2 bs E bv q ((ps.au.length:Int)+1) r.ak r.bu (r.row++[a8]) (by rw[X];exact av)
        cases U:A.bR L pl f z (aD pl ac) i2 with
        |error a5=>
         rw[U]at t;exact t _ rfl _ (aa.2.1 _ U)
        |ok f9=>
         obtain⟨a0,os,co,i3⟩:=f9;rw[U]at t I;simp only at t I
         cases b9:A.tail L pl i3 with
         |error a5=>
          have bE:(a0.ag==123)=false:=by
           have O:=U;have:a0.ag=z.ag:=qi U;rw[this];simpa using D
          rw[bE,b9]at t;simp only[VK,if_false]at t;exact t _ rfl _ (aa.2.2 _ _ _ _ _ U b9)
         |ok i4=>
          obtain⟨d0,d1,b5,fn,d2,bp⟩:=aa.1 _ _ _ _ _ U b9;have bE:(a0.ag==123)=false:=by rw[bp];simpa using D
          rw[bE,b9]at I;simp only[VK,if_false]at I;obtain⟨g1,fa,fb,fc⟩:=Le (pl:=pl) a6 f z D ac i2 bv q ((ps.au.length:Int)+1) r.ak r.bu r.row a8 ap a0 os co i3 U;have dN:=Lh f z bw _ i2 a0 os co i3 U bp (by rw[ap.c0]) (by rw[X];exact av.mO) (by rw[X,ii];exact hR.lk);refine I _ rfl _ ⟨?_,d2,?_,?_,hR.n5,?_,?_,dN,?_⟩ (by show os=ps.ai;rw[b5,B]) (by show j<i4;omega)
          ·rw[d0]
           exact Nq
          ·show os.length=g
           rw[b5,B];exact S
          ·exact d1
          ·exact No
          ·show uI L pl os (f.au++[a0]) _
           rw[fa,ii,b5,B];refine hR.row.qd (by rw[hR.row.len];exact fb) fc _ (fun F O=>O) (fun e=>absurd (bp.symm.trans e) D)
          ·intro F O
           show ∃G:Nat,F=(G:Int)/\G<(f.au++[a0]).length/\((f.au++[a0]).getD G {}).ag=123;have f5:F∈ps.ai:=by rw[<-B,<-b5];exact O
           obtain⟨G,al,am,an⟩:=hR.ops F f5;rw[ii,VJ,VI];exact⟨G,al,E,by rw[kx,if_pos am];exact an⟩
end V
namespace V
open A (iD)
theorem Ay(neg r):∀sp:List (Int×Int),Rm.nU (oU sp) neg r=(if sp.any (eT r)then !neg else neg)
 |[]=>rfl
 |x::sp=>by
  show Rm.nU (x.1::x.2::oU sp) neg r=_;unfold Rm.nU;rw[List.any_cons];by_cases h:x.1<=r/\r<=x.2
  ·rw[if_pos h];simp[eT,h.1,h.2]
  ·rw[if_neg h,(Ay neg r sp)]
   have:eT r x=false:=by
    unfold eT;rw[Bool.and_eq_false_iff];by_cases a:x.1<=r
    ·simp_all
    ·simp_all
   rw[this,Bool.false_or]
structure xT(n:Nat)(x:gq):Prop where
 aF:(x.aF=0\/x.aF=1)/\x.bF=0/\x.dG= []\/(x.aF=2\/x.aF=3)/\1<=x.bF/\x.bF<=9/\x.dG= []\/(x.aF=4/\x.dG= []\/x.aF=5\/x.aF=6)/\x.bF=0
 dG:x.dG.length<=n
 ck:x.ck=0\/x.ck=1\/x.ck=2\/x.ck=3
theorem Qm{n a}(h:xT n a):R8 (fun _=>True) a (lG a):=by unfold lG;rcases h.aF with ⟨e|e,_⟩ |⟨e|e,_⟩ |⟨e,_⟩;{rw[if_pos e];exact VF ⟨e,rfl⟩};{rw[if_neg E,if_pos e];exact VE (VF ⟨e,rfl⟩)};{rw[if_neg E,if_neg E,if_pos e];exact VE (VE (VF ⟨e,rfl,rfl⟩))};{rw[if_neg E,if_neg E,if_neg E,if_pos e];exact VE (VE (VE (VF ⟨e,rfl,rfl⟩)))};{have c:a.aF=4\/a.aF=5\/a.aF=6:=E;rw[if_neg E,if_neg E,if_neg E,if_neg E];refine VE (VE (VE (VE ⟨c,rfl,fun r _=>?_,?_⟩)));{simp only;rw[Ay];unfold kL PI;rcases e with ⟨e,b⟩|e|e;{rw[e,b];rfl};{simp_all};{simp_all}};{rcases h.ck with t|t|t|t <;> rw[t] <;> simp[Cq]}}
theorem OA{n a}(h:∀x∈a,xT n x):nN (fun _=>True) a (a.map lG):=
 ⟨by rw[List.length_map],fun i b c=>by rw[List.getElem_map];exact Qm (h _ (List.getElem_mem b))⟩
def De:List gq->List Int->Prop
 |[],_=>True
 |x::xs,op=>(x.aF=2->(∃z∈xs,z.aF=3/\z.bF=x.bF)\/x.bF∈op)/\De xs op
theorem De.qd{b}:∀ {d:List gq} {op a:List Int},De d op->(∀g∈op,g∈a\/(b.aF=3/\b.bF=g))->(b.aF=2->b.bF∈a)->De (d++[b]) a
 |[],op,a,h,c,h2=>⟨fun e=>VE (h2 e),trivial⟩
 |y::d,op,a,h,c,h2=>by
  refine⟨fun e=>?_,De.qd h.2 c h2⟩
  rcases h.1 e with ⟨i,j,k⟩|f
  ·exact VF ⟨i,VM _ j,k⟩
  ·rcases c _ f with g |⟨l,m⟩
   ·exact VE g
   ·simp_all
theorem B7{n a}(h:xT n a):((lG a).aF=40↔a.aF=2)/\((lG a).aF=41↔a.aF=3)/\((a.aF=2\/a.aF=3)->(lG a).bF=a.bF):=by unfold lG;by_cases b:a.aF=0;{simp_all};{grind}
theorem Lc{n}:∀ {a:List gq},(∀x∈a,xT n x)->De a []->Fj (a.map lG)
 |[],_,_=>trivial
 |x::a,h,c=>by
  refine⟨fun e=>?_,Lc (fun y l=>h y (VP _ l)) c.2⟩;have d:=B7 (h x (VX ..));have b:=d.1.1 e
  rcases c.1 b with ⟨g,i,j,m⟩|k
  ·have f:=B7 (h g (VP _ i))
   exact⟨lG g,List.mem_map_of_mem i,f.2.1.2 j,by rw[f.2.2 (VE j),d.2.2 (VF b),m]⟩
  ·cases k
theorem vX{L pl}:∀(n:Nat) (sp:List (Int×Int)) (i:Nat) (EU:List (Int×Int)) (a:Nat),A.df L pl n sp i=.ok (EU,a)->EU.length+1<=sp.length+n
 |0,sp,i,EU,a,h=>by cases h
 |n+1,sp,i,EU,a,h=>by
  unfold A.df at h;split at h
  ·split at h
   ·cases h
   ·have:=vX n _ _ _ _ h
    rw[VJ,VI]at this;omega
  ·simp_all
theorem vv{L pl i j d}(h:A.dv L pl i=.ok (d,j))(t)(b:t=0\/t=1\/t=2\/t=3):xT (max L.length 1) {d with ck:=t}:=by unfold A.dv at h;split at h;{injection h with h;injection h with a c;subst a;exact⟨VE (VE ⟨VF ⟨rfl,rfl⟩,rfl⟩),VO _,b⟩};{split at h;{unfold ux at h;split at h;{cases h};{rename_i sp i2 g;injection h with h;injection h with a c;subst a;have f:=vX _ _ _ _ _ g;simp at f;refine⟨VE (VE ⟨?_,rfl⟩),cr,b⟩;simp only;split;{omega};{omega}}};{split at h;{cases h};{injection h with h;injection h with a c;subst a;exact⟨VE (VE ⟨VE (VF rfl),rfl⟩),by show 1<=max L.length 1;omega,b⟩}}}
theorem xr{L pl i b a}(h:A.dv L pl i=.ok (a,b)):a.aF=4\/a.aF=5\/a.aF=6:=by exact Mi
structure QD(n:Nat)(st:A.Rd):Prop where
 Fp:∀x∈st.aH,xT n x/\((x.aF=2\/x.aF=3)->x.bF<=st.af)
 g0:0<=st.af
 g9:st.af<=9
 op:∀g∈st.ai,1<=g/\g<=st.af
 Te:De st.aH st.ai
theorem QD.qd{n b}(h:QD n b){a}(j:xT n a)(d:a.aF≠2/\a.aF≠3)(i):QD n {b with i:=i,aH:=b.aH++[a]}:=by refine⟨fun y f=>?_,h.g0,h.g9,h.op,h.Te.qd (fun g c=>VF c) (fun e=>absurd e d.1)⟩;rcases VH.1 f with e|e;{exact h.Fp y e};{simp_all}
theorem B8{L pl d r}(h:QD (max L.length 1) d)(c:jP L pl d=.ok r):QD (max L.length 1) r:=by have t:∀k g:Int,xT (max L.length 1) ⟨k,g,[],0⟩↔((k=0\/k=1)/\g=0/\True\/(k=2\/k=3)/\1<=g/\g<=9/\True\/(k=4/\True\/k=5\/k=6)/\g=0):=fun k g=>by{constructor;{intro h;have:=h.aF;simpa using this};{intro h;exact⟨by simpa using h,VO _,VF rfl⟩}};unfold jP at c;split at c;{cases c};{simp only at c;split at c;{split at c;{cases c;exact h.qd ((t 0 0).2 aK) aK _};{cases c}};{split at c;{cases c;exact h.qd ((t 1 0).2 aK) aK _};{split at c;{split at c;{cases c};{rename_i o;cases c;have f:d.af+1<=9:=by{have:=h.g9;have:¬d.af=9:=bS o;omega};have B:=h.g0;refine⟨fun y n=>?_,by show 0<=d.af+1;omega,f,fun g j=>?_,h.Te.qd (fun g f=>VF (VM _ f)) (fun _=>aK)⟩;{show xT _ y/\(_->y.bF<=d.af+1);rcases VH.1 n with e|e;{have⟨a,b⟩:=h.Fp y e;exact⟨a,fun e=>by have:=b e;omega⟩};{grind}};{show 1<=g/\g<=d.af+1;rcases VH.1 j with e|e;{have:=h.op g e;omega};{grind}}}};{split at c;{split at c;{cases c};{rename_i y n;cases c;have l:=VU n;have⟨C,D⟩:=h.op y l;have o:=h.g9;refine⟨fun s m=>?_,h.g0,h.g9,fun g j=>h.op g (List.dropLast_subset _ j),h.Te.qd (fun g f=>?_) (fun e=>by simp at e)⟩;{rcases VH.1 m with e|e;{exact h.Fp s e};{grind}};{have p:d.ai≠ []:=fun e=>by{rw[e]at l;cases l};have x:d.ai.getLast p=y:=by{grind};rw[<-List.dropLast_concat_getLast p,x]at f;rcases VH.1 f with e|e;{exact VF e};{simp_all}}}};{split at c;{cases c};{rename_i s i q;cases c;have z:(ck L i).1=0\/(ck L i).1=1\/(ck L i).1=2\/(ck L i).1=3:=by{unfold ck;split;{simp};{grind}};have m:=vv q _ z;refine h.qd m ?_ _;have:=(xr q);simp only;omega}}}}}}
theorem DZ{L pl}:∀(n:Nat) (b a:A.Rd),QD (max L.length 1) b->aH L pl n b=.ok a->QD (max L.length 1) a
 |0,b,a,h,hi=>by cases hi
 |n+1,b,a,h,hi=>by
  unfold aH at hi;split at hi
  ·simp_all
  ·split at hi
   ·cases hi
   ·rename_i d c
    exact DZ n d a (B8 h c) hi
structure Tn(n:Nat)(p:Ta):Prop where
 Fp:∀x∈p.aH,xT n x/\((x.aF=2\/x.aF=3)->x.bF<=p.af)
 len:p.aH.length<=30
 g0:0<=p.af
 g9:p.af<=9
 Te:De p.aH []
theorem IY{L pl i n p}(h:fA L pl i=.ok (p,n)):Tn (max L.length 1) p:=by unfold fA at h;split at h;{cases h};{rename_i c l;have d:QD (max L.length 1) ⟨i,[],0,[]⟩:=⟨fun s m=>(by cases m),Int.le_refl _,by show(0:Int)<=9;decide,fun g j=>(by cases j),trivial⟩;have a:=DZ _ _ _ d l;split at h;{cases h};{split at h;{cases h};{rename_i o q;injection h with h;injection h with f r;subst f;have k:c.ai= []:=VL E;have b:=a.Te;rw[k]at b;exact⟨a.Fp,by show c.aH.length<=30;omega,a.g0,a.g9,b⟩}}}
end V
namespace V
open A (iD)
def gV(first:Int)(u:pZ):Int:=if u.set== -1 && (first== -1 || decide (u.bX<first))then u.bX else first
theorem jA:∀(f:List pZ) (first:Int),(∀u∈f,u.set= -1->0<=u.bX)->(first= -1\/0<=first)->
 (f.foldl gV first= -1/\first= -1/\∀u∈f,u.set≠ -1)\/
 (0<=f.foldl gV first/\(f.foldl gV first=first\/∃u∈f,u.set= -1/\u.bX=f.foldl gV first)/\(first≠ -1->f.foldl gV first<=first)/\∀u∈f,u.set= -1->f.foldl gV first<=u.bX)
 |[],first,_,i=>by
  simp_all
 |u::f,first,ha,i=>by
  have g:∀v∈f,v.set= -1->0<=v.bX:=fun v m=>ha v (VP _ m);rw[List.foldl_cons];by_cases k:u.set= -1
  ·have l:=(ha u (VX ..)) k
   by_cases j:first= -1\/u.bX<first
   ·have e:gV first u=u.bX:=by
     unfold gV;rw[if_pos aU]
    rw[e]
    rcases jA f u.bX g (VE l)with ⟨a,b,c⟩ |⟨a,b,c,d⟩
    ·omega
    ·grind
   ·have n:first≠ -1/\¬u.bX<first:=⟨fun h=>j (VF h),fun h=>j (VE h)⟩
    have e:gV first u=first:=by
     unfold gV;rw[if_neg aU]
    rw[e]
    rcases jA f first g i with ⟨a,b,c⟩ |⟨a,b,c,d⟩
    ·omega
    ·grind
  ·have e:gV first u=first:=by
    unfold gV;have:(u.set== -1)=false:=bS k;rw[this]
    rfl
   rw[e]
   rcases jA f first g i with ⟨a,b,c⟩ |⟨a,b,c,d⟩
   ·simp_all
   ·simp_all
theorem sI(a):gG a=a.foldl gV (-1):=rfl
def KV(ak:List (List Int))(j:List Int×Nat):Prop:=¬j.1∈ak/\j.1≠ []
theorem yE{pl ak a s}(h:s.e≠0):lu pl ak a s=s:=by cases a with|nil=>rfl|cons j a=>unfold lu;rw[if_neg h]
theorem tW{pl ak}:∀(c:List (List Int×Nat)) (s:SS),s.e=0->
 ((∀j∈c,¬KV ak j)/\lu pl ak c s=s)\/
 (∃a j b,c=a++j::b/\(∀g∈a,¬KV ak g)/\KV ak j/\lu pl ak c s=no pl s 7 j.2)
 |[],s,h=>VF ⟨fun j k=>(by cases k),rfl⟩
 |j::c,s,h=>by
  unfold lu;rw[if_pos h];by_cases f:KV ak j
  ·have d:ak.contains j.1=false/\0<j.1.length:=⟨by simpa using f.1,VW.2 f.2⟩
   rw[if_pos d];rw[yE (jW h pl 7 j.2 ae).ne];exact VE ⟨[],j,c,rfl,fun g i=>(by cases i),f,rfl⟩
  ·have d:¬(ak.contains j.1=false/\0<j.1.length):=fun d=>f ⟨by simpa using d.1,VW.1 d.2⟩
   rw[if_neg d]
   rcases tW c s h with ⟨a,b⟩ |⟨a,p,b,l,m,n,o⟩
   ·refine VF ⟨fun g i=>?_,b⟩
    rcases List.mem_cons.1 i with e|e
    ·simp_all
    ·exact a g e
   ·grind
theorem Ud(L pl):Ia L pl 0 0 [] {s:=⟨0,0,0,0⟩} ⟨0,[],[],[]⟩:=
 ⟨rfl,VO _,rfl,⟨fun f _=>⟨fun h=>cN,fun⟨u,a,_⟩=>(by cases a)⟩,fun j c=>(by cases c),fun u a=>(by cases a),fun u a=>(by cases a),fun j c=>(by cases c),fun j c=>(by cases c),List.Pairwise.nil⟩,E,aK,⟨rfl,fun i b=>(by simp at b)⟩,⟨fun i b=>(by simp at b),fun u a=>(by cases a),fun i b=>(by simp at b)⟩,fun g d=>(by cases d)⟩
theorem Ew{L pl}(W:iZ L)(M:∀a b,a<=b->b<=L.length->aD pl a<=aD pl b)(N:∀a,0<=aD pl a):(∀i,A.cX L pl=.error i->Er (cX L pl) i)/\(∀cs,A.cX L pl=.ok cs->(cX L pl).e=0/\(cX L pl).p=0):=by have⟨P,S,a6⟩:=oI (pl:=pl) W M N 0 (L.length+1) 0 {s:=⟨0,0,0,0⟩} ⟨0,[],[],[]⟩ (Ud L pl) E;unfold cX;simp only;generalize aY L pl (L.length+1) 0 {s:=⟨0,0,0,0⟩}=r at*;by_cases m:r.s.e=0;{have⟨f,o,a0⟩:=S m rfl;have d:=a0 (L.length+1) E;have X:iE L pl (L.length+1) ⟨0,[],[],[]⟩=.ok f:=by{unfold gd at d;cases h:iE L pl (L.length+1) ⟨0,[],[],[]⟩with|error i=>rw [h]at d;cases d|ok s=>rw[h]at d;simp only at d;split at d;{cases d};{omega}};have F:A.cX L pl=if (gG f.ak != -1)=true then .error (7,gG f.ak)else .ok (kG f.ak f.au):=by{unfold A.cX;rw[X];simp only;unfold A.finish;rw[if_neg (by rw[o.op];decide)]};rw[F];have g:=o.lr;have H:∀u∈f.ak,u.set= -1->0<=u.bX:=by{intro u l q;have⟨j,k,a,b,c⟩:=g.j2 u l (VE q);rw[c];exact N _};have U:∀u∈f.ak,u.set= -1->∃j∈r.bu,KV r.ak j/\u.bX=aD pl j.2:=by{intro u l q;have⟨j,k,a,b,c⟩:=g.j2 u l (VE q);refine⟨j,k,⟨fun n=>?_,a⟩,c⟩;have⟨v,G,B,C⟩:=(g.iq j.1 (g.zX j k)).1 n;have:=g.mO v G u l (by rw[B,b]);rw[this]at C;exact C q};rcases tW (pl:=pl) (ak:=r.ak) r.bu r.s m with ⟨a,b⟩ |⟨x,j0,y,h1,h2,h3,h4⟩;{have n:gG f.ak= -1:=by{rw[sI];rcases jA f.ak (-1) H (VF rfl)with ⟨t,_,_⟩ |⟨t,z,a4,O⟩;{exact t};{grind}};rw[n,b,o.s];refine⟨fun i h=>cN,fun cs h=>⟨rfl,rfl⟩⟩};{have I:j0∈r.bu:=by{rw[h1];simp};have n:gG f.ak=aD pl j0.2/\gG f.ak≠ -1:=by{have⟨u,l,B,C,a7⟩:=g.j1 j0 I h3.2;have a3:=Decidable.byContradiction fun D=>h3.1 ((g.iq j0.1 (g.zX j0 I)).2 ⟨u,l,B,D⟩);rw[sI];rcases jA f.ak (-1) H (VF rfl)with ⟨t,_,z⟩ |⟨t,z,a4,O⟩;{simp_all};{have a9:=O u l a3;refine⟨?_,E⟩;rcases z with z |⟨v,G,a5,ab⟩;{omega};{have⟨j,k,a8,aa⟩:=U v G a5;have a2:j0.2<=j.2:=by{rw[h1]at k;rcases VH.1 k with h|h;{simp_all};{rcases List.mem_cons.1 h with h|h;{simp_all};{have:=g.T9;rw[h1]at this;exact(List.pairwise_cons.1 (List.pairwise_append.1 this).2.1).1 j h}}};have:=M j0.2 j.2 a2 (by have:=g.Sz j k;have:=o.le;omega);omega}}};have D:(gG f.ak != -1)=true:=bS n.2;rw[if_pos D,h4];refine⟨fun i h=>?_,fun cs h=>cN⟩;injection h with h;rw[<-h,n.1];exact jW m pl 7 j0.2 ae}};{have d:=P m (L.length+1) E;rw[yE m];have F:A.cX L pl=.error (r.s.e,r.s.p):=by{unfold A.cX;unfold gd at d;cases h:iE L pl (L.length+1) ⟨0,[],[],[]⟩with|error i=>rw[h]at d;injection d with d;rw[d]|ok s=>rw[h]at d;simp only at d ⊢;unfold A.finish;split at d;{rename_i a1;rw[if_pos a1];injection d with d;rw[<-d];rfl};{cases d}};rw[F];refine⟨fun i h=>?_,fun cs h=>cN⟩;injection h with h;rw[<-h];exact⟨rfl,rfl,m⟩}
theorem Ex{L pl}(q:iZ L)(z:∀a b,a<=b->b<=L.length->aD pl a<=aD pl b)(l:∀a,0<=aD pl a)(cs)(h:A.cX L pl=.ok cs):∃g,Ia L pl 0 0 [] (aY L pl (L.length+1) 0 {s:=⟨0,0,0,0⟩}) g/\cs=kG g.ak g.au/\∀u∈g.ak,u.set≠ -1:=by have⟨m,n,G⟩:=oI (pl:=pl) q z l 0 (L.length+1) 0 {s:=⟨0,0,0,0⟩} ⟨0,[],[],[]⟩ (Ud L pl) E;generalize aY L pl (L.length+1) 0 {s:=⟨0,0,0,0⟩}=r at*;unfold A.cX at h;by_cases k:r.s.e=0;{have⟨g,i,t⟩:=n k rfl;have d:=t (L.length+1) E;unfold gd at d;cases f:iE L pl (L.length+1) ⟨0,[],[],[]⟩with|error o=>rw [f]at d;cases d|ok s=>rw[f]at d h;simp only at d h;split at d;{cases d};{injection d with d;subst d;unfold A.finish at h;rw[if_neg E]at h;simp only at h;split at h;{cases h};{rename_i x;injection h with h;refine⟨s,i,h.symm,?_⟩;have p:∀u∈s.ak,u.set= -1->0<=u.bX:=by{intro u D C;have⟨j,H,a,b,c⟩:=i.lr.j2 u D (VE C);rw[c];exact l _};have y:gG s.ak= -1:=bS x;rw[sI]at y;rcases jA s.ak (-1) p (VF rfl)with ⟨_,_,F⟩ |⟨I,_⟩;{exact F};{omega}}}};{have d:=m k (L.length+1) E;unfold gd at d;cases f:iE L pl (L.length+1) ⟨0,[],[],[]⟩with|error o=>rw [f]at h;cases h|ok s=>rw[f]at d h;simp only at d h;split at d;{rename_i B;unfold A.finish at h;rw[if_pos B]at h;cases h};{cases d}}
end V
end
section
open Go.RowKit
attribute [local go_sem ↓] Go.wp_at_zero Go.wp_at_succ
theorem Bx(g pp w i)(h:dD g w i)(a:fM g pp w)(hd:aj g.L i=47):aO 142 #[az pp] w fun e b=>e=.returned (.bool true)/\∃n,b=w.drewN n:=by have c:=a.iU;have j5:=Y ((show br (47:Int)=false by decide));exact Rc
theorem rV(g pp w i)(h:dD g w i)(b:fM g pp w)(a:cH g.L i=true):aO 142 #[az pp] w fun e c=>e=.returned (.bool true)/\∃n,c=w.drewN n:=by unfold cH at a;simp at a;rcases a with (a|a)|a;{exact rW g pp w i h b (VF a)};{exact rW g pp w i h b (VE a)};{exact Bx g pp w i h b a}
theorem jN.N1{w g cb B kP}(q:aR w cb 167){f i}(k:aX w cb (db {bN:=kP} f aM aM aM aM))(t:w.ownsRow B 186 4 f kP.length (jf kP i))(eW:ir w kP i)(m p)(x:fK w p m.fk.aH){v'}(C:g.c cb 1=some v')(D:g.ownsRow B 186 4 v' (kP.length+1) (jf kP i++Bs m p))(s:R (fun b=>b=cb\/f.ownBlock=some b) w g)(l:Field cb 1 w g):jN g cb B (kP++[m]):=by have n:∀ {b:Nat} {o:TypeId},aR w b o->o≠167->o≠186->¬(b=cb\/f.ownBlock=some b):=fun a y z e=>by{rcases e with e|e;{subst e;exact y (a.eH q)};{exact z (a.eH (aR.aJ t e))}};refine⟨l.aZ _ q,v',i++[p],fun j v d=>?_,by rw[rO m _ eW,VJ];exact D,ir.ET (x.T s (fun b a=>n a ae ae) (fun b a=>n a ae ae)) (eW.T s (fun b a=>n a ae ae) (fun b a=>n a ae ae))⟩;by_cases e:j=1;{subst e;have:v=v':=by{simpa[db]using d.symm};subst this;exact⟨C,(l.cY 1).trans (k 1 _ rfl).2⟩};{have r:(db {bN:=kP} f aM aM aM aM)[j]? =some v:=by{match j,e,d with|0,_,d=>exact d|j+2,_,d=>exact d};exact⟨(l.dK j e).trans (k j v r).1,(l.cY j).trans (k j v r).2⟩}
abbrev Vk(g:CG)(cb B:Nat)(kP:List A.Ad)(w:World)(i:Except iD (A.Ad×Nat))(e:Ending)(d:World):Prop:=
 match i with
 | .ok (a,i')=>e=.returned (.pointer none)/\jN d cb B (kP++[a])/\dD g d i'/\R (fun b=>b=g.c\/B<=b) w d
 | .error f=>∃v,e=.returned v/\fq w d v f/\R (fun b=>b=g.c\/B<=b) w d
theorem vB(g pp cb B w i)(h:dD g w i)(b1:fM g pp w)(kP)(bh:jN w cb B kP)(f1:B<=cb)(f3:kP.length<=1)(ca)(j:A.bH g.L g.pl i=ca):aO 169 #[az pp,az cb] w (Vk g cb B kP w ca):=by unfold A.bH at j;have fe:=b1.iU;cases f6:cH g.L i with|false=>rw[f6]at j;simp at j;subst j;have be:=tm g pp w i h b1 f6;go_enter func169,ntmps169;go_wp21;refine be.kd fun a4=>?_;go_wp21;refine(dR g _ i (h.drewN a4)).mono ?_;rintro e ap ⟨v,rfl,b0,a0⟩;go_wp2;go_ret;exact⟨v,rfl,b0.oG (VQ _),((R.refl _ w).drewN a4).t a0⟩|true=>rw[f6]at j;simp only[Bool.not_true,VK,if_false]at j;have be:=rV g pp w i h b1 f6;have b7:cb≠g.c:=bh.aZ.ne h.tc ae;have fd:pp≠cb:=b1.aZ.ne bh.aZ ae;have f5:=bh.aZ.lt;have⟨i0,d9,dq,dr,ds⟩:=info_parts LR;have c9:=Y j;clear j f6;go_enter func169,ntmps169;go_wp21;refine be.k fun a ⟨a4,c4⟩=>?_;have an:R (·=g.c) w a:=by{rw[c4];exact(R.refl _ w).drewN a4};have av:dD g a i:=by{rw[c4];exact h.drewN a4};have am:=b1.aw an;have bm:=bh.T an h.ct b7;clear c4 be;have ff:=am.iU;have fb:=am.lt;have f8:=an.size;go_wp21;have bs:aG a (a.alloc (.cells #[aB,aB,aM,aB] 186)):=(R.refl _ a).alloc _;have bk:=aX.cG a #[aB,aB,aM,aB] 186;have bv:=aR.cG a #[aB,aB,aM,aB] 186 (0,0);have q:a.heap.size≠g.c:=bV av.lt;have f4:cb<a.heap.size:=bm.aZ.lt;have a2:=av.alloc (.cells #[aB,aB,aM,aB] 186);have b5:=am.alloc (.cells #[aB,aB,aM,aB] 186);(try dsimp only[World.s,World.c,Z,az,bJ,aB,aM]at*);generalize a.alloc (.cells #[aB,aB,aM,aB] 186)=c8 at*;have j:=c9.o;clear c9;have dj:aj g.L i=36\/aj g.L i≠36/\aj g.L i=47\/aj g.L i≠36/\aj g.L i≠47:=by{omega};rcases dj with cn |⟨b2,b3⟩ |⟨b2,b3⟩;(case' inl=>rw[if_pos (by simp[cn])]at j;subst j;refine(dQ g c8 i 36 a2 cn E).k fun d ⟨z,P⟩=>?_;have y:=bk.T P q;have F:=bv.T P q;have ao:R (·=g.c) a d:=bs.t P;have ad:=bC y 0;have a8:=fJ y 0;have D:=ah d a.heap.size 0 (Z 1);have W:=y.set 0 (Z 1);have O:dD g (d.setCell ⟨a.heap.size,0,none⟩ (Z 1)) (i+1):=z.T D q.symm (fun G=>(z.tr G).ne F ae) (z.tp.ne F ae);have o:R (·=g.c) a (d.setCell ⟨a.heap.size,0,none⟩ (Z 1)):=(ao.t D:R (fun b=>b=g.c\/b=a.heap.size) a _).mono (fun b C e=>by rcases e with e|e;exact e;omega);have I:=bm.T o av.ct b7;have X:=am.aw o;have a6:=Y W;have bc:=Y I;have a5:=Y O;have bb:=Y X;have bw:=Y o;have bx:=Y (fun ba a7 ac k j b4 v'=>@jN.N1 _ ba cb B kP I.aZ a7 ac k j b4 ⟨1,0,⟨[],0⟩⟩ aM ⟨[],VR _ _ _ _,trivial⟩ v');clear o I X O W D y;go_wp21;(try dsimp only[World.s,World.c,Z,az,bJ,aB,aM]at*);generalize d.setCell ⟨a.heap.size,0,none⟩ (Z 1)=u at*;clear ad a8 F);(case' inr.inl=>rw[if_neg (bS b2),if_pos (by simp[b3])]at j;refine(dI g c8 i 36 a2 b2).kd fun M=>?_;have cv:=b5.iU;go_wp21;refine(dQ g _ i 47 (a2.drewN M) b3 E).k fun d ⟨z,P⟩=>?_;have ao:R (·=g.c) a d:=(bs.drewN M).t P;have y:aX d a.heap.size [aB,aB,aM,aB]:=(bk.drewN M).T P q;have F:aR d a.heap.size 186:=(bv.drewN M).T P q;have bl:fM g pp d:=(b5.drewN M).aw P;have ad:=bC y 0;have a8:=fJ y 0;have D:=ah d a.heap.size 0 (Z 2);have al:=y.set 0 (Z 2);have a9:dD g (d.setCell ⟨a.heap.size,0,none⟩ (Z 2)) (i+1):=z.T D q.symm (fun G=>(z.tr G).ne F ae) (z.tp.ne F ae);have b6:fM g pp (d.setCell ⟨a.heap.size,0,none⟩ (Z 2)):=bl.T D E;have a1:aR (d.setCell ⟨a.heap.size,0,none⟩ (Z 2)) a.heap.size 186:=F.set;have a0:R (fun b=>b=g.c\/b=a.heap.size) a (d.setCell ⟨a.heap.size,0,none⟩ (Z 2)):=ao.t D;have fl:=b6.iU;go_wp21;(try dsimp only[World.s,World.c,Z,az,bJ,aB,aM]at*);generalize d.setCell ⟨a.heap.size,0,none⟩ (Z 2)=ap at*;rcases H:fA g.L g.pl (i+1)with f |⟨p,c5⟩ <;> rw[H]at j <;> simp only at j <;> subst j;{have dk:=a1.lt;refine(nj g ap (i+1) a9 _ H).mono ?_;rintro e l ⟨v,rfl,⟨gb,rfl,d8,b0⟩,r⟩;have m:=al.T r q;have N:=a1.T r q;have cp:=bC m 2;have ce:=fJ m 2;have cs:=bC m 3;have ch:=fJ m 3;have x:R (·=a.heap.size) l ((l.setCell ⟨a.heap.size,2,none⟩ aM).setCell ⟨a.heap.size,3,none⟩ aB):=cE (ah _ _ _ _) (ah _ _ _ _);have o:R (·=g.c) a ((l.setCell ⟨a.heap.size,2,none⟩ aM).setCell ⟨a.heap.size,3,none⟩ aB):=((a0.t r:R (fun b=>b=g.c\/b=a.heap.size) a l).t x).mono (fun b C e=>by rcases e with e|e;exact e;omega);have bi:=b0.T x E;have np:=Y bi;have ov:Hid (R (fun b=>b=g.c\/B<=b) _ _):=Y ((an.t o).mono fun _ _=>VF);clear bi o x m r al a9 b6 a1 a0 D y F z bl ao ad a8 H;exact AH};refine(nj g ap (i+1) a9 _ H).mono ?_;clear H;rintro e l ⟨f9,rfl,dg,a3,r⟩;have⟨dS,c2,cj⟩:=dg;obtain⟨S,U,rfl⟩:=bG c2;have m:=al.T r q;have N:=a1.T r q;have cp:=bC m 2;have ce:=fJ m 2;have cs:=bC m 3;have ch:=fJ m 3;have x:R (·=a.heap.size) l ((l.setCell ⟨a.heap.size,2,none⟩ (.slice S p.aH.length U)).setCell ⟨a.heap.size,3,none⟩ (Z p.af)):=cE (ah _ _ _ _) (ah _ _ _ _);have W:=(m.set 2 (.slice S p.aH.length U)).set 3 (Z p.af);have O:dD g ((l.setCell ⟨a.heap.size,2,none⟩ (.slice S p.aH.length U)).setCell ⟨a.heap.size,3,none⟩ (Z p.af)) c5:=a3.T x q.symm (fun G=>(a3.tr G).ne N ae) (a3.tp.ne N ae);have o:R (·=g.c) a ((l.setCell ⟨a.heap.size,2,none⟩ (.slice S p.aH.length U)).setCell ⟨a.heap.size,3,none⟩ (Z p.af)):=((a0.t r:R (fun b=>b=g.c\/b=a.heap.size) a l).t x).mono (fun b C e=>by rcases e with e|e;exact e;omega);have cl:fK ((l.setCell ⟨a.heap.size,2,none⟩ (.slice S p.aH.length U)).setCell ⟨a.heap.size,3,none⟩ (Z p.af)) (.slice S p.aH.length U) p.aH:=fK.T ⟨dS,c2,cj⟩ x (fun b C=>C.ne N ae) (fun b C=>C.ne N ae);have I:=bm.T o av.ct b7;have X:=am.aw o;have a6:=Y W;have bc:=Y I;have a5:=Y O;have bb:=Y X;have bw:=Y o;have bx:=Y (fun ba a7 ac k j b4 v'=>@jN.N1 _ ba cb B kP I.aZ a7 ac k j b4 ⟨2,0,p⟩ (.slice S p.aH.length U) cl v');clear o I X O W cl x m;go_wp21;(try dsimp only[World.s,World.c,Z,az,bJ,aB,aM]at*);generalize (l.setCell ⟨a.heap.size,2,none⟩ (.slice S p.aH.length U)).setCell ⟨a.heap.size,3,none⟩ (Z p.af)=u at*;clear ad a8 cp ce cs ch c2 cj);(case' inr.inr=>rw[if_neg (bS b2),if_neg (bS b3)]at j;refine(dI g c8 i 36 a2 b2).kd fun M=>?_;have cv:=b5.iU;go_wp21;refine(dI g _ i 47 (a2.drewN M) b3).k fun d ⟨fc,ab⟩=>?_;have ao:aG a d:=by{rw[ab];exact(bs.drewN _).drewN _};have y:aX d a.heap.size [aB,aB,aM,aB]:=by{rw[ab];exact(bk.drewN _).drewN _};have F:aR d a.heap.size 186:=by{rw[ab];exact(bv.drewN _).drewN _};have z:dD g d i:=by{rw[ab];exact(a2.drewN _).drewN _};have bl:fM g pp d:=by{rw[ab];exact(b5.drewN _).drewN _};clear ab bs bk bv a2 b5 cv;have ad:=bC y 0;have a8:=fJ y 0;have D:=ah d a.heap.size 0 aB;have al:=y.set 0 aB;have a9:dD g (d.setCell ⟨a.heap.size,0,none⟩ aB) i:=z.T D q.symm (fun G=>(z.tr G).ne F ae) (z.tp.ne F ae);have b6:fM g pp (d.setCell ⟨a.heap.size,0,none⟩ aB):=bl.T D E;have a1:aR (d.setCell ⟨a.heap.size,0,none⟩ aB) a.heap.size 186:=F.set;have a0:R (·=a.heap.size) a (d.setCell ⟨a.heap.size,0,none⟩ aB):=ao.t D;go_wp21;(try dsimp only[World.s,World.c,Z,az,bJ,aB,aM]at*);generalize d.setCell ⟨a.heap.size,0,none⟩ aB=ap at*;rcases H:A.number g.L g.pl i with f |⟨n,c5⟩ <;> rw[H]at j <;> simp only at j <;> subst j;{have dk:=a1.lt;refine(pA g pp ap i a9 b6 _ H).mono ?_;rintro e l ⟨v,rfl,⟨gb,rfl,d8,b0⟩,r⟩;have m:=al.T r q;have N:=a1.T r q;have co:=bC m 1;have cc:=fJ m 1;have x:=ah l a.heap.size 1 aB;have o:R (·=g.c) a (l.setCell ⟨a.heap.size,1,none⟩ aB):=((a0.t r:R (fun b=>b=g.c\/b=a.heap.size) a l).t x).mono (fun b C e=>by rcases e with e|e;exact e;omega);have bi:=b0.T x E;have np:=Y bi;have ov:Hid (R (fun b=>b=g.c\/B<=b) _ _):=Y ((an.t o).mono fun _ _=>VF);clear H;exact AH};refine(pA g pp ap i a9 b6 _ H).k fun l ⟨a3,r⟩=>?_;have m:=al.T r q;have N:=a1.T r q;have co:=bC m 1;have cc:=fJ m 1;have x:=ah l a.heap.size 1 (Z n);have W:=m.set 1 (Z n);have O:dD g (l.setCell ⟨a.heap.size,1,none⟩ (Z n)) c5:=a3.T x q.symm (fun G=>(a3.tr G).ne N ae) (a3.tp.ne N ae);have o:R (·=g.c) a (l.setCell ⟨a.heap.size,1,none⟩ (Z n)):=((a0.t r:R (fun b=>b=g.c\/b=a.heap.size) a l).t x).mono (fun b C e=>by rcases e with e|e;exact e;omega);have I:=bm.T o av.ct b7;have X:=am.aw o;have a6:=Y W;have bc:=Y I;have a5:=Y O;have bb:=Y X;have bw:=Y o;have bx:=Y (fun ba a7 ac k j b4 v'=>@jN.N1 _ ba cb B kP I.aZ a7 ac k j b4 ⟨0,n,⟨[],0⟩⟩ aM ⟨[],VR _ _ _ _,trivial⟩ v');clear o I X O W x m H;go_wp21;(try dsimp only[World.s,World.c,Z,az,bJ,aB,aM]at*);generalize l.setCell ⟨a.heap.size,1,none⟩ (Z n)=u at*;clear ad a8 co cc);all_goals(have f2:a.heap.size≠cb:=E;have⟨a7,ac,c6,aa,eW⟩:=bc.o.cells;obtain⟨bA,bE,rfl⟩:=bG aa;have fp:=bC a6.o 0;have fr:=bC a6.o 1;have fv:=bC a6.o 2;have fz:=bC a6.o 3;have g0:=bC c6 1;have g1:=fJ c6 1;have c3:=bc.o.aZ;have c7:cb<u.heap.size:=c3.lt;have bq:(VY bA kP.length bE).ownBlock≠some cb:=du aa c3 ae;have d5:∀b9:Obj,(u.alloc b9).cell? ⟨cb,1,none⟩=some (.slice bA kP.length bE):=fun b9=>by{rwa [World.cell?_alloc_past _ _ _ c7]};have d4:∀b9:Obj,(u.alloc b9).frozen? ⟨cb,1,none⟩=false:=fun b9=>by{rwa [World.frozen?_alloc_past _ _ _ c7]};have d2:=Y c6;have d1:=Y eW;go_region_law ((refine wW d9 dq dr ds ((aa.alloc _).drew) (heap_alloc_new u _) (u.heap.size+1) aK ?_;intro c0 cD cW dl c1 f6 f7;have dz:=(c1.cell_far ⟨cb,1,none⟩ bQ (Ne.symm bq)).trans (d5 _);have fa:=(c1.frozen_far ⟨cb,1,none⟩ bQ (Ne.symm bq)).trans (d4 _))));all_goals(have dn:(VY (some ⟨c0,0,none⟩) (kP.length+1) cD).ownBlock≠some cb:=by{exact yS};have⟨u1,u2,u3,u4⟩:=gT (((R.refl _ u).alloc _).drew) c1 dz dl dn c7 bq;have d6:=bx.o _ _ _ d2.o aa d1.o _ u1 u2 u3 u4;have bp:∀ {b:Nat} {bz:TypeId},aR u b bz->bz≠167->bz≠186->¬(b=cb\/(VY bA kP.length bE).ownBlock=some b):=fun C a4 M e=>by{rcases e with e|e;{subst e;exact a4 (C.eH c3)};{exact M (C.eH (aR.aJ aa e))}};have ci:=a5.o.T u3 (bp a5.o.tc ae ae) (fun G=>bp (a5.o.tr G) ae ae) (bp a5.o.tp ae ae);have dN:=bb.o.T u3 (bp bb.o.aZ ae ae);have fn:=dN.iU;have d3:Hid (R (fun b=>b=g.c\/B<=b) w (cW.setCell ⟨cb,1,none⟩ (.slice (some ⟨c0,0,none⟩) (kP.length+1) cD))):=((an.t bw.o:R (·=g.c) w u).trans u3 (fun _ e=>VF e) (fun b C e=>by rcases e with e|e;{exact VE E};{exact VE (aa.lt b e).1}));have d0:=Y d6;(try dsimp only[World.s,World.c,Z,az,bJ,aB,aM]at*);generalize cW.setCell ⟨cb,1,none⟩ (.slice (some ⟨c0,0,none⟩) (kP.length+1) cD)=f0 at*;go_wp21;refine(iw g f0 _ ci).k fun fo ⟨d7,cm⟩=>?_;go_wp2;go_ret;exact⟨rfl,d0.o.T cm ci.ct b7,d7,d3.o.t cm⟩)
abbrev Vl(g:CG)(cb B:Nat)(w:World)(d:Except iD (List A.Ad×Nat))(e:Ending)(a:World):Prop:=
 match d with
 | .ok (kP,i')=>e=.returned (.pointer none)/\jN a cb B kP/\dD g a i'/\R (fun b=>b=g.c\/B<=b) w a
 | .error f=>∃v,e=.returned v/\fq w a v f/\R (fun b=>b=g.c\/B<=b) w a
theorem rN(g pp cb B w i)(h:dD g w i)(C:fM g pp w)(O:jN w cb B [])(N:B<=cb)(aa:pp<B)(I)(d:eu g.L g.pl i=I):aO 143 #[az pp,az cb] w (Vl g cb B w I):=by unfold eu at d;have D:=O.aZ.ne h.tc ae;have x:=vB g pp cb B w i h C [] O N aK _ rfl;rcases a1:A.bH g.L g.pl i with f |⟨a,n⟩ <;> rw[a1]at d x <;> simp only at d;{subst d;go_enter func143,ntmps143;go_wp21;refine x.mono ?_;rintro e j ⟨v,rfl,⟨W,rfl,a3,z⟩,p⟩;go_wp2;go_ret;exact⟨_,rfl,⟨W,rfl,a3,z⟩,p⟩};have l:=Y d;go_enter func143,ntmps143;go_wp21;refine x.k fun j ⟨U,m,p⟩=>?_;have P:=C.T p (by rintro(e|e);exact C.ne e;omega);have ab:=P.iU;have d:=l.o;clear l;go_wp21;by_cases r:aj g.L n=44;{rw[if_pos (by simp[r])]at d;have l:=Y d;clear d;refine(dQ g j n 44 m r E).k fun a7 ⟨M,q⟩=>?_;have S:=P.aw q;have ac:=S.iU;have a4:=U.T q m.ct D;go_wp21;refine(iw g a7 (n+1) M).k fun a8 ⟨X,G⟩=>?_;have F:=(p.t q).t G;have a5:=a4.T G M.ct D;have y:=vB g pp cb B a8 _ X (S.aw G) [a] a5 N aK _ rfl;have d:=l.o;clear l;go_wp21;rcases a2:A.bH g.L g.pl (bB g.L (n+1))with f |⟨b,i2⟩ <;> rw[a2]at d y <;> simp only at d <;> subst d;{refine y.mono ?_;rintro e a9 ⟨v,rfl,z,H⟩;go_wp2;go_ret;exact⟨v,rfl,z.oG F.size,F.t H⟩};{refine y.k fun a9 ⟨a6,a0,H⟩=>?_;go_wp2;go_ret;exact⟨rfl,a6,a0,F.t H⟩}};{rw[if_neg (bS r)]at d;subst d;refine(dI g j n 44 m r).kd fun s=>?_;go_wp2;go_ret;have q:R (·=g.c) j (j.drewN s):=(R.refl _ j).drewN s;exact⟨rfl,U.T q m.ct D,m.drewN s,p.drewN s⟩}
theorem sh{b c f g m n o p q r s t i j k l tmps d}(x:tmps[2]? =some (az c))(y:tmps[3]? =some d)(a:aX b c [f,g,m,n,o,p,q,r,s,t,i,j,k,l]):(results Tryz.f100 tmps).run prog b=.ok (.tuple #[.agg #[f,g,m,n,o,p,q,r,s,t,i,j,k,l],d]) b:=by simp[results,results100,go_sem,x,y,(a 0 _ rfl).1,(a 1 _ rfl).1,(a 2 _ rfl).1,(a 3 _ rfl).1,(a 4 _ rfl).1,(a 5 _ rfl).1,(a 6 _ rfl).1,(a 7 _ rfl).1,(a 8 _ rfl).1,(a 9 _ rfl).1,(a 10 _ rfl).1,(a 11 _ rfl).1,(a 12 _ rfl).1,(a 13 _ rfl).1]
theorem SX{b a c d k l m n o p q r f g i j}(h:aX b a [c,d,k,l,m,n,o,p,q,r,f,g,i,j]):b.cell? ⟨a,0,none⟩=some c/\b.frozen? ⟨a,0,none⟩=false/\b.cell? ⟨a,1,none⟩=some d/\b.frozen? ⟨a,1,none⟩=false/\b.cell? ⟨a,2,none⟩=some k/\b.frozen? ⟨a,2,none⟩=false/\b.cell? ⟨a,3,none⟩=some l/\b.frozen? ⟨a,3,none⟩=false/\b.cell? ⟨a,4,none⟩=some m/\b.frozen? ⟨a,4,none⟩=false/\b.cell? ⟨a,5,none⟩=some n/\b.frozen? ⟨a,5,none⟩=false/\b.cell? ⟨a,6,none⟩=some o/\b.frozen? ⟨a,6,none⟩=false/\b.cell? ⟨a,7,none⟩=some p/\b.frozen? ⟨a,7,none⟩=false/\b.cell? ⟨a,8,none⟩=some q/\b.frozen? ⟨a,8,none⟩=false/\b.cell? ⟨a,9,none⟩=some r/\b.frozen? ⟨a,9,none⟩=false/\b.cell? ⟨a,10,none⟩=some f/\b.frozen? ⟨a,10,none⟩=false/\b.cell? ⟨a,11,none⟩=some g/\b.frozen? ⟨a,11,none⟩=false/\b.cell? ⟨a,12,none⟩=some i/\b.frozen? ⟨a,12,none⟩=false/\b.cell? ⟨a,13,none⟩=some j/\b.frozen? ⟨a,13,none⟩=false:=
 ⟨(h 0 _ rfl).1,(h 0 _ rfl).2,(h 1 _ rfl).1,(h 1 _ rfl).2,(h 2 _ rfl).1,(h 2 _ rfl).2,(h 3 _ rfl).1,(h 3 _ rfl).2,(h 4 _ rfl).1,(h 4 _ rfl).2,(h 5 _ rfl).1,(h 5 _ rfl).2,(h 6 _ rfl).1,(h 6 _ rfl).2,(h 7 _ rfl).1,(h 7 _ rfl).2,(h 8 _ rfl).1,(h 8 _ rfl).2,(h 9 _ rfl).1,(h 9 _ rfl).2,(h 10 _ rfl).1,(h 10 _ rfl).2,(h 11 _ rfl).1,(h 11 _ rfl).2,(h 12 _ rfl).1,(h 12 _ rfl).2,(h 13 _ rfl).1,(h 13 _ rfl).2⟩
abbrev Vp(g:CG)(w:World)(l:Except iD (fZ×Nat))(e:Ending)(a:World):Prop:=
 match l with
 | .ok (c,i')=>∃b i j d k,e=.returned (.tuple #[.agg #[.int .i32 c.ag,b,.bool c.neg,.string ⟨c.text.toArray⟩,.string ⟨c.name.toArray⟩,.int .i64 c.cM,i,.int .i64 c.fk.af,j,.bool c.all,.bool c.ay,.int .i64 c.dc,d,k],.pointer none])/\Deep a c b i j d k/\dD g a i'/\R (·=g.c) w a
 | .error f=>∃v,e=.returned (.tuple #[.agg Fi,v])/\fq w a v f/\R (·=g.c) w a
theorem DV(g pp w i)(h:dD g w i)(a7:fM g pp w)(al)(f:A.head g.L g.pl i=al):aO 100 #[az pp] w (Vp g w al):=by unfold A.head at f;have U:=Y f;clear f;have dk:=a7.iU;have dj:=a7.ne;have d9:pp<w.heap.size:=a7.lt;go_enter func100,ntmps100;go_wp21;have bi:jN ((w.alloc lU).alloc lU) (w.heap.size+1) (w.heap.size+1) []:=by{have t:=aR.cG (w.alloc lU) Fi 167 (0,0);have k:=aX.cG (w.alloc lU) Fi 167;simp at t k;exact⟨t,aM,[],k,VR _ _ _ _,trivial⟩};have bz:aR ((w.alloc lU).alloc lU) w.heap.size 167:=(aR.cG w _ _ (0,0)).alloc _;have bp:aX ((w.alloc lU).alloc lU) w.heap.size [.int .i32 0,aM,.bool false,.string ⟨#[]⟩,.string ⟨#[]⟩,aB,aM,aB,aM,.bool false,.bool false,aB,aM,aM]:=(aX.cG w _ _).alloc _;have bx:aG w ((w.alloc lU).alloc lU):=((R.refl _ w).alloc _).alloc _;have a4:=(h.alloc lU).alloc lU;have b5:=(a7.alloc lU).alloc lU;(try dsimp only[World.s,World.c,Z,az,bJ,aB,aM]at*);generalize ((w.alloc lU).alloc lU)=ab at*;have d6:=h.lt;have bc:aO 142 #[az pp] ab fun e cj=>e=.returned (.bool (cH g.L i))/\∃n,cj=ab.drewN n:=by{cases q:cH g.L i;{exact tm g pp _ i a4 b5 q};{exact rV g pp _ i a4 b5 q}};refine bc.k fun z ⟨P,b0⟩=>?_;have S:R (·=g.c) ab z:=by{rw[b0];exact(R.refl _ ab).drewN P};have X:dD g z i:=by{rw[b0];exact a4.drewN P};have N:=b5.aw S;have a2:w.heap.size+1≠g.c:=E;have y:w.heap.size≠g.c:=E;have O:=bi.T S a4.ct a2;have a0:=bp.T S y;have aa:=bz.T S y;clear b0 bc bi bp bz;have f:=U.o;clear U;obtain⟨ac,x⟩:∃ac,(if cH g.L i then eu g.L g.pl i else .ok ([],i))=ac:=⟨_,rfl⟩;rw[x]at f;rcases ac with d5 |⟨kP,m⟩ <;> simp only at f;{subst f;cases ap:cH g.L i <;> rw[ap]at x;{cases x};go_wp21;refine(rN g pp (w.heap.size+1) (w.heap.size+1) z i X N O (VQ _) E _ x).mono ?_;rintro e d ⟨v,rfl,⟨be,rfl,d7,c0⟩,B⟩;have M:=a0.T B E;have d8:=O.aZ.lt;have b2:=wL (W0:=d) (.int .i32 0) aM (.bool false) (.string ⟨#[]⟩) (.string ⟨#[]⟩) aB aM aB aM (.bool false) (.bool false) aB aM aM M;have ba:=zt d w.heap.size (.int .i32 0) aM (.bool false) (.string ⟨#[]⟩) (.string ⟨#[]⟩) aB aM aB aM (.bool false) (.bool false) aB aM aM;have ad:=Y b2;have G:=Y ba;have⟨cl,u0,cm,u1,cv,u2,cW,u3,d0,u4,d1,u5,z6,u6,d2,u7,d3,u8,d4,u9,cn,u10,co,u11,cp,u12,cs,u13⟩:=SX M;go_wp2;refine bodyPost_ret (v:=.tuple #[.agg Fi,az be]) (sh rfl rfl ad.o) rfl ?_;have c1:=c0.T G.o E;refine⟨_,rfl,⟨be,rfl,E,c1⟩,?_⟩;have b9:R (fun b=>b=g.c\/w.heap.size<=b) w d:=((bx.t S:R (·=g.c) w z).trans B (fun _ e=>VF e) (fun _ _ e=>by rcases e with e|e;exact VF e;exact VE E));exact(b9.trans G.o (fun _ e=>e) (fun b _ e=>VE E)).mono (fun b a e=>by rcases e with e|e;exact e;omega)};have U:=Y f;clear f;cases ap:cH g.L i <;> rw[ap]at x;(case' true=>go_wp21;refine(rN g pp (w.heap.size+1) (w.heap.size+1) z i X N O (VQ _) E _ x).k fun d ⟨b7,H,B⟩=>?_;have M:=a0.T B E;have bb:=aa.T B E;have b6:=N.T B E);(case' false=>have bh: []=kP:=congrArg (·.1) (Except.ok.inj x);have C:i=m:=congrArg (·.2) (Except.ok.inj x);obtain⟨d,a8,B⟩:∃d,d=z/\R (fun b=>b=g.c\/w.heap.size+1<=b) z d:=⟨z,rfl,R.refl _ _⟩;rw[bh,<-a8]at O;rw[C,<-a8]at X;rw[<-a8]at a0 aa N ⊢;have b7:=O;have H:=X;have M:=a0;have bb:=aa;have b6:=N;clear a8 bh C O X a0 aa N);all_goals(clear x;have dl:=b6.iU;go_wp21;have f:=U.o;obtain⟨p,a9,rfl,bE⟩:∃p a9,.ok (({bN:=kP,neg:=p}:fZ),a9)=al/\(aj g.L m=33/\p=true/\a9=bB g.L (m+1)\/aj g.L m≠33/\p=false/\a9=m):=by{by_cases j:aj g.L m=33;{rw[if_pos (by simp[j])]at f;exact⟨_,_,f,.inl ⟨j,rfl,rfl⟩⟩};{rw[if_neg (bS j)]at f;exact⟨_,_,f,.inr ⟨j,rfl,rfl⟩⟩}};clear U f;rcases bE with ⟨j,a6,C⟩ |⟨j,a6,C⟩;(case' inl=>refine(dQ g d m 33 H j E).k fun a3 ⟨a,ob⟩=>?_;have bs:=b7.T ob H.ct a2;have c5:=M.T ob y;have ce:=bb.T ob y;have lb:=b6.aw ob;have⟨ao,c4,b4,bk,c2⟩:=bs.cells;have dg:=bC b4 2;have fn:=fJ b4 2;have F:=ah a3 (w.heap.size+1) 2 (.bool true);have c7:=b4.set 2 (.bool true);have ci:=bs.aZ;have a1:∀ {b:Nat} {W:TypeId},aR a3 b W->W≠167->¬b=w.heap.size+1:=fun a P e=>by{subst e;exact P (a.eH ci)};have bl:=ax bk F (fun b a=>a1 (aR.aJ bk a) ae);have c3:=c2.T F (fun b a=>a1 a ae) (fun b a=>a1 a ae);have a5:=a.T F a2.symm (fun j=>a1 (a.tr j) ae) (a1 a.tp ae);have c9:=lb.T F E;have c6:=c5.T F E;have ch:=ce.T F E;have qc:=c9.iU;have bA:Hid (aX (a3.setCell ⟨w.heap.size+1,2,none⟩ (.bool true)) (w.heap.size+1) (db {bN:=kP,neg:=p} ao aM aM aM aM)):=by{rw[a6];exact c7};go_wp21;have cc:R (fun b=>b=g.c\/w.heap.size+1<=b) d (a3.setCell ⟨w.heap.size+1,2,none⟩ (.bool true)):=ob.trans F (fun _ e=>VF e) (fun _ _ e=>VE E);(try dsimp only[World.s,World.c,Z,az,bJ,aB,aM]at*);generalize a3.setCell ⟨w.heap.size+1,2,none⟩ (.bool true)=wc at*;refine(iw g wc (m+1) a5).k fun r ⟨I,l⟩=>?_;have bw:R (fun b=>b=g.c\/w.heap.size+1<=b) d r:=cc.t l;have bq:=bA.o.T l a2;have av:=ax bl l (fun b a=>(aR.aJ bl a).ne a5.tc ae);have eW:=c3.T l a5.ct.jP a5.ct.Aj;have b3:=c6.T l y;have bm:=ch.T l y;rw[<-C]at I);(case' inr=>refine(dI g d m 33 H j).k fun r ⟨bv,b1⟩=>?_;have l:R (·=g.c) d r:=by{rw[b1];exact(R.refl _ d).drewN bv};have bw:R (fun b=>b=g.c\/w.heap.size+1<=b) d r:=l.mono fun _ _=>VF;have I:dD g r m:=by{rw[b1];exact H.drewN bv};have ca:=b7.T l H.ct a2;have b3:=M.T l y;have bm:=bb.T l y;clear b1;have⟨ao,c4,c8,av,eW⟩:=ca.cells;have bq:aX r (w.heap.size+1) (db {bN:=kP,neg:=p} ao aM aM aM aM):=by{rw[a6];exact c8};rw[<-C]at I);all_goals(clear C a6 j;obtain⟨am,an,rfl⟩:=bG av;have b2:=wL (W0:=r) (.int .i32 0) (.slice am kP.length an) (.bool p) (.string ⟨#[]⟩) (.string ⟨#[]⟩) aB aM aB aM (.bool false) (.bool false) aB aM aM b3;have ba:=zt r w.heap.size (.int .i32 0) (.slice am kP.length an) (.bool p) (.string ⟨#[]⟩) (.string ⟨#[]⟩) aB aM aB aM (.bool false) (.bool false) aB aM aM;have ad:=Y b2;have G:=Y ba;have⟨dn,v0,dq,v1,dS,v2,f0,v3,f1,v4,f2,v5,f3,v6,f4,v7,f5,v8,f6,v9,dr,v10,ds,v11,dz,v12,dN,v13⟩:=SX bq;have⟨cl,u0,cm,u1,cv,u2,cW,u3,d0,u4,d1,u5,z6,u6,d2,u7,d3,u8,d4,u9,cn,u10,co,u11,cp,u12,cs,u13⟩:=SX b3;go_wp2;refine bodyPost_ret (v:=.tuple #[.agg #[.int .i32 0,.slice am kP.length an,.bool p,.string ⟨#[]⟩,.string ⟨#[]⟩,aB,aM,aB,aM,.bool false,.bool false,aB,aM,aM],.pointer none]) (sh rfl rfl ad.o) rfl ?_;have D:∀ {b:Nat} {W:TypeId},aR r b W->W≠167->¬b=w.heap.size:=fun a P e=>by{subst e;exact P (a.eH bm)};refine⟨_,_,_,_,_,rfl,(jN.ij av eW p).T G.o ⟨fun b a=>D a ae,fun b a=>D a ae,fun b a=>D a ae,fun b a=>D a ae,fun b a=>D a ae⟩,I.T G.o y.symm (fun j=>D (I.tr j) ae) (D I.tp ae),?_⟩;have b9:R (fun b=>b=g.c\/w.heap.size+1<=b) w d:=((bx.t S:R (·=g.c) w z).t B);have cb:R (fun b=>b=g.c\/w.heap.size<=b) w r:=b9.trans bw (fun _ e=>by rcases e with e|e;exact VF e;exact VE E) (fun _ _ e=>by rcases e with e|e;exact VF e;exact VE E);exact(cb.trans G.o (fun _ e=>e) (fun b _ e=>VE E)).mono (fun b a e=>by rcases e with e|e;exact e;omega)))
theorem yv(g pp i c a)(d:A.head g.L g.pl i=.ok (c,a)):sx g pp i c a:=fun w h b=>
 DV g pp w i h b _ d
end
section
open Go.RowKit
theorem zR(w b s n):(Instr.checkKey b (n+1) 9 (.string s)).run prog w=.ok () w:=by simp[Instr.checkKey,run_underlying underlying9]
theorem lZ(w b s):(Instr.checkKey b 10000 9 (.string s)).run prog w=.ok () w:=zR w b s 9999
theorem mY(w s a b)(h:Instr.findNow .string (.string s) a 0=some b):(Instr.findKey 9 (.string s) a).run prog w=.ok b w:=by simp[Instr.findKey,run_underlying underlying9,h]
def kO(w:World)(lb:Nat)(ak:List pZ):Prop:=w.heap[lb]? =some (.map (bg 0 ak).toArray ak.length)
theorem If(s:ByteArray):(s==s)=true:=by show(s.data==s.data)=true;simp
theorem wN(w lb c a n b)(h:w.heap[lb]? =some (.map c n)):R (·=lb) w {w with heap:=w.heap.setIfInBounds lb (.map a b)}/\({w with heap:=w.heap.setIfInBounds lb (.map a b)}:World).heap[lb]? =some (.map a b):=by have ad:=(Array.getElem?_eq_some_iff.1 h).1;refine⟨⟨rfl,rfl,rfl,by simp,fun k d ao=>?_⟩,?_⟩;{show(w.heap.setIfInBounds lb (.map a b))[k]? =_;exact GB};{show(w.heap.setIfInBounds lb (.map a b))[lb]? =_;exact GG}
theorem JZ(w s):(Instr.keyThatStays (.string s) (.string s)).run prog w=.ok (.string s) w:=by have a:Instr.sameBits 10000 (.string s) (.string s)=true:=by{unfold Instr.sameBits;exact If s};unfold Instr.keyThatStays;rw[if_pos a];rfl
end
section
open Go.RowKit
attribute [local go_sem ↓] Go.wp_at_zero Go.wp_at_succ
theorem wU{a b d f tmps}(h:tmps[4]? =some (az b))(c:aX a b [d,f]):(results Tryz.f173 tmps).run prog a=.ok (.agg #[d,f]) a:=by simp[results,results173,go_sem,h,(c 0 _ rfl).1,(c 1 _ rfl).1]
theorem Gh{w lb c n}(d:w.heap[lb]? =some (.map c n)):iJ w (·=lb):=
 have key:∀ {b:Nat} {a:TypeId},aR w b a->¬b=lb:=fun t e=>lN t d e.symm
 ⟨fun b t=>key t,fun b t=>key t,fun b t=>key t,fun b t=>key t,fun b t=>key t⟩
def Be(g:CG)(pp d:Nat)(s s':A.Ps)(c c':fZ):Prop:=
 ∀(aq:Nat) (u w:World) (cb:Nat),iP g pp aq u s->R (·=g.c) u w->dD g w (d+1)->s.i<=d+1->eP w cb c->u.heap.size<=cb->
  Calls prog 103 #[.pointer (some ⟨pp,0,none⟩),.pointer (some ⟨cb,0,none⟩),.int .i64 (aD g.pl d)] w fun e a=>e=.returned (.pointer none)/\eP a cb c'/\iP g pp aq a s'/\a.cell? ⟨pp,2,none⟩=u.cell? ⟨pp,2,none⟩/\R (fun b=>b=g.c\/b=pp\/aq<=b+1) u a
def qh(g:CG)(pp aq:Nat)(s:A.Ps)(c:fZ):Prop:=
 ∀(w:World) (cb:Nat),iP g pp aq w s->eP w cb c->
  Calls prog 102 #[.pointer (some ⟨pp,0,none⟩),.pointer (some ⟨cb,0,none⟩)] w fun e a=>e=.returned (.pointer none)/\eP a cb {c with ag:=aj g.L s.i}/\dD g a (s.i+1)/\R (fun b=>b=g.c\/b=cb) w a
theorem Dn(cb w c)(j:eP w cb c)(i:c.bN= [])(k:c.neg=false):aO 146 #[az cb] w fun e o=>e=.returned (.bool true)/\∃n,o=w.drewN n:=by have⟨r,z,C,x,F,b,dd⟩:=j.ij;obtain⟨⟨p,d,q,rfl⟩,_⟩:=lB dd;have B:=bC b 1;have l:=bC b 2;have g:d=0:=by{have⟨D,m,_⟩:=dd.a;have:=bG m;have⟨G,y,e⟩:=this;injection e with s f t;rw[f,i];rfl};subst g;rw[k]at l;exact Gm
theorem Ff(g pp aq s c)(o:aQ (aj g.L s.i)=some 3)(f:c.bN= [])(q:c.neg=false)(D:s.au.length≠40)(p:s.i<g.L.length):qh g pp aq s c:=fun w cb a z=>by have h:=a.bI;have b:=a.EZ;have⟨d,F,y⟩:=b.map;have⟨N,qc,M⟩:=b.au;have I:=a.dp.iU;have C:∀m,(Instr.lookup 115 (.map (some d)) (.int .i32 (aj g.L s.i)) true).run prog (w.drewN m)=.ok (.tuple #[Z 3,.bool true]) (w.drewN m):=fun m=>by{have:=lh (w.drewN m) d (aj g.L s.i) y;rwa [o]at this};have B:((s.au.length:Int)==40)=false:=bQ;have ic:=z.aZ.ne h.tc ae;have j:=fun n=>Dn cb (w.drewN n) c (z.T ((R.refl (·=g.c) w).drewN n) h.ct ic) f q;go_enter func102,ntmps102;go_wp21;refine(cu g w s.i h).kd fun G=>?_;go_wp21;go_quiet ((go_at_call 51;exact(aL g _ s.i (h.drewN _)).mono (fun e O ⟨l,m,x⟩=>⟨l,ju x⟩)));go_wp21;refine(j _).kd fun H=>?_;go_wp21;refine(cK g _ s.i (by first|exact h.drewN _|exact(h.drewN _).drewN _) p).k fun a7 ⟨d1,r⟩=>?_;have ac:R (·=g.c) w a7:=(by first|exact(R.refl (·=g.c) w).drewN _|exact((R.refl (·=g.c) w).drewN _).drewN _:R (·=g.c) w _).t r;exact QV
theorem Fe(g pp aq s c)(l:aQ (aj g.L s.i)=some 1)(B:s.ai.length≠5)(y:s.au.length≠40)(n:s.i<g.L.length)(C:s.ai.length<=500):qh g pp aq s c:=fun w cb a z=>by have h:=a.bI;have b:=a.EZ;have⟨f,D,q⟩:=b.map;have⟨P,qc,O⟩:=b.au;have⟨M,G,ac⟩:=a.op;obtain⟨H,I,rfl⟩:=bG ac;have N:=a.dp.iU;have x:∀m,(Instr.lookup 115 (.map (some f)) (.int .i32 (aj g.L s.i)) true).run prog (w.drewN m)=.ok (.tuple #[Z 1,.bool true]) (w.drewN m):=fun m=>by{have:=lh (w.drewN m) f (aj g.L s.i) q;rwa [l]at this};have r:((s.au.length:Int)==40)=false:=bQ;have t:((s.ai.length:Int)==5)=false:=bQ;have ic:=z.aZ.ne h.tc ae;go_enter func102,ntmps102;go_wp21;refine(cu g w s.i h).kd fun F=>?_;go_wp21;go_quiet ((go_at_call 51;exact(aL g _ s.i (h.drewN _)).mono (fun e S ⟨j,m,p⟩=>⟨j,ju p⟩)));go_wp21;refine(cK g _ s.i (h.drewN _) n).k fun a7 ⟨d1,o⟩=>?_;have ac:=o.d;exact QV
theorem Fg(g pp aq s c k)(j:aQ (aj g.L s.i)=some k)(d:k≠3)(b:k≠1)(m:s.au.length≠40)(l:s.i<g.L.length):qh g pp aq s c:=fun w cb a f=>
 Qz g pp cb s.au.length w s.i a.bI a.dp a.EZ c f k j d b m (by have:=a.iW;have:=a.bI.le;have:=a.bI.cC;omega) l
end
end Go.Proofs.YtbiobhghnldckaaGreatDoor
