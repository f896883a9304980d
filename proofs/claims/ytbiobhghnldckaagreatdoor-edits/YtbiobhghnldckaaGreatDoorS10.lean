/- Proved: steps on the way to the card. Conditions: as each states. -/
import Derived.Test.YtbiobhghnldckaaGreatDoorS7
namespace Go.Proofs.YtbiobhghnldckaaGreatDoor
open Bool renaming false_eq_true->VE,not_true->VG,not_false->VL,false_or->VR
open Or renaming inl->VF,inr->VH
open List renaming eq_nil_of_length_eq_zero->VI,mem_cons_self->VJ,mem_singleton->VK,takeWhile_cons->VN,mem_append->VO,flatMap_cons->VP,mem_cons_of_mem->VS,pairwise_singleton->VT,length_nil->VU,pairwise_append->VV,contains_cons->VW,find?_eq_none->VX
open Nat renaming le_refl->VM,lt_succ_self->VQ
open A V Er Rr Rm
set_option linter.unusedVariables false
set_option maxRecDepth 100000
set_option maxHeartbeats 6400000
section
namespace V
open A (iD)
def iZ(L:List Int):Prop:=∀j,j<L.length->0<=aj L j
def Er(s:SS)(a:iD):Prop:=s.e=a.1/\s.p=a.2/\a.1≠0
theorem zc{L s}(h:s.e≠0):bj L s= -1:=by unfold bj;rw[if_neg h]
theorem Ei{pl s b a}(h:s.e≠0):no pl s b a=s:=by unfold no;rw[if_neg h]
theorem P9{L pl s}(h:s.e≠0):next L pl s=(-1,s):=by unfold next;rw[zc h,if_pos ae,Ei h]
theorem Jf{L s c}(h:s.e≠0)(a:0<=c):take L s c=(false,s):=by unfold take;rw[zc h,if_neg E]
theorem uz{L s g}(h:s.e≠0):skip L s g=s:=by unfold skip;rw[if_neg h]
theorem Qx{L pl lo}(h:lo.2.e≠0):pJ L pl lo=lo:=by unfold pJ;rw[Jf h ae];simp
theorem yZ{L pl s}(h:s.e≠0)(n b):df L pl n b s=s:=by cases n with|zero=>rfl|succ n=>unfold df;rw[if_neg h]
theorem PY{L s}(h:s.e≠0):fO L s=s:=by unfold fO;rw[zc h,if_neg ae]
theorem PU{L s}(h:s.e≠0):aI L s=s:=by unfold aI;rw[if_neg h]
theorem jQ{L pl first n t}(h:t.s.e≠0):gR L pl first n t=t:=by cases n with|zero=>rfl|succ n=>unfold gR;rw[if_neg h]
theorem kE{L pl a n s}(h:s.e≠0):bO L pl a n s=s:=by cases n with|zero=>rfl|succ n=>unfold bO;rw[if_neg h]
theorem qV{L pl n l s}(h:s.e≠0):bL L pl n l s=(l,s):=by cases n with|zero=>rfl|succ n=>unfold bL;rw[if_neg h]
theorem tK{L pl n a}(h:a.s.e≠0):ee L pl n a=a:=by cases n with|zero=>rfl|succ n=>unfold ee;rw[if_neg h]
theorem vJ{L pl n a r}(h:r.s.e≠0):aY L pl n a r=r:=by cases n with|zero=>rfl|succ n=>unfold aY;rw[if_neg h]
theorem Ht{L pl s}(h:s.e≠0):dE L pl s=s:=by unfold dE;rw[uz h];simp only;rw[zc h,if_neg ae]
theorem gQ(L i q k):bj L ⟨i,0,q,k⟩=aj L i:=rfl
theorem qJ{L pl i q k}(h:aj L i= -1):next L pl ⟨i,0,q,k⟩=(-1,⟨i,3,aD pl i,k⟩):=by unfold next;rw[gQ,h,if_pos ae];rfl
theorem rz{L pl i q k}(h:0<=aj L i):next L pl ⟨i,0,q,k⟩=(aj L i,⟨i+1,0,q,k⟩):=by unfold next;rw[gQ,if_neg E]
theorem gh{L}(a:iZ L)(i):(aj L i= -1/\L.length<=i)\/(0<=aj L i/\i<L.length):=by by_cases h:i<L.length;{exact VH ⟨a i h,h⟩};{exact VF ⟨pC E,E⟩}
theorem di{L i}(h:0<=aj L i):i<L.length:=cJ E
theorem mX{L pl may}(m:iZ L)(n:may.contains (-1)=false)(i q k):(∀c a,A.cQ L pl may i=.ok (c,a)->cQ L pl may ⟨i,0,q,k⟩=(c,⟨a,0,q,k⟩)/\a=i+1/\i<L.length/\0<=c)/\ (∀b,A.cQ L pl may i=.error b->Er (cQ L pl may ⟨i,0,q,k⟩).2 b):=by unfold A.cQ cQ;rcases gh m i with ⟨d,l⟩ |⟨d,l⟩;{rw[qJ d,d];have f:¬(-1:Int)∈may:=bS n;refine⟨fun c a h=>?_,fun b h=>?_⟩;{simp[f]at h};{simp[f]at h;subst h;simp[f,no,Er,iS]}};{rw[rz d];by_cases g:aj L i=110;{simp_all};{by_cases j:may.contains (aj L i)=true;{simp_all};{refine⟨fun c a h=>?_,fun b h=>?_⟩;{simp_all};{simp only[j,beq_iff_eq,g,if_false]at h ⊢;cases h;simp[no,Er,iS]}}}}
theorem AQ{L pl but but'}(g:iZ L)(o:but.contains 92=false)(m:∀c,0<=c->c≠92->(but.contains c=(c==10 || but'.contains c)))(i q k):(∀c a,cT L pl but' i=.ok (c,a)->plain L pl but ⟨i,0,q,k⟩=(c,⟨a,0,q,k⟩)/\i<a/\a<=L.length/\0<=c)/\ (∀b,cT L pl but' i=.error b->Er (plain L pl but ⟨i,0,q,k⟩).2 b):=by unfold cT plain;rcases gh g i with ⟨d,j⟩ |⟨d,j⟩;{rw[qJ d,d];unfold A.plain;rw[d];refine⟨fun c a h=>?_,fun b h=>?_⟩;{simp at h};{simp at h;subst h;simp only[Er,iS];rw[if_neg ae];simp only;split;{simp[no]};{simp}}};{rw[rz d];by_cases f:aj L i=92;{have l:=mX g (may:=kY) (pl:=pl) ae (i+1) q k;simp only[f,beq_self_eq_true,if_true];refine⟨fun c a h=>?_,fun b h=>?_⟩;{grind};{exact l.2 b h}};{simp only[f,beq_iff_eq,if_false];unfold A.plain;have n:(aj L i== -1)=false:=bQ;rw[(m _ d f),n];simp only[VR];cases p:(aj L i==10 || but'.contains (aj L i))with|true=>refine⟨fun c a h=>?_,fun b h=>?_⟩;{simp at h};{simp at h;subst h;simp[no,Er,iS]}|false=>refine⟨fun c a h=>?_,fun b h=>?_⟩;{grind};{simp at h}}}
theorem KJ:∀c:Int,0<=c->c≠92->(gZ.contains c=(c==10 || fN.contains c)):=by intro c b a;simp only[gZ,fN,VW,List.contains_nil];have e:=bP a;rw[e];exact MX
end V
namespace V
open A (iD)
theorem C1{L i q k c}(h:aj L i=c):take L ⟨i,0,q,k⟩ c=(true,⟨i+1,0,q,k⟩):=by unfold take;rw[gQ,if_pos h]
theorem zA{L i q k c}(h:aj L i≠c):take L ⟨i,0,q,k⟩ c=(false,⟨i,0,q,k⟩):=by unfold take;rw[gQ,if_neg h]
theorem Er.ne{s a}(h:Er s a):s.e≠0:=by rw[h.1];exact h.2.2
theorem Er.no{s b}(h:Er s b)(pl c a):Er (no pl s c a) b:=by rw[Ei h.ne];exact h
theorem jW{s}(h:s.e=0)(pl b a)(c:b≠0):Er (no pl s b a) (b,aD pl a):=by unfold V.no;rw[if_pos h];exact⟨rfl,rfl,c⟩
def oU(sp:List (Int×Int)):List Int:=sp.flatMap fun a=>[a.1,a.2]
def Cq(t:Int):Int:=if t=1 then 42 else if t=2 then 43 else if t=3 then 63 else 49
def lG(a:gq):Rm.It:=
 if a.aF=0 then ⟨94,[],false,0,0⟩else if a.aF=1 then ⟨36,[],false,0,0⟩else if a.aF=2 then ⟨40,[],false,0,a.bF⟩else if a.aF=3 then ⟨41,[],false,0,a.bF⟩
 else ⟨120,oU a.dG,decide (a.aF≠5),Cq a.ck,0⟩
theorem LD(a m):oU (a++[m])=oU a++[m.1,m.2]:=by unfold oU;simp
theorem LG(a):(oU a).length≠0↔a.isEmpty=false:=by cases a <;> simp[oU]
theorem G6{L pl}(C:iZ L)(i q k):(∀m b,A.fG L pl i=.ok (m,b)->(fG L pl ⟨i,0,q,k⟩=⟨b,0,q,k⟩/\i<b/\b<=L.length)/\(plain L pl gZ ⟨i,0,q,k⟩).1=m.1/\(pJ L pl (plain L pl gZ ⟨i,0,q,k⟩)).1=m.2)/\ (∀c,A.fG L pl i=.error c->Er (fG L pl ⟨i,0,q,k⟩) c):=by have g:=fun i=>AQ C (but:=gZ) (but':=fN) (pl:=pl) ae KJ i q k;unfold A.fG fG;cases o:cT L pl fN i with|error c=>have d:=(g i).2 c o;rw[Qx d.ne,if_neg E];refine⟨fun m b h=>by simp at h,fun j h=>?_⟩;cases h;exact d|ok F=>have⟨lo,a⟩:=F;obtain⟨d,s,t,G⟩:=(g i).1 lo a o;rw[d];by_cases f:aj L a=45;{have l:pJ L pl (lo,⟨a,0,q,k⟩)=plain L pl gZ ⟨a+1,0,q,k⟩:=by{unfold pJ;rw[C1 f];simp};rw[l];simp only[f,beq_self_eq_true,if_true];cases p:cT L pl fN (a+1)with|error c=>have n:=(g (a+1)).2 c p;refine⟨fun m b h=>by simp at h,fun j h=>?_⟩;cases h;split;{exact n.no _ _ _};{exact n}|ok y=>have⟨r,i2⟩:=y;obtain⟨x,H,I,M⟩:=(g (a+1)).1 r i2 p;rw[x];by_cases D:r<lo;{simp only[D,if_true];refine⟨fun m b h=>cN,fun j h=>?_⟩;cases h;exact jW rfl _ _ _ ae};{grind}};{have l:pJ L pl (lo,⟨a,0,q,k⟩)=(lo,⟨a,0,q,k⟩):=by{unfold pJ;rw[zA f];simp};rw[l];simp only[f,beq_iff_eq,if_false,Int.lt_irrefl];refine⟨fun m b h=>?_,fun j h=>by cases h⟩;injection h with h;injection h with z B;subst z B;exact⟨⟨rfl,s,t⟩,rfl,rfl⟩}
theorem qG{L pl}(c2:iZ L)(q k):∀(n:Nat) (sp:List (Int×Int)) (i:Nat),L.length<n+i->i<=L.length->
 (∀EU b5,A.df L pl n sp i=.ok (EU,b5)->(df L pl n (!sp.isEmpty) ⟨i,0,q,k⟩=⟨b5,0,q,k⟩/\i<b5/\b5<=L.length)/\gU L pl n (oU sp) ⟨i,0,q,k⟩=oU EU)/\
 (∀a3,A.df L pl n sp i=.error a3->Er (df L pl n (!sp.isEmpty) ⟨i,0,q,k⟩) a3)
 |0,sp,i,h1,h2=>by omega
 |n+1,sp,i,h1,h2=>by
  have bv:=G6 c2 (pl:=pl) i q k;have d:=LG sp;unfold A.df df gU;rw[if_pos rfl,if_pos rfl]
  cases f:sp.isEmpty with
  |true=>
   have p:¬((oU sp).length≠0/\bj L ⟨i,0,q,k⟩=93):=fun e=>by have:=d.1 e.1;rw[f]at this;cases this
   rw[if_neg p];simp only[VG,Bool.true_or,if_true,VE,false_and,if_false]
   cases z:A.fG L pl i with
   |error a3=>
    exact Mv
   |ok b=>
    have⟨m,b3⟩:=b;obtain⟨⟨a9,g,c8⟩,hJ,mf⟩:=bv.1 m b3 z;exact Q8
  |false=>
   by_cases a:aj L i=93
   ·have:bj L ⟨i,0,q,k⟩=93:=a
    rw[if_pos (⟨(d.2 f),this⟩:(oU sp).length≠0/\bj L ⟨i,0,q,k⟩=93)];simp only[a,VL,VR,bne_self_eq_false,VE,if_false,this,and_self,if_true];refine⟨fun m b5 h=>?_,fun i1 h=>by cases h⟩;injection h with h;injection h with j l;subst j l;exact⟨⟨rfl,E,by have:=di (L:=L) (i:=i) E;omega⟩,rfl⟩
   ·have c:¬bj L ⟨i,0,q,k⟩=93:=a
    have o:=mK a;rw[if_neg (fun e:(oU sp).length≠0/\bj L ⟨i,0,q,k⟩=93=>c e.2)];simp only[o,VL,VR,if_true,c,and_false,if_false]
    cases z:A.fG L pl i with
    |error a3=>
     exact Mv
    |ok b=>
     have⟨m,b3⟩:=b;have⟨⟨a9,g,c8⟩,hJ,mf⟩:=bv.1 m b3 z;exact Q8
theorem Hn{L pl}(p:iZ L)(i)(D:i<=L.length)(q k):(∀f b5,A.dv L pl i=.ok (f,b5)->(dv L pl ⟨i,0,q,k⟩=⟨b5,0,q,k⟩/\i<b5/\b5<=L.length)/\(f.aF=4\/f.aF=5\/f.aF=6)/\pG L pl ⟨i,0,q,k⟩=(oU f.dG,decide (f.aF≠5)))/\ (∀g,A.dv L pl i=.error g->Er (dv L pl ⟨i,0,q,k⟩) g):=by unfold A.dv dv pG;rw[gQ];by_cases r:aj L i=46;{simp only[r,beq_self_eq_true,if_true];refine⟨fun m b5 h=>?_,fun i1 h=>by cases h⟩;injection h with h;injection h with j l;subst j l;exact⟨⟨rfl,E,by have:=di (L:=L) (i:=i) E;omega⟩,VF rfl,rfl⟩};{by_cases s:aj L i=91;{have F:=di (L:=L) (i:=i) E;simp only[s,beq_iff_eq,show ¬((91:Int)=46) by decide,if_false,if_true];unfold ux;by_cases n:aj L (i+1)=94;{have G:=di (L:=L) (i:=i+1) E;rw[C1 n];have bm:=qG (pl:=pl) p q k (L.length+1) [] (i+1+1) E E;simp only[n,beq_self_eq_true,if_true];simp only[List.isEmpty_nil,VG]at bm;cases z:A.df L pl (L.length+1) [] (i+1+1)with|error g=>exact M0|ok f=>rw[z]at bm;refine⟨fun m b5 h=>?_,fun i1 h=>by cases h⟩;have⟨sp,i2⟩:=f;injection h with h;injection h with j l;subst j l;have⟨⟨a,b,c⟩,d⟩:=bm.1 _ _ rfl;have o:gU L pl (L.length+1) [] ⟨i+1+1,0,q,k⟩=oU sp:=d;exact⟨⟨a,E,c⟩,VH (VH rfl),by rw[o];rfl⟩};{rw[zA n];have bm:=qG (pl:=pl) p q k (L.length+1) [] (i+1) E E;simp only[n,beq_iff_eq,if_false];simp only[List.isEmpty_nil,VG]at bm;cases z:A.df L pl (L.length+1) [] (i+1)with|error g=>exact M0|ok f=>rw[z]at bm;refine⟨fun m b5 h=>?_,fun i1 h=>by cases h⟩;have⟨sp,i2⟩:=f;injection h with h;injection h with j l;subst j l;obtain⟨⟨a,b,c⟩,d⟩:=bm.1 _ _ rfl;have o:gU L pl (L.length+1) [] ⟨i+1,0,q,k⟩=oU sp:=d;exact⟨⟨a,E,c⟩,VH (VF rfl),by rw[o];rfl⟩}};{simp only[r,s,beq_iff_eq,if_false];have t:(∀c b5,cT L pl gB i=.ok (c,b5)->plain L pl gW ⟨i,0,q,k⟩=(c,⟨b5,0,q,k⟩)/\i<b5/\b5<=L.length/\0<=c)/\(∀g,cT L pl gB i=.error g->Er (plain L pl gW ⟨i,0,q,k⟩).2 g):=by{have e:cT L pl gB i=cT L pl (gB.erase 46) i:=by{unfold cT A.plain;have:gB.contains (aj L i)=(gB.erase 46).contains (aj L i):=by{simp_all};rw[this]};rw[e];refine AQ p (but:=gW) ae (fun c C B=>?_) i q k;have x:gB.erase 46= [92,91,40,41,42,43,63,94,36,47]:=ae;rw[x];simp only[gW,VW,List.contains_nil];have y:=bP B;rw[y];exact MX};cases z:cT L pl gB i with|error g=>refine⟨fun m b5 h=>cN,fun i1 h=>?_⟩;cases h;exact t.2 _ z|ok f=>have⟨c,H⟩:=f;have⟨a,b,d,e⟩:=t.1 _ _ z;refine⟨fun m b5 h=>?_,fun i1 h=>by cases h⟩;injection h with h;injection h with j l;subst j l;rw[a];exact⟨⟨rfl,b,d⟩,VH (VF rfl),rfl⟩}}
theorem Kb{L}(i q k):vU L ⟨i,0,q,k⟩=Cq (ck L i).1:=by unfold vU ck Cq;rw[gQ];by_cases a:aj L i=42;{simp[a]};{grind}
theorem NU{L}(i)(d:i<=L.length)(q k):fO L ⟨i,0,q,k⟩=⟨(ck L i).2,0,q,k⟩/\i<=(ck L i).2/\(ck L i).2<=L.length:=by unfold fO ck;rw[gQ];have key:∀c:Int,0<=c->aj L i=c->i+1<=L.length:=fun c a h=>di E;by_cases b:aj L i=42;{grind};{grind}
end V
namespace V
open A (iD)
theorem AP{L pl}(p:iZ L)(i)(r:i<=L.length)(q k):(∀l f,A.dv L pl i=.ok (l,f)->(kS L pl ⟨i,0,q,k⟩=⟨(ck L f).2,0,q,k⟩/\i<(ck L f).2/\(ck L f).2<=L.length)/\kD L pl ⟨i,0,q,k⟩=lG {l with ck:=(ck L f).1})/\ (∀j,A.dv L pl i=.error j->Er (kS L pl ⟨i,0,q,k⟩) j):=by have h:=Hn (pl:=pl) p i r q k;unfold kS kD;refine⟨fun l f e=>?_,fun j e=>?_⟩;{have⟨⟨a,b,c⟩,d,g⟩:=h.1 l f e;have⟨m,s,n⟩:=NU f c q k;rw[a,g,Kb];refine⟨⟨m,E,n⟩,?_⟩;unfold lG;simp only;rw[if_neg E,if_neg E,if_neg E,if_neg E]};{have o:=h.2 j e;rwa [PY o.ne]}
theorem At(l a):dt (l++[a])=(a.aF==1):=by unfold dt;simp
theorem ES{L pl i b a}(h:A.dv L pl i=.ok (a,b)):(a.aF==1)=false:=by exact Mi
theorem wk{L pl}(S:iZ L)(q k first):∀(n:Nat) (f:A.Rd) (g:Nat),L.length<n+f.i->f.i<=L.length->
 (dt f.aH=false\/aj L f.i=47)->(f.aH.isEmpty=true↔f.i=first)->first<=f.i->f.af=(g:Int)->g<=9->
 (∀l1,aH L pl n f=.ok l1->∃l:Nat,l1.af=(l:Int)/\gR L pl first n ⟨⟨f.i,0,q,k⟩,f.aH.length,g,f.ai.length,f.aH.map lG,f.ai⟩=
   ⟨Cv pl first ⟨⟨l1.i,0,q,k⟩,l1.aH.length,l,l1.ai.length,[],[]⟩,l1.aH.length,l,l1.ai.length,l1.aH.map lG,l1.ai⟩/\f.i<=l1.i/\l1.i<L.length)/\
 (∀a3,aH L pl n f=.error a3->Er (gR L pl first n ⟨⟨f.i,0,q,k⟩,f.aH.length,g,f.ai.length,f.aH.map lG,f.ai⟩).s a3)
 |0,f,g,h1,h2,_,_,_,_,_=>by omega
 |n+1,f,g,h1,h2,hend,hfst,hfi,hgr,hg9=>by
  have a1:=wk (pl:=pl) S q k first n;have ap:bj L (⟨f.i,0,q,k⟩:SS)=aj L f.i:=rfl;unfold aH gR;rw[if_pos rfl];by_cases C:aj L f.i=47
  ·have N:bj L (⟨f.i,0,q,k⟩:SS)=47:=C
   simp only[C,beq_self_eq_true,if_true,N];refine⟨fun l1 h=>?_,fun a3 h=>cN⟩
   cases h
   exact⟨g,hgr,rfl,VM _,di E⟩
  ·have N:¬bj L (⟨f.i,0,q,k⟩:SS)=47:=C
   have am:dt f.aH=false:=by
    simp_all
   have a7:=bP C;simp only[a7,VE,if_false,N];unfold jP qN;simp only[am,VE,if_false,ap]
   have t:∀(m:gq) (B:Nat) (j:A.Rd) (p:Nat),j.aH=f.aH++[m]->f.i<j.i->j.i<=L.length->((m.aF==1)=false\/aj L j.i=47)->j.af=(p:Int)->p<=9->
    (∀l1,aH L pl n j=.ok l1->∃l:Nat,l1.af=(l:Int)/\gR L pl first n ⟨⟨j.i,0,q,k⟩,f.aH.length+1,p,j.ai.length,f.aH.map lG++[lG m],j.ai⟩=
      ⟨Cv pl first ⟨⟨l1.i,0,q,k⟩,l1.aH.length,l,l1.ai.length,[],[]⟩,l1.aH.length,l,l1.ai.length,l1.aH.map lG,l1.ai⟩/\f.i<=l1.i/\l1.i<L.length)/\
    (∀a3,aH L pl n j=.error a3->Er (gR L pl first n ⟨⟨j.i,0,q,k⟩,f.aH.length+1,p,j.ai.length,f.aH.map lG++[lG m],j.ai⟩).s a3):=by
    intro m B j p G b1 a9 aa ac ad;have an:j.aH.length=f.aH.length+1:=by rw[G];simp
    have X:=a1 j p E a9 (by rw[G,At];exact aa) cr E ac ad;rw[an,G,List.map_append,List.map_singleton]at X;refine⟨fun l1 h=>?_,X.2⟩;obtain⟨l,a,b,c,d⟩:=X.1 l1 h;exact⟨l,a,b,E,d⟩
   by_cases D:aj L f.i=94
   ·have o:=di (L:=L) (i:=f.i) E
    simp only[D,beq_self_eq_true,if_true,true_and]
    cases O:f.aH.isEmpty with
    |true=>
     have P:=hfst.1 O;simp only[if_true,if_pos P];exact t ⟨0,0,[],0⟩ 0 {f with i:=f.i+1,aH:=f.aH++[⟨0,0,[],0⟩]} g rfl (VQ _) o (VF rfl) hgr hg9
    |false=>
     have P:¬f.i=first:=fun e=>by rw[hfst.2 e]at O;cases O
     simp only[VE,if_false,if_neg P,show ¬((94:Int)=40) by decide,show ¬((94:Int)=41) by decide,show ¬((94:Int)=36) by decide];refine⟨fun l1 h=>cN,fun a3 h=>?_⟩;injection h with h
     have z:A.dv L pl f.i=.error (iS pl f.i):=by
      unfold A.dv cT A.plain;simp only[D]
      rfl
     have r:=(AP (pl:=pl) S f.i h2 q k).2 _ z;rw[jQ r.ne,<-h];exact r
   ·have a8:=bP D
    simp only[a8,VE,if_false,D,false_and];by_cases H:aj L f.i=36
    ·have o:=di (L:=L) (i:=f.i) E
     simp only[H,beq_self_eq_true,if_true,show ¬((36:Int)=40) by decide,show ¬((36:Int)=41) by decide,if_false];have ao:bj L (⟨f.i+1,0,q,k⟩:SS)=aj L (f.i+1):=rfl;simp only[ao];by_cases F:aj L (f.i+1)=47
     ·simp only[F,if_true]
      exact t ⟨1,0,[],0⟩ 0 {f with i:=f.i+1,aH:=f.aH++[⟨1,0,[],0⟩]} g rfl (VQ _) o (VH F) hgr hg9
     ·simp only[F,if_false]
      have d2:=jW (s:=⟨f.i+1,0,q,k⟩) rfl pl 3 (f.i+1) ae;rw[jQ (by exact d2.ne)]
      cases n with
      |zero=>omega
      |succ n=>
       unfold aH jP;have b:=bP F;have a2:dt (f.aH++[⟨1,0,[],0⟩])=true:=by rw[At];rfl
       simp only[b,VE,if_false,a2,if_true];exact Gr
    ·have a4:=bP H
     simp only[a4,VE,if_false,H];by_cases I:aj L f.i=40
     ·have o:=di (L:=L) (i:=f.i) E
      simp only[I,beq_self_eq_true,if_true];by_cases b2:g=9
      ·have U:(f.af==9)=true:=by simp_all
       simp only[U,if_true,if_pos (show 9<g+1 by omega)];have d2:=jW (s:=⟨f.i+1,0,q,k⟩) rfl pl 8 f.i ae;rw[jQ (by exact d2.ne)];exact Gr
      ·have U:(f.af==9)=false:=by grind
       simp only[U,VE,if_false,if_neg (show ¬9<g+1 by omega)];have:=t ⟨2,f.af+1,[],0⟩ 0 {i:=f.i+1,aH:=f.aH++[⟨2,f.af+1,[],0⟩],af:=f.af+1,ai:=f.ai++[f.af+1]} (g+1) rfl (VQ _) o (VF rfl) aU E;simp only[List.length_append,List.length_cons,VU,Nat.zero_add]at this;have ab:lG ⟨2,f.af+1,[],0⟩=⟨40,[],false,0,(g:Int)+1⟩:=by rw[hgr];rfl
       rw[ab,hgr]at this;rw[hgr];exact this
     ·have a5:=bP I
      simp only[a5,VE,if_false,I];by_cases M:aj L f.i=41
      ·have o:=di (L:=L) (i:=f.i) E
       simp only[M,beq_self_eq_true,if_true]
       cases x:f.ai.getLast? with
       |none=>
        have W:f.ai= []:=bS x;simp only[W,VU,if_true];have d2:=jW (s:=⟨f.i,0,q,k⟩) rfl pl 8 f.i ae;rw[jQ (by exact d2.ne)];exact Gr
       |some y=>
        have W:f.ai≠ []:=fun e=>by rw[e]at x;cases x
        have av:¬f.ai.length=0:=fun e=>W (VI e);simp only[if_neg av];have:=t ⟨3,y,[],0⟩ 0 {f with i:=f.i+1,aH:=f.aH++[⟨3,y,[],0⟩],ai:=f.ai.dropLast} g rfl (VQ _) o (VF rfl) hgr hg9;simp only[List.length_dropLast]at this
        have al:f.ai.getD (f.ai.length-1) 0=y:=by
         rw[List.getLast?_eq_getElem?]at x;rw[List.getD_eq_getElem?_getD,x]
         rfl
        rw[al,<-List.dropLast_eq_take];exact this
      ·have a6:=bP M
       simp only[a6,VE,if_false,M];have a0:=AP (pl:=pl) S f.i h2 q k
       cases z:A.dv L pl f.i with
       |error a3=>
        have r:=a0.2 _ z;rw[jQ (by exact r.ne)];refine⟨fun l1 h=>cN,fun a3 h=>?_⟩;injection h with h;rw[<-h];exact r
       |ok b0=>
        obtain⟨m,B⟩:=b0;obtain⟨⟨a,b,c⟩,d⟩:=a0.1 _ _ z;rw[a,d];exact t {m with ck:=(ck L B).1} 0 {f with i:=(ck L B).2,aH:=f.aH++[{m with ck:=(ck L B).1}]} g rfl b c (VF (by have:=ES z;exact this)) hgr hg9
theorem uj{L pl}(r:iZ L)(i)(t:i<=L.length)(q k):(∀p g,fA L pl i=.ok (p,g)->((fk L pl ⟨i,0,q,k⟩).s=⟨g,0,q,k⟩/\p.af=((fk L pl ⟨i,0,q,k⟩).af:Int)/\i<g/\g<=L.length)/\(fk L pl ⟨i,0,q,k⟩).ys=p.aH.map lG)/\ (∀f,fA L pl i=.error f->Er (fk L pl ⟨i,0,q,k⟩).s f):=by have h:=wk (pl:=pl) r q k i (L.length+1) ⟨i,[],0,[]⟩ 0 E t (VF rfl) aK (VM _) aK E;unfold fA fk;simp only[VU,List.map_nil]at h;cases n:aH L pl (L.length+1) ⟨i,[],0,[]⟩with|error f=>have e:=h.2 f n;refine⟨fun p g h=>cN,fun f h=>?_⟩;injection h with h;rw[<-h];exact e|ok j=>have⟨x,a,b,c,d⟩:=h.1 j n;simp only;rw[b];unfold Cv;simp only;by_cases m:30<j.aH.length;{simp only[if_pos m];have l:=jW (s:=⟨j.i+1,0,q,k⟩) rfl pl 4 i ae;refine⟨fun p g h=>cN,fun f h=>?_⟩;injection h with h;rw[<-h];split;{exact l.no _ _ _};{exact l}};{simp only[if_neg m];by_cases o:0<j.ai.length;{have l:=jW (s:=⟨j.i+1,0,q,k⟩) rfl pl 8 i ae;refine⟨fun p g h=>aU,fun f h=>?_⟩;rw[if_pos o]at h;injection h with h;rwa [<-h,if_pos o]};{grind}}
theorem IZ{L pl}(c:iZ L)(i)(d:i<=L.length)(q k):
 (∀p a,fA L pl i=.ok (p,a)->(fk L pl ⟨i,0,q,k⟩).s=⟨a,0,q,k⟩/\p.af=((fk L pl ⟨i,0,q,k⟩).af:Int)/\i<a/\a<=L.length)/\
 (∀b,fA L pl i=.error b->Er (fk L pl ⟨i,0,q,k⟩).s b):=
 ⟨fun p a h=>((uj c i d q k).1 p a h).1,(uj c i d q k).2⟩
end V
namespace V
open A (iD)
theorem E6{L:List Int}(i)(b:i<=L.length)(p):i+((L.drop i).takeWhile p).length<=L.length:=by have h:∀l:List Int,(l.takeWhile p).length<=l.length:=fun l=>by{induction l with|nil=>simp|cons a l c=>rw [VN];split <;> simp <;> omega};have:=h (L.drop i);rw[List.length_drop]at this;omega
theorem BT:∀(a:List Int) (n:Int),0<=n->(∀d∈a,br d=true)->0<=a.foldl (fun n d=>min (n*10+(d-48)) 10000) n
 |[],n,h,_=>h
 |d::a,n,h,hd=>by
  have f:=fT (hd d (VJ ..));exact BT a _ cr (fun c b=>hd c (VS _ b))
theorem C3{p}:∀(l:List Int) (d:Int),d∈l.takeWhile p->p d=true
 |[],d,h=>by simp at h
 |a::l,d,h=>by
  rw[VN]at h;split at h
  ·rcases List.mem_cons.1 h with e|e
   ·simp_all
   ·exact C3 l d e
  ·simp at h
theorem pz{L pl}(i)(m:i<=L.length)(q k):(∀n a,A.number L pl i=.ok (n,a)->number L pl ⟨i,0,q,k⟩=(n,⟨a,0,q,k⟩)/\i<=a/\a<=L.length/\n≠0)/\ (∀b,A.number L pl i=.error b->Er (number L pl ⟨i,0,q,k⟩).2 b):=by have p:0<=qA (cw L i):=BT _ _ ae (fun d hd=>C3 _ d hd);have o:=E6 (L:=L) i m br;have l:A.number L pl i=if (qA (cw L i)==0 || decide (9999<qA (cw L i)))=true then .error (4,aD pl i)else .ok (qA (cw L i),i+(cw L i).length):=rfl;rw[l];unfold number;rw[if_pos rfl];by_cases f:qA (cw L i)<1\/9999<qA (cw L i);{have c:(qA (cw L i)==0 || decide (9999<qA (cw L i)))=true:=by{simp;omega};simp only[if_pos f,c,if_true];refine⟨fun n a h=>cN,fun b h=>?_⟩;exact NC};{have c:(qA (cw L i)==0 || decide (9999<qA (cw L i)))=false:=by{simp;omega};simp only[if_neg f,c,VE,if_false];refine⟨fun n a h=>?_,fun b h=>cN⟩;injection h with h;injection h with g j;subst g;subst j;exact⟨rfl,E,o,E⟩}
theorem uf{L pl}(i)(j:i<=L.length)(q k):(∀d a,iB L pl i=.ok (d,a)->name L pl ⟨i,0,q,k⟩=⟨a,0,q,k⟩/\d=cg (aN L i)/\a=i+(aN L i).length/\a<=L.length)/\ (∀b,iB L pl i=.error b->Er (name L pl ⟨i,0,q,k⟩) b)/\dA L ⟨i,0,q,k⟩=aN L i:=by have l:dA L ⟨i,0,q,k⟩=aN L i:=rfl;unfold iB name;rw[l];by_cases c:8<(aN L i).length;{simp only[if_pos c];refine⟨fun n a h=>?_,fun b h=>?_,aK⟩;{cases h};{exact NC}};{simp only[if_neg c];refine⟨fun n a h=>?_,fun b h=>?_,aK⟩;{injection h with h;injection h with f g;subst f;subst g;exact⟨rfl,rfl,rfl,(E6 (L:=L) i j bZ)⟩};{cases h}}
theorem eX(L i q k):skip L ⟨i,0,q,k⟩ false=⟨bB L i,0,q,k⟩:=by unfold skip bB;rw[if_pos rfl];have:xI false=bU:=by{funext c;unfold xI bU;simp};rw[this]
theorem ix{L}(i)(a:i<=L.length):bB L i<=L.length:=E6 i a _
theorem uL(L i):bU (aj L (bB L i))=false:=by have key:∀n i,L.length-i<=n->bU (aj L (bB L i))=false:=by{intro n;induction n with|zero=>intro i h;have b:bU (aj L i)=false:=by{rw[pC E];rfl};rwa [jg b]|succ n c=>intro i h;cases a:bU (aj L i)with|true=>rw[vC a];have:=qF a;exact c (i+1) E|false=>rwa [jg a]};exact key _ i (VM _)
theorem AZ{L pl}(B:iZ L)(g:Nat)(i:Nat)(O:i<=L.length)(G:aj L i≠47)(q k:Int):(∀p b5,A.part L pl (g:Int) i=.ok (p,b5)->qS L pl g ⟨i,0,q,k⟩=⟨b5,0,q,k⟩/\i<b5/\b5<=L.length)/\ (∀a3,A.part L pl (g:Int) i=.error a3->Er (qS L pl g ⟨i,0,q,k⟩) a3):=by unfold A.part qS;rcases gh B i with ⟨o,x⟩ |⟨o,x⟩;{rw[qJ o,o];simp only[show ¬((-1:Int)=10) by decide,show ¬((-1:Int)=38) by decide,show ¬((-1:Int)=92) by decide,if_false,false_and];exact RJ};{rw[rz o];simp only;by_cases m:aj L i=38;{grind};{have t:=bP m;by_cases f:aj L i=92;{have l:(aj L i !=92)=false:=by{simp[f]};simp only[t,l,VE,if_false];simp only[f,show ¬((92:Int)=10) by decide,show ¬((92:Int)=38) by decide,if_false,if_true,true_and];have I:bj L ⟨i+1,0,q,k⟩=aj L (i+1):=rfl;rw[I];by_cases hd:br (aj L (i+1))=true/\aj L (i+1)≠48;{have r:(aj L (i+1)==48 || !br (aj L (i+1)))=false:=by{simp[hd.1,hd.2]};have P:=nh hd.1;simp only[r,if_pos hd,VE,if_false];by_cases H:(g:Int)<aj L (i+1)-48;{simp only[gt_iff_lt,if_pos H];exact II};{grind}};{have r:(aj L (i+1)==48 || !br (aj L (i+1)))=true:=by{exact RI};simp only[r,if_neg hd,if_true];have y:=mX B (may:=dF) (pl:=pl) ae (i+1) q k;cases z:A.cQ L pl dF (i+1)with|error a3=>refine⟨fun p b5 h=>cN,fun a3 h=>?_⟩;injection h with h;rw[<-h];exact y.2 _ z|ok M=>have⟨c,S⟩:=M;have⟨a,b,N,d⟩:=y.1 _ _ z;refine⟨fun p b5 h=>?_,fun a3 h=>cN⟩;injection h with h;injection h with F n;subst n;rw[a];exact⟨rfl,E,E⟩}};{have l:=mK f;simp only[t,l,VE,if_false,if_true,m,f,false_and];unfold A.plain;have D:(aj L i== -1)=false:=bQ;have C:dF.contains (aj L i)=false:=by{simp[dF,G,f,m]};simp only[D,C,VR,Bool.or_false];by_cases j:aj L i=10;{have s:(aj L i==10)=true:=by{simp[j]};simp only[if_true,j,beq_self_eq_true];exact II};{have s:(aj L i==10)=false:=by{simp[j]};simp only[s,VE,if_false,j];refine⟨fun p b5 h=>?_,fun a3 h=>cN⟩;injection h with h;injection h with F n;subst n;exact⟨rfl,E,x⟩}}}}
theorem lQ{L pl}(l:iZ L)(q k)(g:Nat):∀(n:Nat) (ps:List kj) (i:Nat),L.length<n+i->i<=L.length->
 (∀gl b5,A.bO L pl (g:Int) n ps i=.ok (gl,b5)->bO L pl g n ⟨i,0,q,k⟩=⟨b5,0,q,k⟩/\i<b5/\b5<=L.length)/\
 (∀a3,A.bO L pl (g:Int) n ps i=.error a3->Er (bO L pl g n ⟨i,0,q,k⟩) a3)
 |0,ps,i,h1,h2=>by omega
 |n+1,ps,i,h1,h2=>by
  unfold A.bO bO;rw[if_pos rfl];by_cases d:aj L i=47
  ·have f:bj L ⟨i,0,q,k⟩=47:=d
   simp only[d,beq_self_eq_true,if_true,f];refine⟨fun p b5 h=>?_,fun a3 h=>cN⟩;injection h with h;injection h with y s;subst s;exact⟨rfl,E,di E⟩
  ·have f:¬bj L ⟨i,0,q,k⟩=47:=d
   have o:=bP d;simp only[o,VE,if_false,f];have m:=AZ (pl:=pl) l g i h2 d q k
   cases j:A.part L pl (g:Int) i with
   |error a3=>
    have r:=m.2 _ j;rw[kE r.ne];exact Nl
   |ok x=>
    have⟨p,t⟩:=x;have⟨a,b,c⟩:=m.1 _ _ j;have iv:=lQ (pl:=pl) l q k g n (ps++[p]) t E c;exact MI
theorem KQ{L pl}(l:iZ L)(i)(y:i<=L.length)(s:aj L i≠47)(q k):(∀c b5,fP L pl i=.ok (c,b5)->pW L pl ⟨i,0,q,k⟩=(c,⟨b5,0,q,k⟩)/\i<b5/\b5<=L.length)/\ (∀a3,fP L pl i=.error a3->Er (pW L pl ⟨i,0,q,k⟩).2 a3):=by unfold fP pW;rcases gh l i with ⟨o,r⟩ |⟨o,r⟩;{rw[qJ o,o];simp only[show ¬((-1:Int)=10) by decide,show ¬((-1:Int)=92) by decide,if_false];exact RJ};{rw[rz o];simp only;by_cases f:aj L i=92;{simp only[f,show ¬((92:Int)=10) by decide,if_false,if_true,beq_self_eq_true];have j:=mX l (may:=fW) (pl:=pl) ae (i+1) q k;exact⟨fun c b5 h=>by obtain⟨a,b,x,d⟩:=j.1 c b5 h;exact⟨a,E,E⟩,j.2⟩};{have m:=bP f;simp only[m,VE,if_false,f];unfold A.plain;have p:(aj L i== -1)=false:=bQ;have n:fW.contains (aj L i)=false:=by{simp[fW,s,f]};simp only[p,n,VR,Bool.or_false];by_cases g:aj L i=10;{have t:(aj L i==10)=true:=by{simp[g]};simp only[if_true,g,beq_self_eq_true];exact II};{grind}}}
theorem oe{L pl}(j:iZ L)(q k):∀(n:Nat) (rs:List Int) (i:Nat),L.length<n+i->i<=L.length->
 (∀m b5,mN L pl n rs i=.ok (m,b5)->bL L pl n rs ⟨i,0,q,k⟩=(m,⟨b5,0,q,k⟩)/\i<b5/\b5<=L.length)/\
 (∀a3,mN L pl n rs i=.error a3->Er (bL L pl n rs ⟨i,0,q,k⟩).2 a3)
 |0,ps,i,h1,h2=>by omega
 |n+1,ps,i,h1,h2=>by
  unfold mN bL;rw[if_pos rfl];by_cases d:aj L i=47
  ·have f:bj L ⟨i,0,q,k⟩=47:=d
   simp only[d,beq_self_eq_true,if_true,f];refine⟨fun p b5 h=>?_,fun a3 h=>cN⟩;injection h with h;injection h with s t;subst s;subst t;exact⟨rfl,E,di E⟩
  ·have f:¬bj L ⟨i,0,q,k⟩=47:=d
   have o:=bP d;simp only[o,VE,if_false,f];have l:=KQ (pl:=pl) j i h2 d q k
   cases g:fP L pl i with
   |error a3=>
    have r:=l.2 _ g;rw[qV r.ne];exact Nl
   |ok y=>
    have⟨p,x⟩:=y;have⟨a,b,c⟩:=l.1 _ _ g;have iv:=oe (pl:=pl) j q k n (ps++[p]) x E c;exact MI
end V
namespace V
open A (iD)
theorem rl{L pl}(o:iZ L)(q k):∀(n:Nat) (c:fZ) (i:Nat),L.length<n+i->i<=L.length->
 (∀c' b5,A.ee L pl n c i=.ok (c',b5)->(ee L pl n ⟨⟨i,0,q,k⟩,c.all,c.ay,c.dc⟩).s=⟨b5,0,q,k⟩/\i<=b5/\b5<=L.length)/\
 (∀a3,A.ee L pl n c i=.error a3->Er (ee L pl n ⟨⟨i,0,q,k⟩,c.all,c.ay,c.dc⟩).s a3)
 |0,c,i,h1,h2=>by omega
 |n+1,c,i,h1,h2=>by
  have x:bj L ⟨i,0,q,k⟩=aj L i:=rfl;unfold A.ee ee;rw[if_pos rfl];simp only[x];by_cases bm:aj L i=103/\c.all=false
  ·have g:(aj L i==103 && !c.all)=true:=by simp_all
   have f:=di (L:=L) (i:=i) E;simp only[if_pos bm,g,if_true];have iv:=rl (pl:=pl) o q k n {c with all:=true} (i+1) E f;exact Gp
  ·have g:(aj L i==103 && !c.all)=false:=by
    exact Mw
   simp only[if_neg bm,g,VE,if_false];by_cases bl:aj L i=112/\c.ay=false
   ·have j:(aj L i==112 && !c.ay)=true:=by simp_all
    have f:=di (L:=L) (i:=i) E;simp only[if_pos bl,j,if_true];have iv:=rl (pl:=pl) o q k n {c with ay:=true} (i+1) E f;exact Gp
   ·have j:(aj L i==112 && !c.ay)=false:=by
     exact Mu
    simp only[if_neg bl,j,VE,if_false];by_cases hd:br (aj L i)=true/\c.dc=0
    ·have t:(br (aj L i) && c.dc==0)=true:=by simp_all
     simp only[if_pos hd,t,if_true];have p:=pz (L:=L) (pl:=pl) i h2 q k
     cases l:A.number L pl i with
     |error a3=>
      have a9:=p.2 _ l;exact MD
     |ok z=>
      have⟨m,y⟩:=z;have⟨a,b,r,d⟩:=p.1 _ _ l;have f:=rB l hd.1;rw[a];have iv:=rl (pl:=pl) o q k n {c with dc:=m} y E r;exact Gp
    ·grind
theorem mU{L pl}(t:iZ L)(i)(x:i<=L.length)(q k)(f6:cH L i=true):(∀a b5,A.bH L pl i=.ok (a,b5)->skip L (bH L pl ⟨i,0,q,k⟩).2 false=⟨b5,0,q,k⟩/\i<b5/\b5<=L.length/\bU (aj L b5)=false)/\ (∀a3,A.bH L pl i=.error a3->Er (bH L pl ⟨i,0,q,k⟩).2 a3)/\(bH L pl ⟨i,0,q,k⟩).1≠0:=by have y:bj L ⟨i,0,q,k⟩=aj L i:=rfl;unfold A.bH bH;simp only[f6,VG,VE,if_false,y];by_cases hd:br (aj L i)=true;{have B:=fT hd;have p6:(aj L i==36)=false:=bQ;have r:(aj L i==47)=false:=bQ;simp only[hd,if_true,p6,r,VE,if_false];have bv:=pz (L:=L) (pl:=pl) i x q k;cases z:A.number L pl i with|error a3=>exact MF|ok j=>obtain⟨m,g⟩:=j;obtain⟨a,b,l,d⟩:=bv.1 _ _ z;have f:=rB z hd;rw[a];refine⟨fun p b5 h=>?_,fun a3 h=>cN,aK⟩;injection h with h;injection h with n c;subst c;rw[eX];exact⟨rfl,by have:=eU L g;omega,ix _ l,uL _ _⟩};{simp only[hd,VE,if_false];by_cases o:aj L i=36;{have f:=di (L:=L) (i:=i) E;simp only[o,beq_self_eq_true,if_true];refine⟨fun p b5 h=>?_,fun a3 h=>cN,aK⟩;injection h with h;injection h with n c;subst c;rw[eX];exact⟨rfl,by have:=eU L (i+1);omega,ix _ f,uL _ _⟩};{have p6:=bP o;have s:aj L i=47:=by{exact RQ};have f:=di (L:=L) (i:=i) E;simp only[s,beq_self_eq_true,if_true,show ¬((47:Int)=36) by decide,if_false,show((47:Int)==36)=false by decide,VE];have bv:=IZ (pl:=pl) t (i+1) f q k;cases z:fA L pl (i+1)with|error a3=>exact MF|ok j=>have⟨p,g⟩:=j;have⟨a,b,l,d⟩:=bv.1 _ _ z;rw[a];refine⟨fun p b5 h=>?_,fun a3 h=>cN,aK⟩;injection h with h;injection h with n c;subst c;rw[eX];exact⟨rfl,by have:=eU L g;omega,ix _ d,uL _ _⟩}}
theorem lX{L pl}(i q k)(f6:cH L i=false):bH L pl ⟨i,0,q,k⟩=(0,⟨i,0,q,k⟩):=by have b4:bj L ⟨i,0,q,k⟩=aj L i:=rfl;unfold cH at f6;unfold bH;exact Rq
theorem wR{L pl}(s:iZ L)(i)(t:i<=L.length)(q k):(∀f,A.tail L pl i=.ok f->dE L pl ⟨i,0,q,k⟩=⟨f,0,q,k⟩/\i<=f/\f<=L.length)/\ (∀g,A.tail L pl i=.error g->Er (dE L pl ⟨i,0,q,k⟩) g):=by have x:=ix i t;have y:=eU L i;have p:A.tail L pl i=if (aj L (bB L i)==59 || aj L (bB L i)==10 || aj L (bB L i)==125 || aj L (bB L i)== -1)=true then .ok (bB L i)else .error (3,aD pl (bB L i)):=rfl;have r:dE L pl ⟨i,0,q,k⟩=if 0<=aj L (bB L i)/\aj L (bB L i)≠59/\aj L (bB L i)≠10/\aj L (bB L i)≠125 then no pl ⟨bB L i,0,q,k⟩ 3 (bB L i)else ⟨bB L i,0,q,k⟩:=by{unfold dE;rw[eX];rfl};rw[p,r];generalize bB L i=j at*;by_cases l:0<=aj L j/\aj L j≠59/\aj L j≠10/\aj L j≠125;{have m:(aj L j==59 || aj L j==10 || aj L j==125 || aj L j== -1)=false:=by{have⟨a,b,c,d⟩:=l;have:¬aj L j= -1:=E;simp[b,c,d,this]};simp only[if_pos l,m,VE,if_false];refine⟨fun f h=>cN,fun g h=>?_⟩;exact NC};{have m:(aj L j==59 || aj L j==10 || aj L j==125 || aj L j== -1)=true:=by{simp only[Bool.or_eq_true,beq_iff_eq];rcases gh s j with ⟨n,o⟩ |⟨n,o⟩;{exact VH n};{omega}};simp only[if_neg l,m,if_true];refine⟨fun f h=>?_,fun g h=>cN⟩;cases h;exact⟨rfl,y,x⟩}
theorem yK{L}(i)(a:i<=L.length):i+(A.bd L i).length<=L.length:=E6 i a _
theorem OM{L pl}(B:iZ L)(c i)(H:i<=L.length)(q k):(∀c' a,iM L pl c i=.ok (c',a)->text L pl ⟨i,0,q,k⟩=⟨a,0,q,k⟩/\i<=a/\a<=L.length/\A.tail L pl a=.ok a/\c'.ag=c.ag)/\ (∀f,iM L pl c i=.error f->Er (text L pl ⟨i,0,q,k⟩) f):=by have D:∀j,(aj L j=10\/aj L j= -1)->A.tail L pl j=.ok j:=by{intro j h;unfold A.tail;have l:bU (aj L j)=false:=by{rcases h with h|h <;> rw[h] <;> rfl};rw[jg l];rcases h with h|h <;> simp[h]};have F:iM L pl c i=if (aj L i==10 || aj L i== -1)=true then .ok (c,i)else if (!bU (aj L i))=true then .error (3,aD pl i)else .ok ({c with text:=cg (A.bd L (i+1))},i+1+(A.bd L (i+1)).length):=rfl;have x:∀o,o=(if 0<=aj L i/\aj L i≠32/\aj L i≠9/\aj L i≠10 then no pl ⟨i,0,q,k⟩ 3 i else ⟨i,0,q,k⟩)->text L pl ⟨i,0,q,k⟩=aI L (if aj L i=32\/aj L i=9 then {o with i:=o.i+1}else o):=by{intro o h;subst h;rfl};rw[F];by_cases d:aj L i=10\/aj L i= -1;{have l:(aj L i==10 || aj L i== -1)=true:=bS d;have M:aI L ⟨i,0,q,k⟩=⟨i,0,q,k⟩:=by{unfold aI A.bd;rw[if_pos rfl];rcases d with h|h;{rw[ie (by rw[h];rfl)];rfl};{rcases gh B i with ⟨g,b⟩ |⟨g,b⟩;{rw[List.drop_of_length_le b];rfl};{omega}}};rw[x _ rfl,if_neg (show ¬(0<=aj L i/\aj L i≠32/\aj L i≠9/\aj L i≠10) by omega),if_neg (show ¬(aj L i=32\/aj L i=9) by omega),M];simp only[l,if_true];refine⟨fun c' a h=>?_,fun f h=>cN⟩;injection h with h;injection h with p t;subst p;subst t;exact⟨rfl,VM _,H,D i d,rfl⟩};{have l:(aj L i==10 || aj L i== -1)=false:=by{have g:¬aj L i=10:=fun e=>d (VF e);have b:¬aj L i= -1:=fun e=>d (VH e);simp[g,b]};simp only[l,VE,if_false];have C:=cJ (fun e=>d (VH e));have O:=B i C;by_cases m:aj L i=32\/aj L i=9;{have y:bU (aj L i)=true:=by{unfold bU;simpa using m};rw[x _ rfl,if_neg (show ¬(0<=aj L i/\aj L i≠32/\aj L i≠9/\aj L i≠10) by omega),if_pos m];simp only[y,VG,VE,if_false];refine⟨fun c' a h=>?_,fun f h=>cN⟩;injection h with h;injection h with p t;subst p;subst t;refine⟨?_,E,yK (i+1) C,D _ ?_,rfl⟩;{rfl};{have key:∀n j,L.length-j<=n->aj L (j+(A.bd L j).length)=10\/aj L (j+(A.bd L j).length)= -1:=by{intro n;induction n with|zero=>intro j h;right;exact pC E|succ n N=>intro j h;by_cases I:j<L.length;{unfold A.bd;rw[gA I,VN];by_cases z:aj L j=10;{left;simp[z]};{have:(aj L j !=10)=true:=bS z;rw[if_pos this];have:=N (j+1) E;unfold A.bd at this;simp;rwa [show j+(((L.drop (j+1)).takeWhile (fun r=>r !=10)).length+1)=j+1+((L.drop (j+1)).takeWhile (fun r=>r !=10)).length by omega]}};{grind}};exact key _ (i+1) (VM _)}};{have y:bU (aj L i)=false:=by{unfold bU;have g:¬aj L i=32:=fun e=>m (VF e);have b:¬aj L i=9:=fun e=>m (VH e);simp[g,b]};rw[x _ rfl,if_neg m,if_pos (show(0<=aj L i/\aj L i≠32/\aj L i≠9/\aj L i≠10) by omega)];simp only[y,VL,if_true];have G:=jW (s:=⟨i,0,q,k⟩) rfl pl 3 i ae;rw[PU G.ne];refine⟨fun c' a h=>cN,fun f h=>?_⟩;injection h with h;rwa [<-h]}}
end V
namespace V
open A (iD)
theorem xM{L pl i q k c}(h:aj L i=c):mc L pl ⟨i,0,q,k⟩ c=⟨i+1,0,q,k⟩:=by unfold mc;rw[gQ,if_pos h]
theorem IQ{L pl i q k c}(h:aj L i≠c):Er (mc L pl ⟨i,0,q,k⟩ c) (3,aD pl i):=by unfold mc;rw[gQ,if_neg h];exact jW rfl _ _ _ ae
theorem SH{L pl s}(h:s.e≠0):(fk L pl s).s=s:=by unfold fk;rw[jQ (by exact h)]
theorem vx{L pl}(j:iZ L)(c)(N:c.all=false)(O:c.ay=false)(P:c.dc=0)(i)(S:i<=L.length)(q k):(∀c' b5,cI L pl c i=.ok (c',b5)->subst L pl ⟨i,0,q,k⟩=⟨b5,0,q,k⟩/\i<=b5/\b5<=L.length/\c'.ag=c.ag)/\ (∀a3,cI L pl c i=.error a3->Er (subst L pl ⟨i,0,q,k⟩) a3):=by unfold cI subst;by_cases f:aj L i=47;{have F:=di (L:=L) (i:=i) E;rw[xM f];simp only[f,bne_self_eq_false,VE,if_false];have o:=IZ (pl:=pl) j (i+1) F q k;cases l:fA L pl (i+1)with|error a3=>have a9:=o.2 _ l;refine⟨fun p b5 h=>cN,fun a3 h=>?_⟩;injection h with h;rwa [<-h,kE a9.ne,tK (by exact a9.ne)]|ok G=>have⟨p,t⟩:=G;have⟨a,b,M,d⟩:=o.1 _ _ l;simp only;rw[a,b];have s:=lQ (pl:=pl) j q k (fk L pl ⟨i+1,0,q,k⟩).af (L.length+1) [] t E d;cases m:A.bO L pl ((fk L pl ⟨i+1,0,q,k⟩).af:Int) (L.length+1) [] t with|error a3=>have a9:=s.2 _ m;exact MD|ok y=>have⟨r,i2⟩:=y;have⟨x,H,C⟩:=s.1 _ _ m;simp only;rw[x];have n:=rl (pl:=pl) j q k (L.length+1) {c with fk:=p,cx:=r} i2 E C;have e:(⟨⟨i2,0,q,k⟩,false,false,0⟩:Ti)=⟨⟨i2,0,q,k⟩,c.all,c.ay,c.dc⟩:=aU;rw[e];refine⟨fun c' b5 h=>?_,fun a3 h=>n.2 a3 h⟩;obtain⟨z,I,D⟩:=n.1 c' b5 h;refine⟨z,E,D,?_⟩;rw[(kZ h)]};{have g:=IQ (L:=L) (pl:=pl) (i:=i) (q:=q) (k:=k) f;have B:=mK f;simp only[B,if_true];refine⟨fun p b5 h=>cN,fun a3 h=>?_⟩;injection h with h;rwa [<-h,(SH (L:=L) (pl:=pl) g.ne),kE g.ne,tK (by exact g.ne)]}
theorem LA{L pl}(n:iZ L)(c at_ i)(M:i<=L.length)(q k):(∀c' b5,eQ L pl c (aD pl at_) i=.ok (c',b5)->fu L pl at_ ⟨i,0,q,k⟩=⟨b5,0,q,k⟩/\i<=b5/\b5<=L.length/\c'.ag=c.ag)/\ (∀a3,eQ L pl c (aD pl at_) i=.error a3->Er (fu L pl at_ ⟨i,0,q,k⟩) a3):=by unfold eQ fu;by_cases f:aj L i=47;{have D:=di (L:=L) (i:=i) E;rw[xM f];simp only[f,bne_self_eq_false,VE,if_false];have o:=oe (pl:=pl) n q k (L.length+1) [] (i+1) E D;cases l:mN L pl (L.length+1) [] (i+1)with|error a3=>have d:=o.2 _ l;refine⟨fun p b5 h=>cN,fun a3 h=>?_⟩;injection h with h;rw[<-h,qV d.ne];split;{exact d.no _ _ _};{exact d}|ok F=>have⟨a,s⟩:=F;have⟨t,G,B⟩:=o.1 _ _ l;simp only;rw[t];simp only;have r:=oe (pl:=pl) n q k (L.length+1) [] s E B;cases m:mN L pl (L.length+1) [] s with|error a3=>have d:=r.2 _ m;refine⟨fun p b5 h=>cN,fun a3 h=>?_⟩;injection h with h;rw[<-h];split;{exact d.no _ _ _};{exact d}|ok y=>have⟨b,i2⟩:=y;have⟨x,H,I⟩:=r.1 _ _ m;simp only;rw[x];simp only;by_cases j:dC a=true\/a.length≠b.length;{have C:(a.length !=b.length || dC a)=true:=by{rcases j with h|h;{simp[h]};{simp[h]}};simp only[if_pos j,C,if_true];exact II};{grind}};{have g:=IQ (L:=L) (pl:=pl) (i:=i) (q:=q) (k:=k) f;have z:=mK f;simp only[z,if_true];refine⟨fun p b5 h=>cN,fun a3 h=>?_⟩;injection h with h;rw[<-h,qV g.ne];simp only;rw[qV g.ne];split;{exact g.no _ _ _};{exact g}}
theorem ny{r}(h:bZ r=true):iX r= [UInt8.ofNat r.toNat]:=by have b:97<=r/\r<=122:=by{simpa[bZ]using h};unfold iX Go.Utf8.encode;have a:Go.Utf8.valid r=true:=by{simp[Go.Utf8.valid];omega};simp only[a,if_true];rw[if_pos E]
def Bi(l:List Int):Prop:=∀c∈l,bZ c=true
theorem BO:∀ {a b:List Int},Bi a->Bi b->cg a=cg b->a=b
 |[],[],_,_,_=>rfl
 |[],y::b,_,hb,h=>by
  unfold cg at h;rw[VP,ny (hb y (VJ ..))]at h;simp at h
 |x::a,[],ha,_,h=>by
  unfold cg at h;rw[VP,ny (ha x (VJ ..))]at h;simp at h
 |x::a,y::b,ha,hb,h=>by
  have f:=ha x (VJ ..);have g:=hb y (VJ ..);have j:97<=x/\x<=122:=by simpa[bZ]using f
  have k:97<=y/\y<=122:=by simpa[bZ]using g
  unfold cg at h;rw[VP,VP,ny f,ny g]at h;simp at h
  have i:x=y:=by
   have:=congrArg UInt8.toNat h.1;simp[UInt8.toNat_ofNat']at this;omega
  rw[i,(BO (fun c d=>ha c (VS _ d)) (fun c d=>hb c (VS _ d)) h.2)]
theorem ru(L i):Bi (aN L i):=fun c a=>C3 _ c a
theorem yI{L i}(h:bZ (aj L i)=false):aN L i= []:=ie h
theorem uZ{L i}(h:bZ (aj L i)=true):aN L i≠ []:=by unfold aN;rw[gA (ma h),VN,if_pos h];simp
theorem cz{b a v}:v∈gi b a↔v=a\/(v∈b/\v.name≠a.name):=by unfold gi;by_cases h:b.any (fun y=>y.name==a.name)=true;{grind};{grind}
theorem eM(a n):(cF a n∈a/\(cF a n).name=n)\/(cF a n=⟨n, -1, -1⟩/\∀u∈a,u.name≠n):=by unfold cF;cases h:a.find? (fun b=>b.name==n)with|none=>right;refine⟨rfl,fun u c e=>?_⟩;have:=VX.1 h u c;exact this (by simp[e])|some b=>left;exact⟨List.mem_of_find?_eq_some h,by simpa using List.find?_some h⟩
structure mr(pl:List Int)(i:Nat)(ak:List (List Int))(bu:List (List Int×Nat))(al:List pZ):Prop where
 iq:∀nm,Bi nm->(nm∈ak↔∃u∈al,u.name=cg nm/\u.set≠ -1)
 j1:∀j∈bu,j.1≠ []->∃u∈al,u.name=cg j.1/\0<=u.bX/\u.bX<=aD pl j.2
 j2:∀u∈al,u.bX≠ -1\/u.set= -1->∃j∈bu,j.1≠ []/\u.name=cg j.1/\u.bX=aD pl j.2
 mO:∀u∈al,∀v∈al,u.name=v.name->u=v
 zX:∀j∈bu,Bi j.1
 Sz:∀j∈bu,j.2<i
 T9:bu.Pairwise (fun a b=>a.2<=b.2)
theorem mr.mono{pl i b ak bu a}(h:mr pl i ak bu a)(c:i<=b):mr pl b ak bu a:=
 ⟨h.iq,h.j1,h.j2,h.mO,h.zX,fun j d=>Nat.lt_of_lt_of_le (h.Sz j d) c,h.T9⟩
theorem mr.use{pl i ak bu b}(h:mr pl i ak bu b)(a)(g:Bi a):a∈ak↔(cF b (cg a)).set≠ -1:=by rw[h.iq a g];rcases eM b (cg a)with ⟨c,d⟩ |⟨c,d⟩;{constructor;{rintro⟨u,j,f,k⟩;have:=h.mO _ c u j (d.trans f.symm);rwa [this]};{grind}};{simp_all}
theorem mr.set{pl i ak bu hq}(h:mr pl i ak bu hq)(bE)(p:Bi bE)(x:(cF hq (cg bE)).set= -1)(n:Nat):mr pl i (ak++[bE]) bu (gi hq {cF hq (cg bE)with set:=(n:Int)}):=by have d:(cF hq (cg bE)).name=cg bE:=by{exact M3};refine⟨fun m g=>?_,fun j k q=>?_,fun u cW s=>?_,fun u cW v ch e=>?_,h.zX,h.Sz,h.T9⟩;{rw[VO,VK,h.iq m g];constructor;{rintro(⟨u,cW,a9,an⟩|e);{by_cases f:cg m=cg bE;{exact⟨_,cz.2 (VF rfl),by show(cF hq (cg bE)).name=_;rw[d,f],by show(n:Int)≠ -1;omega⟩};{exact⟨u,cz.2 (VH ⟨cW,by show u.name≠(cF hq (cg bE)).name;rw[d,a9];exact f⟩),a9,an⟩}};{subst e;exact⟨_,cz.2 (VF rfl),by show(cF hq (cg m)).name=_;rw[d],by show(n:Int)≠ -1;omega⟩}};{rintro⟨u,cW,a9,an⟩;rcases cz.1 cW with e |⟨c8,hJ⟩;{right;subst e;exact BO g p (by rw[<-a9,d])};{grind}}};{have⟨u,cW,a9,an,c8⟩:=h.j1 j k q;by_cases f:cg j.1=cg bE;{have g:cF hq (cg bE)=u:=by{rcases eM hq (cg bE)with ⟨o,a4⟩ |⟨o,a4⟩;{exact h.mO _ o u cW aU};{simp_all}};exact⟨_,cz.2 (VF rfl),by show(cF hq (cg bE)).name=_;rw[d,f],by show 0<=(cF hq (cg bE)).bX;rw[g];exact an,by show(cF hq (cg bE)).bX<=_;rw[g];exact c8⟩};{exact⟨u,cz.2 (VH ⟨cW,by show u.name≠(cF hq (cg bE)).name;rw[d,a9];exact f⟩),a9,an,c8⟩}};{rcases cz.1 cW with e |⟨c8,hJ⟩;{have l:u.bX=(cF hq (cg bE)).bX:=by{rw[e]};have y:u.set=(n:Int):=by{rw[e]};have r:u.name=(cF hq (cg bE)).name:=by{rw[e]};have t:u.bX≠ -1:=by{omega};rcases eM hq (cg bE)with ⟨o,a4⟩ |⟨o,a4⟩;{have⟨j,k,a,b,c⟩:=h.j2 _ o (VF E);exact⟨j,k,a,by rw[r];exact b,by rw[l];exact c⟩};{simp_all}};{exact h.j2 u c8 s}};{exact RF}
end V
namespace V
open A (iD)
theorem mr.Td{pl i s ak bu hq}(h:mr pl i ak bu hq)(bE)(G:Bi bE)(z:bE≠ [])(at_)(o:i<=at_)(a4:at_<s)(x:∀a,a<=at_->aD pl a<=aD pl at_)(L:0<=aD pl at_):mr pl s ak (bu++[(bE,at_)]) (gi hq (if (cF hq (cg bE)).bX== -1 then {cF hq (cg bE)with bX:=aD pl at_}else cF hq (cg bE))):=by have I:(cF hq (cg bE)).name=cg bE:=by{exact M3};have⟨d,B⟩:=b8 ((if (cF hq (cg bE)).bX== -1 then {cF hq (cg bE)with bX:=aD pl at_}else cF hq (cg bE)));rw[B];have p:d.name=cg bE:=cr;have F:d.set=(cF hq (cg bE)).set:=cr;have q:0<=d.bX/\d.bX<=aD pl at_/\∃j∈bu++[(bE,at_)],j.1≠ []/\d.name=cg j.1/\d.bX=aD pl j.2:=by{by_cases n:(cF hq (cg bE)).bX= -1;{have:d.bX=aD pl at_:=by{grind};exact⟨E,E,(bE,at_),aK,z,p,this⟩};{have l:d=cF hq (cg bE):=by{simp_all};rcases eM hq (cg bE)with ⟨f,g⟩ |⟨f,g⟩;{have⟨j,ap,a,b,c⟩:=h.j2 _ f (VF n);have⟨u,cW,a9,an,c8⟩:=h.j1 j ap a;have H:=h.Sz j ap;have:=x j.2 E;refine⟨by rw[l,<-(h.mO u cW _ f (by rw[a9,b]))];exact an,by rw[l,c];exact this,j,by simp[ap],a,by rw[l];exact b,by rw[l];exact c⟩};{simp_all}}};have D:∀u∈hq,u.name=cg bE->u.set=d.set:=by{intro u cW e;rw[F];rcases eM hq (cg bE)with ⟨f,g⟩ |⟨f,g⟩;{rw[h.mO u cW _ f (by rw[e,g])]};{simp_all}};refine⟨fun m y=>?_,fun j ap t=>?_,fun u cW C=>?_,fun u cW v ch e=>?_,?_,?_,VV.2 ⟨h.T9,VT _ _,fun a n b r=>by rw[VK]at r;subst r;have:=h.Sz a n;show a.2<=at_;omega⟩⟩;{rw[h.iq m y];constructor;{rintro⟨u,cW,a9,an⟩;by_cases k:u.name=d.name;{refine⟨d,cz.2 (VF rfl),by rw[<-k];exact a9,?_⟩;rwa [<-D u cW (k.trans p)]};{exact⟨u,cz.2 (VH ⟨cW,k⟩),a9,an⟩}};{rintro⟨u,cW,a9,an⟩;rcases cz.1 cW with e |⟨c8,hJ⟩;{subst e;rcases eM hq (cg bE)with ⟨f,g⟩ |⟨f,g⟩;{grind};{simp_all}};{grind}}};{rcases VO.1 ap with ap|ap;{have⟨u,cW,a9,an,c8⟩:=h.j1 j ap t;by_cases k:u.name=d.name;{refine⟨d,cz.2 (VF rfl),by rw[<-k];exact a9,q.1,?_⟩;have n:¬(cF hq (cg bE)).bX= -1:=by{rcases eM hq (cg bE)with ⟨f,g⟩ |⟨f,g⟩;{rw[<-h.mO u cW _ f (by rw[k,p,g])];omega};{simp_all}};have l:d=cF hq (cg bE):=aU;rcases eM hq (cg bE)with ⟨f,g⟩ |⟨f,g⟩;{rwa [l,<-h.mO u cW _ f aU]};{simp_all}};{exact⟨u,cz.2 (VH ⟨cW,k⟩),a9,an,c8⟩}};{rw[VK]at ap;subst ap;exact⟨d,cz.2 (VF rfl),p,q.1,q.2.1⟩}};{rcases cz.1 cW with e |⟨c8,hJ⟩;{simp_all};{have⟨j,ap,a,b,c⟩:=h.j2 u c8 C;exact⟨j,by simp[ap],a,b,c⟩}};{exact RF};{intro j ap;rcases VO.1 ap with ap|ap;{exact h.zX j ap};{simp_all}};{intro j ap;exact M9}
theorem mr.bare{pl i g ak bu d}(h:mr pl i ak bu d)(at_)(p:i<=at_)(q:at_<g):mr pl g ak (bu++[([],at_)]) d:=by refine⟨h.iq,fun j ap m=>?_,fun u n o=>?_,h.mO,fun j ap=>?_,fun j ap=>?_,VV.2 ⟨h.T9,VT _ _,fun a k b f=>by rw[VK]at f;subst f;have:=h.Sz a k;show a.2<=at_;omega⟩⟩;{rcases VO.1 ap with ap|ap;{exact h.j1 j ap m};{simp_all}};{have⟨j,ap,a⟩:=h.j2 u n o;exact⟨j,by simp[ap],a⟩};{rcases VO.1 ap with ap|ap;{exact h.zX j ap};{rw[VK]at ap;subst ap;intro c l;cases l}};{exact M9}
def dX(L pl:List Int)(b:Nat)(a:Int)(d:SS):Hd:=
 let n:=take L d 33
 let s3:=skip L n.2 false
 let c:=next L pl s3
 let s4:=if eY.contains c.1=false\/(c.1=58/\(a≠0\/n.1=true))then no pl c.2 3 s3.i else c.2
 let s5:=if 40<=s4.aC then no pl s4 5 s3.i else s4
 ⟨c.1,s3.i,if c.1=123/\5<=b then no pl s5 6 s3.i else s5⟩
theorem B5(L pl a s):head L pl a s=dX L pl a (bH L pl s).1 (if (bH L pl s).1=0 then skip L (bH L pl s).2 false else iL L pl (skip L (bH L pl s).2 false)):=rfl
theorem DT{L pl d a s}(h:s.e≠0):(dX L pl d a s).s=s:=by unfold dX;simp only;rw[Jf h ae];simp only;rw[uz h,P9 h];simp only;have b:(if eY.contains (-1:Int)=false\/((-1:Int)=58/\(a≠0\/false=true))then no pl s 3 s.i else s)=s:=by{split;{exact Ei h};{rfl}};rw[b];have c:(if 40<=s.aC then no pl s 5 s.i else s)=s:=by{split;{exact Ei h};{rfl}};rw[c,if_neg (fun h=>absurd h.1 ae)]
theorem KH{L pl s}(h:s.e≠0):iL L pl s=s:=by unfold iL;rw[zc h,if_neg ae]
theorem rq:∀c∈eY,(c=123/\aQ c=some 1)\/((c=97\/c=99\/c=105)/\aQ c=some 2)\/(c=58/\aQ c=some 3)\/((c=98\/c=116)/\aQ c=some 4)\/(c=115/\aQ c=some 5)\/(c=121/\aQ c=some 6)\/
 ((c≠123/\c≠97/\c≠99/\c≠105/\c≠58/\c≠98/\c≠116/\c≠115/\c≠121)/\aQ c=some 0):=ae
theorem uX{c}(h:¬c∈eY):aQ c=none:=by unfold aQ;rw[Option.map_eq_none_iff,VX];intro p b e;have:∀p∈dW,p.1∈eY:=ae;have a:c=p.1:=bS e;exact h aU
theorem B4{L pl}(P:iZ L)(f a m)(PI:(a≠0)↔m≠ [])(i)(S:i<=L.length)(X:bU (aj L i)=false)(q ps)(a6:ps.ai.length=f)(a5:f<=5)(a2:ps.au.length<=40):∃c b,(if aj L i==33 then (Except.ok ({bN:=m,neg:=true},bB L (i+1)):Except iD (fZ×Nat))else .ok ({bN:=m},i))=.ok (c,b)/\i<=b/\ (∀d i2,ag L pl ps c b=.ok (d,i2)->dX L pl f a ⟨i,0,q,(ps.au.length:Int)⟩=⟨d.ag,b,⟨i2,0,q,(ps.au.length:Int)⟩⟩/\i2=b+1/\i2<=L.length/\d.ag∈eY/\d.all=false/\d.ay=false/\d.dc=0/\ps.au.length<40/\(d.ag=123->f<5))/\ (∀g,ag L pl ps c b=.error g->Er (dX L pl f a ⟨i,0,q,(ps.au.length:Int)⟩).s g):=by
 have key:∀(neg:Bool) (b:Nat),b<=L.length->take L ⟨i,0,q,(ps.au.length:Int)⟩ 33=(neg,⟨if neg then i+1 else i,0,q,(ps.au.length:Int)⟩)->bB L (if neg then i+1 else i)=b->
  (∀d i2,ag L pl ps {bN:=m,neg:=neg} b=.ok (d,i2)->dX L pl f a ⟨i,0,q,(ps.au.length:Int)⟩=⟨d.ag,b,⟨i2,0,q,(ps.au.length:Int)⟩⟩/\i2=b+1/\i2<=L.length/\d.ag∈eY/\d.all=false/\d.ay=false/\d.dc=0/\ps.au.length<40/\(d.ag=123->f<5))/\
  (∀g,ag L pl ps {bN:=m,neg:=neg} b=.error g->Er (dX L pl f a ⟨i,0,q,(ps.au.length:Int)⟩).s g):=by
  intro neg b a3 a1 p
  have O:dX L pl f a ⟨i,0,q,(ps.au.length:Int)⟩=
   (let c:=next L pl ⟨b,0,q,(ps.au.length:Int)⟩
    let s4:=if eY.contains c.1=false\/(c.1=58/\(a≠0\/neg=true))then no pl c.2 3 b else c.2
    let s5:=if 40<=s4.aC then no pl s4 5 b else s4
    (⟨c.1,b,if c.1=123/\5<=f then no pl s5 6 b else s5⟩:Hd)):=by
   unfold dX;rw[a1];simp only;rw[eX,p]
  rw[O]
  rcases gh P b with ⟨x,F⟩ |⟨x,F⟩
  ·rw[qJ x]
   have r:aQ (aj L b)=none:=uX (by rw[x];decide);unfold ag;rw[r];refine⟨fun d i2 h=>cN,fun g h=>?_⟩;injection h with h;rw[<-h];have j:Er (⟨b,3,aD pl b,(ps.au.length:Int)⟩:SS) (3,aD pl b):=⟨rfl,rfl,(show(3:Int)≠0 by decide)⟩;simp only;rw[if_pos (VF ae),Ei j.ne]
   have n:(if 40<=(⟨b,3,aD pl b,(ps.au.length:Int)⟩:SS).aC then no pl (⟨b,3,aD pl b,(ps.au.length:Int)⟩:SS) 5 b else ⟨b,3,aD pl b,(ps.au.length:Int)⟩)=⟨b,3,aD pl b,(ps.au.length:Int)⟩:=by
    split
    ·rfl
    ·rfl
   rwa [n,if_neg (fun h=>absurd h.1 ae)]
  ·rw[rz x]
   simp only;generalize C:aj L b=c at*
   by_cases t:c∈eY
   ·have I:eY.contains c=true:=bS t
    by_cases z:c=58/\(a≠0\/neg=true)
    ·rw[if_pos (VH z)]
     have j:=jW (s:=⟨b+1,0,q,(ps.au.length:Int)⟩) rfl pl 3 b ae;have r:aQ c=some 3:=by rw[z.1];decide
     unfold ag;rw[C,r]
     have D:((3:Int)==3 && !(m.isEmpty && !neg))=true:=by
      simp_all
     simp only[D,if_true];refine⟨fun d i2 h=>cN,fun g h=>?_⟩;injection h with h;rw[<-h]
     have n:(if 40<=(no pl (⟨b+1,0,q,(ps.au.length:Int)⟩:SS) 3 b).aC then no pl (no pl (⟨b+1,0,q,(ps.au.length:Int)⟩:SS) 3 b) 5 b else no pl (⟨b+1,0,q,(ps.au.length:Int)⟩:SS) 3 b)=no pl (⟨b+1,0,q,(ps.au.length:Int)⟩:SS) 3 b:=by
      split
      ·rfl
      ·rfl
     rw[n];split
     ·omega
     ·exact j
    ·have a0:¬(eY.contains c=false\/(c=58/\(a≠0\/neg=true))):=by
      rintro(h|h)
      ·simp_all
      ·exact z h
     rw[if_neg a0];simp only
     obtain⟨l,U,a4,H⟩:∃l,aQ c=some l/\((l==3)=true↔c=58)/\((l==1)=true↔c=123):=by
      rcases rq c t with ⟨e,k⟩ |⟨e,k⟩ |⟨e,k⟩ |⟨e,k⟩ |⟨e,k⟩ |⟨e,k⟩ |⟨e,k⟩
      ·simp_all
      ·grind
      ·simp_all
      ·grind
      ·simp_all
      ·simp_all
      ·simp_all
     unfold ag;rw[C,U]
     have D:(l==3 && !(m.isEmpty && !neg))=false:=by
      simp_all
     simp only[D,VE,if_false];by_cases G:ps.au.length=40
     ·have B:(ps.au.length==40)=true:=by simp[G]
      simp only[B,if_true];rw[if_pos (show(40:Int)<=(ps.au.length:Int) by omega)];have j:=jW (s:=⟨b+1,0,q,(ps.au.length:Int)⟩) rfl pl 5 b ae;refine⟨fun d i2 h=>cN,fun g h=>?_⟩;injection h with h;rw[<-h];split
      ·exact j.no _ _ _
      ·exact j
     ·have B:=bP G
      simp only[B,VE,if_false];rw[if_neg (show ¬(40:Int)<=(ps.au.length:Int) by omega)];by_cases o:c=123/\5<=f
      ·have p:(l==1 && ps.ai.length==5)=true:=by
        rw[H.2 o.1];simp;omega
       simp only[p,if_true];rw[if_pos o];have j:=jW (s:=⟨b+1,0,q,(ps.au.length:Int)⟩) rfl pl 6 b ae;refine⟨fun d i2 h=>cN,fun g h=>?_⟩;injection h with h;rw[<-h];exact j
      ·have p:(l==1 && ps.ai.length==5)=false:=by
        cases r:(l==1)with
        |false=>rfl
        |true=>
         have:=H.1 r;have:¬5<=f:=fun h=>o ⟨this,h⟩;simp;omega
       simp only[p,VE,if_false];rw[if_neg o];refine⟨fun d i2 h=>?_,fun g h=>cN⟩;injection h with h;injection h with M N;subst M;subst N;refine⟨rfl,rfl,F,t,rfl,rfl,rfl,E,fun e=>?_⟩;have:¬5<=f:=fun h=>o ⟨e,h⟩;omega
   ·have I:eY.contains c=false:=bS t
    rw[if_pos (VF I)];have j:=jW (s:=⟨b+1,0,q,(ps.au.length:Int)⟩) rfl pl 3 b ae;unfold ag;rw[C,uX t];refine⟨fun d i2 h=>cN,fun g h=>?_⟩;injection h with h;rw[<-h]
    have n:(if 40<=(no pl (⟨b+1,0,q,(ps.au.length:Int)⟩:SS) 3 b).aC then no pl (no pl (⟨b+1,0,q,(ps.au.length:Int)⟩:SS) 3 b) 5 b else no pl (⟨b+1,0,q,(ps.au.length:Int)⟩:SS) 3 b)=no pl (⟨b+1,0,q,(ps.au.length:Int)⟩:SS) 3 b:=by
     split
     ·rfl
     ·rfl
    rw[n];split
    ·exact j.no _ _ _
    ·exact j
 by_cases y:aj L i=33;{have W:=di (L:=L) (i:=i) E;refine⟨_,_,by rw[if_pos (by simp[y])],by have:=eU L (i+1);omega,?_⟩;exact key true _ (ix _ W) (C1 y) rfl};{refine⟨_,_,by rw[if_neg (bS y)],VM _,?_⟩;exact key false i S (zA y) (jg X)}
end V
namespace V
open A (iD)
def PK(L:List Int)(g:Nat)(p:kj)(v:Int):Prop:=
 (p.aF=0/\p.text=iX v/\p.bF=0/\0<=v/\(v=10\/∃j,j<L.length/\v=aj L j))\/(p.aF=1/\v= -1/\p.text= [])\/(p.aF=2/\v= -1-p.bF/\1<=p.bF/\p.bF<=(g:Int)/\p.text= [])
def O8(L:List Int)(g:Nat):List kj->List Int->Prop
 |[],[]=>True
 |p::ps,v::vs=>PK L g p v/\O8 L g ps vs
 |_,_=>False
theorem O8.qd{L g}:∀ {ps:List kj} {c:List Int} {p:kj} {v:Int},O8 L g ps c->PK L g p v->O8 L g (ps++[p]) (c++[v])
 |[],[],p,v,_,h=>⟨h,trivial⟩
 |a::ps,b::c,p,v,h,k=>⟨h.1,O8.qd h.2 k⟩
 |[],b::c,p,v,h,k=>h.elim
 |a::ps,[],p,v,h,k=>h.elim
theorem Hi{L pl}(x:iZ L)(g:Nat)(i:Nat)(N:i<=L.length)(M:aj L i≠47)(q k:Int)(p)(F:Nat)(h:A.part L pl (g:Int) i=.ok (p,F)):PK L g p (CN L pl ⟨i,0,q,k⟩):=by unfold A.part at h;unfold CN;rcases gh x i with ⟨j,y⟩ |⟨j,y⟩;{rw[j]at h;unfold A.plain pj at h;simp[j]at h};{rw[rz j];simp only;have C:i<L.length:=E;by_cases m:aj L i=38;{simp only[m,beq_self_eq_true,if_true]at h;injection h with h;injection h with f r;subst f;simp only[m,show ¬((38:Int)=10) by decide,if_false,if_true];exact VH (VF ⟨rfl,rfl,rfl⟩)};{have t:=bP m;by_cases n:aj L i=92;{have o:(aj L i !=92)=false:=by{simp[n]};simp only[t,o,VE,if_false]at h;simp only[n,show ¬((92:Int)=10) by decide,show ¬((92:Int)=38) by decide,if_false,if_true,true_and];have D:bj L ⟨i+1,0,q,k⟩=aj L (i+1):=rfl;rw[D];by_cases hd:br (aj L (i+1))=true/\aj L (i+1)≠48;{have s:(aj L (i+1)==48 || !br (aj L (i+1)))=false:=by{simp[hd.1,hd.2]};have O:=fT hd.1;simp only[s,VE,if_false]at h;by_cases B:(g:Int)<aj L (i+1)-48;{simp_all};{simp only[gt_iff_lt,if_neg B]at h;injection h with h;injection h with f r;subst f;rw[if_pos hd];have:=hd.2;exact VH (VH ⟨rfl,rfl,by simp only;omega,by simp only;omega,rfl⟩)}};{have s:(aj L (i+1)==48 || !br (aj L (i+1)))=true:=by{exact RI};simp only[s,if_true]at h;rw[if_neg hd];have z:=mX x (may:=dF) (pl:=pl) ae (i+1) q k;cases l:A.cQ L pl dF (i+1)with|error I=>rw [l]at h;cases h|ok G=>have⟨c,P⟩:=G;have⟨a,b,H,d⟩:=z.1 _ _ l;rw[l]at h;injection h with h;injection h with f r;subst f;rw[a];refine VF ⟨rfl,rfl,rfl,d,?_⟩;unfold A.cQ at l;split at l;{simp_all};{grind}}};{have o:=mK n;simp only[t,o,VE,if_false,if_true]at h;simp only[m,n,false_and,if_false];unfold A.plain at h;split at h;{cases h};{injection h with h;injection h with f r;subst f;exact VF ⟨rfl,rfl,rfl,j,VH ⟨i,C,rfl⟩⟩}}}}
theorem AW{L pl}(r:iZ L)(q k)(g:Nat):∀(n:Nat) (ps:List kj) (l:List Int) (i:Nat) (j:List kj) (m:Nat),L.length<n+i->i<=L.length->A.bO L pl (g:Int) n ps i=.ok (j,m)->O8 L g ps l->l.length<=i->
 O8 L g j (pU L pl g n l ⟨i,0,q,k⟩)/\(pU L pl g n l ⟨i,0,q,k⟩).length<=L.length
 |0,ps,l,i,j,m,h1,h2,h,hp,hl=>by omega
 |n+1,ps,l,i,j,m,h1,h2,h,hp,hl=>by
  unfold A.bO at h;unfold pU;rw[if_pos rfl];by_cases d:aj L i=47
  ·have s:bj L ⟨i,0,q,k⟩=47:=d
   simp only[d,beq_self_eq_true,if_true]at h;injection h with h;injection h with y z;subst y;rw[if_pos s];exact⟨hp,E⟩
  ·have s:¬bj L ⟨i,0,q,k⟩=47:=d
   have x:=bP d;simp only[x,VE,if_false]at h;rw[if_neg s]
   rcases o:A.part L pl (g:Int) i with f |⟨p,t⟩ <;> rw[o]at h
   ·cases h
   have⟨a,b,c⟩:=(AZ (pl:=pl) r g i h2 d q k).1 _ _ o;rw[a];exact AW r q k g n (ps++[p]) _ t j m E c h (hp.qd (Hi r g i h2 d q k p t o)) cr
theorem oQ{L pl}(r:iZ L)(q k):∀(n:Nat) (c:fZ) (i:Nat) (c':fZ) (g:Nat),L.length<n+i->i<=L.length->A.ee L pl n c i=.ok (c',g)->
 (ee L pl n ⟨⟨i,0,q,k⟩,c.all,c.ay,c.dc⟩).all=c'.all/\(ee L pl n ⟨⟨i,0,q,k⟩,c.all,c.ay,c.dc⟩).ay=c'.ay/\(ee L pl n ⟨⟨i,0,q,k⟩,c.all,c.ay,c.dc⟩).dc=c'.dc/\c'.fk=c.fk/\c'.cx=c.cx/\c'.ag=c.ag/\c'.bN=c.bN/\c'.neg=c.neg/\c'.text=c.text/\c'.name=c.name/\c'.cM=c.cM/\c'.iY=c.iY/\c'.cG=c.cG
 |0,c,i,c',g,h1,h2,h=>by omega
 |n+1,c,i,c',g,h1,h2,h=>by
  have x:bj L ⟨i,0,q,k⟩=aj L i:=rfl;unfold A.ee at h;unfold ee;rw[if_pos rfl];simp only[x];simp only at h;by_cases bm:aj L i=103/\c.all=false
  ·have l:(aj L i==103 && !c.all)=true:=by simp_all
   have j:=di (L:=L) (i:=i) E;rw[l,if_pos rfl]at h;rw[if_pos bm];exact oQ (pl:=pl) r q k n {c with all:=true} (i+1) c' g E j h
  ·have l:(aj L i==103 && !c.all)=false:=by
    exact Mw
   rw[l]at h;simp only[VE,if_false]at h;rw[if_neg bm];by_cases bl:aj L i=112/\c.ay=false
   ·have o:(aj L i==112 && !c.ay)=true:=by simp_all
    have j:=di (L:=L) (i:=i) E;rw[o,if_pos rfl]at h;rw[if_pos bl];exact oQ (pl:=pl) r q k n {c with ay:=true} (i+1) c' g E j h
   ·have o:(aj L i==112 && !c.ay)=false:=by
     exact Mu
    rw[o]at h;simp only[VE,if_false]at h;rw[if_neg bl];by_cases hd:br (aj L i)=true/\c.dc=0
    ·have t:(br (aj L i) && c.dc==0)=true:=by simp_all
     rw[t,if_pos rfl]at h;rw[if_pos hd]
     rcases p:A.number L pl i with f |⟨m,y⟩ <;> rw[p]at h
     ·cases h
     have⟨a,b,s,d⟩:=(pz (L:=L) (pl:=pl) i h2 q k).1 _ _ p;have j:=rB p hd.1;rw[a];exact oQ (pl:=pl) r q k n {c with dc:=m} y c' g E s h
    ·grind
def AK(L pl:List Int)(a:A.Ad)(r:Rr.RA):Prop:=
 (a.aF=0/\r.aF=110/\a.number=r.n/\r.ys= []/\r.af=0/\a.fk=⟨[],0⟩/\0<=a.number/\a.number<=9999)\/(a.aF=1/\r.aF=36/\r.ys= []/\r.af=0/\r.n=0/\a.fk=⟨[],0⟩/\a.number=0)\/
 (a.aF=2/\r.aF=47/\r.ys=a.fk.aH.map lG/\(r.af:Int)=a.fk.af/\r.n=0/\a.number=0/\∃i b,i<=L.length/\fA L pl i=.ok (a.fk,b))
theorem Ap{L pl}(z:iZ L)(i)(B:i<=L.length)(q k)(f6:cH L i=true)(a D)(h:A.bH L pl i=.ok (a,D)):AK L pl a (mT L pl ⟨i,0,q,k⟩):=by have C:bj L ⟨i,0,q,k⟩=aj L i:=rfl;unfold A.bH at h;unfold mT;simp only[f6,VG,VE,if_false]at h;rw[C];by_cases hd:br (aj L i)=true;{have M:=fT hd;have p6:(aj L i==36)=false:=bQ;have x:(aj L i==47)=false:=bQ;simp only[p6,x,VE,if_false]at h;rw[if_pos hd];rcases b:A.number L pl i with f |⟨m,r⟩ <;> rw[b]at h;{cases h};injection h with h;injection h with c j;subst c;have⟨e,_⟩:=(pz (L:=L) (pl:=pl) i B q k).1 _ _ b;rw[e];have n:0<=m/\m<=9999:=by{have y:A.number L pl i=if (qA (cw L i)==0 || decide (9999<qA (cw L i)))=true then .error (4,aD pl i)else .ok (qA (cw L i),i+(cw L i).length):=rfl;have I:0<=qA (cw L i):=BT _ _ ae (fun d hd=>C3 _ d hd);rw[y]at b;split at b;{cases b};{simp_all}};exact VF ⟨rfl,rfl,rfl,rfl,rfl,rfl,n.1,n.2⟩};{rw[if_neg hd];by_cases g:aj L i=36;{simp only[g,beq_self_eq_true,if_true]at h;injection h with h;injection h with c j;subst c;rw[if_pos g];exact VH (VF ⟨rfl,rfl,rfl,rfl,rfl,rfl,rfl⟩)};{have p6:=bP g;have l:aj L i=47:=by{exact RQ};have o:=di (L:=L) (i:=i) E;simp only[l,beq_self_eq_true,if_true,show((47:Int)==36)=false by decide,VE,if_false]at h;rw[if_neg g,if_pos l];rcases b:fA L pl (i+1)with f |⟨p,r⟩ <;> rw[b]at h;{cases h};injection h with h;injection h with c j;subst c;have⟨⟨F,s,G,H⟩,t⟩:=(uj (pl:=pl) z (i+1) o q k).1 _ _ b;exact VH (VH ⟨rfl,rfl,t,s.symm,rfl,rfl,i+1,r,o,b⟩)}}
def Uq(L pl:List Int)(d:List A.Ad)(a b:Rr.RA):Prop:=
 (d= []/\a={}/\b={})\/(∃c,d= [c]/\AK L pl c a/\b={})\/∃c y,d= [c,y]/\AK L pl c a/\AK L pl y b
end V
namespace V
open A (iD)
theorem DU{L pl}(F:iZ L)(k i)(I:i<=L.length)(M:bU (aj L i)=false)(q ps)(ab:ps.ai.length=k)(aa:k<=5)(a6:ps.au.length<=40):(∀c d g i2,A.head L pl i=.ok (c,d)->ag L pl ps c d=.ok (g,i2)->head L pl k ⟨i,0,q,(ps.au.length:Int)⟩=⟨g.ag,d,⟨i2,0,q,(ps.au.length:Int)⟩⟩/\i<=d/\i2=d+1/\i2<=L.length/\g.ag∈eY/\g.all=false/\g.ay=false/\g.dc=0/\ps.au.length<40/\(g.ag=123->k<5))/\ (∀f,A.head L pl i=.error f->Er (head L pl k ⟨i,0,q,(ps.au.length:Int)⟩).s f)/\ (∀c d f,A.head L pl i=.ok (c,d)->ag L pl ps c d=.error f->Er (head L pl k ⟨i,0,q,(ps.au.length:Int)⟩).s f):=by rw[B5];have key:∀(a:Int) (n:List A.Ad) (j:Nat),(if cH L i then eu L pl i else .ok ([],i))=.ok (n,j)->((a≠0)↔n≠ [])->i<=j->j<=L.length->bU (aj L j)=false-> (∀c d g i2,A.head L pl i=.ok (c,d)->ag L pl ps c d=.ok (g,i2)->dX L pl k a ⟨j,0,q,(ps.au.length:Int)⟩=⟨g.ag,d,⟨i2,0,q,(ps.au.length:Int)⟩⟩/\i<=d/\i2=d+1/\i2<=L.length/\g.ag∈eY/\g.all=false/\g.ay=false/\g.dc=0/\ps.au.length<40/\(g.ag=123->k<5))/\ (∀f,A.head L pl i=.error f->Er (dX L pl k a ⟨j,0,q,(ps.au.length:Int)⟩).s f)/\ (∀c d f,A.head L pl i=.ok (c,d)->ag L pl ps c d=.error f->Er (dX L pl k a ⟨j,0,q,(ps.au.length:Int)⟩).s f):=by{intro a n j z PI ap a7 a8;obtain⟨c,d,a0,am,an,ao⟩:=B4 (pl:=pl) F k a n PI j a7 a8 q ps ab aa a6;have C:A.head L pl i=.ok (c,d):=by{unfold A.head;rw[z];exact a0};rw[C];refine⟨fun c' H g i2 h G=>?_,fun f h=>cN,fun c' H f h G=>?_⟩;{grind};{simp_all}};have Aq:∀(a:Int) (s:SS) (f:iD),Er s f->(if cH L i then eu L pl i else .ok ([],i))=.error f-> (∀c d g i2,A.head L pl i=.ok (c,d)->ag L pl ps c d=.ok (g,i2)->dX L pl k a s=⟨g.ag,d,⟨i2,0,q,(ps.au.length:Int)⟩⟩/\i<=d/\i2=d+1/\i2<=L.length/\g.ag∈eY/\g.all=false/\g.ay=false/\g.dc=0/\ps.au.length<40/\(g.ag=123->k<5))/\ (∀f,A.head L pl i=.error f->Er (dX L pl k a s).s f)/\ (∀c d f,A.head L pl i=.ok (c,d)->ag L pl ps c d=.error f->Er (dX L pl k a s).s f):=by{intro a s f l z;have C:A.head L pl i=.error f:=by{unfold A.head;rw[z]};rw[C];refine⟨fun c' H g i2 h G=>cN,fun f h=>?_,fun c' H f h G=>cN⟩;injection h with h;rw[DT l.ne,<-h];exact l};cases p:cH L i with|false=>rw[p]at key;rw[lX i q _ p];simp only[if_true];rw[eX,jg M];exact key 0 [] i rfl aK (VM _) I M|true=>rw[p]at key Aq;simp only[if_true]at key Aq;obtain⟨a1,a2,x⟩:=mU (pl:=pl) F i I q (ps.au.length:Int) p;rw[if_neg x];cases m:A.bH L pl i with|error f=>have l:=a2 f m;rw[uz l.ne,KH l.ne];refine Aq _ _ f l ?_;unfold eu;rw[m]|ok ac=>obtain⟨t,d⟩:=ac;obtain⟨N,ad,O,P⟩:=a1 _ _ m;rw[N];unfold iL;rw[gQ];by_cases o:aj L d=44;{have a9:=di (L:=L) (i:=d) E;rw[if_pos o];simp only;rw[eX];have av:=eU L (d+1);have B:eu L pl i=(match A.bH L pl (bB L (d+1))with| .error f=>.error f| .ok (b,i2)=>.ok ([t,b],i2)):=by{unfold eu;rw[m];simp only[o,beq_self_eq_true,if_true];cases A.bH L pl (bB L (d+1))with|error=>rfl|ok=>rfl};cases D:cH L (bB L (d+1))with|false=>rw[lX _ q _ D];simp only[if_true];have l:=jW (s:=⟨bB L (d+1),0,q,(ps.au.length:Int)⟩) rfl pl 3 (bB L (d+1)) ae;rw[uz l.ne];refine Aq _ _ _ l ?_;rw[B];unfold A.bH;rw[D];rfl|true=>obtain⟨a3,a4,a5⟩:=mU (pl:=pl) F (bB L (d+1)) (ix (L:=L) (d+1) a9) q (ps.au.length:Int) D;rw[if_neg a5];cases r:A.bH L pl (bB L (d+1))with|error f=>have l:=a4 f r;rw[uz l.ne];refine Aq _ _ f l ?_;rw[B,r]|ok y=>obtain⟨b,i2⟩:=y;obtain⟨S,al,U,W⟩:=a3 _ _ r;rw[S];exact key _ [t,b] i2 (by rw[B,r]) ⟨fun _=>by simp,fun _=>x⟩ E U W};{rw[if_neg o];refine key _ [t] d ?_ ⟨fun _=>by simp,fun _=>x⟩ E O P;unfold eu;rw[m];have X:=bP o;simp only[X,VE,if_false]}
theorem FA{L pl}(I:iZ L)(ap:∀a b,a<=b->b<=L.length->aD pl a<=aD pl b)(b0:∀a,0<=aD pl a)(ps c)(b1:c.ag∈eY)(b9:c.ag≠123)(aa:c.all=false)(ad:c.ay=false)(ac:c.dc=0)(i0 at_ i2)(a3:i0<=at_)(ba:at_<i2)(D:i2<=L.length)(q k ak bu row)(S:mr pl i0 ak bu ps.ak):
 (∀g os i i3 i4,A.bR L pl ps c (aD pl at_) i2=.ok (g,os,i,i3)->A.tail L pl i3=.ok i4->(bR L pl c.ag at_ ⟨⟨i2,0,q,k⟩,ak,bu,row⟩).s=⟨i4,0,q,k⟩/\mr pl i4 (bR L pl c.ag at_ ⟨⟨i2,0,q,k⟩,ak,bu,row⟩).ak (bR L pl c.ag at_ ⟨⟨i2,0,q,k⟩,ak,bu,row⟩).bu i/\os=ps.ai/\i2<=i4/\i4<=L.length/\g.ag=c.ag)/\
 (∀f,A.bR L pl ps c (aD pl at_) i2=.error f->Er (bR L pl c.ag at_ ⟨⟨i2,0,q,k⟩,ak,bu,row⟩).s f)/\
 (∀g os i i3 f,A.bR L pl ps c (aD pl at_) i2=.ok (g,os,i,i3)->A.tail L pl i3=.error f->Er (bR L pl c.ag at_ ⟨⟨i2,0,q,k⟩,ak,bu,row⟩).s f):=by
 have jp:mr pl i2 ak bu ps.ak:=S.mono E
 have j:∀(C:RS),bR L pl c.ag at_ ⟨⟨i2,0,q,k⟩,ak,bu,row⟩={C with s:=dE L pl C.s}->∀(X:Except iD (fZ×List Int×List pZ×Nat)),A.bR L pl ps c (aD pl at_) i2=X->
  (∀g os i i3,X=.ok (g,os,i,i3)->C.s=⟨i3,0,q,k⟩/\mr pl i3 C.ak C.bu i/\os=ps.ai/\i2<=i3/\i3<=L.length/\g.ag=c.ag)->(∀f,X=.error f->Er C.s f)->
  (∀g os i i3 i4,A.bR L pl ps c (aD pl at_) i2=.ok (g,os,i,i3)->A.tail L pl i3=.ok i4->(bR L pl c.ag at_ ⟨⟨i2,0,q,k⟩,ak,bu,row⟩).s=⟨i4,0,q,k⟩/\mr pl i4 (bR L pl c.ag at_ ⟨⟨i2,0,q,k⟩,ak,bu,row⟩).ak (bR L pl c.ag at_ ⟨⟨i2,0,q,k⟩,ak,bu,row⟩).bu i/\os=ps.ai/\i2<=i4/\i4<=L.length/\g.ag=c.ag)/\
  (∀f,A.bR L pl ps c (aD pl at_) i2=.error f->Er (bR L pl c.ag at_ ⟨⟨i2,0,q,k⟩,ak,bu,row⟩).s f)/\
  (∀g os i i3 f,A.bR L pl ps c (aD pl at_) i2=.ok (g,os,i,i3)->A.tail L pl i3=.error f->Er (bR L pl c.ag at_ ⟨⟨i2,0,q,k⟩,ak,bu,row⟩).s f):=by
  intro C r X a8 a6 al;rw[r,a8];refine⟨fun g os i i3 i4 h G=>?_,fun f h=>?_,fun g os i i3 f h G=>?_⟩
  ·obtain⟨a,b,d,e,H,a2⟩:=a6 g os i i3 h
   obtain⟨b4,b6,b7⟩:=(wR (pl:=pl) I i3 H q k).1 i4 G;simp only;rw[a];exact⟨b4,b.mono b6,d,E,b7,a2⟩
  ·have x:=al f h
   simp only;rw[Ht x.ne];exact x
  ·obtain⟨a,b,d,e,H,a2⟩:=a6 g os i i3 h
   simp only;rw[a];exact(wR (pl:=pl) I i3 H q k).2 f G
 unfold bR at j ⊢;unfold A.bR at j ⊢
 rcases rq c.ag b1 with ⟨e,n⟩ |⟨e,n⟩ |⟨e,n⟩ |⟨e,n⟩ |⟨e,n⟩ |⟨e,n⟩ |⟨e,n⟩
 ·omega
 ·rw[n]
  simp only;rw[if_pos e];have G:=OM (pl:=pl) I c i2 D q k
  cases z:iM L pl c i2 with
  |error f=>
   refine⟨fun g os i i3 i4 h=>cN,fun f h=>?_,fun g os i i3 f h=>cN⟩;injection h with h;rw[<-h];exact G.2 _ z
  |ok a1=>
   obtain⟨c',b5⟩:=a1;obtain⟨a,b,d,a9,H⟩:=G.1 _ _ z;refine⟨fun g os i i3 i4 h M=>?_,fun f h=>cN,fun g os i i3 f h M=>?_⟩
   ·injection h with h
    injection h with o h;injection h with a4 h;injection h with ab be;subst o;subst a4;subst ab;subst be;rw[a9]at M
    cases M
    exact⟨a,jp.mono b,rfl,b,d,H⟩
   ·injection h with h
    injection h with o h;injection h with a4 h;injection h with ab be;subst be;rw[a9]at M
    cases M
 ·rw[n]at j ⊢
  simp only at j ⊢;have t:¬(c.ag=97\/c.ag=99\/c.ag=105):=E;rw[if_neg t,if_pos e]at j ⊢;refine j _ rfl _ rfl ?_ ?_
  all_goals
   unfold CU fm;have p:=uf (L:=L) (pl:=pl) i2 D q k;simp only;rw[p.2.2]
  ·intro g os i i3 h
   cases m:bZ (aj L i2)with
   |false=>rw [m]at h;simp at h
   |true=>
    rw[m]at h;simp only[VG,VE,if_false]at h
    cases l:iB L pl i2 with
    |error f=>rw [l]at h;cases h
    |ok a1=>
     obtain⟨a7,b5⟩:=a1;obtain⟨a,b,d,a9⟩:=p.1 _ _ l;rw[l]at h;simp only at h;have U:=uZ m;have F:¬(aN L i2).length=0:=fun e=>U (VI e);rw[if_neg F,a];have W:=jp.use (aN L i2) (ru L i2);subst b;by_cases y:(cF ps.ak (cg (aN L i2))).set= -1
     ·have r:((cF ps.ak (cg (aN L i2))).set != -1)=false:=by simp[y]
      rw[r]at h;simp only[VE,if_false]at h;injection h with h;injection h with o h;injection h with a4 h;injection h with ab be;have av:¬(ak.contains (aN L i2)=true):=fun n=>W.1 (bS n) y;rw[if_neg av];subst o;subst a4;subst ab;subst be;exact⟨rfl,(jp.set _ (ru L i2) y ps.au.length).mono E,rfl,E,a9,rfl⟩
     ·have r:=mK y
      rw[r]at h;simp only[if_true]at h
      cases h
  ·intro f h
   cases m:bZ (aj L i2)with
   |false=>
    rw[m]at h;simp only[VL,if_true]at h;injection h with h;have N:=yI m;have F:(aN L i2).length=0:=by rw[N];rfl
    rw[if_pos F]
    have l:iB L pl i2=.ok (cg (aN L i2),i2+(aN L i2).length):=by
     unfold iB;rw[N]
     rfl
    obtain⟨a,b,d,a9⟩:=p.1 _ _ l;rw[a];have x:=jW (s:=⟨i2+(aN L i2).length,0,q,k⟩) rfl pl 3 (i2+(aN L i2).length) ae;have am:f=(3,aD pl (i2+(aN L i2).length)):=by rw[<-h,F];rfl
    rw[am];split
    ·exact x.no _ _ _
    ·exact x
   |true=>
    rw[m]at h;simp only[VG,VE,if_false]at h;have U:=uZ m;have F:¬(aN L i2).length=0:=fun e=>U (VI e);rw[if_neg F]
    cases l:iB L pl i2 with
    |error P=>
     rw[l]at h;simp only at h
     cases h
     have x:=p.2.1 _ l;split
     ·exact x.no _ _ _
     ·exact x
    |ok a1=>
     obtain⟨a7,b5⟩:=a1;obtain⟨a,b,d,a9⟩:=p.1 _ _ l;rw[l]at h;simp only at h;rw[a];have W:=jp.use (aN L i2) (ru L i2);subst b;by_cases y:(cF ps.ak (cg (aN L i2))).set= -1
     ·have r:((cF ps.ak (cg (aN L i2))).set != -1)=false:=by simp[y]
      rw[r]at h;simp only[VE,if_false]at h
      cases h
     ·have r:=mK y
      rw[r]at h;simp only[if_true]at h;injection h with h;have an:ak.contains (aN L i2)=true:=by simpa using W.2 y
      rw[if_pos an,<-h];exact jW rfl _ _ _ ae
 ·rw[n]at j ⊢
  simp only at j ⊢;have t:¬(c.ag=97\/c.ag=99\/c.ag=105):=E;have B:¬c.ag=58:=E;rw[if_neg t,if_neg B,if_pos e]at j ⊢;refine j _ rfl _ rfl ?_ ?_
  all_goals
   unfold Bv fh;simp only;rw[eX];have a5:=ix (L:=L) i2 D;have bb:=eU L i2;have p:=uf (L:=L) (pl:=pl) (bB L i2) a5 q k
   try rw[p.2.2]
  ·intro g os i i3 h
   cases m:bZ (aj L (bB L i2))with
   |false=>
    rw[m]at h;simp only[VL,if_true]at h;injection h with h;injection h with o h;injection h with a4 h;injection h with ab be;subst o;subst a4;subst ab;subst be;have N:=yI m
    have l:iB L pl (bB L i2)=.ok (cg (aN L (bB L i2)),bB L i2+(aN L (bB L i2)).length):=by
     unfold iB;rw[N]
     rfl
    obtain⟨a,b,d,a9⟩:=p.1 _ _ l;rw[a,N];exact⟨rfl,S.bare at_ a3 E,rfl,E,by simpa using a5,rfl⟩
   |true=>
    rw[m]at h;simp only[VG,VE,if_false]at h
    cases l:iB L pl (bB L i2)with
    |error f=>rw [l]at h;cases h
    |ok a1=>
     obtain⟨a7,b5⟩:=a1;obtain⟨a,b,d,a9⟩:=p.1 _ _ l;rw[l]at h;simp only at h;injection h with h;injection h with o h;injection h with a4 h;injection h with ab be;subst o;subst a4;subst ab;subst be;subst b;rw[a];exact⟨rfl,S.Td _ (ru L _) (uZ m) at_ a3 E (fun a1 b2=>ap a1 at_ b2 E) (b0 at_),rfl,E,a9,rfl⟩
  ·intro f h
   cases m:bZ (aj L (bB L i2))with
   |false=>
    rw[m]at h;simp only[VL,if_true]at h
    cases h
   |true=>
    rw[m]at h;simp only[VG,VE,if_false]at h
    cases l:iB L pl (bB L i2)with
    |error P=>
     rw[l]at h;simp only at h;injection h with h;rw[<-h];exact p.2.1 _ l
    |ok a1=>rw [l]at h;cases h
 ·rw[n]at j ⊢
  simp only at j ⊢;have t:¬(c.ag=97\/c.ag=99\/c.ag=105):=E;have B:¬c.ag=58:=E;have O:¬(c.ag=98\/c.ag=116):=E;rw[if_neg t,if_neg B,if_neg O,if_pos e]at j ⊢;have ao:=vx (pl:=pl) I c aa ad ac i2 D q k;refine j _ rfl _ rfl ?_ ?_
  ·intro g os i i3 h
   cases z:cI L pl c i2 with
   |error f=>rw [z]at h;cases h
   |ok a1=>
    exact Q7
  ·intro f h
   cases z:cI L pl c i2 with
   |error P=>
    rw[z]at h;injection h with h;rw[<-h];exact ao.2 _ z
   |ok a1=>rw [z]at h;cases h
 ·rw[n]at j ⊢
  simp only at j ⊢;have t:¬(c.ag=97\/c.ag=99\/c.ag=105):=E;have B:¬c.ag=58:=E;have O:¬(c.ag=98\/c.ag=116):=E;have a0:¬c.ag=115:=E;rw[if_neg t,if_neg B,if_neg O,if_neg a0,if_pos e]at j ⊢;have ao:=LA (pl:=pl) I c at_ i2 D q k;refine j _ rfl _ rfl ?_ ?_
  ·intro g os i i3 h
   cases z:eQ L pl c (aD pl at_) i2 with
   |error f=>rw [z]at h;cases h
   |ok a1=>
    exact Q7
  ·intro f h
   cases z:eQ L pl c (aD pl at_) i2 with
   |error P=>
    rw[z]at h;injection h with h;rw[<-h];exact ao.2 _ z
   |ok a1=>rw [z]at h;cases h
 ·rw[n]at j ⊢
  simp only at j ⊢;have t:¬(c.ag=97\/c.ag=99\/c.ag=105):=E;have B:¬c.ag=58:=E;have O:¬(c.ag=98\/c.ag=116):=E;have a0:¬c.ag=115:=E;have b3:¬c.ag=121:=E;rw[if_neg t,if_neg B,if_neg O,if_neg a0,if_neg b3]at j ⊢;refine j _ rfl _ rfl ?_ ?_
  ·intro g os i i3 h
   injection h with h;injection h with o h;injection h with a4 h;injection h with ab be;subst o;subst a4;subst ab;subst be;exact⟨rfl,jp,rfl,VM _,D,rfl⟩
  ·intro f h
   cases h
end V
namespace V
open A (iD)
theorem Fw{L pl}(i q k)(f6:cH L i=false):mT L pl ⟨i,0,q,k⟩={}:=by have b4:bj L ⟨i,0,q,k⟩=aj L i:=rfl;unfold cH at f6;unfold mT;exact Rq
theorem rF{L}(j q k c):(take L ⟨j,0,q,k⟩ c).1=(aj L j==c):=by unfold take;rw[gQ];by_cases h:aj L j=c;{simp_all};{simp_all}
theorem JV{L pl}(p:iZ L)(g i)(G:i<=L.length)(W:bU (aj L i)=false)(q ps)(aa:ps.ai.length=g)(a9:g<=5)(a7:ps.au.length<=40)(c X d i2)(hC:A.head L pl i=.ok (c,X))(x:ag L pl ps c X=.ok (d,i2))(r):Uq L pl d.bN (gv L pl g ⟨i,0,q,(ps.au.length:Int)⟩ r).a (gv L pl g ⟨i,0,q,(ps.au.length:Int)⟩ r).b/\(gv L pl g ⟨i,0,q,(ps.au.length:Int)⟩ r).neg=d.neg/\(gv L pl g ⟨i,0,q,(ps.au.length:Int)⟩ r).ag=d.ag/\d={bN:=d.bN,neg:=d.neg,ag:=d.ag}:=by have H:(gv L pl g ⟨i,0,q,(ps.au.length:Int)⟩ r).ag=d.ag:=by{show(head L pl g ⟨i,0,q,(ps.au.length:Int)⟩).ag=d.ag;rw[(((DU (pl:=pl) p g i G W q ps aa a9 a7).1 _ _ _ _ hC x).1)]};have d1:d={c with ag:=d.ag}:=by{unfold ag at x;split at x;{cases x};{grind}};have gO:∀z j,(if cH L i then eu L pl i else .ok ([],i))=.ok (z,j)->d.bN=z/\d.neg=(take L ⟨j,0,q,(ps.au.length:Int)⟩ 33).1/\d={bN:=d.bN,neg:=d.neg,ag:=d.ag}:=by{intro z j a5;unfold A.head at hC;rw[a5]at hC;simp only at hC;rw[rF];cases S:(aj L j==33)with|true=>rw[S,if_pos rfl]at hC;exact M4|false=>rw[S]at hC;simp only[VE,if_false]at hC;exact M4};cases f:cH L i with|false=>rw[f]at gO;have⟨C,O,m⟩:=gO [] i rfl;refine⟨?_,?_,H,m⟩;{rw[C];unfold gv;rw[lX i q _ f,Fw i q _ f];exact VF ⟨rfl,rfl,aK⟩};{rw[O];unfold gv;rw[lX i q _ f];simp only[if_true];rw[eX,jg W]}|true=>rw[f]at gO;simp only[if_true]at gO;have⟨C,O,m⟩:=mU (pl:=pl) p i G q (ps.au.length:Int) f;cases n:A.bH L pl i with|error B=>exfalso;unfold A.head eu at hC;rw[f,if_pos rfl,n]at hC;cases hC|ok ab=>obtain⟨k,i3⟩:=ab;obtain⟨s,ac,ad,al⟩:=C _ _ n;have P:=Ap (pl:=pl) p i G q (ps.au.length:Int) f k i3 n;by_cases l:aj L i3=44;{have a8:=di (L:=L) (i:=i3) E;have U:=ix (L:=L) (i3+1) a8;have D:eu L pl i=(match A.bH L pl (bB L (i3+1))with| .error B=>.error B| .ok (b,i2)=>.ok ([k,b],i2)):=by{unfold eu;rw[n];simp only[l,beq_self_eq_true,if_true];cases A.bH L pl (bB L (i3+1))with|error=>rfl|ok=>rfl};cases F:cH L (bB L (i3+1))with|false=>exfalso;unfold A.head at hC;rw[f,if_pos rfl,D]at hC;unfold A.bH at hC;rw[F]at hC;cases hC|true=>have⟨a2,ap,a3⟩:=mU (pl:=pl) p (bB L (i3+1)) U q (ps.au.length:Int) F;cases t:A.bH L pl (bB L (i3+1))with|error B=>exfalso;unfold A.head at hC;rw[f,if_pos rfl,D,t]at hC;cases hC|ok y=>have⟨b,i4⟩:=y;have⟨a0,am,an,ao⟩:=a2 _ _ t;have a6:=Ap (pl:=pl) p (bB L (i3+1)) U q (ps.au.length:Int) F b i4 t;have⟨I,M,N⟩:=gO [k,b] i4 (by rw[D,t]);refine⟨?_,?_,H,N⟩;{rw[I];unfold gv;simp only;rw[s,gQ,if_pos ⟨m,l⟩,eX];exact VH (VH ⟨k,b,rfl,P,a6⟩)};{rw[M];unfold gv;simp only;rw[if_neg m,s];unfold iL;rw[gQ,if_pos l];simp only;rw[eX,if_neg a3,a0]}};{obtain⟨I,M,N⟩:=gO [k] i3 (by unfold eu;rw[n];have a1:=bP l;simp only[a1,VE,if_false]);refine⟨?_,?_,H,N⟩;{rw[I];unfold gv;simp only;rw[s,gQ,if_neg (fun e=>l e.2)];exact VH (VF ⟨k,rfl,P,rfl⟩)};{rw[M];unfold gv;simp only;rw[if_neg m,s];unfold iL;rw[gQ,if_neg l]}}
structure dJ(L pl:List Int)(i:Nat)(c:fZ)(r:Rr.RC):Prop where
 ag:r.ag=c.ag
 neg:r.neg=c.neg
 dx:r.dx=i
 bN:Uq L pl c.bN r.a r.b
 text:c.ag=97\/c.ag=99\/c.ag=105->c.text=cg r.text
 name:c.ag=58\/c.ag=98\/c.ag=116->c.name=cg r.text/\Bi r.text
 sub:c.ag=115->r.ys=c.fk.aH.map lG/\(r.af:Int)=c.fk.af/\O8 L r.af c.cx r.fL/\r.fL.length<=L.length/\r.dc=c.dc/\r.all=c.all/\r.ay=c.ay/\∃i i',i<=L.length/\fA L pl i=.ok (c.fk,i')
 SV:c.ag≠115->r.ys= []/\r.af=0/\r.fL= []
 fu:c.ag=121->r.iY=c.iY/\r.cG=c.cG
 len:r.text.length<=L.length/\r.iY.length<=L.length/\r.iY.length=r.cG.length
 mem:(∀x∈r.text,∃j,j<L.length/\x=aj L j)/\∀x∈r.cG,x=10\/∃j,j<L.length/\x=aj L j
 next:c.ag≠123->r.next=i+1
 wh:c.ag∈eY
end V
end
end Go.Proofs.YtbiobhghnldckaaGreatDoor
