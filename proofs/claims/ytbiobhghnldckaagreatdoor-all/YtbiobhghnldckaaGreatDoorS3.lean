/- Proved: steps on the way to the card. Conditions: as each states. -/
import Derived.Test.YtbiobhghnldckaaGreatDoorS2
namespace Go.Proofs.YtbiobhghnldckaaGreatDoor
open List renaming replicate->VE,getD_eq_getElem?_getD->VF,getD_cons_succ->VK,drop_eq_getElem_cons->VM,length_map->VN,getD_cons_zero->VQ,getElem?_take->VR,getElem?_eq_some_iff->VS,getElem?_append_left->VT,getElem?_map->VV,getElem?_eq_getElem->VX,length_cons->VY,getElem?_set_self->VZ,findIdx?_cons->V2,size_toArray->V5,getElem_mem->V6,drop_length->V7,any_append->V9,length_set->Wa
open World renaming block_lt_of_cell?->VG,cell?_alloc_past->VO,frozen?_setCell->V0,setCell->V1,ownsRow_nil->V3,setCells->Wc
open IntKind renaming i64->VH,i32->We
open Value renaming int->VI,slice->VP
open Int renaming toNat_natCast->VJ
open Nat renaming zero_add->VL,le_refl->VU,add_zero->V4
open Option renaming isSome_iff_exists->VW
open Utf8 renaming decode->V8
open _root_.Array renaming replicate->Wb
open Or renaming inl->Wd
open Go.Proofs.Tryz
open A
set_option linter.unusedVariables false
set_option maxRecDepth 100000
set_option maxHeartbeats 6400000
section
open Go.RowKit
def Bo(w:World)(a:Nat)(cs:List fZ):Prop:=∃b c,w.cell? ⟨a,0,none⟩=some b/\w.ownsRow 0 167 14 b cs.length c/\gS w cs c/\aR w a 101
theorem iP.start{g a}(h:dD g a 0)(d lb)(j:sV a d)(f:a.heap[lb]? =some (.map #[] 0))(i:a.heap.size<=lb+1):iP g a.heap.size a.heap.size (a.alloc (.cells #[az g.c,.map (some d),aM,aM,.map (some lb)] 119)) ⟨0,[],[],[]⟩:=by have b:=aX.cG a #[az g.c,.map (some d),aM,aM,.map (some lb)] 119;have k:=h.lt;exact⟨h.alloc _,⟨(b 0 _ rfl).1,E,aR.cG _ _ _ _⟩,⟨d,(b 1 _ rfl).1,dm j ((R.refl (fun _=>False) a).alloc _) id⟩,⟨_,[],(b 2 _ rfl).1,V3 _ _ _ _,trivial⟩,⟨_,(b 3 _ rfl).1,V3 _ _ _ _⟩, ⟨lb,i,(b 4 _ rfl).1,dm f ((R.refl (fun _=>False) a).alloc _) id⟩,(b 2 _ rfl).2,(b 3 _ rfl).2,aK,h.tp.lt,aK⟩
structure gD(w:World)(sb:Nat)(cs:List fZ):Prop where
 aZ:aR w sb 67
 prog:∃pb,w.cell? ⟨sb,0,none⟩=some (.pointer (some ⟨pb,0,none⟩))/\Bo w pb cs
end
section
namespace A
def eT(r:Int)(s:Int×Int):Bool:=decide (s.1<=r) && decide (r<=s.2)
def PI(a:gq)(r:Int):Bool:=a.dG.any (eT r)
def kL(a:gq)(r:Int):Bool:=if a.aF==4 then true else if a.aF==5 then PI a r else if a.aF==6 then !PI a r else false
def eV(a:gq):Bool:=a.ck==1 || a.ck==2
def cd(a:gq)(at_ n:Int):Bool:=
 if a.aF==0 then at_==0 else if a.aF==1 then at_==n else if a.aF==2 || a.aF==3 then true else a.ck==1 || a.ck==3
def fi(a:gq)(f :Option Int)(at_ n b d c:Int):Int:=
 let none_:=if cd a at_ n && c != -1 then at_ else -1
 match f with
 |some r=>if kL a r then (if eV a && b != -1 then b else if d != -1 then at_+1 else none_)else none_
 |none=>none_
end A
end
section
open Go.RowKit
structure kU(w:World)(ib o:Nat)(x:gq):Prop where
 aF:w.cell? ⟨ib,o,none⟩=some (.int .i64 x.aF)
 dG:∃sa sc,w.cell? ⟨ib,o+2,none⟩=some (.slice sa x.dG.length sc)/\iu w (.slice sa x.dG.length sc) x.dG
 ck:w.cell? ⟨ib,o+3,none⟩=some (.int .i64 x.ck)
 iW:x.dG.length<=1000
theorem kU.T{S w f c d g}(h:kU w c d g)(u:R S w f)(a:¬S c)(i:∀b,aR w b 284->¬S b):kU f c d g:=by have⟨l,m,j,k⟩:=h.dG;exact⟨u.T h.aF a,⟨l,m,u.T j a,k.T u i⟩,u.T h.ck a,h.iW⟩
theorem kU.quiet{w c a b d}(h:kU w a b d)(u:aG w c):kU c a b d:=h.T u id (fun _ _=>id)
theorem rX(a b r d w)(f:w.c d 0=some (.int .i32 r)):aO 235 #[.agg #[.int .i32 a,.int .i32 b],az d] w fun e g=>e=.returned (.bool (eT r (a,b)))/\aG w g:=by have i:=VG w _ f;by_cases h:a<=r;{have hd:decide (a<=r)=true:=by{simp[h]};have e:eT r (a,b)=decide (r<=b):=by{simp[eT,h]};exact Mt};{have hd:decide (a<=r)=false:=by{simp[h]};have e:eT r (a,b)=false:=by{simp[eT,h]};exact Mt}
theorem xi(sp y z r x w)(N:iu w (.slice y sp.length z) sp)(a2:sp.length<=1000)(M:w.c x 0=some (.int .i32 r)):aO 239 #[.slice y sp.length z,.func (.func 235) #[] #[az x]] w fun e P=>∃v:Int,e=.returned (Z v)/\decide (0<=v)=sp.any (eT r)/\aG w P:=by go_enter func239,ntmps239;go_wp21;go_loopg [8] sp.length (fun k v wr=>∃j:Nat,v=Z j/\j+k=sp.length/\Hid ((sp.take j).any (eT r)=false)/\Hid (aG w wr));(case atStart=>exact ⟨0,rfl,E,by show(List.take 0 sp).any _=false;simp,R.refl _ _⟩);case round=>obtain⟨j,rfl,L,q,F⟩:=hrel;have a:=F;have m:=Y L;by_cases ad:j<sp.length;{have⟨a1,c',n,d⟩:=N;simp at n;obtain⟨rfl,rfl⟩:=n;obtain⟨b,rfl,a4,H⟩:=d Ck;have⟨U,W⟩:=H j ad;have X:=a.T U id;have a0:=a.T W id;have B:=a.T M id;rw[Nat.mul_comm]at X a0;have I:sp[j]'ad=sp.getD j (0,0):=by{simp[ad]};have l:(sp.take (j+1)).any (eT r)=((sp.take j).any (eT r) || eT r (sp.getD j (0,0))):=by{rw[List.take_succ_eq_append_getElem ad,V9,I];simp};have G:sp.any (eT r)=((sp.take (j+1)).any (eT r) || (sp.drop (j+1)).any (eT r)):=by{rw[<-V9,List.take_append_drop]};rw[q.out]at l;generalize a3:sp.getD j (0,0)=p at*;rcases d:eT r p with _|_;{have f:=Y d;have g:Hid ((sp.take (j+1)).any (eT r)=false):=by{show _=_;rw[l,d];rfl};have O:VH.wrap ((j:Int)+1)=(j:Int)+1:=fF;go_wp21;refine(rX _ _ _ _ _ B).k fun S i=>?_;rw[f.o];go_wp2;go_roundg (gk-1);(case measure=>have:=m.o;omega);case rel=>exact ⟨j+1,by first|rfl|simp[O],bV m.o,g,a.t i⟩};{have f:=Y d;have g:Hid (sp.any (eT r)=true):=by{show _=_;rw[G,l,d];rfl};go_wp21;refine(rX _ _ _ _ _ B).k fun S i=>?_;rw[f.o];go_wp2;go_ret;exact⟨_,rfl,by rw[g.o];simp,a.t i⟩}};{have s:j=sp.length:=E;have D:sp.any (eT r)=false:=by{have:=q.out;rwa [s,List.take_length]at this};have C:=Y D;subst s;go_wp2;go_ret;exact⟨_,rfl,by rw[C.o];simp,a⟩}
theorem sC(sp b d r a w)(j:iu w (.slice b sp.length d) sp)(f:sp.length<=1000)(i:w.c a 0=some (.int .i32 r)):aO 234 #[.slice b sp.length d,.func (.func 235) #[] #[az a]] w fun e l=>e=.returned (.bool (sp.any (eT r)))/\aG w l:=by go_enter func234,ntmps234;go_wp21;refine(xi sp b d r a w j f i).mono ?_;rintro e m ⟨v,rfl,k,g⟩;go_wp2;go_ret;exact⟨by rw[<-k];rfl,g⟩
theorem JU(b f g r w)(d:kU w f g b):aO 228 #[.pointer (some ⟨f,g,none⟩),.int .i32 r] w fun e q=>e=.returned (.bool (PI b r))/\aG w q:=by have⟨o,p,l,m⟩:=d.dG;have a:aG w (w.alloc (Obj.cells #[VI We r] 21)):=(R.refl _ w).alloc _;have n:=m.T a (fun _ _=>id);have s:=a.T l id;have j:(w.alloc (Obj.cells #[VI We r] 21)).c w.heap.size 0=some (.int .i32 r):=by{simp[go_sem]};go_enter func228,ntmps228;go_wp21;refine(sC b.dG o p r w.heap.size _ n d.iW j).k fun x i=>?_;go_wp2;go_ret;exact⟨rfl,a.t i⟩
theorem E2(a1 g9 a8 r w)(bw:kU w g9 a8 a1):aO 217 #[.pointer (some ⟨g9,a8,none⟩),.int .i32 r] w fun e f=>e=.returned (.bool (kL a1 r))/\aG w f:=by have a:=bw.aF;by_cases b:a1.aF=4;{have e:kL a1 r=true:=by{simp[kL,b]};rw[e];rw[b]at a;exact MG};by_cases c:a1.aF=5;{have e:kL a1 r=PI a1 r:=by{simp[kL,c]};rw[e];rw[c]at a;exact RN};by_cases d:a1.aF=6;{have e:kL a1 r= !PI a1 r:=by{simp[kL,d]};rw[e];rw[d]at a;exact RN};have e:kL a1 r=false:=by{simp[kL,b,c,d]};rw[e];exact MG
theorem xw(a b d w)(g:kU w b d a):aO 218 #[.pointer (some ⟨b,d,none⟩)] w fun e i=>e=.returned (.bool (eV a))/\aG w i:=by have f:=g.ck;by_cases c:a.ck=1;{have e:eV a=true:=by{simp[eV,c]};rw[e];rw[c]at f;exact MC};have e:eV a=(a.ck==1 || a.ck==2):=rfl;rw[e];exact MC
theorem jL(a j k at_ n w)(i:kU w j k a):aO 219 #[.pointer (some ⟨j,k,none⟩),Z at_,Z n] w fun e o=>e=.returned (.bool (cd a at_ n))/\aG w o:=by have b:=i.aF;have m:=i.ck;by_cases c:a.aF=0;{have e:cd a at_ n=decide (at_=0):=by{by_cases h:at_=0 <;> simp[cd,c,h]};rw[e];rw[c]at b;exact AG};by_cases d:a.aF=1;{have e:cd a at_ n=decide (at_=n):=by{by_cases h:at_=n <;> simp[cd,d,h]};rw[e];rw[d]at b;exact AG};by_cases f:a.aF=2;{have e:cd a at_ n=true:=by{simp[cd,f]};rw[e];rw[f]at b;exact AG};by_cases g:a.aF=3;{have e:cd a at_ n=true:=by{simp[cd,g]};rw[e];rw[g]at b;exact AG};by_cases l:a.ck=1;{have e:cd a at_ n=true:=by{simp[cd,c,d,f,g,l]};rw[e];rw[l]at m;exact AG};have e:cd a at_ n=(a.ck==1 || a.ck==3):=by{simp[cd,c,d,f,g]};rw[e];exact AG
end
section
end
section
open Go.RowKit
structure kM(w:World)(sb:Nat)(iv sv ev:Value):Prop where
 aZ:aR w sb 258
 aH:w.cell? ⟨sb,0,none⟩=some iv
 jw:w.cell? ⟨sb,1,none⟩=some sv
 l8:w.cell? ⟨sb,2,none⟩=some ev
 ar:∃st,w.cell? ⟨sb,3,none⟩=some (.int .i64 st)
 free:w.frozen? ⟨sb,3,none⟩=false
theorem kM.T{S w j c g i d}(h:kM w c g i d)(b:R S w j)(a:¬S c):kM j c g i d:=by have⟨k,f⟩:=h.ar;exact⟨h.aZ.T b a,b.T h.aH a,b.T h.jw a,b.T h.l8 a,⟨k,b.T f a⟩,b.aE f h.free a⟩
theorem kM.step{w a g i f}(h:kM w a g i f)(v):kM (w.s a 3 (Z v)) a g i f:=by have⟨l,j⟩:=h.ar;have d:∀b,b≠3->(w.s a 3 (Z v)).c a b=w.c a b:=fun b k=>World.cell?_setCell_other w ⟨a,3,none⟩ ⟨a,b,none⟩ _ (by intro h;injection h;omega);exact⟨h.aZ.setCell _ _,(d 0 E).trans h.aH,(d 1 E).trans h.jw,(d 2 E).trans h.l8,⟨v,World.cell?_setCell_same _ _ _ j⟩,by rw[V0];exact h.free⟩
theorem mi{w}(a v):R (·=a) w (w.s a 3 (Z v)):=R.setCell (S:=(·=a)) (p:=⟨a,3,none⟩) (R.refl _ w) (fun _=>rfl) _
theorem Sn(a1 p i K S w l y B I rc n j)(m:kM w l (.slice (some ⟨p,0,none⟩) K S) (.slice (some ⟨B,I,none⟩) n rc) (.slice (some ⟨y,0,none⟩) (K+1) (K+1)))(bz:i<K)(F:K<=1000)(an:kU w p (i*4) a1)(eW:aR w p 270)(b9:aR w B 21)(b3:aR w y 35)(c1:j<n)(c2:n<=1000000)(r)(al:w.cell? ⟨B,I+j,none⟩=some (.int .i32 r))(eb D)(a4:w.cell? ⟨y,i,none⟩=some (.slice (some ⟨eb,0,none⟩) (n+1) (n+1)))(a3:w.cell? ⟨y,i+1,none⟩=some (.slice (some ⟨D,0,none⟩) (n+1) (n+1)))(b6:aR w eb 3)(b5:aR w D 3)(a9)(aa:w.cell? ⟨eb,j+1,none⟩=some (.int .i64 a9))(f a)(a5:w.cell? ⟨D,j,none⟩=some (.int .i64 f))(a6:w.cell? ⟨D,j+1,none⟩=some (.int .i64 a)):Calls prog 201 #[.pointer (some ⟨l,0,none⟩),.int .i64 i,.int .i64 j] w fun e b0=>e=.returned (.int .i64 (fi a1 (some r) j n a9 a f))/\R (·=l) w b0/\kM b0 l (.slice (some ⟨p,0,none⟩) K S) (.slice (some ⟨B,I,none⟩) n rc) (.slice (some ⟨y,0,none⟩) (K+1) (K+1)):=by have bq:decide ((j:Int)<n)=true:=bQ;have c3:VH.wrap ((j:Int)+1)=(j:Int)+1:=fF;have c4:VH.wrap ((i:Int)+1)=(i:Int)+1:=fF;have bA:(i:Int)<K:=E;have bE:(i:Int)<(K:Int)+1:=E;have c0:(i:Int)+1<(K:Int)+1:=E;obtain⟨U,ba⟩:=m.ar;have bb:p≠l:=eW.ne m.aZ ae;have bc:B≠l:=b9.ne m.aZ ae;have ao:y≠l:=b3.ne m.aZ ae;have be:eb≠l:=b6.ne m.aZ ae;have ap:D≠l:=b5.ne m.aZ ae;have bh:=m.aH;have bi:=m.jw;have bk:=m.l8;have bl:=m.free;have x:=mi (w:=w) l (wrap64 (U+1));have L:=m.step (wrap64 (U+1));have H:=an.T x bb (fun b b4 e=>by subst e;exact absurd (b4.eH m.aZ) ae);have c9:=x.T al bc;have ab:=x.T aa be;have P:=x.T a5 ap;have a7:=x.T a6 ap;have bp:=x.T a4 ao;have bm:=x.T a3 ao;have c5:=L.aH;have av:=L.jw;have c8:=L.l8;go_enter func201,ntmps201;go_wp21;(try dsimp only[World.s,World.c,Z,az,bJ,aB,aM]at*);generalize w.setCell ⟨l,3,none⟩ (Z (wrap64 (U+1)))=W at*;clear ba bh bi bk bl al aa a5 a6 a4 a3 an;have gO:∀u,aG W u->R (·=l) w u/\kM u l (.slice (some ⟨p,0,none⟩) K S) (.slice (some ⟨B,I,none⟩) n rc) (.slice (some ⟨y,0,none⟩) (K+1) (K+1)):=fun u am=>⟨x.t am,L.T am id⟩;go_quiet (fail);go_wp21;refine(E2 a1 p (i*4) r _ (H.quiet ((R.refl _ W).drewN _))).k fun b1 ac=>?_;have z:aG W b1:=ac.d;clear ac;have bw:=z.T ab id;have c6:=z.T av id;have bs:=z.T a7 id;rcases F:kL a1 r with _|_;{have fb:Hid (kL a1 r=false):=F;clear F;go_wp21;refine(jL a1 p (i*4) _ _ _ (H.quiet z)).k fun b2 G=>?_;have oc:=z.t G;have a8:=oc.T P id;rcases g:cd a1 j n with _|_;{have cj:Hid (cd a1 j n=false):=g;clear g;go_wp2;go_ret;exact⟨by simp[fi,fb.o,cj.o],gO _ oc⟩};{have cj:Hid (cd a1 j n=true):=g;clear g;by_cases d4:f= -1;{subst d4;go_wp2;go_ret;exact⟨by simp[fi,fb.o,cj.o],gO _ oc⟩};{have X:(f== -1)=false:=by{simp[d4]};have a0:(f != -1)=true:=pr;have a2:decide (f= -1)=false:=pr;have C:Hid (¬f= -1):=d4;clear d4;go_wp2;go_ret;exact⟨by simp[fi,fb.o,cj.o,C.o],gO _ oc⟩}}};{have fb:Hid (kL a1 r=true):=F;clear F;go_wp21;refine(xw a1 p (i*4) b1 (H.quiet z)).k fun ca b7=>?_;have p0:=z.t b7;have bx:=p0.T ab id;have c7:=p0.T av id;have bv:=p0.T a7 id;have ad:(eV a1=true/\¬a9= -1)\/(eV a1=true/\a9= -1)\/eV a1=false:=by{rcases eV a1 with _|_ <;> by_cases h:a9= -1 <;> simp[h]};by_cases q:a= -1;{rcases ad with ⟨dN,d2⟩ |⟨dN,d2⟩|dN;{exact Q6};{have f7:Hid (eV a1=true):=dN;clear dN;rw[f7.o];have d6:Hid (a9= -1):=d2;clear d2;have y5:(a9== -1)=true:=pq;have yb:(a9 != -1)=false:=pq;have x5:decide (a9= -1)=true:=pq;have oz:Hid (a= -1):=q;clear q;have M:(a== -1)=true:=lL;have N:(a != -1)=false:=lL;have O:decide (a= -1)=true:=lL;go_wp21;refine(jL a1 p (i*4) _ _ _ (H.quiet p0)).k fun b2 G=>?_;have oc:=p0.t G;have a8:=oc.T P id;rcases g:cd a1 j n with _|_;{have cj:Hid (cd a1 j n=false):=g;clear g;exact M8};{have cj:Hid (cd a1 j n=true):=g;clear g;by_cases d4:f= -1;{subst d4;exact M8};{have X:(f== -1)=false:=by{simp[d4]};have a0:(f != -1)=true:=pr;have a2:decide (f= -1)=false:=pr;have C:Hid (¬f= -1):=d4;clear d4;go_wp2;go_ret;exact⟨by simp[fi,fb.o,f7.o,oz.o,d6.o,cj.o,C.o],gO _ oc⟩}}};{have f7:Hid (eV a1=false):=dN;clear dN;rw[f7.o];have oz:Hid (a= -1):=q;clear q;have M:(a== -1)=true:=lL;have N:(a != -1)=false:=lL;have O:decide (a= -1)=true:=lL;go_wp21;refine(jL a1 p (i*4) _ _ _ (H.quiet p0)).k fun b2 G=>?_;have oc:=p0.t G;have a8:=oc.T P id;rcases g:cd a1 j n with _|_;{have cj:Hid (cd a1 j n=false):=g;clear g;exact Nk};{have cj:Hid (cd a1 j n=true):=g;clear g;by_cases d4:f= -1;{subst d4;exact Nk};{have X:(f== -1)=false:=by{simp[d4]};have a0:(f != -1)=true:=pr;have a2:decide (f= -1)=false:=pr;have C:Hid (¬f= -1):=d4;clear d4;go_wp2;go_ret;exact⟨by simp[fi,fb.o,f7.o,oz.o,cj.o,C.o],gO _ oc⟩}}}};{rcases ad with ⟨dN,d2⟩ |⟨dN,d2⟩|dN;{exact Q6};{have f7:Hid (eV a1=true):=dN;clear dN;rw[f7.o];have d6:Hid (a9= -1):=d2;clear d2;have y5:(a9== -1)=true:=pq;have yb:(a9 != -1)=false:=pq;have x5:decide (a9= -1)=true:=pq;have oz:Hid (¬a= -1):=q;clear q;have M:(a== -1)=false:=lL;have N:(a != -1)=true:=lL;have O:decide (a= -1)=false:=lL;go_wp2;go_ret;exact⟨by simp[fi,fb.o,f7.o,oz.o,d6.o],gO _ p0⟩};{have f7:Hid (eV a1=false):=dN;clear dN;rw[f7.o];have oz:Hid (¬a= -1):=q;clear q;have M:(a== -1)=false:=lL;have N:(a != -1)=true:=lL;have O:decide (a= -1)=false:=lL;go_wp2;go_ret;exact⟨by simp[fi,fb.o,f7.o,oz.o],gO _ p0⟩}}}
theorem Sm(m l i K B w a g ra rc j)(f:kM w a (.slice (some ⟨l,0,none⟩) K B) (.slice ra j rc) (.slice (some ⟨g,0,none⟩) (K+1) (K+1)))(ac:i<K)(aa:K<=1000)(a2:kU w l (i*4) m)(eW:aR w l 270)(S:aR w g 35)(ad:j<=1000000)(eb r)(P:w.cell? ⟨g,i,none⟩=some (.slice (some ⟨eb,0,none⟩) (j+1) (j+1)))(O:w.cell? ⟨g,i+1,none⟩=some (.slice (some ⟨r,0,none⟩) (j+1) (j+1)))(a0:aR w r 3)(N M n)(W:w.cell? ⟨r,j,none⟩=some (.int .i64 n)):Calls prog 201 #[.pointer (some ⟨a,0,none⟩),.int .i64 i,.int .i64 j] w fun e I=>e=.returned (.int .i64 (fi m none j j N M n))/\R (·=a) w I/\kM I a (.slice (some ⟨l,0,none⟩) K B) (.slice ra j rc) (.slice (some ⟨g,0,none⟩) (K+1) (K+1)):=by have⟨C,al⟩:=f.ar;have a3:l≠a:=eW.ne f.aZ ae;have H:g≠a:=S.ne f.aZ ae;have a4:r≠a:=a0.ne f.aZ ae;have ap:=f.aH;have av:=f.jw;have b0:=f.l8;have b1:=f.free;have p:=mi (w:=w) a (wrap64 (C+1));have y:=f.step (wrap64 (C+1));have a6:=a2.T p a3 (fun b U e=>by subst e;exact absurd (U.eH f.aZ) ae);have X:=p.T W a4;have a8:=p.T P H;have a7:=p.T O H;have am:=y.aH;have an:=y.jw;have ao:=y.l8;go_enter func201,ntmps201;go_wp21;(try dsimp only[World.s,World.c,Z,az,bJ,aB,aM]at*);generalize w.setCell ⟨a,3,none⟩ (Z (wrap64 (C+1)))=D at*;have gO:∀u,aG D u->R (·=a) w u/\kM u a (.slice (some ⟨l,0,none⟩) K B) (.slice ra j rc) (.slice (some ⟨g,0,none⟩) (K+1) (K+1)):=fun u G=>⟨p.t G,y.T G id⟩;go_quiet (fail);go_wp21;refine(jL m l (i*4) _ _ _ (a6.quiet ((R.refl _ D).drewN _))).k fun a5 a1=>?_;have x:aG D a5:=a1.d;have ab:=x.T X id;rcases F:cd m j j with _|_;{have q:Hid (cd m j j=false):=F;go_wp2;go_ret;exact⟨by simp[fi,q.o],gO _ x⟩};{have q:Hid (cd m j j=true):=F;by_cases z:n= -1;{subst z;go_wp2;go_ret;exact⟨by simp[fi,q.o],gO _ x⟩};{have a9:(n== -1)=false:=by{simp[z]};have L:Hid (¬n= -1):=z;go_wp2;go_ret;exact⟨by simp[fi,q.o,L.o],gO _ x⟩}}
end
section
end
section
open Go.RowKit
namespace A
def kX(a:gq)(n:Int):Nat->List Int->List Int->List Int
 |j,[],b0::_=>[fi a none j n 0 0 b0]
 |j,r::rs,b0::b::bs=>let rest:=kX a n (j+1) rs (b::bs);fi a (some r) j n (rest.headD 0) b b0::rest
 |_,_,_=>[]
def l8(b:gq)(sp a:List Int):List Int:=kX b sp.length 0 sp a
theorem rZ(d n):∀(rs:List Int) (a:List Int) (j:Nat),a.length=rs.length+1->(kX d n j rs a).length=a.length
 |[],[b],j,h=>by simp[kX]
 |[],[],j,h=>by simp at h
 |[],b::c::l,j,h=>by simp at h
 |r::rs,[],j,h=>by simp at h
 |r::rs,[b],j,h=>by simp at h
 |r::rs,b::c::l,j,h=>by
  simp only[kX,VY];rw[rZ d n rs (c::l) (j+1) (bS h)];simp
theorem Av(d n):∀(rs:List Int) (a:List Int) (j k:Nat),a.length=rs.length+1->k<rs.length->
 (kX d n j rs a).getD k 0=fi d (some (rs.getD k 0)) ((j+k:Nat):Int) n ((kX d n j rs a).getD (k+1) 0) (a.getD (k+1) 0) (a.getD k 0)
 |[],a,j,k,h,hk=>by simp at hk
 |r::rs,[],j,k,h,hk=>by simp at h
 |r::rs,[b],j,k,h,hk=>by simp at h
 |r::rs,b::c::l,j,0,h,hk=>by
  simp only[kX,VQ,VK,V4]
  cases kX d n (j+1) rs (c::l) <;> simp
 |r::rs,b::c::l,j,k+1,h,hk=>by
  have:=Av d n rs (c::l) (j+1) k (bS h) (bS hk);simp only[kX,VK];rw[this,show j+1+k=j+(k+1) by omega];simp
theorem Au(d n):∀(rs:List Int) (a:List Int) (j:Nat),a.length=rs.length+1->
 (kX d n j rs a).getD rs.length 0=fi d none ((j+rs.length:Nat):Int) n 0 0 (a.getD rs.length 0)
 |[],[b],j,h=>by simp[kX]
 |[],[],j,h=>by simp at h
 |[],b::c::l,j,h=>by simp at h
 |r::rs,[],j,h=>by simp at h
 |r::rs,[b],j,h=>by simp at h
 |r::rs,b::c::l,j,h=>by
  have:=Au d n rs (c::l) (j+1) (bS h);simp only[kX,VY,VK];rw[this,show j+1+rs.length=j+(rs.length+1) by omega]
theorem Ip(b sp a)(h:a.length=sp.length+1)(k)(c:k<sp.length):(l8 b sp a).getD k 0=fi b (some (sp.getD k 0)) k sp.length ((l8 b sp a).getD (k+1) 0) (a.getD (k+1) 0) (a.getD k 0):=by have:=Av b sp.length sp a 0 k h c;simpa[l8]using this
theorem Io(b sp a)(h:a.length=sp.length+1):(l8 b sp a).getD sp.length 0=fi b none sp.length sp.length 0 0 (a.getD sp.length 0):=by have:=Au b sp.length sp a 0 h;simpa[l8]using this
theorem DE(b sp a)(h:a.length=sp.length+1):(l8 b sp a).length=a.length:=rZ b _ sp a 0 h
end A
def cU(w:World)(ra:Option Addr)(sp:List Int):Prop:=sp≠ []->∃a b,ra=some ⟨a,b,none⟩/\aR w a 21/\∀j,j<sp.length->w.cell? ⟨a,b+j,none⟩=some (.int .i32 (sp.getD j 0))
theorem cU.T{S w a ra sp}(h:cU w ra sp)(a8:R S w a)(ao:∀b,aR w b 21->¬S b):cU a ra sp:=by exact Mm
theorem IN(w)(n:Nat)(a:n<=2000000):(Instr.makeSlice 35 (Z n) (Z n)).run prog w=.ok (bJ w.heap.size n n) (w.alloc (.cells (madeCells #[aB] n) 3)):=by have h:=run_make (P:=prog) (w:=w) 35 3 _ aB aV aV aV .i64 .i64 n n E E (by show(8:Int)*n<=_;omega) E;have e:prog.types[3].size=1:=aV;exact Ci
namespace A
def bY(sp:List Int):List gq->List (List Int)
 |[]=>[VE (sp.length+1) 0]
 |x::xs=>l8 x sp ((bY sp xs).headD [])::bY sp xs
theorem iG(sp):∀(a:List gq) (i:Nat),i<=a.length->((bY sp a).getD i []).length=sp.length+1
 |[],i,h=>by
  have:i=0:=bS h;subst this;simp[bY]
 |x::a,0,h=>by
  have b:=iG sp a 0 E;have e:(bY sp a).headD []=(bY sp a).getD 0 []:=by cases bY sp a <;> rfl
  simp only[bY,VQ];rw[DE x sp _ aU,e,b]
 |x::a,i+1,h=>by
  simp;exact iG sp a i (bS h)
theorem td(sp):∀a:List gq,(bY sp a).getD a.length []=VE (sp.length+1) 0
 |[]=>rfl
 |x::a=>by simp only[bY,VY,VK];exact td sp a
theorem oE(sp):∀(a:List gq) (i:Nat) (h:i<a.length),(bY sp a).getD i []=l8 a[i] sp ((bY sp a).getD (i+1) [])
 |x::a,0,h=>by
  have e:(bY sp a).headD []=(bY sp a).getD 0 []:=by cases bY sp a <;> rfl
  simp only[bY,VQ,VK,List.getElem_cons_zero];rw[e]
 |x::a,i+1,h=>by
  simp;exact oE sp a i (bS h)
 |[],_,h=>by simp at h
end A
theorem PZ(w)(n:Nat)(a:n<=2000000):(Instr.makeSlice 77 (Z n) (Z n)).run prog w=.ok (bJ w.heap.size n n) (w.alloc (.cells (madeCells #[aM] n) 35)):=by have h:=run_make (P:=prog) (w:=w) 77 35 _ aM aV aV aV .i64 .i64 n n E E (by show(24:Int)*n<=_;omega) E;have e:prog.types[35].size=1:=aV;exact Ci
theorem fK.get{w a n c b}(h:fK w (.slice a n c) b)(z:∀x∈b,x.dG.length<=1000)(L:b≠ []):∃j,a=some ⟨j,0,none⟩/\aR w j 270/\∀i (k:i<b.length),kU w j (i*4) b[i]/\w.cell? ⟨j,i*4+1,none⟩=some (Z b[i].bF):=by have⟨N,s,t⟩:=h;rcases s.2 with ⟨_,e⟩ |⟨g,cD,bI,l,_,m,I,_,M,D⟩;{simp_all};{injection l with r G H;refine⟨g,r,⟨bI,(0,0),m⟩,fun i k=>?_⟩;have⟨v,l,y⟩:=kz t i k;have f:∀d u,d<4->(jz b[i] v)[d]? =some u->w.cell? ⟨g,i*4+d,none⟩=some u:=by{intro d u B F;rw[cell_of_row _ g (i*4+d) bI _ (0,0) m];have o:=y d B;rw[F,<-D,VR]at o;have:i*4+d<b.length*4:=E;simpa[this]using o};obtain⟨p,q,rfl,C⟩:=l;exact⟨⟨f 0 _ E rfl,⟨p,q,f 2 _ E rfl,⟨p,q,rfl,C⟩⟩,f 3 _ E rfl,z _ (V6 k)⟩,f 1 _ E rfl⟩}
structure Db(w:World)(ab aq K n:Nat)(F:Nat->Nat->Int):Prop where
 aZ:aR w ab 35
 cell:∀j,j<K->w.cell? ⟨ab,j,none⟩=some (.slice (some ⟨aq+j,0,none⟩) (n+1) (n+1))
 jB:∀j,j<K->aR w (aq+j) 3
 aD:∀j t,j<K->t<=n->w.cell? ⟨aq+j,t,none⟩=some (.int .i64 (F j t))/\w.frozen? ⟨aq+j,t,none⟩=false
theorem Db.T{S w k g aq K n F}(h:Db w g aq K n F)(b:R S w k)(i:∀c,aR w c 35->¬S c)(d:∀c,aR w c 3->¬S c):Db k g aq K n F:=
 ⟨h.aZ.T b (i _ h.aZ),fun j a=>b.T (h.cell j a) (i _ h.aZ),fun j a=>(h.jB j a).T b (d _ (h.jB j a)),
  fun j t a f=>⟨b.T (h.aD j t a f).1 (d _ (h.jB j a)),b.aE (h.aD j t a f).1 (h.aD j t a f).2 (d _ (h.jB j a))⟩⟩
theorem Db.J6{w a aq K n F G}(h:Db w a aq K n F)(e:∀j t,j<K->t<=n->F j t=G j t):Db w a aq K n G:=
 ⟨h.aZ,h.cell,h.jB,fun j t b c=>by rw[<-e j t b c];exact h.aD j t b c⟩
theorem Db.set{w a aq K n F}(h:Db w a aq K n F)(i s)(b:i<K)(c:s<=n)(v):Db (w.s (aq+i) s (Z v)) a aq K n (fun j t=>if j=i/\t=s then v else F j t):=by refine⟨h.aZ.setCell _ _,fun j ap=>(ah w (aq+i) s (Z v)).T (h.cell j ap) (h.aZ.ne (h.jB i b) ae),fun j ap=>(h.jB j ap).setCell _ _,fun j t ap bA=>⟨?_,?_⟩⟩;{exact Rb};{rw[V0];exact(h.aD j t ap bA).2}
structure mP(w:World)(ab aq K m n:Nat):Prop where
 aZ:aR w ab 35
 any:∀j,j<K->(∃v,w.cell? ⟨ab,j,none⟩=some v)/\w.frozen? ⟨ab,j,none⟩=false
 cell:∀j,j<m->w.cell? ⟨ab,j,none⟩=some (.slice (some ⟨aq+j,0,none⟩) (n+1) (n+1))
 jB:∀j,j<m->aR w (aq+j) 3
 aD:∀j t,j<m->t<=n->w.cell? ⟨aq+j,t,none⟩=some (.int .i64 0)/\w.frozen? ⟨aq+j,t,none⟩=false
theorem mP.D9(w:World)(aq K n):mP (w.alloc (.cells (madeCells #[aM] K) 35)) w.heap.size aq K 0 n:=by have z:=aX.cG w (madeCells #[aM] K) 35;exact Rj
theorem mP.T{S w k i aq K m n}(h:mP w i aq K m n)(b:R S w k)(d:∀c,aR w c 35->¬S c)(f:∀c,aR w c 3->¬S c):mP k i aq K m n:=
 ⟨h.aZ.T b (d _ h.aZ),fun j a=>⟨⟨_,b.T (h.any j a).1.choose_spec (d _ h.aZ)⟩,b.aE (h.any j a).1.choose_spec (h.any j a).2 (d _ h.aZ)⟩,fun j a=>b.T (h.cell j a) (d _ h.aZ),fun j a=>(h.jB j a).T b (f _ (h.jB j a)),
  fun j t a g=>⟨b.T (h.aD j t a g).1 (f _ (h.jB j a)),b.aE (h.aD j t a g).1 (h.aD j t a g).2 (f _ (h.jB j a))⟩⟩
theorem mP.add{w fp aq K m n}(h:mP w fp aq K m n)(k:m<K)(d:aq+m=w.heap.size):mP ((w.setCell ⟨fp,m,none⟩ (.slice (some ⟨aq+m,0,none⟩) (n+1) (n+1))).alloc (.cells (madeCells #[.int .i64 0] (n+1)) 3)) fp aq K (m+1) n:=by have⟨u,cW⟩:=(h.any m k).1;have os:=ah w fp m (.slice (some ⟨aq+m,0,none⟩) (n+1) (n+1));(try dsimp only[World.s,World.c,Z,az,bJ,aB,aM]at*);generalize hT:w.setCell ⟨fp,m,none⟩ (.slice (some ⟨aq+m,0,none⟩) (n+1) (n+1))=a at*;have g:a.heap.size=w.heap.size:=by{rw[<-hT];simp[V1]};have bh:aG a (a.alloc (.cells (madeCells #[aB] (n+1)) 3)):=(R.refl _ a).alloc _;have l:aR a fp 35:=by{rw[<-hT];exact h.aZ.setCell _ _};have f:=aX.cG a (madeCells #[aB] (n+1)) 3;rw[toList_madeCells_one,g,<-d]at f;have o:=aR.cG a (madeCells #[aB] (n+1)) 3 (0,0);rw[g,<-d]at o;have b:∀j,j<K->(∃v,a.cell? ⟨fp,j,none⟩=some v)/\a.frozen? ⟨fp,j,none⟩=false:=fun j ap=>by{exact Q2};have i:∀j,j<m+1->a.cell? ⟨fp,j,none⟩=some (.slice (some ⟨aq+j,0,none⟩) (n+1) (n+1)):=fun j ap=>by{exact Rv};refine⟨l.T bh id,fun j ap=>⟨⟨_,bh.T (b j ap).1.choose_spec id⟩,bh.aE (b j ap).1.choose_spec (b j ap).2 id⟩,fun j ap=>bh.T (i j ap) id,fun j ap=>?_,fun j t ap bA=>?_⟩;{exact Ml};{by_cases e:j=m;{subst e;exact f t aB cr};{exact Rp}}
theorem mP.So{w a aq K n}(h:mP w a aq K K n):Db w a aq K n (fun _ _=>0):=⟨h.aZ,h.cell,h.jB,h.aD⟩
namespace A
def gO(sp:List Int)(a:List gq)(j t:Nat):Int:=((bY sp a).getD j []).getD t 0
theorem DH(sp a t)(h:t<=sp.length):gO sp a a.length t=0:=by unfold gO;rw[td,VF,List.getElem?_replicate];split <;> rfl
theorem F7(sp a i t)(b:i<a.length)(h:t<sp.length):gO sp a i t=fi a[i] (some (sp.getD t 0)) t sp.length (gO sp a i (t+1)) (gO sp a (i+1) (t+1)) (gO sp a (i+1) t):=by unfold gO;rw[oE sp a i b];exact Ip a[i] sp _ (iG sp a (i+1) E) t h
theorem F6(sp a i)(b:i<a.length):gO sp a i sp.length=fi a[i] none sp.length sp.length 0 0 (gO sp a (i+1) sp.length):=by unfold gO;rw[oE sp a i b];exact Io a[i] sp _ (iG sp a (i+1) E)
end A
theorem ub(a a5 ac w b6)(b2:w.cell? ⟨a5,ac,none⟩=some b6)(bw:fK w b6 a)(bz:a.length<=1000)(cm:∀x∈a,x.dG.length<=1000)(ra rc sp)(cs:cU w ra sp)(bA:sp.length<=1000000):aO 187 #[.pointer (some ⟨a5,ac,none⟩),.slice ra sp.length rc] w fun e bc=>∃ba bi aq,e=.returned (az ba)/\kM bc ba b6 (.slice ra sp.length rc) (.slice (some ⟨bi,0,none⟩) (a.length+1) (a.length+1))/\Db bc bi aq (a.length+1) sp.length (gO sp a)/\aG w bc/\w.heap.size<=ba/\w.heap.size<=aq:=by obtain⟨d8,c8,d4⟩:=id bw;obtain⟨f,b,rfl⟩:=bG c8;clear c8 d4 d8;have ds:VH.wrap ((a.length:Int)+1)=(a.length:Int)+1:=fF;have dz:VH.wrap ((sp.length:Int)+1)=(sp.length:Int)+1:=fF;have dN:VH.wrap ((a.length:Int)-1)=(a.length:Int)-1:=fF;have co:∀u:World,(Instr.makeSlice 77 (Z ((a.length:Int)+1)) (Z ((a.length:Int)+1))).run prog u=.ok (.slice (some ⟨u.heap.size,0,none⟩) (a.length+1) (a.length+1)) (u.alloc (.cells (madeCells #[aM] (a.length+1)) 35)):=by{intro u;have:=PZ u (a.length+1) E;rw[show (((a.length+1:Nat)):Int)=(a.length:Int)+1 by omega]at this;exact this};have dn:∀u:World,(Instr.makeSlice 35 (Z ((sp.length:Int)+1)) (Z ((sp.length:Int)+1))).run prog u=.ok (.slice (some ⟨u.heap.size,0,none⟩) (sp.length+1) (sp.length+1)) (u.alloc (.cells (madeCells #[aB] (sp.length+1)) 3)):=by{intro u;have:=IN u (sp.length+1) E;rw[show (((sp.length+1:Nat)):Int)=(sp.length:Int)+1 by omega]at this;exact this};have c5:a5<w.heap.size:=VG w _ b2;have bE:∀g:Obj,(w.alloc g).cell? ⟨a5,ac,none⟩=some (.slice f a.length b):=fun g=>by{rw[VO _ _ _ c5];exact b2};have c1:∀g:Obj,(w.alloc g).drew.cell? ⟨a5,ac,none⟩=some (.slice f a.length b):=bE;go_enter func187,ntmps187;go_wp21;have bp:mP _ w.heap.size (w.heap.size+2) (a.length+1) 0 sp.length:=mP.D9 w (w.heap.size+2) (a.length+1) sp.length;have bk:aG w _:=(R.refl _ w).alloc (.cells (madeCells #[aM] (a.length+1)) 35);have b5:(w.alloc (.cells (madeCells #[aM] (a.length+1)) 35)).heap.size=w.heap.size+1:=aK;go_region;generalize w.alloc (.cells (madeCells #[aM] (a.length+1)) 35)=B at*;have L:=aX.cG B #[.slice f a.length b,.slice ra sp.length rc,.slice (some ⟨w.heap.size,0,none⟩) (a.length+1) (a.length+1),aB] 258;have b4:=aR.cG B #[.slice f a.length b,.slice ra sp.length rc,.slice (some ⟨w.heap.size,0,none⟩) (a.length+1) (a.length+1),aB] 258 (0,0);have b7:aG B (B.alloc (.cells #[.slice f a.length b,.slice ra sp.length rc,.slice (some ⟨w.heap.size,0,none⟩) (a.length+1) (a.length+1),aB] 258)).drew:=((R.refl _ B).alloc _).drew;have d2:(B.alloc (.cells #[.slice f a.length b,.slice ra sp.length rc,.slice (some ⟨w.heap.size,0,none⟩) (a.length+1) (a.length+1),aB] 258)).drew.heap.size=w.heap.size+2:=by{show(B.alloc _).heap.size=_;simp[b5]};rw[b5]at L b4;have b0:kM (B.alloc (.cells #[.slice f a.length b,.slice ra sp.length rc,.slice (some ⟨w.heap.size,0,none⟩) (a.length+1) (a.length+1),aB] 258)).drew (w.heap.size+1) (.slice f a.length b) (.slice ra sp.length rc) (.slice (some ⟨w.heap.size,0,none⟩) (a.length+1) (a.length+1)):= ⟨b4,(L 0 _ rfl).1,(L 1 _ rfl).1,(L 2 _ rfl).1,⟨0,(L 3 _ rfl).1⟩,(L 3 _ rfl).2⟩;have bq:=bp.T b7 (fun _ _=>id) (fun _ _=>id);have bl:aG w _:=bk.t b7;clear L b4 b7 bp bk b5 co bE c1 c5;generalize (B.alloc (.cells #[.slice f a.length b,.slice ra sp.length rc,.slice (some ⟨w.heap.size,0,none⟩) (a.length+1) (a.length+1),aB] 258)).drew=f2 at*;have al:=b0.l8;go_wp21;go_loopg [28] (a.length+1) (fun k v wr=>∃j:Nat,v=Z j/\j+k=a.length+1/\Hid (mP wr w.heap.size (w.heap.size+2) (a.length+1) j sp.length)/\Hid (w.heap.size+2+j=wr.heap.size)/\Hid (kM wr (w.heap.size+1) (.slice f a.length b) (.slice ra sp.length rc) (.slice (some ⟨w.heap.size,0,none⟩) (a.length+1) (a.length+1)))/\Hid (aG w wr));(case atStart=>exact ⟨0,rfl,E,bq,by show _=_;omega,b0,bl⟩);case round=>obtain⟨j,rfl,bx,n,a4,m,r⟩:=hrel;have ao:Hid _:=bx;have G:mP wr w.heap.size (w.heap.size+2) (a.length+1) j sp.length:=n;have ab:w.heap.size+2+j=wr.heap.size:=a4;have l:kM wr (w.heap.size+1) (.slice f a.length b) (.slice ra sp.length rc) (.slice (some ⟨w.heap.size,0,none⟩) (a.length+1) (a.length+1)):=m;have o:aG w wr:=r;have cn:j<=a.length+1:=E;clear bx n a4 m r bq b0 bl d2 al;by_cases ad:j<a.length+1;{have ci:(j:Int)<(a.length:Int)+1:=E;have f0:VH.wrap ((j:Int)+1)=(j:Int)+1:=fF;have al:=l.l8;have d3:w.heap.size+1<wr.heap.size:=l.aZ.lt;have c4:w.heap.size<wr.heap.size:=E;obtain⟨u,d0⟩:=(G.any j ad).1;have d1:=(G.any j ad).2;have c1:∀g:Obj,(wr.alloc g).drew.cell? ⟨w.heap.size+1,2,none⟩=some (.slice (some ⟨w.heap.size,0,none⟩) (a.length+1) (a.length+1)):=fun g=>(VO _ _ _ d3).trans al;have dq:∀g:Obj,(wr.alloc g).drew.cell? ⟨w.heap.size,j,none⟩=some u:=fun g=>(VO _ _ _ c4).trans d0;have dr:∀g:Obj,(wr.alloc g).drew.frozen? ⟨w.heap.size,j,none⟩=false:=fun g=>(World.frozen?_alloc_past _ _ _ c4).trans d1;have b1:=G.add ad ab;rw[ab]at b1;have c6:aG w (((wr.setCell ⟨w.heap.size,j,none⟩ (.slice (some ⟨wr.heap.size,0,none⟩) (sp.length+1) (sp.length+1))).alloc (.cells (madeCells #[aB] (sp.length+1)) 3))).drew:=((R.setCell (p:=⟨w.heap.size,j,none⟩) o (fun h=>absurd h aK) _).alloc _).drew;have bs:=b1.T (S:=fun _=>False) ((R.refl _ _).drew) (fun _ _=>id) (fun _ _=>id);have bm:=l.T (ah wr w.heap.size j (.slice (some ⟨wr.heap.size,0,none⟩) (sp.length+1) (sp.length+1))) E;have D:=bm.T (S:=fun _=>False) (((R.refl _ _).alloc (.cells (madeCells #[aB] (sp.length+1)) 3)).drew) id;have c2:w.heap.size+2+(j+1)=(((wr.setCell ⟨w.heap.size,j,none⟩ (.slice (some ⟨wr.heap.size,0,none⟩) (sp.length+1) (sp.length+1))).alloc (.cells (madeCells #[aB] (sp.length+1)) 3))).drew.heap.size:=by{show _=(World.alloc _ _).heap.size;simp[V1];omega};have U:=Y bs;have W:=Y D;have X:=Y c2;have cb:=Y c6;clear b1 bs bm D c2 c6 G l o ab;go_wp21;go_region;all_goals(go_wp2;go_roundg (gk-1);(case measure=>have:=ao.o;omega);case rel=>exact ⟨j+1,rfl,bV ao.o,U,X,W,cb⟩)};{have cj:j=a.length+1:=E;subst cj;have cp:=o.T b2 id;have C:=G.So;clear G ao cn ad;go_wp21;go_loopg [7] a.length (fun k v wr=>k<=a.length/\v=Z ((k:Int)-1)/\∃F,Hid (Db wr w.heap.size (w.heap.size+2) (a.length+1) sp.length F)/\Hid (∀j t,k<=j->j<=a.length->t<=sp.length->F j t=gO sp a j t)/\Hid (kM wr (w.heap.size+1) (.slice f a.length b) (.slice ra sp.length rc) (.slice (some ⟨w.heap.size,0,none⟩) (a.length+1) (a.length+1)))/\Hid (aG w wr));(case atStart=>refine⟨VU _,rfl,_,C,?_,l,o⟩;show ∀j t,_->_->_->_;intro j t n a4 m;have:j=a.length:=E;subst this;rw[DH _ _ _ m]);case round=>obtain⟨dl,rfl,F,n,a4,m,r⟩:=hrel;clear C l o ab cp;rcases gk with _|i;{have cc:decide ((0:Int)<= -1)=false:=aK;go_wp2;go_ret;exact⟨_,_,_,rfl,m,Db.J6 n (fun j t dj cv=>a4.out j t E E cv),r,E,E⟩};{have ce:(((i+1:Nat):Int)-1)=(i:Int):=E;rw[ce];have P:i<a.length:=E;go_wp21;go_loopg [8] (sp.length+1) (fun k v wr=>k<=sp.length+1/\v=Z ((k:Int)-1)/\∃F,Hid (Db wr w.heap.size (w.heap.size+2) (a.length+1) sp.length F)/\Hid (∀j t,i+1<=j->j<=a.length->t<=sp.length->F j t=gO sp a j t)/\Hid (∀t,k<=t->t<=sp.length->F i t=gO sp a i t)/\Hid (kM wr (w.heap.size+1) (.slice f a.length b) (.slice ra sp.length rc) (.slice (some ⟨w.heap.size,0,none⟩) (a.length+1) (a.length+1)))/\Hid (aG w wr));(case atStart=>refine⟨VU _,by congr 1;omega,F,n,a4,?_,m,r⟩;show ∀t,_->_->_;intro t cl c0;omega);case round=>clear n a4 m r;obtain⟨dk,rfl,F,n,a4,a8,m,r⟩:=hrel;have C:Db wr w.heap.size (w.heap.size+2) (a.length+1) sp.length F:=n;have l:kM wr (w.heap.size+1) (.slice f a.length b) (.slice ra sp.length rc) (.slice (some ⟨w.heap.size,0,none⟩) (a.length+1) (a.length+1)):=m;have o:aG w wr:=r;clear n m r;have dS:VH.wrap ((i:Int)-1)=(i:Int)-1:=fF;rcases gk with _|t;{have cc:decide ((0:Int)<= -1)=false:=aK;go_wp2;go_roundg i;(case measure=>omega);case rel=>refine⟨E,rfl,F,C,?_,l,o⟩;show ∀j t,_->_->_->_;intro j t cl c0 hs;by_cases e:j=i;{subst e;exact a8.out t E hs};{exact a4.out j t E c0 hs}};{have ch:(((t+1:Nat):Int)-1)=(t:Int):=E;rw[ch];have a9:t<=sp.length:=E;have c7:aG wr wr.drew:=(R.refl _ wr).drew;have d:=C.T c7 (fun _ _=>id) (fun _ _=>id);have D:=l.T c7 id;have O:=o.drew;obtain⟨c3,rfl,ca,eW⟩:=(bw.T O (fun _ _=>id) (fun _ _=>id)).get cm (by intro e;simp[e]at P);obtain⟨aa,bv⟩:=eW i P;have al:=l.l8;have d9:=C.cell i E;have a6:=d.cell i E;have a7:=d.cell (i+1) E;have bb:=d.jB i E;have am:=d.jB (i+1) E;have ci:(i:Int)<(a.length:Int)+1:=E;have dg:(t:Int)<(sp.length:Int)+1:=E;have f1:VH.wrap ((t:Int)-1)=(t:Int)-1:=fF;have an:∀ {bh:TypeId} {c:Nat},aR wr.drew c bh->bh≠258->¬c=w.heap.size+1:=fun z G e=>by{subst e;exact G (z.eH D.aZ)};by_cases ad:t<sp.length;{obtain⟨d5,d6,rfl,d7,c9⟩:=(cs.T O (fun _ _=>id)) Ck;have N:=F7 sp a i t P ad;rw[<-a8.out (t+1) E E,<-a4.out (i+1) (t+1) E E E,<-a4.out (i+1) t E E E]at N;have a0:=Y N;clear N;have M:=Sn a[i] c3 i a.length b wr.drew (w.heap.size+1) w.heap.size d5 d6 rc sp.length t D P bz aa ca d7 d.aZ ad bA _ (c9 t ad) (w.heap.size+2+i) (w.heap.size+2+(i+1)) a6 a7 bb am _ (d.aD i (t+1) E E).1 _ _ (d.aD (i+1) t E E).1 (d.aD (i+1) (t+1) E E).1;rw[<-a0.o]at M;clear a0 eW bv aa c9 a6 a7 bb am;generalize b3:gO sp a i t=q at*;go_wp21;go_region_with (go_at_call 201;refine M.mono ?_;clear M;rintro e be ⟨rfl,H,I⟩;have y:=d.T H (fun c z=>an z ae) (fun c z=>an z ae);have b9:=I.l8;have ap:=y.cell i E;obtain⟨u3,av⟩:=y.aD i t E a9);all_goals(have a1:=y.set i t E a9 q;have a2:aG w _:=R.setCell (p:=⟨w.heap.size+2+i,t,none⟩) (O.t H) (fun h=>absurd h bQ) (Z q);have a3:=I.T (ah be (w.heap.size+2+i) t (Z q)) E;have U:=Y a1;have W:=Y a2;have X:=Y a3;clear a1 a2 a3 y H I b9 ap u3 av C d l D o O;go_wp2;go_roundg t;(case measure=>omega);case rel=>refine⟨E,rfl,_,U,?_,?_,X,W⟩;{exact MR};{show ∀t,_->_->_;intro s cl c0;by_cases e:s=t;{subst e;rw[if_pos ⟨rfl,rfl⟩,b3]};{rw[if_neg E];exact a8.out s E c0}})};{have cW:t=sp.length:=E;subst cW;have N:=F6 sp a i P;rw[<-a4.out (i+1) sp.length E E E]at N;have a0:=Y N;clear N;have M:=Sm a[i] c3 i a.length b wr.drew (w.heap.size+1) w.heap.size ra rc sp.length D P bz aa ca d.aZ bA (w.heap.size+2+i) (w.heap.size+2+(i+1)) a6 a7 am 0 0 _ (d.aD (i+1) sp.length E E).1;rw[<-a0.o]at M;clear a0 eW bv aa a6 a7 bb am;generalize b3:gO sp a i sp.length=q at*;go_wp21;go_region_with (go_at_call 201;refine M.mono ?_;clear M;rintro e be ⟨rfl,H,I⟩;have y:=d.T H (fun c z=>an z ae) (fun c z=>an z ae);have b9:=I.l8;have ap:=y.cell i E;obtain⟨u3,av⟩:=y.aD i sp.length E a9);all_goals(have a1:=y.set i sp.length E a9 q;have a2:aG w _:=R.setCell (p:=⟨w.heap.size+2+i,sp.length,none⟩) (O.t H) (fun h=>absurd h bQ) (Z q);have a3:=I.T (ah be (w.heap.size+2+i) sp.length (Z q)) E;have U:=Y a1;have W:=Y a2;have X:=Y a3;clear a1 a2 a3 y H I b9 ap u3 av C d l D o O;go_wp2;go_roundg sp.length;(case measure=>omega);case rel=>refine⟨E,rfl,_,U,?_,?_,X,W⟩;{exact MR};{show ∀t,_->_->_;intro s cl c0;by_cases e:s=sp.length;{subst e;rw[if_pos ⟨rfl,rfl⟩,b3]};{rw[if_neg E];exact a8.out s E c0}})}}}}
end
section
end
section
open Go.RowKit
namespace A
def bD(l:List Int)(a:Nat):Int:=match l with
 |l=>match (l.drop a).findIdx? (fun b=>b != -1)with
  |some k=>((a+k:Nat):Int)
  |none=> -1
theorem nB(l j)(h:j<l.length)(a:l.getD j 0≠ -1):bD l j=j:=by have e:l.drop j=l.getD j 0::l.drop (j+1):=aU;simp only[bD,e,V2,(bne_iff_ne.2 a),if_true,V4]
theorem mz(l j)(h:j<l.length)(a:l.getD j 0= -1):bD l j=bD l (j+1):=by have e:l.drop j=l.getD j 0::l.drop (j+1):=by{rw[VM h];simp[h]};simp only[bD,e,V2,a];simp;cases (l.drop (j+1)).findIdx? (fun b=>b != -1)with|none=>rfl|some k=>simp;omega
theorem lq(l j)(h:l.length<=j):bD l j= -1:=by simp[bD,List.drop_eq_nil_of_le h]
end A
theorem jJ(b f aq K n y ra rc F w)(s:kM w b y (.slice ra n rc) (bJ f (K+1) (K+1)))(N:Db w f aq (K+1) n F)(l)(a1:l.length=n+1)(P:∀t,t<=n->l.getD t 0=F 0 t)(a2:n<=1000000)(fr)(a0:fr<=n+1):aO 188 #[az b,Z fr] w fun e H=>e=.returned (Z (bD l fr))/\R (·=b) w H/\kM H b y (.slice ra n rc) (bJ f (K+1) (K+1)):=by go_enter func188,ntmps188;go_wp21;go_loopg [5] (n+1-fr) (fun k v wr=>∃j:Nat,v=Z j/\j+k=n+1/\Hid (bD l fr=bD l j)/\Hid (R (·=b) w wr)/\Hid (kM wr b y (.slice ra n rc) (bJ f (K+1) (K+1))));(case atStart=>exact ⟨fr,rfl,E,rfl,R.refl _ _,s⟩);case round=>obtain⟨j,rfl,O,i,L,M⟩:=hrel;have z:=Y O;have p:=L;have a:=M;have a6:=a.jw;by_cases B:j<=n;{have S:decide ((j:Int)<=n)=true:=bQ;have⟨G,a3⟩:=a.ar;have a7:=a.l8;have a8:=a.free;have m:=N.T p (fun c r e=>by subst e;exact absurd (r.eH s.aZ) ae) (fun c r e=>by subst e;exact absurd (r.eH s.aZ) ae);have a5:=(m.jB 0 E).ne a.aZ ae;have I:=m.cell 0 E;have g:=(m.aD 0 j E B).1;rw[V4]at I g;rw[<-P j B]at g;have a4:VH.wrap ((j:Int)+1)=(j:Int)+1:=fF;have U:(j:Int)<(n:Int)+1:=E;have W:(0:Int)<(K:Int)+1:=E;have C:=p.t (mi (w:=wr) b (wrap64 (G+1)));have D:=a.step (wrap64 (G+1));by_cases x:l.getD j 0= -1;{have d:=Y (mz l j E x);rw[x]at g;go_wp2;go_roundg (gk-1);(case measure=>have:=z.o;omega);case rel=>exact ⟨j+1,rfl,bV z.o,by show _=_;rw[i.out,d.o],C,D⟩};{have d:=Y (nB l j E x);generalize l.getD j 0=q at*;go_wp2;go_ret;exact⟨by rw[i.out,d.o];rfl,C,D⟩}};{have X:j=n+1:=E;have d:=Y (lq l j E);go_wp2;go_ret;exact⟨by rw[i.out,d.o];rfl,p,a⟩}
theorem DA(d a b w)(g:w.c d 0=some (Z a))(i:w.c d 1=some (Z b)):aO 207 #[az d] w fun e f=>e=.returned (.bool (a==b))/\aG w f:=by go_enter func207,ntmps207;exact IJ
def dL:Array Value:=#[.int .i64 0,.int .i64 0,.int .i64 0,.int .i64 0,.int .i64 0,.int .i64 0,.int .i64 0,.int .i64 0,.int .i64 0,.int .i64 0,.int .i64 0,.int .i64 0,.int .i64 0,.int .i64 0,.int .i64 0,.int .i64 0,.int .i64 0,.int .i64 0,.int .i64 0,.int .i64 0]
structure fg(w:World)(b:Nat)(l:List Int):Prop where
 len:l.length=20
 aZ:aR w b 219
 cells:w.rangeAt b 0 (l.map (.int .i64))
 there:w.there b 0 20
theorem fg.T{S w g b l}(h:fg w b l)(d:R S w g)(a:¬S b):fg g b l:=
 ⟨h.len,h.aZ.T d a,fun j v c=>d.T (h.cells j v c) a,fun j f=>by
  have⟨v,c⟩:=VW.1 (h.there j f).1;exact⟨by rw[d.T c a];rfl,d.aE c (h.there j f).2 a⟩⟩
theorem fg.cG(w:World):fg (w.alloc (.cells dL 219)) w.heap.size (VE 20 0):=by have a:=aX.cG w dL 219;refine⟨rfl,aR.cG w _ _ _,fun j v b=>?_,fun j c=>?_⟩;{rw[VL];exact(a j v b).1};{have e:dL.toList=VE 20 (VI .i64 0):=rfl;rw[e]at a;have:=a j aB cr;rw[VL];exact⟨by rw[this.1];rfl,this.2⟩}
theorem gM(b):∀(l:List Value) (w:World) (a:Nat),R (·=b) w (w.setCells b a l)
 |[],w,a=>R.refl _ w
 |v::r,w,a=>by
  rw[Wc];exact cE (ah w b a v) (gM b r _ (a+1))
theorem fg.store{w b l}(h:fg w b l)(m)(d:m.length=20):fg (w.setCells b 0 (m.map Z)) b m:=by refine⟨d,?_,?_,?_⟩;{have f:∀(l:List Value) (u:World) (c:Nat),aR u b 219->aR (u.setCells b c l) b 219:=by{intro l;induction l with|nil=>intro u c a;exact a|cons v r g=>intro u c a;rw[Wc];exact g _ _ (a.setCell _ _)};exact f _ _ _ h.aZ};{exact World.rangeAt_setCells_same w b 0 _ (by rw[VN,d];exact h.there)};{exact World.there_setCells h.there b 0 _}
namespace A
theorem FT(b r j n a d c)(h:fi b (some r) j n a d c≠ -1):(fi b (some r) j n a d c=a/\a≠ -1)\/(fi b (some r) j n a d c=j+1/\d≠ -1)\/(fi b (some r) j n a d c=j/\c≠ -1):=by revert h;unfold fi;simp only;generalize kL b r=k;generalize eV b=l;generalize cd b j n=m;cases k <;> cases l <;> cases m <;> by_cases f:a= -1 <;> by_cases g:d= -1 <;> by_cases i:c= -1 <;> simp[f,g,i]
theorem oK(b j n d c a)(h:fi b none j n d c a≠ -1):fi b none j n d c a=j/\a≠ -1:=by revert h;unfold fi;simp only;generalize cd b j n=g;cases g <;> by_cases f:a= -1 <;> simp[f]
theorem Aw(f sp a)(g:a.length=sp.length+1):∀(d j:Nat),j+d=sp.length->(l8 f sp a).getD j 0≠ -1->
 ∃e:Nat,(l8 f sp a).getD j 0=e/\j<=e/\e<=sp.length/\a.getD e 0≠ -1
 |0,j,hj,h=>by
  have e:j=sp.length:=E;subst e;rw[Io f sp a g]at h ⊢;have⟨b,c⟩:=oK _ _ _ _ _ _ h;exact⟨sp.length,b,E,E,c⟩
 |d+1,j,hj,h=>by
  rw[Ip f sp a g j E]at h ⊢
  rcases FT _ _ _ _ _ _ _ h with ⟨b,c⟩ |⟨b,c⟩ |⟨b,c⟩
  ·have⟨e,i,m,k,l⟩:=Aw f sp a g d (j+1) E c
   exact⟨e,b.trans i,E,k,l⟩
  ·grind
  ·grind
theorem oF(sp a i)(b:i<a.length)(j)(c:j<=sp.length)(h:((bY sp a).getD i []).getD j 0≠ -1):∃e:Nat,((bY sp a).getD i []).getD j 0=e/\j<=e/\e<=sp.length/\((bY sp a).getD (i+1) []).getD e 0≠ -1:=by rw[oE sp a i b]at h ⊢;exact Aw a[i] sp _ (iG sp a (i+1) E) (sp.length-j) j E h
end A
end
section
end
section
open Go.RowKit
namespace A
def mark(a:gq)(m:List Int)(at_:Int):List Int:=if a.aF=2 then m.set (a.bF.toNat*2) at_ else if a.aF=3 then m.set (a.bF.toNat*2+1) at_ else m
def kt(a:List (List Int)):List gq->Nat->List Int->Nat->List Int×Nat
 |[],_,m,at_=>(m,at_)
 |x::xs,i,m,at_=>kt a xs (i+1) (mark x m at_) ((a.getD i []).getD at_ 0).toNat
def eF(a:List (List Int))(b:List gq)(first:Nat):List Int:=
 let r:=kt a b 0 (VE 20 0) first
 (r.1.set 0 first).set 1 r.2
end A
theorem fg.set{w b l}(h:fg w b l)(k v):fg (w.s b k (Z v)) b (l.set k v):=by have i:aX w b (l.map Z):=fun j u c=>by{have a:j<20:=by{have:=(VS.1 c).1;rwa [VN,h.len]at this};have f:=h.cells j u c;have g:=(h.there j a).2;rw[VL]at f g;exact⟨f,g⟩};have d:=i.set k (Z v);rw[<-List.map_set]at d;refine⟨by rw[Wa];exact h.len,h.aZ.setCell _ _,fun j u c=>by rw[VL];exact(d j u c).1,fun j a=>?_⟩;have m:((l.set k v).map (VI .i64))[j]? =some (Z ((l.set k v).getD j 0)):=by{rw[VV,VX (by rw[Wa,h.len];exact a)];simp[h.len,a]};have:=d j _ m;rw[VL];exact⟨by rw[this.1];rfl,this.2⟩
theorem fg.yc{w b l}(h:fg w b l)(k)(a:k<20):(∃u,w.c b k=some u)/\w.frozen? ⟨b,k,none⟩=false:=by have:=h.there k a;rw[VL]at this;exact⟨VW.1 this.1,this.2⟩
theorem Aa{a:World}{b:Nat}{cs:List Value}{tmps}(c:tmps[4]? =some (az b))(f:(loadVar 219 ⟨b,0,none⟩).run prog a=.ok (.agg cs.toArray) a):(results Tryz.f206 tmps).run prog a=.ok (.agg cs.toArray) a:=by have d:(asAddr (az b)).run prog a=.ok ⟨b,0,none⟩ a:=by{simp[go_sem]};simp[results,results206,c,d,f]
theorem zZ(a f z aq w av ra rc n)(am:kM w f av (.slice ra n rc) (.slice (some ⟨z,0,none⟩) (a.length+1) (a.length+1)))(bs:fK w av a)(f3:a.length<=1000)(cm:∀g∈a,g.dG.length<=1000)(sp)(f8:sp.length=n)(f9:n<=1000000)(cs:∀g∈a,1<=g.bF/\g.bF<=9\/(g.aF≠2/\g.aF≠3))(c9:Db w z aq (a.length+1) n (gO sp a))(first)(co:first<=n)(cn:gO sp a 0 first≠ -1):Calls prog 206 #[.pointer (some ⟨f,0,none⟩),.int .i64 first] w fun e c5=>e=.returned (.agg ((eF (bY sp a) a first).map (.int .i64)).toArray)/\R (·=f) w c5/\kM c5 f av (.slice ra n rc) (.slice (some ⟨z,0,none⟩) (a.length+1) (a.length+1)):=by obtain⟨dg,c2,d9⟩:=id bs;obtain⟨bA,c0,rfl⟩:=bG c2;clear c2 d9 dg;have fp:f<w.heap.size:=am.aZ.lt;have bh:=fg.cG w;have a1:=fg.cG (w.alloc (.cells dL 219));have C:aG w ((w.alloc (.cells dL 219)).alloc (.cells dL 219)):=((R.refl _ w).alloc _).alloc _;have bi:=bh.T (S:=fun _=>False) ((R.refl _ (w.alloc (.cells dL 219))).alloc (.cells dL 219)) id;simp only[World.size_alloc]at a1;have ab:(prog.info? 219).map (·.size)=some dL.size:=bK;have bz:dL.all (·.oneCell')=true:=by{simp[dL,Value.oneCell']};go_enter func206,ntmps206;go_upto_region 2 with (refine wpList_store_mid aV 219 _ _ aV (w.heap.size+1) 0 dL (by first|rfl|simp[Act.eval,Act.put]) (by first|rfl|simp[Act.eval,Act.put,dL]) a1.there ab bz ?_);have bk:=a1.store (VE 20 0) rfl;have bl:=bi.T (gM (w.heap.size+1) ((VE 20 0).map Z) _ 0) E;have a8:aG w (((w.alloc (.cells dL 219)).alloc (.cells dL 219)).setCells (w.heap.size+1) 0 ((VE 20 0).map Z)):=by{refine C.trans (gM (w.heap.size+1) _ _ 0) (fun _ e=>e) (fun b cj e=>E)};have d3:((w.alloc (.cells dL 219)).alloc (.cells dL 219)).setCells (w.heap.size+1) 0 dL.toList=((w.alloc (.cells dL 219)).alloc (.cells dL 219)).setCells (w.heap.size+1) 0 ((VE 20 0).map Z):=rfl;change Code.wp _ _ _ _ (((w.alloc (.cells dL 219)).alloc (.cells dL 219)).setCells (w.heap.size+1) 0 ((VE 20 0).map Z));clear bh a1 bi C d3;(try dsimp only[World.s,World.c,Z,az,bJ,aB,aM]at*);generalize ((w.alloc (.cells dL 219)).alloc (.cells dL 219)).setCells (w.heap.size+1) 0 ((VE 20 0).map Z)=g1 at*;have an:=am.T a8 id;have d8:=an.aH;go_wp21;go_loopg [6,16] a.length (fun k v u wr=>∃(j at_:Nat) (m:List Int),v=Z at_/\u=Z j/\j+k=a.length/\at_<=n/\Hid (gO sp a j at_≠ -1)/\Hid (kt (bY sp a) a 0 (VE 20 0) first=kt (bY sp a) (a.drop j) j m at_)/\Hid (fg wr (w.heap.size+1) m)/\Hid (fg wr w.heap.size (VE 20 0))/\Hid (R (·=f) w wr)/\Hid (kM wr f (.slice bA a.length c0) (.slice ra n rc) (.slice (some ⟨z,0,none⟩) (a.length+1) (a.length+1))));(case atStart=>exact ⟨0,first,_,rfl,rfl,E,co,cn,rfl,bk,bl,a8.mono (fun _ _ e=>e.elim),an⟩);case round=>obtain⟨j,at_,m,rfl,rfl,bw,dz,al,a3,ba,bb,bc,be⟩:=hrel;have fb:Hid _:=bw;have f2:j<=a.length:=E;have r:fg wr (w.heap.size+1) m:=ba;have bm:fg wr w.heap.size (VE 20 0):=bb;have a2:R (·=f) w wr:=bc;have x:kM wr f (.slice bA a.length c0) (.slice ra n rc) (.slice (some ⟨z,0,none⟩) (a.length+1) (a.length+1)):=be;have a5:∀ {b3:TypeId} {c:Nat},aR w c b3->b3≠258->¬c=f:=fun y ci e=>by{subst e;exact ci (y.eH am.aZ)};clear bw ba bb bc be bk bl a8 an d8;by_cases ad:j<a.length;{obtain⟨e,a6,dr,ds,b9⟩:=oF sp a j ad at_ E al.out;obtain⟨bE,rfl,dj,eW⟩:=(bs.T a2 (fun c y=>a5 y ae) (fun c y=>a5 y ae)).get cm Ck;obtain⟨ap,a4⟩:=eW j ad;have fn:bE<wr.heap.size:=VG wr _ a4;have fv:bE≠f:=dj.ne x.aZ ae;have b5:=ap.aF;have b6:=a4;obtain⟨b0,b1,dk,_⟩:=ap.dG;have dl:=ap.ck;have O:=c9.T a2 (fun c y=>a5 y ae) (fun c y=>a5 y ae);have c8:=O.cell j E;have b4:=(O.aD j at_ E E).1;have b7:gO sp a j at_=e:=a6;rw[b7]at b4;have c4:=O.jB j E;have c3:=O.aZ;have ff:z<wr.heap.size:=VG wr _ c8;have fl:aq+j<wr.heap.size:=VG wr _ b4;have bq:a.drop j=a[j]::a.drop (j+1):=VM ad;have U:=a3.out;rw[bq]at U;simp only[kt]at U;rw[a6,VJ]at U;have a9:=cs a[j] (V6 ad);have dN:(j:Int)<(a.length:Int)+1:=E;have dS:(at_:Int)<(n:Int)+1:=E;have fe:VH.wrap ((j:Int)+1)=(j:Int)+1:=fF;have y7:Hid _:=b9;clear b9 bq a3 al O b7;(try dsimp only[World.s,World.c,Z,az,bJ,aB,aM]at*);generalize d4:a[j]=g at*;have q4:=Y U;clear U d4 eW a6;have fo:w.heap.size+1<wr.heap.size:=by{obtain⟨u,ao⟩:=(r.yc 0 E).1;exact VG wr _ ao};obtain⟨F,fa⟩:=x.ar;have fz:=x.l8;have g0:=x.free;have c1:f≠w.heap.size+1:=E;have d7:w.heap.size+1≠f:=E;have d6:w.heap.size≠f:=E;have f4:aq+j≠w.heap.size+1:=c4.ne r.aZ ae;have f5:z≠w.heap.size+1:=c3.ne r.aZ ae;have f6:aq+j≠f:=c4.ne x.aZ ae;have f7:z≠f:=c3.ne x.aZ ae;have fr:f<wr.heap.size:=x.aZ.lt;have N:=x.step (wrap64 (F+1));have L:R (·=f) w _:=a2.t (mi (w:=wr) f (wrap64 (F+1)));have I:=r.T (mi (w:=wr) f (wrap64 (F+1))) d7;have M:=bm.T (mi (w:=wr) f (wrap64 (F+1))) d6;by_cases G:g.aF=2;{obtain⟨d,D⟩:∃d:Nat,g.bF=d:=⟨g.bF.toNat,E⟩;have B:A.mark g m at_=m.set (d*2) at_:=by{simp[A.mark,G,D]};rw[B]at q4;have cv:d<10:=E;have cW:(d:Int)<10:=E;rw[D]at b6;clear a4;rw[G]at b5;obtain⟨⟨u,ao⟩,d2⟩:=r.yc (d*2) E;(try dsimp only[World.s,World.c,Z,az,bJ,aB,aM]at*);generalize tc:wr.setCell ⟨f,3,none⟩ (Z (wrap64 (F+1)))=l at*;have C:R (·=f) w (l.setCell ⟨w.heap.size+1,d*2,none⟩ (Z at_)):=R.setCell (p:=⟨w.heap.size+1,d*2,none⟩) L (fun h=>absurd h aK) (Z at_);have W:=I.set (d*2) at_;have X:=M.T (ah l (w.heap.size+1) (d*2) (Z at_)) E;have a0:=N.T (ah l (w.heap.size+1) (d*2) (Z at_)) c1;have i:aG (l.setCell ⟨w.heap.size+1,d*2,none⟩ (Z at_)) ((l.setCell ⟨w.heap.size+1,d*2,none⟩ (Z at_)).alloc (.cells #[Z 2,Z d,.slice b0 g.dG.length b1,Z g.ck] 270)):=(R.refl _ _).alloc _;have kd:=Y (W.T i id);have n6:=Y (X.T i id);have ni:=Y (C.t i);have rp:=Y (a0.T i id);clear G B a9 D C W X a0 i I M L N;exact RO};by_cases H:g.aF=3;{obtain⟨d,D⟩:∃d:Nat,g.bF=d:=⟨g.bF.toNat,E⟩;have B:A.mark g m at_=m.set (d*2+1) at_:=by{simp[A.mark,H,D]};rw[B]at q4;have cv:d<10:=E;have cW:(d:Int)<10:=E;rw[D]at b6;clear a4;rw[H]at b5;obtain⟨⟨u,ao⟩,d2⟩:=r.yc (d*2+1) E;(try dsimp only[World.s,World.c,Z,az,bJ,aB,aM]at*);generalize tc:wr.setCell ⟨f,3,none⟩ (Z (wrap64 (F+1)))=l at*;have C:R (·=f) w (l.setCell ⟨w.heap.size+1,d*2+1,none⟩ (Z at_)):=R.setCell (p:=⟨w.heap.size+1,d*2+1,none⟩) L (fun h=>absurd h aK) (Z at_);have W:=I.set (d*2+1) at_;have X:=M.T (ah l (w.heap.size+1) (d*2+1) (Z at_)) E;have a0:=N.T (ah l (w.heap.size+1) (d*2+1) (Z at_)) c1;have i:aG (l.setCell ⟨w.heap.size+1,d*2+1,none⟩ (Z at_)) ((l.setCell ⟨w.heap.size+1,d*2+1,none⟩ (Z at_)).alloc (.cells #[Z 3,Z d,.slice b0 g.dG.length b1,Z g.ck] 270)):=(R.refl _ _).alloc _;have kd:=Y (W.T i id);have n6:=Y (X.T i id);have ni:=Y (C.t i);have rp:=Y (a0.T i id);clear H B a9 D C W X a0 i I M L N;exact RO};have dn:(g.aF==2)=false:=by{simp[G]};have dq:(g.aF==3)=false:=by{simp[H]};have B:A.mark g m at_=m:=by{simp[A.mark,G,H]};rw[B]at q4;(try dsimp only[World.s,World.c,Z,az,bJ,aB,aM]at*);generalize tc:wr.setCell ⟨f,3,none⟩ (Z (wrap64 (F+1)))=l at*;have i:aG l (l.alloc (.cells #[Z g.aF,Z g.bF,.slice b0 g.dG.length b1,Z g.ck] 270)):=(R.refl _ l).alloc _;have kd:=Y (I.T i id);have n6:=Y (M.T i id);have ni:=Y (L.t i);have rp:=Y (N.T i id);clear G H B a9 i I M L N;subst tc;go_wp2;go_roundg (gk-1);(case measure=>have:=fb.o;omega);case rel=>exact ⟨j+1,e,m,rfl,rfl,bV fb.o,E,y7,q4,kd,n6,ni,rp⟩};{have cl:j=a.length:=E;subst cl;have q4:Hid (kt (bY sp a) a 0 (VE 20 0) first=(m,at_)):=by{show _=_;rw[a3.out,V7];rfl};clear a3 al ad;obtain⟨⟨u0,fc⟩,f0⟩:=r.yc 0 E;obtain⟨⟨u1,fd⟩,f1⟩:=r.yc 1 E;have a7:=(r.set 0 first).set 1 at_;have ca:R (·=f) w ((wr.setCell ⟨w.heap.size+1,0,none⟩ (Z first)).setCell ⟨w.heap.size+1,1,none⟩ (Z at_)):=R.setCell (p:=⟨w.heap.size+1,1,none⟩) (R.setCell (p:=⟨w.heap.size+1,0,none⟩) a2 (fun h=>absurd h aK) _) (fun h=>absurd h aK) _;have bp:=(bm.T (ah wr (w.heap.size+1) 0 (Z first)) E).T (ah _ (w.heap.size+1) 1 (Z at_)) E;have cc:=(x.T (ah wr (w.heap.size+1) 0 (Z first)) E).T (ah _ (w.heap.size+1) 1 (Z at_)) E;have c6:Hid (eF (bY sp a) a first=(m.set 0 first).set 1 at_):=by{show _=_;simp only[eF];rw[q4.o]};clear q4;(try dsimp only[World.s,World.c,Z,az,bJ,aB,aM]at*);generalize d0:(m.set 0 (first:Int)).set 1 (at_:Int)=q at*;clear d0;have ac:=a7.len;have aa:(prog.info? 219).map (·.size)=some (q.map (VI .i64)).length:=by{rw[VN,ac];exact ab};have bv:(prog.info? 219).map (·.size)=some (q.map (VI .i64)).toArray.size:=by{rw[V5];exact aa};have d5:((q.map (VI .i64)).toArray.all (·.oneCell'))=true:=all_oneCell_toArray GN;have bx:=bp.there;rw[show (20:Nat)=(q.map (VI .i64)).toArray.size by rw[V5,VN,ac]]at bx;have b2:=Y aa;have c7:=Y bv;clear aa bv ab bz ac;go_wp2_with (first|refine wpList_load_mid aV 219 _ aV (w.heap.size+1) 0 aV (q.map (VI .i64)) _ a7.cells underlying219 aV b2.o ?_|refine wpList_store_mid aV 219 _ _ aV w.heap.size 0 (q.map (VI .i64)).toArray aV aV bx c7.o d5 ?_);have cp:=bp.store q a7.len;have cb:=ca.trans (gM w.heap.size (q.map (VI .i64)) _ 0) (fun _ e=>e) (fun b cj e=>E);have ce:=cc.T (gM w.heap.size (q.map (VI .i64)) _ 0) E;have d1:=run_loadVar_mid (P:=prog) _ w.heap.size 0 219 (q.map (VI .i64)) _ cp.cells underlying219 aV b2.o;exact bodyPost_ret (v:=.agg (q.map (VI .i64)).toArray) (Aa rfl d1) rfl ⟨by rw[c6.o],cb,ce⟩}
end
section
namespace A
def gI(a:List Int)(zH:Nat->List Int):Nat->Int->Int->List (List Int)
 |0,_,_=>[]
 |k+1,at_,dt=>
  if at_= -1 then []else
   let m:=zH at_.toNat
   if m.getD 0 0=m.getD 1 0/\at_=dt then gI a zH k (bD a (at_.toNat+1)) dt
   else m::gI a zH k (bD a (m.getD 1 0).toNat) (m.getD 1 0)
def eZ(sp:List Int)(a:List gq):List Int:=(bY sp a).getD 0 []
def dw(sp:List Int)(a:List gq):List (List Int):=gI (eZ sp a) (eF (bY sp a) a) (2*sp.length+3) (bD (eZ sp a) 0) (-1)
theorem pR(l):∀(d j:Nat),j+d=l.length->bD l j= -1\/∃k:Nat,bD l j=k/\j<=k/\k<l.length/\l.getD k 0≠ -1
 |0,j,h=>Wd (lq l j E)
 |d+1,j,h=>by
  by_cases a:l.getD j 0= -1
  ·rw[mz l j E a]
   rcases pR l d (j+1) E with b |⟨k,b,c,f,g⟩
   ·exact Wd b
   ·grind
  ·exact Or.inr ⟨j,nB l j E a,VU _,E,a⟩
theorem yt(sp a):∀(d j:Nat) (m:List Int) (at_:Nat),j+d=a.length->at_<=sp.length->gO sp a j at_≠ -1->at_<=(kt (bY sp a) (a.drop j) j m at_).2/\(kt (bY sp a) (a.drop j) j m at_).2<=sp.length
 |0,j,m,at_,h,h1,h2=>by
  have:j=a.length:=E;subst this;rw[V7];exact⟨VU _,h1⟩
 |d+1,j,m,at_,h,h1,h2=>by
  have b:j<a.length:=E;have⟨e,c,i,f,g⟩:=oF sp a j b at_ h1 h2;rw[VM b];simp only[kt];rw[c,VJ];have:=yt sp a d (j+1) (mark a[j] m at_) e E f g;exact⟨E,this.2⟩
theorem oX(b):∀(a:List gq) (i:Nat) (m:List Int) (at_:Nat),(kt b a i m at_).1.length=m.length
 |[],i,m,at_=>rfl
 |x::a,i,m,at_=>by
  simp only[kt];rw[oX b a];unfold mark;split
  ·simp
  ·split <;> simp
theorem vV(a b first):(eF a b first).length=20:=by simp[eF,oX]
theorem px(a b first):(eF a b first).getD 0 0=first:=by simp only[eF];rw[VF,List.getElem?_set_ne E,VZ (by rw[(oX a b 0 (VE 20 0) first)];simp)];rfl
theorem yW(sp a first)(c:first<=sp.length)(d:gO sp a 0 first≠ -1):∃b:Nat,(eF (bY sp a) a first).getD 1 0=b/\first<=b/\b<=sp.length:=by have h:=oX (bY sp a) a 0 (VE 20 0) first;have:=yt sp a a.length 0 (VE 20 0) first E c d;rw[List.drop_zero]at this;refine⟨_,?_,this⟩;simp only[eF];rw[VF,VZ aU];rfl
theorem n7(sp a t):(eZ sp a).getD t 0=gO sp a 0 t:=rfl
theorem mG(sp a):(eZ sp a).length=sp.length+1:=iG sp a 0 E
def left(n:Nat)(dt at_:Int):Nat:=if at_= -1 then 0 else 2*(n-at_.toNat)+(if dt=at_ then 1 else 2)
theorem mB(n dt)(a:Nat):left n dt a=2*(n-a)+(if dt=a then 1 else 2):=by rfl
theorem uY(n dt):left n dt (-1)=0:=by simp[left]
theorem jX(sp a j)(b:j<=sp.length+1):bD (eZ sp a) j= -1\/∃k:Nat,bD (eZ sp a) j=k/\j<=k/\k<=sp.length/\gO sp a 0 k≠ -1:=by rcases pR (eZ sp a) (sp.length+1-j) j (by rw[mG];omega)with h |⟨k,h1,h2,h3,h4⟩;{exact Wd h};{rw[mG]at h3;exact Or.inr ⟨k,h1,h2,E,h4⟩}
theorem JD(sp c)(k a:Nat)(dt)(m:a<=sp.length)(i:left sp.length dt a<=k)(d:(eF (bY sp c) c a).getD 0 0=(eF (bY sp c) c a).getD 1 0)(g:(a:Int)=dt):∃k',gI (eZ sp c) (eF (bY sp c) c) k a dt=gI (eZ sp c) (eF (bY sp c) c) k' (bD (eZ sp c) (a+1)) dt/\left sp.length dt (bD (eZ sp c) (a+1))<=k'/\left sp.length dt (bD (eZ sp c) (a+1))<left sp.length dt a:=by subst g;rw[mB,if_pos rfl]at i;rw[mB,if_pos rfl];obtain⟨k',rfl⟩:∃k',k=k'+1:=⟨k-1,E⟩;refine⟨k',?_,?_⟩;{rw[gI,if_neg E];rw[(VJ a)];exact if_pos ⟨d,rfl⟩};{rcases jX sp c (a+1) E with h |⟨b,f,j,l,_⟩;{rw[h,uY];omega};{rw[f,mB];split <;> omega}}
theorem FO(sp c)(k a:Nat)(dt)(r:a<=sp.length)(i:left sp.length dt a<=k)(d:Nat)(m:(eF (bY sp c) c a).getD 1 0=d)(p:a<=d)(q:d<=sp.length)(l:¬((a:Int)=d/\(a:Int)=dt)):∃k',gI (eZ sp c) (eF (bY sp c) c) k a dt=eF (bY sp c) c a::gI (eZ sp c) (eF (bY sp c) c) k' (bD (eZ sp c) d) d/\left sp.length d (bD (eZ sp c) d)<=k'/\left sp.length d (bD (eZ sp c) d)<left sp.length dt a:=by have j:2*(sp.length-a)+(if dt=a then 1 else 2)<=k:=by{rwa [mB]at i};rw[mB];obtain⟨k',rfl⟩:∃k',k=k'+1:=⟨k-1,by split at j <;> omega⟩;have g:left sp.length d (bD (eZ sp c) d)<2*(sp.length-a)+(if dt=a then 1 else 2):=by{rcases jX sp c d E with h |⟨b,f,n,o,_⟩;{rw[h,uY];split <;> omega};{rw[f,mB];by_cases s:dt=a;{grind};{grind}}};refine⟨k',?_,E,g⟩;rw[gI,if_neg E];simp only[VJ];rw[px,m,if_neg l,VJ]
end A
end
section
open Go.RowKit
namespace A
def iC(s:ByteArray):Nat->Nat->List Int
 |0,_=>[]
 |b+1,i=>if i<s.size then Int.ofNat (V8 s i).1::iC s b (i+(V8 s i).2)else []
def bL(s:ByteArray):List Int:=iC s s.size 0
theorem uv(s):∀(b i:Nat) (Dl:Array Value),(Conv.runesFrom s b i Dl).toList=Dl.toList++(iC s b i).map (.int .i32)
 |0,i,Dl=>by simp[Conv.runesFrom,iC]
 |b+1,i,Dl=>by
  unfold Conv.runesFrom iC;split
  ·simp only[]
   rw[uv s b];simp
  ·simp
theorem wH(s):∀(b i:Nat),(iC s b i).length<=b
 |0,i=>by simp[iC]
 |b+1,i=>by
  unfold iC;split
  ·have:=wH s b (i+(V8 s i).2);simp;omega
  ·simp
theorem og(s):(bL s).length<=s.size:=wH s _ _
theorem nH(s):(Conv.runesFrom s s.size 0 #[]).toList=(bL s).map (.int .i32):=by rw[uv];simp[bL]
theorem qU(s):(Conv.runesFrom s s.size 0 #[]).size=(bL s).length:=by rw[<-Array.length_toList,nH,VN]
end A
theorem Dm(w d v k c){aq e f}(hj:w.ownsRow aq e 1 v k f):(Builtin.append_ #[103,103] d #[v,.slice none 0 c]).run prog w=.ok v w:=by have b:∃a cD,v=.slice a k cD/\k<=cD:=by{exact Nd};obtain⟨a,cD,rfl,z⟩:=b;have⟨i,b2,g,ia,j⟩:=info_parts tQ;have cW:=run_underlying (P:=prog) (w:=w) underlying103;have i8:(sizeOf 21).run prog w=.ok 1 w:=GQ;exact Mo
theorem n8(w f aq v k s)(d:w.ownsRow aq 21 1 v k (s.map (.int .i32)))(a c sp)(y:cU w a sp)(C:k+sp.length<=5000000000)(g:aq<=w.heap.size):∃v' a2,(Builtin.append_ #[103,103] f #[v,.slice a sp.length c]).run prog w=.ok v' a2/\a2.ownsRow aq 21 1 v' (k+sp.length) ((s++sp).map (.int .i32))/\w.grownBy a2 v.ownBlock/\(v'.ownBlock=v.ownBlock\/v'.ownBlock=some w.heap.size):=by have⟨i,m,n,p,q⟩:=info_parts tQ;by_cases l:sp= [];{subst l;cases a with|none=>exact ⟨v,w,Dm w f v k c d,by simpa using d,⟨rfl,rfl,rfl,VU _,fun _ _ _=>rfl⟩,Wd rfl⟩|some t=>have⟨v',a2,o,a4,ab,_,f8⟩:=run_append_own_at (P:=prog) w aq 103 f 21 i _ 1 4 underlying103 m n p q rfl E v k _ d t 0 c [] rfl aK aK rK E g;exact Ch};{obtain⟨z,B,rfl,_,x⟩:=y l;obtain⟨v',a2,o,a4,ab,_,f8⟩:=run_append_own_at (P:=prog) w aq 103 f 21 i _ 1 4 underlying103 m n p q rfl E v k _ d ⟨z,B,none⟩ sp.length c (sp.map (.int .i32)) aK (fun j u cW=>by rw[Addr.add_mid];rw[VV]at cW;cases b:sp[j]? with|none=>rw [b]at cW;cases cW|some r=>rw[b]at cW;simp at cW;subst cW;rw[x j ((VS.1 b).1),VF,b];rfl) GR rK E g;exact Ch}
theorem wp_append_runes(w){d:Oper}{a K Q}(s i)(c5:d.op=.call {callee:=.builtin .append,args:=#[s,i],argTypes:=#[103,103]})(aq:Nat)(v)(k:Nat)(g)(ch:a.eval s=v)(o:w.ownsRow aq 21 1 v k (g.map (.int .i32)))(f)(c:Nat)(sp)(n:Nat)(bw:a.eval i=.slice f n c)(m:n=sp.length)(p:cU w f sp)(l:k+n<=5000000000)(j:aq<=w.heap.size)(h:∀hm c' a2,a2.ownsRow aq 21 1 (.slice hm (k+n) c') (k+n) ((g++sp).map (.int .i32))->R (fun b=>v.ownBlock=some b) w a2->((VP hm (k+n) c').ownBlock=v.ownBlock\/(VP hm (k+n) c').ownBlock=some w.heap.size)->K (a.put d.dst (.slice hm (k+n) c')) a2):d.wp prog a w K Q:=by subst m;have⟨v',a2,x,a4,ab,be⟩:=n8 w d.type aq v k g o f c sp p l j;exact Q9
theorem kK(w){ops d a K Q m}(p:d.guard=none)(s j)(t:d.op=.call {callee:=.builtin .append,args:=#[s,j],argTypes:=#[103,103]})(aq v k l)(z:a.eval s=v)(x:w.ownsRow aq 21 1 v k (l.map (.int .i32)))(g c sp)(n:Nat)(B:a.eval j=.slice g n c)(r:n=sp.length)(y:cU w g sp)(q:k+n<=5000000000)(o:aq<=w.heap.size)(h:∀f c' i,i.ownsRow aq 21 1 (.slice f (k+n) c') (k+n) ((l++sp).map (.int .i32))->R (fun b=>v.ownBlock=some b) w i->((VP f (k+n) c').ownBlock=v.ownBlock\/(VP f (k+n) c').ownBlock=some w.heap.size)->K (a.put d.dst (.slice f (k+n) c')) i):if Region.wanted d (yielded ops a.tmps)=true then Oper.wp prog d a w K Q else m:=by rw[if_pos (by simp[Region.wanted,p])];exact wp_append_runes w s j t aq v k l z x g c sp n B r y q o h
theorem wpList_append_runes(w){ops rest g a Q}(t:g.guard=none)(s j)(z:g.op=.call {callee:=.builtin .append,args:=#[s,j],argTypes:=#[103,103]})(aq v k l)(D:a.eval s=v)(B:w.ownsRow aq 21 1 v k (l.map (.int .i32)))(i c sp)(n:Nat)(F:a.eval j=.slice i n c)(y:n=sp.length)(C:cU w i sp)(x:k+n<=5000000000)(r:aq<=w.heap.size)(h:∀d c' f,f.ownsRow aq 21 1 (.slice d (k+n) c') (k+n) ((l++sp).map (.int .i32))->R (fun b=>v.ownBlock=some b) w f->((VP d (k+n) c').ownBlock=v.ownBlock\/(VP d (k+n) c').ownBlock=some w.heap.size)->wpList prog ops Q rest (a.put g.dst (.slice d (k+n) c')) f):
 wpList prog ops Q (g::rest) a w:=
 wpList_plain t fun _ q=>wp_append_runes w s j z aq v k l D B i c sp n F y C x r (fun d c' f m o p=>q _ _ (h d c' f m o p))
theorem FJ(w s)(n:s.size<=1000000):∃c b,(convert 9 103 (.string s)).run prog w=.ok (bJ w.heap.size (A.bL s).length c) b/\cU b (some ⟨w.heap.size,0,none⟩) (A.bL s)/\aG w b/\(A.bL s).length<=c/\aR b w.heap.size 21:=by have a:=qU s;have m:=og s;have f:=run_runes_of_string (P:=prog) w 9 103 21 s underlying9 underlying103 underlying21 E;have d:=grownCap_ge w (Conv.runesFrom s s.size 0 #[]).size 0 21;generalize l:grownCap w (Conv.runesFrom s s.size 0 #[]).size 0 21=cD at*;have i:=aX.cG w.drew (Conv.runesFrom s s.size 0 #[]++Wb (cD-(Conv.runesFrom s s.size 0 #[]).size) (.int .i32 0)) 21;have g:=aR.cG w.drew (Conv.runesFrom s s.size 0 #[]++Wb (cD-(Conv.runesFrom s s.size 0 #[]).size) (.int .i32 0)) 21 (0,0);rw[a]at f;refine⟨cD,_,f,?_,((R.refl _ w).drew).alloc _,by rw[a]at d;exact d,by rw[<-a];exact g⟩;{intro _;refine⟨_,0,rfl,by rw[<-a];exact g,fun j k=>?_⟩;rw[<-a];refine(i (0+j) _ ?_).1;rw[Array.toList_append,nH,VL,VT aU,VV,VF,VX k];rfl}
end
section
end
section
open Go.RowKit
namespace A
def nJ(sp:List Int)(a t:Int):List Int:=(sp.drop a.toNat).take (t.toNat-a.toNat)
def pT(sp m:List Int)(p:kj):List Int:=
 if p.aF=0 then bL ⟨p.text.toArray⟩else if p.aF=1 then nJ sp (m.getD 0 0) (m.getD 1 0)else if p.aF=2 then nJ sp (m.getD (p.bF.toNat*2) 0) (m.getD (p.bF.toNat*2+1) 0)else []
def dB(sp m:List Int)(ps:List kj):List Int:=ps.flatMap (pT sp m)
def yC(a t:Int)(n:Nat):Prop:=0<=a/\a<=t/\t<=n
def nU(m:List Int)(n:Nat)(p:kj):Prop:=(p.aF=0/\p.text.length<=100000)\/p.aF=1\/(p.aF=2/\1<=p.bF/\p.bF<=9/\yC (m.getD (p.bF.toNat*2) 0) (m.getD (p.bF.toNat*2+1) 0) n)
theorem pE(sp)(a t:Nat)(b:a<=t)(c:t<=sp.length):(nJ sp a t).length=t-a:=by simp[nJ];omega
end A
def Sl(w:World)(ra:Option Addr)(sp:List Int):Prop:=(ra=none/\sp= [])\/∃a b,ra=some ⟨a,b,none⟩/\aR w a 21/\∀j,j<sp.length->w.cell? ⟨a,b+j,none⟩=some (.int .i32 (sp.getD j 0))
theorem Sl.jw{w ra sp}(h:Sl w ra sp):cU w ra sp:=by intro a;rcases h with ⟨_,h⟩|h;{simp_all};{exact h}
theorem Sl.T{S:Nat->Prop}{w d:World}{ra}{sp:List Int}(h:Sl w ra sp)(a:R S w d)(c:∀b a,ra=some ⟨b,a,none⟩->¬S b):Sl d ra sp:=by rcases h with h |⟨k,l,e,i,f⟩;{exact Wd h};{exact Or.inr ⟨k,l,e,i.T a (c _ _ e),fun j g=>a.T (f j g) (c _ _ e)⟩}
theorem Sl.cut{w ra sp}(h:Sl w ra sp)(rc a t)(c:a<=t)(d:t<=sp.length)(l:sp.length<=rc):cU w (if rc=a then ra else ra.map (·.add a)) (nJ sp a t):=by intro g;have n:=A.pE sp a t c d;have o:=List.length_pos_iff.2 g;rcases h with ⟨_,e⟩ |⟨k,b,rfl,i,f⟩;{simp_all};{rw[if_neg E];refine⟨k,b+a,?_,i,fun j m=>?_⟩;{simp[Addr.add_mid]};{rw[show b+a+j=b+(a+j) by omega,f (a+j) E];congr 2;simp only[nJ,VF,VJ];rw[VR,if_pos E,List.getElem?_drop]}}
theorem lg.get{w a n c ps}(h:lg w (.slice a n c) ps)(C:ps≠ []):∃b,a=some ⟨b,0,none⟩/\aR w b 240/\∀i (f:i<ps.length),w.cell? ⟨b,i*3,none⟩=some (Z ps[i].aF)/\w.cell? ⟨b,i*3+1,none⟩=some (.string ⟨ps[i].text.toArray⟩)/\w.cell? ⟨b,i*3+2,none⟩=some (Z ps[i].bF):=by rcases h.2 with ⟨_,e⟩ |⟨g,cD,bI,t,_,m,B,_,D,r⟩;{simp_all};{injection t with q y z;refine⟨g,q,⟨bI,(0,0),m⟩,fun i f=>?_⟩;have key:∀(l:List kj) (i:Nat) (f:i<l.length) (d:Nat),d<3->(l.flatMap gC)[i*3+d]? =(gC l[i])[d]? :=by{intro l;induction l with|nil=>intro i f;simp at f|cons p l x=>intro i f d k;cases i with|zero=>simp;rw[VT (by simp[gC];omega)]|succ i=>simp;rw[List.getElem?_append_right (by simp[gC];omega)];have e:(i+1)*3+d-(gC p).length=i*3+d:=by{simp[gC];omega};rw[e];exact x i (bS f) d k};have j:∀d u,d<3->(gC ps[i])[d]? =some u->w.cell? ⟨g,i*3+d,none⟩=some u:=by{intro d u k s;rw[cell_of_row _ g (i*3+d) bI _ (0,0) m];have o:=key ps i f d k;rw[s,<-r,VR]at o;have:i*3+d<ps.length*3:=E;simpa[this]using o};exact⟨j 0 _ E rfl,j 1 _ E rfl,j 2 _ E rfl⟩}
theorem pF{S w a b}(f:R S w a)(c:b<w.heap.size)(d:¬S b):a.shape? b=w.shape? b:=by unfold World.shape?;rw[f.block b c d]
theorem om{w:World}{p:Addr}{v}{b:Nat}:(w.setCell p v).shape? b=w.shape? b:=by unfold World.shape?;by_cases e:b=p.block;{subst e;simp only[V1,Array.getElem?_modify,if_true];cases h:w.heap[p.block]? with|none=>rfl|some a=>cases a <;> simp <;> (first|rfl | (split <;> simp))};{rw[Below.heap_setCell _ _ _ _ e]}
end
end Go.Proofs.YtbiobhghnldckaaGreatDoor
