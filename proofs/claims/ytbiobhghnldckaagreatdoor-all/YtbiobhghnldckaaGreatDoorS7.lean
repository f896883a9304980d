/- Proved: steps on the way to the card. Conditions: as each states. -/
import Derived.Test.YtbiobhghnldckaaGreatDoorS6
import Derived.Test.YtbiobhghnldckaaGreatDoorSH3
namespace Go.Proofs.YtbiobhghnldckaaGreatDoor
open List renaming length_append->VE,getElem?_set_ne->VI,getD_eq_getElem?_getD->VJ,getElem?_eq_getElem->VK,drop_eq_nil_of_le->VO,size_toArray->VQ,take_succ_eq_append_getElem->VR,length_map->VS,drop_eq_getElem_cons->VT,set_comm->VU,getElem?_set_self->VW,map_append->VX,foldl_cons->VY,length_set->VZ,getElem?_take->V1,append_assoc->V3,getElem?_map->V4,length_cons->V5,length_nil->Wb,drop_zero->Wc
open _root_.Array renaming getElem?_eq_some_iff->VF,getElem?_eq_getElem->VL
open Or renaming inl->VG,inr->VV
open Value renaming slice->VH,int->V6
open Nat renaming le_refl->VM,le_trans->V2
open World renaming ownsRow_nil->VN
open Int renaming toNat_natCast->VP
open Lib renaming decDigits->V0
open IntKind renaming i64->V7
open Utf8 renaming encode->V8
open _root_.ByteArray renaming empty->V9
open Bool renaming eq_iff_iff->Wa
open Go.Proofs.Tryz
open A Er Rr Rm
set_option linter.unusedVariables false
set_option maxRecDepth 100000
set_option maxHeartbeats 6400000
section
open Go.RowKit
attribute [local go_sem ↓] Go.wp_at_zero Go.wp_at_succ
def dZ(t:Rr.St):Prop:=t.e=0->t.out.length<=8000
theorem nZ(F l t)(h:dZ t):dZ (Rr.ay F l t):=by unfold Rr.ay;by_cases b:t.e=0;{rw[if_pos b];intro a;simp only at a ⊢;by_cases c:8000<(t.out++F.cg l++[10]).length;{omega};{omega}};{simp_all}
theorem wm(F l t):(Rr.ay F l t).aA=t.aA:=by unfold Rr.ay;split <;> rfl
theorem A8(F):∀(q:List (List Int)) (t:Rr.St),dZ t->dZ (Rr.fI F q t)
 |[],t,h=>h
 |l::q,t,h=>A8 F q _ (nZ F l t h)
theorem zD(F t)(h:dZ t):dZ (Rr.eG F t):=A8 F t.aA t h
theorem R6.pick{w B a q}(h:R6 w B a q)(k)(r:k<q.length):∃b qc ra rc,a=.slice (some ⟨b,0,none⟩) q.length qc/\w.cell? ⟨b,k,none⟩=some (.slice ra (q.getD k []).length rc)/\bW w ra (q.getD k []):=by have⟨t,qc,x,e,i,j⟩:=h;have d:q[k]? =some (q.getD k []):=aU;have⟨ra,rc,j9,l⟩:=j k _ d;rcases i.2 with ⟨_,m⟩ |⟨g,cD,bI,f,_,c2,p,_,s,qt⟩;{omega};{injection f with c n o;subst c;refine⟨g,qc,ra,rc,e,?_,l⟩;exact Ms}
theorem ef.SM{F X w t}(h:ef F X w t):ef F X (w.s X.eb 7 aM) {t with aA:= []}:=by have a:=ah w X.eb 7 aM;have d:∀b f,aR w b f->f≠94->¬b=X.eb:=fun b f t p e=>by{subst e;exact p (t.eH h.aZ)};have⟨L,M,n,o,O,j,k,m,N⟩:=h.cells;have⟨ra,rc,H,I⟩:=h.row;have⟨D,G,B,C⟩:=h.RX;have⟨y,z,q,r,x⟩:=h.zY;have c:∀b,aR w b 3->¬b=X.eb:=fun b t=>d b _ t ae;exact⟨h.aZ.set,⟨L,M,n,o,aM,j.set 7 _,k.T a c,m.T a c,⟨none,0,[],rfl,VN _ _ _ _,fun i l g=>by simp at g⟩⟩,⟨ra,rc,H,I.T a (fun b t=>d b _ t ae)⟩,⟨D,G,B,C.T a c⟩,⟨y,z,q,r.T a (fun b _ t=>d b _ t ae) c,x⟩,h.IW.T a (fun b t=>d b _ t ae),h.lt,V2 h.bs a.size,h.b1,h.b2,h.b3,h.b4,h.b5,h.v1,h.v2,fun l g=>by simp at g,h.v4⟩
theorem Hv(F:nL)(q:List (List Int))(i:Nat)(a:i<q.length)(t):Rr.fI F (q.drop i) t=Rr.fI F (q.drop (i+1)) (Rr.ay F (q.getD i []) t):=by rw[VT a];have b:q.getD i []=q[i]:=by{simp[a]};rw[b];rfl
theorem lD(F)(P:F.cg=fun l=>(runesBytes l).data.toList)(X w t)(h:ef F X w t)(a0:dZ t)(a2:t.aA.length<=100000):aO 41 #[az X.eb] w fun e z=>e=.returned (.tuple #[])/\ef F X z (Rr.eG F t)/\R (·=X.eb) w z:=by have D:=Y h;have I:=Y a0;have⟨b,n⟩:=b8 (Rr.fI F t.aA t);have S:Rr.eG F t={b with aA:= []}:=by{unfold Rr.eG;rw[n]};rw[S];have L:=Y n;have⟨Q,d⟩:=b8 (t.aA);have M:Hid (∀l∈Q,Vd l/\l.length<=10000000000):=by{rw[<-d];exact h.v3};have g:=Y d;rw[d]at a2;go_enter func41,ntmps41;go_wp21;go_loopg [2] (Q.length+1) (fun k v wr=>∃(i:Nat) (a:Rr.St),v=Z (i:Int)/\Hid (i<=Q.length/\Q.length+1<=i+k)/\Hid (ef F X wr a/\dZ a/\a.aA=Q/\Rr.fI F (Q.drop i) a=b)/\Hid (R (·=X.eb) w wr));(case atStart=>exact ⟨0,t,rfl,⟨E,E⟩,⟨D.o,I.o,g.o,by rw[Wc,<-g.o];exact L.o⟩,R.refl _ _⟩);case round=>obtain⟨i,a,rfl,G,B,j⟩:=hrel;have⟨ac,ad⟩:=G.o;have⟨f,r,x,y⟩:=B.o;have⟨an,ao,aa,ab,am,m,a7,a8,c⟩:=f.cells;have N:=bC m 7;have a9:=fJ m 7;rw[x]at c;by_cases p:i<Q.length;{have W:(i:Int)<(Q.length:Int):=E;obtain⟨qb,qc,ra,rc,rfl,b0,a6⟩:=c.pick i p;have q:=M.o (Q.getD i []) aU;have a1:=gF F P X wr a f r ra rc (Q.getD i []) a6 q.1 q.2;have H:Hid (dZ (Rr.ay F (Q.getD i []) a)/\(Rr.ay F (Q.getD i []) a).aA=Q/\Rr.fI F (Q.drop (i+1)) (Rr.ay F (Q.getD i []) a)=b):=⟨nZ F _ _ r,(wm F _ _).trans x,by rw[<-Hv F Q i p];exact y⟩;generalize Q.getD i []=ln at*;generalize Rr.ay F ln a=a5 at*;go_wp21;refine a1.k fun av ⟨a3,a4⟩=>?_;go_wp2;go_roundg (gk-1);(case measure=>omega);case rel=>exact ⟨i+1,a5,by first|rfl|simp,⟨E,E⟩,⟨a3,H.o⟩,cE j.o a4⟩};{have W:¬(i:Int)<(Q.length:Int):=E;have⟨al,qc,ap,O,_,_⟩:=c;rw[O]at N;have U:a=b:=by{rwa [VO E]at y};have C:Hid (ef F X (wr.s X.eb 7 aM) {b with aA:= []}):=by{rw[<-U];exact f.SM};go_wp2;go_end0;exact⟨rfl,C.o,cE j.o (ah _ _ _ _)⟩}
theorem yg(t)(h:dZ t):dZ (eN t):=by unfold eN Rr.no;split;{split;{intro e;exact absurd (show(9:Int)=0 from e) ae};{exact h}};{exact h}
theorem FI(t):(eN t).aA=t.aA:=by unfold eN Rr.no;split;{split <;> rfl};{rfl}
theorem oJ(F)(i:F.cg=fun l=>(runesBytes l).data.toList)(X w t)(h:ef F X w t)(P:dZ t)(a5:t.aA.length<=100000):aO 65 #[az X.eb] w fun e H=>e=.returned (.tuple #[])/\ef F X H (fY F t)/\R (·=X.eb) w H:=by have s:=vM F X w t h;have j:=yg t P;have a6:=FI t;unfold fY;generalize eN t=a at*;have S:a.aA.length<=100000:=aU;cases z:F.q with|true=>have d:=Y z;rw[if_pos rfl];go_enter func65,ntmps65;go_wp21;refine s.k fun r ⟨b,n⟩=>?_;have⟨C,D,N,O,a1,c,_⟩:=b.cells;have g:=bC c 2;rw[d.o]at g;go_wp21;refine(lD F i X r a b j S).k fun a2 ⟨m,p⟩=>?_;go_wp2;go_end0;exact⟨rfl,m,cE n p⟩|false=>have d:=Y z;rw[if_neg ae];have⟨G,B⟩:=b8 (Rr.ay F a.sp a);rw[B];have L:=Y B;go_enter func65,ntmps65;go_wp21;refine s.k fun r ⟨b,n⟩=>?_;have⟨C,D,N,O,a1,c,a3,_⟩:=b.cells;have g:=bC c 2;have a4:=bC c 5;rw[d.o]at g;have y:=gF F i X r a b j C (a.sp.length+D) a.sp a3 b.v1 b.b1;have x:=nZ F a.sp a j;have U:=wm F a.sp a;rw[L.o]at y x U;have I:Hid (∀f,ef F X f G->_):=fun f M=>lD F i X f G M x aU;go_wp21;refine y.k fun a2 ⟨m,p⟩=>?_;go_wp21;refine(I.o _ m).k fun a7 ⟨W,a0⟩=>?_;go_wp2;go_end0;exact⟨rfl,W,cE (cE n p) a0⟩
def eo:Nat->Nat->List Int
 |0,n=>[48+(n:Int)]
 |f+1,n=>if n<10 then [48+(n:Int)]else eo f (n / 10)++[48+((n % 10:Nat):Int)]
theorem tB:∀a n,(eo a n).length<=a+1
 |0,n=>VM _
 |a+1,n=>by
  unfold eo;split
  ·simp
  ·rw[VE]
   have:=tB a (n / 10);show _+1<=_;omega
theorem ly(w:World)(v):(w.alloc (.cells #[v] 3)).ownsRow w.heap.size 3 1 (bJ w.heap.size 1 1) 1 [v]:=
 ⟨aK,VV ⟨w.heap.size,1,#[v],rfl,VM _,heap_alloc_new _ _,VM _,rK,aK,aK⟩⟩
theorem zU:∀(a n:Nat),n<=a->a<=100000->∀w:World,aO 116 #[Z (n:Int)] w fun e q=>∃ra rc,e=.returned (.slice ra (eo a n).length rc)/\q.ownsRow w.heap.size 3 1 (.slice ra (eo a n).length rc) (eo a n).length ((eo a n).map Z)/\aG w q:=by intro a;induction a with|zero=>intro n F z w;have f:(n:Int)<10:=E;have I:V7.wrap (48+(n:Int))=48+(n:Int):=fF;have x:=ly w (Z (48+(n:Int)));exact Mj|succ a L=>intro n F z w;by_cases g:n<10;{have f:(n:Int)<10:=E;have I:V7.wrap (48+(n:Int))=48+(n:Int):=fF;have x:=ly w (Z (48+(n:Int)));have d:eo (a+1) n= [48+(n:Int)]:=if_pos g;rw[d];exact Mj};{have f:¬(n:Int)<10:=E;have d:eo (a+1) n=eo a (n / 10)++[48+((n % 10:Nat):Int)]:=if_neg g;rw[d];have y:((n / 10:Nat):Int)=(n:Int) / 10:=E;have s:((n % 10:Nat):Int)=(n:Int) % 10:=E;have k:0<=(n:Int) % 10/\(n:Int) % 10<=9:=E;have i:=L (n / 10) E E w;have a1:=tB a (n / 10);rw[s];rw[y]at i;generalize eo a (n / 10)=D at*;have⟨m,j⟩:=b8 ((n:Int) % 10);rw[j]at k;have⟨a3,a4⟩:=k;rw[j];have⟨i0,C,M,N,O⟩:=info_parts eD;go_enter func116,ntmps116;go_wp21;refine i.mono ?_;rintro e c ⟨ra,rc,rfl,l,o⟩;have H:(c.alloc (.cells #[Z (48+m)] 3)).heap.size=c.heap.size+1:=aK;have p:aG c (c.alloc (.cells #[Z (48+m)] 3)):=(R.refl _ c).alloc _;have S:=gp l p;have a5:=o.size;go_wp2_with (at_builtin;refine wpList_append_lies _ aV _ _ _ aV w.heap.size 3 i0 _ 1 8 underlying35 C M N O rfl E (.slice ra D.length rc) D.length (D.map Z) aV S ⟨c.heap.size,0,none⟩ 1 1 [Z (48+m)] aV aV (World.news_of_block (cs:=#[Z (48+m)]) (t:=3) (fr:=(0,0)) (heap_alloc_new _ _)) jq E rK E cr (c.heap.size+1) H ?_;intro W U r G B X a2);have P:aG w r:=o.trans (p.t (R.bT B):R (fun b=>(VH ra D.length rc).ownBlock=some b) c r) (fun _ e=>e) (fun b a0 e=>by have:=(l.lt b e).1;omega);go_wp2;go_ret;exact⟨_,_,by rw[VE];rfl,by rw[VE,VX];exact G,P⟩}
end
section
open Go.RowKit
def qn(l:List Int):List UInt8:=(runesBytes l).data.toList
theorem DB(a b):qn (a++b)=qn a++qn b:=by have key:∀(l:List Int) (c:ByteArray),(l.foldl (fun r n=>r++V8 n) c).data.toList=c.data.toList++(l.foldl (fun r n=>r++V8 n) V9).data.toList:=by{intro l;induction l with|nil=>intro c;simp|cons r l d=>intro c;rw[VY,VY,d,d (V9++V8 r)];simp};unfold qn runesBytes;rw[List.foldl_append];exact key b _
theorem Px(a n)(h:n<10+a):qn (eo a n)=V0 n:=by have b:∀m:Nat,m<10->qn [48+(m:Int)]= [UInt8.ofNat (48+m)]:=by{decide+kernel};induction a generalizing n with|zero=>unfold V0;rw[dif_pos E];exact b n E|succ a d=>unfold V0 eo;by_cases c:n<10;{simp_all};{rw[if_neg c,dif_neg c,DB,d (n / 10) E,b (n % 10) E]}
theorem Ki(w k os):R (fun _=>False) w (Go.Sort.grow (w.drewN k) os):=
 ((R.refl _ w).drewN k).t ⟨rfl,rfl,rfl,by simp[Go.Sort.grow],fun i a _=>by simp only[Go.Sort.grow];rw[Array.getElem?_append_left a]⟩
def O7(w:World):Prop:=Lib.TabIs prog w "internal/strconv.uint64pow10" .u64 Lib.pow10Tab
theorem O7.T{S w a}(h:O7 w)(f:R S w a)(d:¬S 3):O7 a:=by have b:prog.globalNamed "internal/strconv.uint64pow10"=some 3:=bK;unfold O7 Lib.TabIs World.var? at*;rw[b]at h ⊢;have c:3<w.heap.size:=by{grind};simp at h ⊢;rwa [f.block 3 c d]
theorem Sq(X eb w s){F r D G x qc}(h:EV X eb w s F G r x D qc)(z:O7 w)(g i)(M:w.c g i=some (.int .i32 61)):aO 96 #[az eb,.pointer (some ⟨g,i,none⟩)] w (kT X eb w (Er.ay (qn (eo 100000 s.aI)) s)):=by have⟨H,a⟩:=gz (kT X eb w (Er.ay (qn (eo 100000 s.aI)) s));rw[<-a];have n:=Y a;have I:=h.b3;have L:=h.b4;have eW:=Tryz.strconv_Itoa s.aI E E w z;have q:Lib.itoa (s.aI:Int)=qn (eo 100000 s.aI):=by{unfold Lib.itoa;rw[if_neg E,VP,Px _ _ E]};rw[q]at eW;have y:(qn (eo 100000 s.aI)).length<=5000000000:=by{have:=fB (eo 100000 s.aI);have:=tB 100000 s.aI;unfold qn;rw[Array.length_toList];show(runesBytes (eo 100000 s.aI)).size<=5000000000;omega};have N:=(h.ed.get 3 E _ rfl).1;have o:=Y h;generalize qn (eo 100000 s.aI)=t at*;obtain⟨l,b⟩:∃l:ByteArray,(⟨t.toArray⟩:ByteArray)=l:=⟨_,rfl⟩;have p:=Y b;rw[b]at eW;clear a b;go_enter func96,ntmps96;go_wp21;refine eW.k fun m ⟨k,os,f⟩=>?_;have j:aG w m:=by{rw[f];exact Ki w k os};have d:=iA X eb m s (o.o.quiet j) t y;rw[p.o]at d;clear eW f;go_wp21;refine d.mono ?_;rintro e O ⟨⟨v2,rfl⟩,B,C⟩;go_wp2;go_end0;rw[n.o];exact⟨⟨_,rfl⟩,⟨_,_,_,_,_,_,B⟩,(j.mono (fun _ _ e=>e.elim)).t (qX C)⟩
theorem Cu(a d f w b)(z:w.c d f=some b)(s:fK w b a)(y:a.length<=1000)(q:∀x∈a,x.dG.length<=1000)(ra rc sp)(B:cU w ra sp)(i:sp.length<=1000000):aO 161 #[.pointer (some ⟨d,f,none⟩),.slice ra sp.length rc] w fun e G=>e=.returned (.bool (decide (bD (eZ sp a) 0≠ -1)))/\aG w G:=by have eb:(decide (bD (eZ sp a) 0≠ -1))= !(bD (eZ sp a) 0== -1):=cr;rw[eb];have⟨r,j⟩:=b8 (bD (eZ sp a) 0);rw[j];have l:=Y j;go_enter func161,ntmps161;go_wp21;refine(ub a d f w b z s y q ra rc sp B i).mono ?_;rintro e H ⟨F,m,aq,rfl,p,n,C,I,L⟩;have g:=jJ F m aq a.length sp.length b ra rc (gO sp a) H p n (eZ sp a) (mG sp a) (fun t _=>n7 sp a t) i 0 E;rw[l.o]at g;go_wp21;refine g.k fun M ⟨D,_⟩=>?_;go_wp2;go_ret;exact⟨by first|rfl|simp,C.t D⟩
structure QA(w:World)(ab o:Nat)(a:A.Ad):Prop where
 k:w.cell? ⟨ab,o,none⟩=some (.int .i64 a.aF)
 n:w.cell? ⟨ab,o+1,none⟩=some (.int .i64 a.number)
 i:∃iv,w.cell? ⟨ab,o+2,none⟩=some iv/\fK w iv a.fk.aH
theorem QA.quiet{w d b c a}(h:QA w b c a)(u:aG w d):QA d b c a:=by have⟨g,f,i2⟩:=h.i;exact⟨u.T h.k id,u.T h.n id,g,u.T f id,i2.T u (fun _ _=>id) (fun _ _=>id)⟩
def Fq(a:A.Ad):Prop:=(a.aF=0\/a.aF=1\/a.aF=2)/\a.fk.aH.length<=1000/\∀x∈a.fk.aH,x.dG.length<=1000
theorem oZ(F X)(r:F.aT.length=X.aT.length)(eb w s){p x M q y qc}(h:EV X eb w s p q x y M qc)(H:s.sp.length<=1000000)(g j a)(m:QA w g j a)(G:Fq a):aO 123 #[az eb,.pointer (some ⟨g,j,none⟩)] w fun e N=>e=.returned (.bool (eE F a s))/\aG w N:=by have S:=(h.ed.get 3 E _ rfl).1;have⟨c,C,z⟩:=G;have l:=m.k;rcases c with c|c|c;{have P:=m.n;have d:eE F a s=((s.aI:Int)==a.number):=by{unfold eE;rw[if_pos c,Wa];simp};rw[d];rw[c]at l;go_enter func123,ntmps123;exact IJ};{have d:eE F a s= !decide ((s.aI:Int)<X.aT.length):=by{unfold eE;rw[if_neg E,if_pos c,r,Wa];simp};have D:=oY X eb w s h;rw[d];rw[c]at l;generalize decide ((s.aI:Int)<X.aT.length)=b at*;go_enter func123,ntmps123;go_wp21;refine D.k fun O o=>?_;go_wp2;go_ret;exact⟨rfl,o⟩};{have d:eE F a s=decide (bD (eZ s.sp a.fk.aH) 0≠ -1):=by{unfold eE;rw[if_neg E,if_neg E]};have⟨L,I,i2⟩:=m.i;have U:=(h.ed.get 4 E _ rfl).1;have f:aG w w.drew:=(R.refl _ w).drew;have B:=Cu a.fk.aH g (j+2) w.drew L (f.T I id) (i2.T f (fun _ _=>id) (fun _ _=>id)) C z p q s.sp (h.sp.sl.jw.T f (fun _ _=>id)) H;rw[d];rw[c]at l;generalize decide (bD (eZ s.sp a.fk.aH) 0≠ -1)=b at*;go_enter func123,ntmps123;go_wp21;go_region_with (go_at_call 161;refine B.mono ?_;rintro e O ⟨rfl,o⟩);all_goals(go_wp2;go_ret;exact⟨rfl,f.t o⟩)}
theorem r7(X eb w s){p j o q l qc}(h:EV X eb w s p q j l o qc)(d f a)(i:QA w d f a)(m:Fq a):aO 125 #[az eb,.pointer (some ⟨d,f,none⟩)] w fun e r=>e=.returned (.bool (eJ a s))/\aG w r:=by have x:=(h.ed.get 3 E _ rfl).1;have g:=i.k;have t:=i.n;by_cases b:a.aF=0;{have c:eJ a s=decide (a.number<=(s.aI:Int)):=by{unfold eJ;exact decide_eq_decide.2 ⟨fun e=>e.2,fun e=>⟨b,e⟩⟩};rw[c];rw[b]at g;go_enter func125,ntmps125;exact IJ};{have c:eJ a s=false:=by{unfold eJ;exact decide_eq_false (fun e=>b e.1)};rw[c];rcases m.1 with e|e|e;{omega};all_goals(rw[e]at g;go_enter func125,ntmps125;exact IJ)}
theorem zV(F X)(p:F.aT.length=X.aT.length)(eb w s){B q z C r qc}(h:EV X eb w s B C q r z qc)(x:s.sp.length<=1000000)(c d a)(i:QA w c d a)(j:Fq a):aO 124 #[az eb,.pointer (some ⟨c,d,none⟩)] w fun e D=>e=.returned (.bool (eJ a s || eE F a s))/\aG w D:=by have f:=r7 X eb w s h c d a i j;have o:=fun u (m:aG w u)=>oZ F X p eb u s (h.quiet m) x c d a (i.quiet m) j;cases l:eJ a s with|true=>rw[l]at f;rw[Bool.true_or];go_enter func124,ntmps124;go_wp21;refine f.k fun n g=>?_;go_wp2;go_ret;exact⟨rfl,g⟩|false=>rw[l]at f;rw[Bool.false_or];generalize eE F a s=b at*;go_enter func124,ntmps124;go_wp21;refine f.k fun n g=>?_;go_wp21;refine(o n g).k fun G y=>?_;go_wp2;go_ret;exact⟨rfl,g.t y⟩
end
section
open Go.RowKit
attribute [local go_sem ↓] Go.wp_at_zero Go.wp_at_succ
theorem mM.kP{w g o c}(h:mM w g o c){a i}(r:c.bN=a::i):∃f l,w.cell? ⟨g,o+1,none⟩=some (.slice (some ⟨f,0,none⟩) (i.length+1) l)/\QA w f 0 a/\∀b n,i=b::n->QA w f 4 b:=by have⟨y,D,F,z,G,p,q⟩:=h.ij;have⟨j,m,d⟩:=q.a;rw[r]at m d;rcases m.2 with ⟨_,e⟩ |⟨f,l,bI,rfl,_,s,_,_,C,t⟩;{simp at e};{match j,d with|i0::j,d=>have key:∀k v,k<(i.length+1)*4->(jf (a::i) (i0::j))[k]? =some v->w.cell? ⟨f,k,none⟩=some v:=by{intro k v B x;rw[cell_of_row _ f k bI _ (0,0) s];rwa [<-t,V1,if_pos E,Array.getElem?_toList]at x};refine⟨f,l,(p 1 _ rfl),⟨key 0 _ E rfl,key 1 _ E rfl,i0,key 2 _ E rfl,d.1⟩,fun b n e=>?_⟩;subst e;match j,d with|i1::j,d=>simp at key;exact⟨key 4 _ E rfl,key 5 _ E rfl,i1,key 6 _ E rfl,d.2.1⟩}
theorem EV.sL{w eb X s F r D G x qc}(h:EV X eb w s F G r x D qc){ob c}(O:X.ov=.slice (some ⟨ob,0,none⟩) s.ai.length c)(L:ob<eb)(M:X.lo<=ob)(B:aR w ob 4)(i:∀k b,s.ai[k]? =some b->w.cell? ⟨ob,k,none⟩=some (.bool b)/\w.frozen? ⟨ob,k,none⟩=false)(at_)(t:at_<s.ai.length)(b):EV X eb (w.setCell ⟨ob,at_,none⟩ (.bool b)) {s with ai:=s.ai.set at_ b} F G r x D qc:=by have g:=ah w ob at_ (.bool b);have n:∀ {j:Nat} {o:TypeId},aR w j o->o≠4->¬j=ob:=fun f P e=>by{subst e;exact P (f.eH B)};have m:=Field.setCell w ob at_ (.bool b);have C:∀ {a:Option Addr} {c:Nat} {l:List Int},jH w (eb+1) a c l->jH (w.s ob at_ (.bool b)) (eb+1) a c l:=fun {a c l} z=>z.T g (fun b k e=>n (z.aZ e).1 ae);refine⟨h.ed.T g (n h.ed.aZ ae) (fun j f=>n f ae),C h.sp,C h.aS,h.eO,ax h.aA g (fun j f=>n (aR.aJ h.aA f) ae),?_,VV ⟨ob,c,by rw[O,VZ],L,M,B.setCell _ _,fun k v d=>?_⟩,h.b1,h.b2,h.b3,h.b4,h.b5,h.b6,h.b7⟩;{rcases h.aT with e |⟨lb,e,H,I,p⟩;{exact VG e};{by_cases y:X.aT= [];{exact VG y};{have q:=p 0 (List.length_pos_iff.2 y);have N:lb≠ob:=fun e=>by{rw[e,((i 0 _ (VK E)).1)]at q;cases q};exact VV ⟨lb,e,H,Nat.lt_of_lt_of_le I g.size,fun k d=>g.T (p k d) N⟩}}};{by_cases e:k=at_;{subst e;rw[VW t]at d;cases d;have:=i k _ (VK t);exact⟨World.cell?_setCell_same _ _ _ this.1,(m.cY k).trans this.2⟩};{rw[VI (Ne.symm e)]at d;exact⟨(m.dK k e).trans (i k v d).1,(m.cY k).trans (i k v d).2⟩}}
def Uj(X:A.Fx)(eb:Nat)(w:World)(m:Bool×Er.St)(g:Option Addr)(i:Nat)(c:Option Addr)(d:Nat)(f:Option Addr)(qc:Nat)(e:Ending)(a:World):Prop:=
 e=.returned (.bool m.1)/\EV X eb a m.2 g i c d f qc/\R (fun b=>b<eb/\X.lo<=b) w a
theorem B1(F X)(a1:F.aT.length=X.aT.length)(eb w s){M G L N H qc}(h:EV X eb w s M N G H L qc)(a5:s.sp.length<=1000000)(g n cD at_)(bk:X.cv=bJ g n cD)(bh:at_<n)(bs:n<=500)(c)(a0:mM w g (at_*14) c)(l:∀a∈c.bN,Fq a)(bb:c.bN.length<=2)(a4:s.ai.length=n):aO 95 #[az eb,Z at_] w (Uj X eb w (Er.cR F c.bN at_ s) M N G H L qc):=by have⟨b6,z⟩:=gz (Uj X eb w (Er.cR F c.bN at_ s) M N G H L qc);rw[<-z];have l3:=Y z;have av:=(h.ed.get 0 E _ rfl).1;rw[bk]at av;match hc1:c.bN,bb,l with|[],_,_=>have⟨b7,S,ab⟩:=a0.m.bN;rw[hc1]at ab;rw[l3.o,hc1];exact(SD eb g n cD at_ w av bh bs b7 S ab).mono (fun e q ⟨B,bv⟩=>by rw[bv];exact⟨B,h,R.refl _ _⟩)|[a],_,l=>have⟨i,S,be,W,_⟩:=a0.kP hc1;rw[l3.o,hc1];have bi:=oZ F X a1 eb w s h a5 i 0 a W (l a aK);have b1:=Y h;have⟨m,a2⟩:=gz (Er.cR F [a] at_ s);rw[<-a2];have bm:m.1=eE F a s:=by{rw[a2];rfl};have bp:m.2=s:=by{rw[a2];rfl};have b4:=Y bm;have b5:=Y bp;have⟨b6,z⟩:=gz (Uj X eb w m M N G H L qc);rw[<-z];have l3:=Y z;generalize eE F a s=b at*;go_enter func95,ntmps95;go_wp21;refine bi.k fun r d=>?_;go_wp2;rw[l3.o];refine⟨by rw[b4.o];rfl,by rw[b5.o];exact b1.o.quiet d,d.mono (fun _ _ e=>e.elim)⟩|[a,b2],_,l=>have⟨i,S,be,W,bc⟩:=a0.kP hc1;have aa:=bc b2 [] rfl;have bx:=l a aK;have ap:=l b2 aK;obtain⟨ob,c0,an,a7,a8,b9,x⟩:∃ob c,X.ov=bJ ob s.ai.length c/\ob<eb/\X.lo<=ob/\aR w ob 4/\∀k b,s.ai[k]? =some b->w.c ob k=some (.bool b)/\w.frozen? ⟨ob,k,none⟩=false:=by{rcases h.ai with e|e;{rw[e]at a4;simp at a4;omega};{exact e}};have I:=(h.ed.get 7 E _ rfl).1;rw[an,a4]at I;have ac:at_<s.ai.length:=E;have a3:=VK ac;have p:=(x at_ _ a3).1;have a9:=(x at_ _ a3).2;have a6:aG w w.drew:=(R.refl _ w).drew;have ao:=fun (u:World) (f:aG w u) (b:Bool)=>(h.quiet f).sL (w:=u) an a7 a8 (b9.T f id) (fun k b j=>⟨f.T (x k b j).1 id,f.aE (x k b j).1 (x k b j).2 id⟩) at_ ac b;have al:=fun (u:World) (f:aG w u) (b:Bool)=>(f.trans (ah u ob at_ (.bool b)) (fun _ e=>e.elim) (fun c1 _ e=>by subst e;exact⟨a7,a8⟩):R (fun b=>b<eb/\X.lo<=b) w (u.s ob at_ (.bool b)));have bl:s.ai.getD at_ false=s.ai[at_]:=by{rw[VJ,a3];rfl};have bq:Er.cR F c.bN at_ s=(if s.ai[at_]then (true,{s with ai:=s.ai.set at_ (!(eJ b2 s || eE F b2 s))})else if eE F a s then (true,{s with ai:=s.ai.set at_ (!eJ b2 s)})else (false,s)):=by{rw[hc1];unfold Er.cR;simp only;rw[bl]};rw[bq]at l3;cases am:s.ai[at_]with|true=>rw[am]at p l3;simp only[if_true]at l3;have U:aO 124 #[az eb,.pointer (some ⟨i,4,none⟩)] w.drew fun e q=>e=.returned (.bool (eJ b2 s || eE F b2 s))/\aG w q:=(zV F X a1 eb w.drew s (h.quiet a6) a5 i 4 b2 (aa.quiet a6) ap).mono (fun e q ⟨B,j⟩=>⟨B,a6.t j⟩);generalize (eJ b2 s || eE F b2 s)=y at*;have P:=Y ao;have O:=Y al;go_enter func95,ntmps95;go_wp21;go_region_with (go_at_call 124;refine U.mono ?_;rintro e r ⟨rfl,d⟩;have bz:=d.T I id;have bE:=d.T p id;have bA:=d.aE p a9 id);all_goals(have bw:=P.o r d (!y);have hl:=O.o r d (!y);exact Nj)|false=>rw[am]at p l3;simp at l3;have D:=oZ F X a1 eb w s h a5 i 0 a W bx;cases ad:eE F a s with|true=>rw[ad]at D l3;simp only[if_true]at l3;have U:∀u:World,aG w u->aO 125 #[az eb,.pointer (some ⟨i,4,none⟩)] u.drew fun e q=>e=.returned (.bool (eJ b2 s))/\aG w q:=fun u f=>(r7 X eb u.drew s (h.quiet f.drew) i 4 b2 (aa.quiet f.drew) ap).mono (fun e q ⟨B,j⟩=>⟨B,f.drew.t j⟩);generalize eJ b2 s=y at*;have P:=Y ao;have O:=Y al;go_enter func95,ntmps95;go_wp21;refine D.k fun r d=>?_;have ba:=U r d;have c2:=d.T I id;go_wp21;go_region_with (go_at_call 125;refine ba.mono ?_;rintro e b0 ⟨rfl,C⟩;have bz:=C.T I id;have bE:=C.T p id;have bA:=C.aE p a9 id);all_goals(have bw:=P.o b0 C (!y);have hl:=O.o b0 C (!y);exact Nj)|false=>rw[ad]at D l3;simp at l3;have b3:=Y h;go_enter func95,ntmps95;go_wp21;refine D.k fun r d=>?_;go_wp2;rw[l3.o];exact⟨rfl,b3.o.quiet d,d.mono (fun _ _ e=>e.elim)⟩
def U9(w:World)(eb:Nat)(c:fZ)(sp:List Int)(f:List Value)(out:List UInt8)(a:World):Prop:=
 R (fun b=>b=eb\/(aR w b 5/\eb<=b)) w a/\((eW sp c=false/\Ed a eb f out)\/
 (eW sp c=true/\∃d c',a.ownsRow w.heap.size 21 1 (.slice d (A.subst sp c).length c') (A.subst sp c).length ((A.subst sp c).map (.int .i32))/\
   Ed a eb (((f.set 4 (.slice d (A.subst sp c).length c')).set 8 (.bool true)).set 15 (.int .i64 (if c.ay then SK 0 out (runesBytes (A.subst sp c))else 0))) (if c.ay then Ub 0 out (runesBytes (A.subst sp c))else out)))
theorem zz(c cb B eb w)(b6:rM w cb B c)(ra rc sp W out)(f6:Ed w eb W out)(gn:W[4]? =some (.slice ra sp.length rc))(fp)(go:W[8]? =some (.bool fp))(hO:W[15]? =some (.int .i64 0))(b9:Sl w ra sp)(hc:sp.length<=rc)(mb:c.fk.aH.length<=1000)(m4:∀q∈c.fk.aH,q.dG.length<=1000)(mf:sp.length<=1000000)(m6:∀q∈c.fk.aH,1<=q.bF/\q.bF<=9\/(q.aF≠2/\q.aF≠3))(mm:c.cx.length<=1000)(mk:uh sp c.dc c.all c.cx (dw sp c.fk.aH) 0 0 [])(j3:out.length+(runesBytes (A.subst sp c)).size<=10000000000):
 CallsIn Fence.wide 0 prog 135 #[.pointer (some ⟨eb,0,none⟩),.pointer (some ⟨cb,B,none⟩)] w fun e nc=>(∃v,e=.returned v)/\U9 w eb c sp W out nc:=by
 have L:=f6.aZ;have g5:Hid (Ed w eb W out):=f6;have kp:=Y j3;clear j3;obtain⟨be,bx,bw,gN,hM,hN⟩:=f6.cells;have fa:((W.set 13 be).set 14 (.slice bx out.length bw))[4]? =some (.slice ra sp.length rc):=by rw[VI E,VI E];exact gn
 have j1:((W.set 13 be).set 14 (.slice bx out.length bw))[8]? =some (.bool fp):=by rw[VI E,VI E];exact go
 have g2:Hid ((be=.pointer none\/be=.pointer (some ⟨eb,13,none⟩))/\w.ownsRow eb 5 1 (.slice bx out.length bw) out.length (Lib.byteCells out)):=⟨hM,hN⟩;have kf:Hid (W[4]? =some (.slice ra sp.length rc)/\W[8]? =some (.bool fp)/\W[15]? =some aB):=⟨gn,go,hO⟩;have hE:Hid (∃l,l=(W.set 13 be).set 14 (.slice bx out.length bw)):=⟨_,rfl⟩;clear f6 hM hN gn go hO;obtain⟨l,ha⟩:=hE.o;rw[<-ha]at gN fa j1;have kk:Hid (l=(W.set 13 be).set 14 (.slice bx out.length bw)):=ha;clear ha hE;obtain⟨nm,h5⟩:=gz (U9 w eb c sp W out);rw[<-h5];have g8:=Y h5;clear h5;have dN:w.cell? ⟨eb,4,none⟩=some (.slice ra sp.length rc):=(gN 4 _ fa).1;obtain⟨n3,n2,i2⟩:=b6.aH;refine callsIn_of_wp_marks func135 rfl trivial ?_ rfl;simp only[ntmps135,VQ,V5,Wb,Nat.reduceAdd,Nat.reduceSub,Array.replicate_succ,Array.replicate_zero,List.push_toArray,List.append_toArray,List.nil_append,List.cons_append]
 gi_wp2
 have hq:aG w ((((((w.alloc (.cells #[az eb] 98)).alloc (.cells #[.pointer (some ⟨cb,B,none⟩)] 190)).alloc (.cells #[aM] 103)).alloc (.cells #[aB] 3)).alloc (.cells #[aB] 3)).alloc (.cells #[.bool false] 4)):=((((((R.refl _ w).alloc _).alloc _).alloc _).alloc _).alloc _).alloc _;have f4:ke ((((((w.alloc (.cells #[az eb] 98)).alloc (.cells #[.pointer (some ⟨cb,B,none⟩)] 190)).alloc (.cells #[aM] 103)).alloc (.cells #[aB] 3)).alloc (.cells #[aB] 3)).alloc (.cells #[.bool false] 4)) w.heap.size eb cb B none 0 0 0 0 false:=Ju w eb cb B;have n0:((((((w.alloc (.cells #[az eb] 98)).alloc (.cells #[.pointer (some ⟨cb,B,none⟩)] 190)).alloc (.cells #[aM] 103)).alloc (.cells #[aB] 3)).alloc (.cells #[aB] 3)).alloc (.cells #[.bool false] 4)).heap.size=w.heap.size+6:=aK
 try dsimp only[World.s]at*
 generalize ((((((w.alloc (.cells #[az eb] 98)).alloc (.cells #[.pointer (some ⟨cb,B,none⟩)] 190)).alloc (.cells #[aM] 103)).alloc (.cells #[aB] 3)).alloc (.cells #[aB] 3)).alloc (.cells #[.bool false] 4))=dn at*
 have bb:aG w dn.drew:=hq.drew;have dk:=f4.c0;have fo:=f4.c1;have hw:=hq.T dN id;have hL:=Ab cb B ra sp.length rc dn.drew;refine wpIn_wide.2 ?_
 go_region_held3 (fun u=>u.cell? ⟨w.heap.size,0,none⟩=some (az eb)/\u.cell? ⟨w.heap.size+1,0,none⟩=some (.pointer (some ⟨cb,B,none⟩))/\u.cell? ⟨eb,4,none⟩=some (.slice ra sp.length rc)) (first|exact⟨dk,fo,hw⟩|exact⟨js,jv,k1⟩) ((go_at_call 164;refine hL.mono ?_;clear hL;rintro e d ⟨hJ,hK,rfl,la,lc,le,gl,bp⟩;have js:=bp.T (p:=⟨w.heap.size,0,none⟩) dk id;have jv:=bp.T (p:=⟨w.heap.size+1,0,none⟩) fo id;have k1:=bp.T (p:=⟨eb,4,none⟩) hw id))
 have o9:d.heap.size=d.heap.size:=rfl;have fn:aG w d:=bb.t bp;have lw:=(f4.T (S:=fun _=>False) (((R.refl _ dn).drew).t bp) (fun _ _ _=>id))
 have b4:w.heap.size+5<d.heap.size:=by
  have:=bp.size;have e:dn.drew.heap.size=dn.heap.size:=rfl;omega
 have m8:=fn.T n2 id;have m9:=i2.T fn (fun _ _=>id) (fun _ _=>id);have mp:=b9.T fn (fun _ _ _=>id);clear js jv k1 dk fo hw bb hq f4 n0 bp le gl
 try dsimp only[World.s]at*
 generalize c3:dw sp c.fk.aH=X at*
 have z:∀ {b:Nat} {b0:TypeId},aR w b b0->b0≠258->¬False:=fun _ _ cm=>cm
 gi_wp2
 rename_i nl kw h1 hHeld0
 clear hHeld0;obtain⟨dr,b5⟩:∃dr:List (List Int)->World->Prop,Hid (∀pre m,dr pre m↔∃k x F a g c',SI w m w.heap.size d.heap.size eb cb B pre.length k x F a g c'/\dU sp c.dc c.all c.cx X 0 0 [] false=dU sp c.dc c.all c.cx (X.drop pre.length) pre.length k x F/\uh sp c.dc c.all c.cx (X.drop pre.length) pre.length k x):=⟨fun pre m=>∃k x F a g c',SI w m w.heap.size d.heap.size eb cb B pre.length k x F a g c'/\dU sp c.dc c.all c.cx X 0 0 [] false=dU sp c.dc c.all c.cx (X.drop pre.length) pre.length k x F/\uh sp c.dc c.all c.cx (X.drop pre.length) pre.length k x,fun _ _=>Iff.rfl⟩;obtain⟨ds,cn⟩:∃ds:Code->List (List Int)->World->Prop,Hid (∀bz pre m,ds bz pre m↔∃k x F a g c',SI w m w.heap.size d.heap.size eb cb B pre.length k x F a g c'/\dU sp c.dc c.all c.cx X 0 0 [] false=(k,x,F)/\bz=.exit 0/\x.length<=1000000000/\k<=sp.length):=⟨fun bz pre m=>∃k x F a g c',SI w m w.heap.size d.heap.size eb cb B pre.length k x F a g c'/\dU sp c.dc c.all c.cx X 0 0 [] false=(k,x,F)/\bz=.exit 0/\x.length<=1000000000/\k<=sp.length,fun _ _ _=>Iff.rfl⟩
 refine Kx (α:=List Int) (S:=fun ys=>ys=X) (Sp:=fun pre=>pre <+:X/\pre≠ []) (Ok:=fun pre=>pre <+:X) (Kp:=zJ d.heap.size) (gf:=190) (lb:=#[az hJ,az hK]) GW (enters_of func190 bK rfl) (encs:=fun q=>#[.agg (q.map Z).toArray]) (fun _=>rfl) 258 ?_ (fun h k=>h.trans k) (fun m r a2 h=>zJ.put a2 h)
  dr ds
  ?_ ?_ ?_ ?_ ?_ ?_
 ·intro l J kv m c2 ln lo lv lk
  have:=Ea c.fk.aH sp cb B n3 ra rc mb m4 mf m6 hJ hK l J kv d.heap.size ln lo (by rw[c3];exact lv) m c2.size (c2.T la id) (c2.T lc id) (c2.T m8 id) (m9.T c2 (fun _ _=>id) (fun _ _=>id)) (mp.jw.T c2 (fun _ _=>id)) lk;rw[c3]at this;exact this
 ·rintro s m l1 he hb
  obtain⟨k,x,F,a,g,c',G,a0,cm⟩:=(b5.out _ _).1 he;exact(b5.out _ _).2 ⟨k,x,F,a,g,c',G.zX rfl b4 hb,a0,cm⟩
 ·rintro bz s m l1 he hb
  obtain⟨k,x,F,a,g,c',G,a0,cm⟩:=(cn.out _ _ _).1 he;exact(cn.out _ _ _).2 ⟨k,x,F,a,g,c',G.zX rfl b4 hb,a0,cm⟩
 ·refine(b5.out _ _).2 ⟨0,[],false,none,0,0,⟨lw,VN _ _ _ _,rfl,fun b f=>by simp[Value.ownBlock]at f,fn.mono (fun _ _ e=>e.elim)⟩,?_,?_⟩
  ·simp
  ·simpa using mk
 ·rintro pre q m r bi mn j0
  obtain⟨k,x,F,a,g,c',ac,a6,c6⟩:=(b5.out _ _).1 bi;clear bi;obtain⟨ob,jn⟩:=mn
  have m2:X.drop pre.length=q::X.drop (pre.length+1):=by
   rw[<-jn];simp[V3,List.drop_append]
  rw[m2]at a6 c6;unfold uh at c6;obtain⟨hi,md,d1,io,d0,f7⟩:=c6;have nC:d.heap.size+1<m.heap.size:=(VF.1 j0).1;have h3:=fg.cG m;have iv:(prog.info? 219).map (·.size)=some 20:=bK;have it:(prog.info? 219).map (·.size)=some (q.map (V6 .i64)).toArray.size:=by rw[VQ,VS,hi];exact iv
  have hj:((q.map (V6 .i64)).toArray.all (·.oneCell'))=true:=all_oneCell_toArray GN;have hh:=h3.there;rw[show (20:Nat)=(q.map (V6 .i64)).toArray.size by rw[VQ,VS,hi]]at hh;have hD:=Y it;have hH:=Y hh;clear it hh iv;simp only[List.zip_toArray,List.zip_cons_cons,List.zip_nil_right,VQ,List.foldl_toArray',VY,List.foldl_nil,List.setIfInBounds_toArray,List.set_cons_zero,List.set_cons_succ];refine gX rfl (fun⟨_,_,h⟩=>h) ?_;go_wp2_with (refine wpList_store_mid aV 219 _ _ aV m.heap.size 0 (q.map (V6 .i64)).toArray aV aV hH.o hD.o hj ?_);have ad:=h3.store q hi
  have bq:aG m ((m.alloc (.cells dL 219)).setCells m.heap.size 0 (q.map Z)):=by
   refine((R.refl _ m).alloc _).trans (gM m.heap.size _ _ 0) (fun _ e=>e) (fun b f e=>E)
  unfold dL at ad bq
  try dsimp only[World.s]at*
  generalize ((m.alloc (.cells _ 219)).setCells m.heap.size 0 (q.map Z))=dz at*
  refine⟨⟨bq.block _ E id,bq.block _ E id⟩,zJ.quiet bq,fun r'=>?_⟩;have a5:=j4 dz (d.heap.size+1) (.loop r');have h2:=ad.T a5 E;have c7:=ac.zX rfl b4 ((bq.trans a5 (fun _ e=>e.elim) (fun _ _ e=>VV (VV e)):R (fun b=>(aR m b 258/\d.heap.size<=b)\/b=d.heap.size\/b=d.heap.size+1) m _));have hg:d.heap.size+1<(dz.putObj (d.heap.size+1) (.loop r')).heap.size:=by have:=bq.size;simp;omega
  have o4:m.heap.size<(dz.putObj (d.heap.size+1) (.loop r')).heap.size:=h2.aZ.lt;clear ac bq a5 ad h3 hD hH hj j0
  try dsimp only[World.s]at*
  generalize dz.putObj (d.heap.size+1) (.loop r')=U at*
  try dsimp only[World.s]at*
  generalize nt:m.heap.size=cc at*
  have o1:pre.length+1<=2000003:=by
   have G:=A.jY sp c.fk.aH;rw[c3,<-jn]at G;simp only[VE,V5,Wb]at G;omega
  have o5:V7.wrap ((pre.length:Int)+1)=(pre.length:Int)+1:=fF;have l3:=c7.box.c4;have gj:=c7.box.f4;refine wpIn_block ?_;refine wpIn_seq_k fun nd nu=>?_;refine gX rfl (fun⟨_,_,h⟩=>h) ?_;go_wp2;clear l3 gj;obtain⟨d4,k2⟩:=c7.jM rfl b4 (ah U (w.heap.size+1+1+1+1) 0 (Z ((pre.length:Int)+1))) E E (VG c7.box.t4) (c7.box.Ah ((pre.length:Int)+1));have i4:=h2.T (ah U (w.heap.size+1+1+1+1) 0 (Z ((pre.length:Int)+1))) E;have gb:=(ah U (w.heap.size+1+1+1+1) 0 (Z ((pre.length:Int)+1))).block;have kc:(U.setCell ⟨w.heap.size+1+1+1+1,0,none⟩ (Z ((pre.length:Int)+1))).heap[d.heap.size]? =U.heap[d.heap.size]? /\(U.setCell ⟨w.heap.size+1+1+1+1,0,none⟩ (Z ((pre.length:Int)+1))).heap[d.heap.size+1]? =U.heap[d.heap.size+1]? :=⟨gb _ E E,gb _ E E⟩;clear gb h2 c7
  try dsimp only[World.s]at*
  generalize U.setCell ⟨w.heap.size+1+1+1+1,0,none⟩ (Z ((pre.length:Int)+1))=b1 at*
  have h7:=b6.T d4.only (fun b f=>z f ae) (fun b f=>z f ae) (fun b f=>z f ae) (fun b f=>z f ae);have j:(fun u:World=>u.cell? ⟨w.heap.size+1+1+1+1,0,none⟩=some (Z ((pre.length:Int)+1))/\u.cell? ⟨w.heap.size+1,0,none⟩=some (.pointer (some ⟨cb,B,none⟩))/\u.cell? ⟨cb,B+5,none⟩=some (Z c.dc)) b1.drew:=⟨d4.box.c4,d4.box.c1,h7.dc⟩;refine wpIn_seq_k fun kB hZ=>?_;refine wpIn_seq_k fun kF i0=>?_;refine jR bK rfl (fun⟨_,_,h⟩=>h) ?_;refine wpAny_of_held (S:=fun u:World=>u.cell? ⟨w.heap.size+1+1+1+1,0,none⟩=some (Z ((pre.length:Int)+1))/\u.cell? ⟨w.heap.size+1,0,none⟩=some (.pointer (some ⟨cb,B,none⟩))/\u.cell? ⟨cb,B+5,none⟩=some (Z c.dc)) _ _ _ _ ?_;refine wpAnyH_take (i:=0) (v:= ?_) rfl bK bK bK (fun _ _ _ h=>h) (VG ⟨aV,?_⟩) j ?_
  rotate_left
  ·exact mC
  dsimp only[Act.put];refine wpAnyH_take (i:=1) (v:= ?_) rfl bK bK bK (fun _ _ _ h=>h) (VG ⟨aV,?_⟩) j ?_
  rotate_left
  ·exact mC
  dsimp only[Act.put];refine wpAnyH_take (i:=2) (v:= ?_) rfl bK bK bK (fun _ _ _ h=>h) (VG ⟨aV,?_⟩) j ?_
  rotate_left
  ·exact mC
  dsimp only[Act.put];refine wpAnyH_take (i:=3) (v:= ?_) rfl bK bK bK (fun _ _ _ h=>h) (VG ⟨aV,?_⟩) j ?_
  rotate_left
  ·exact mC
  dsimp only[Act.put];refine wpAnyH_take (i:=4) (v:= ?_) rfl bK bK bK (fun _ _ _ h=>h) (VG ⟨aV,?_⟩) j ?_
  rotate_left
  ·exact mC
  dsimp only[Act.put];refine wpAnyH_take (i:=5) (v:= ?_) rfl bK bK bK (fun _ _ _ h=>h) (VG ⟨aV,?_⟩) j ?_
  rotate_left
  ·exact mC
  dsimp only[Act.put];refine wpAnyH_done bK ?_ _;refine i0 _ _ ?_;clear i0 kF j;have bl:=d4.quiet ((R.refl (fun _=>False) b1).drew);have fe:=k2.trans (zJ.quiet (B0:=d.heap.size) ((R.refl (fun _=>False) b1).drew));have fr:b1.drew.heap[d.heap.size]? =U.heap[d.heap.size]? /\b1.drew.heap[d.heap.size+1]? =U.heap[d.heap.size+1]? :=kc;have i5:=i4.T (S:=fun _=>False) ((R.refl _ b1).drew) id;have cs:=h7.quiet ((R.refl (fun _=>False) b1).drew);clear d4 k2 kc i4 h7
  try dsimp only[World.s]at*
  generalize b1.drew=bc at*
  by_cases d3:(pre.length:Int)+1<c.dc
  ·rw[if_pos d3]at f7
   have al:=a6;simp only[dU]at al;rw[if_pos d3]at al;refine wpIn_cond (t:=true) (by first|rfl|simp[Act.eval,d3]) ?_;refine wpIn_exit ?_;refine⟨fr,fe,(b5.out _ _).2 ⟨k,x,F,a,g,c',?_,?_,?_⟩⟩
   ·rw[VE];exact bl
   ·rw[VE];exact al
   ·rw[VE];exact f7
  ·rw[if_neg d3]at f7
   refine wpIn_cond (t:=false) (by first|rfl|simp[Act.eval,d3]) ?_;refine wpIn_skip ?_;refine hZ _ _ ?_;clear hZ kB;have gg:=bl.box.c5;have l6:=bl.box.f5;refine wpIn_seq_k fun ng nx=>?_;refine gX rfl (fun⟨_,_,h⟩=>h) ?_;go_wp2;clear gg l6;obtain⟨ja,k4⟩:=bl.jM rfl b4 (ah bc (w.heap.size+1+1+1+1+1) 0 (.bool true)) E E (VV bl.box.t5) (bl.box.UY true);have ad:=i5.T (ah bc (w.heap.size+1+1+1+1+1) 0 (.bool true)) E;have hj:U.heap.size<=bc.heap.size:=by obtain⟨S,a2,_⟩:=fe;exact a2.size
   have gc:=(ah bc (w.heap.size+1+1+1+1+1) 0 (.bool true)).block;have dl:(bc.setCell ⟨w.heap.size+1+1+1+1+1,0,none⟩ (.bool true)).heap[d.heap.size]? =U.heap[d.heap.size]? /\(bc.setCell ⟨w.heap.size+1+1+1+1+1,0,none⟩ (.bool true)).heap[d.heap.size+1]? =U.heap[d.heap.size+1]? :=⟨(gc _ E E).trans fr.1,(gc _ E E).trans fr.2⟩;have k5:=fe.trans k4;clear gc k4 fe fr i5 bl cs
   try dsimp only[World.s]at*
   generalize bc.setCell ⟨w.heap.size+1+1+1+1+1,0,none⟩ (.bool true)=a7 at*
   obtain⟨C,d2⟩:∃C:Nat,q.getD 0 0=C:=⟨(q.getD 0 0).toNat,bV d1.1⟩;obtain⟨N,fb⟩:∃N:Nat,q.getD 1 0=N:=⟨(q.getD 1 0).toNat,by have:=d1.1;have:=d1.2.1;omega⟩;have f8:=md;rw[d2]at f8;have f9:=d1;rw[d2,fb]at f9;have jp:k<=C:=bV f8.2.1;have jr:C<=sp.length:=bV f8.2.2;have o6:C<=N:=bV f9.2.1;have mt:N<=sp.length:=bV f9.2.2;have o7:C<=rc:=E;clear f8 f9;have d5:=A.pE sp k C jp jr;have c8:aG a7 a7.drew:=(R.refl _ a7).drew;have O:=ja.quiet c8;have an:=O.only.T dN (z L ae)
   have ba:=b9.T O.only (fun b a2 e=>by
    rcases b9 with ⟨H,_⟩ |⟨hx,hy,H,bm,_⟩
    ·rw[H]at e;cases e
    ·rw[H]at e;injection e with e;injection e with aa H;subst aa;exact z bm ae)
   have hm:a7.drew.cell? ⟨cc,0,none⟩=some (Z C):=by
    have:=(ad.T c8 id).cells 0 (Z C) (by rw[V4,<-d2,VJ,VK E];rfl)
    rwa [Nat.zero_add]at this
   have f5:=ba.cut rc k C jp jr hc;have h6:=O.box.c2;have ms:=O.box.t2;have j:(fun u:World=>u.cell? ⟨w.heap.size,0,none⟩=some (az eb)/\u.cell? ⟨eb,4,none⟩=some (.slice ra sp.length rc)/\u.cell? ⟨w.heap.size+1+1+1,0,none⟩=some (Z k)/\u.cell? ⟨cc,0,none⟩=some (Z C)) a7.drew:=⟨O.box.c0,an,O.box.c3,hm⟩;refine wpIn_seq_k fun kR i1=>?_;refine jR bK rfl (fun⟨_,_,h⟩=>h) ?_;refine wpAny_of_held (S:=fun u:World=>u.cell? ⟨w.heap.size,0,none⟩=some (az eb)/\u.cell? ⟨eb,4,none⟩=some (.slice ra sp.length rc)/\u.cell? ⟨w.heap.size+1+1+1,0,none⟩=some (Z k)/\u.cell? ⟨cc,0,none⟩=some (Z C)) _ _ _ _ ?_;refine wpAnyH_take (i:=1) (v:= ?_) rfl bK bK bK (fun _ _ _ h=>h) (VG ⟨aV,?_⟩) j ?_
   rotate_left
   ·exact lI
   dsimp only[Act.put];refine wpAnyH_take (i:=2) (v:= ?_) rfl bK bK bK (fun _ _ _ h=>h) (VG ⟨aV,?_⟩) j ?_
   rotate_left
   ·exact lI
   dsimp only[Act.put];refine wpAnyH_take (i:=3) (v:= ?_) rfl bK bK bK (fun _ _ _ h=>h) (VG ⟨aV,?_⟩) j ?_
   rotate_left
   ·exact lI
   dsimp only[Act.put];refine wpAnyH_take (i:=4) (v:= ?_) rfl bK bK bK (fun _ _ _ h=>h) (VG ⟨aV,?_⟩) j ?_
   rotate_left
   ·exact lI
   dsimp only[Act.put];refine wpAnyH_take (i:=5) (v:= ?_) rfl bK bK bK (fun _ _ _ h=>h) (VG ⟨aV,?_⟩) j ?_
   rotate_left
   ·exact lI
   dsimp only[Act.put];refine wpAnyH_take (i:=6) (v:= ?_) rfl bK bK bK (fun _ _ _ h=>h) (VG ⟨aV,?_⟩) j ?_
   rotate_left
   ·exact lI
   dsimp only[Act.put];refine wpAnyH_take (i:=7) (v:= ?_) rfl bK bK bK (fun _ _ _ h=>h) (VG ⟨aV,?_⟩) j ?_
   rotate_left
   ·exact lI
   dsimp only[Act.put];refine wpAnyH_take (i:=8) (v:= ?_) rfl bK bK bK (fun _ _ _ h=>h) (VG ⟨aV,?_⟩) j ?_
   rotate_left
   ·exact lI
   dsimp only[Act.put];refine wpAnyH_take (i:=9) (v:= ?_) rfl bK bK bK (fun _ _ _ h=>h) (VG ⟨aV,?_⟩) j ?_
   rotate_left
   ·exact lI
   dsimp only[Act.put];refine wpAnyH_ready (rs:= [0]) bK aK (AllReadyH.cons rfl (fun M y=>?_) AllReadyH.nil)
   go_simp
   refine y.out _ _ j (fun j=>?_);clear y M;refine wpAnyH_ready (rs:= [10]) bK aK (AllReadyH.cons rfl (fun M y=>?_) AllReadyH.nil);refine kK _ aV _ _ aV w.heap.size (.slice a g c') g x aV O.row _ _ (nJ sp k C) _ aV d5.symm f5 (bV O.len) (bV O.only.size) ?_;intro n o D c5 a1 co
   try dsimp only[World.s]at*
   generalize (if rc=k then ra else Option.map (fun q=>q.add k) ra)=nb at*
   have a4:∀b,(VH a g c').ownBlock=some b->d.heap.size+1<b:=O.own;have ab:=O.box.T a1 (fun b G a0 e=>by have:=a4 b e;omega);have fz:∀ {b:Nat} {b0:TypeId},aR a7.drew b b0->b0≠21->¬(VH a g c').ownBlock=some b:=fun G a0 e=>a0 (G.eH (aR.aJ O.row e));have cv:=L.T O.only (z L ae);have gr:=a1.T an (fz cv ae);have ao:=ad.T c8 id;have i8:=ao.T a1 (fz ao.aZ ae);have hn:=a1.T hm (fz ao.aZ ae);refine y.out _ _ ⟨ab.c0,gr,ab.c3,hn⟩ (fun j=>?_);clear y M;dsimp only[Act.put];refine wpAnyH_ready (rs:= [11]) bK aK (AllReadyH.cons rfl (fun M y=>?_) AllReadyH.nil);have g9:=ab.c2;have ga:=ab.f2
   have cp:∀b,(VH n (g+(C-k)) o).ownBlock=some b->(VH a g c').ownBlock=some b\/d.heap.size+1<b:=fun b f=>by
    rcases co with e|e
    ·exact VG (e▸f)
    ·rw[e]at f;injection f with f;right
     have I:a7.drew.heap.size=a7.heap.size:=rfl;have:=(VF.1 (show a7.heap[d.heap.size+1]? =some _ from dl.2.trans (VL hg))).1;omega
   obtain⟨fc,k6⟩:=O.append rfl b4 a1 c5 (by rw[VE,d5,O.len]) cp;have hQ:=(ah D (w.heap.size+1+1) 0 (.slice n (g+(C-k)) o)).T gr (by have I:=L.lt;simp;omega);have i9:=i8.T (ah D (w.heap.size+1+1) 0 (.slice n (g+(C-k)) o)) E;have k9:=(ah D (w.heap.size+1+1) 0 (.slice n (g+(C-k)) o)).T hn bQ
   go_simp
   refine y.out _ _ ⟨fc.box.c0,hQ,fc.box.c3,k9⟩ (fun j=>?_);clear y M;refine wpAnyH_done bK ?_ _;refine i1 _ _ ?_;clear i1 kR j;have hk:=(k5.trans (zJ.quiet (B0:=d.heap.size) c8)).trans k6;have n1:U.heap.size<=(D.setCell ⟨w.heap.size+1+1,0,none⟩ (.slice n (g+(C-k)) o)).heap.size:=by obtain⟨S,a2,_⟩:=hk;exact a2.size
   have bs:R (fun b=>b≠d.heap.size/\b≠d.heap.size+1) a7 (D.setCell ⟨w.heap.size+1+1,0,none⟩ (.slice n (g+(C-k)) o)):=by
    refine c8.trans ((a1.t (ah D (w.heap.size+1+1) 0 (.slice n (g+(C-k)) o)):R (fun b=>(VH a g c').ownBlock=some b\/b=w.heap.size+1+1) _ _)) (fun _ e=>e.elim) (fun b f e=>?_)
    rcases e with e|e
    ·have:=a4 b e;omega
    ·omega
   have nO:d.heap.size+1<a7.heap.size:=(VF.1 (show a7.heap[d.heap.size+1]? =some _ from dl.2.trans (VL hg))).1;have fv:(D.setCell ⟨w.heap.size+1+1,0,none⟩ (.slice n (g+(C-k)) o)).heap[d.heap.size]? =U.heap[d.heap.size]? /\(D.setCell ⟨w.heap.size+1+1,0,none⟩ (.slice n (g+(C-k)) o)).heap[d.heap.size+1]? =U.heap[d.heap.size+1]? :=⟨(bs.block _ E E).trans dl.1,(bs.block _ E E).trans dl.2⟩;clear bs k6 k5 dl ja O ad ao i8 hn hm gr hQ k9 an ba ab g9 ga c5 a1 co cp cv fz a4 h6 ms c8
   try dsimp only[World.s]at*
   generalize nI:g+(C-k)=l0 at*
   try dsimp only[World.s]at*
   generalize D.setCell ⟨w.heap.size+1+1,0,none⟩ (.slice n l0 o)=a9 at*
   try dsimp only[World.s]at*
   generalize im:x++nJ sp k C=am at*
   have d8:aG a9 a9.drew:=(R.refl _ a9).drew;have P:=fc.quiet d8;have an:=P.only.T dN (z L ae)
   have ba:=b9.T P.only (fun b a2 e=>by
    rcases b9 with ⟨H,_⟩ |⟨hx,hy,H,bm,_⟩
    ·rw[H]at e;cases e
    ·rw[H]at e;injection e with e;injection e with aa H;subst aa;exact z bm ae)
   have cs:=b6.T P.only (fun b f=>z f ae) (fun b f=>z f ae) (fun b f=>z f ae) (fun b f=>z f ae);obtain⟨hu,hv,hs,kb⟩:=cs.RY;have ao:=i9.T d8 id;have h6:=P.box.c2;obtain⟨m5,o2,h8,f0⟩:=f7;rw[d2,im]at h8 f0;have me:=P.len;subst me
   have jb:∀b a2,ra=some ⟨b,a2,none⟩->(VH n am.length o).ownBlock≠some b:=fun b a2 e H=>by
    have:=P.own b H
    rcases b9 with ⟨I,_⟩ |⟨hx,hy,I,bm,_⟩
    ·rw[I]at e;cases e
    ·rw[I]at e;injection e with e;injection e with aa bA;subst aa
     have:=bm.lt;omega
   have il:=Ag c.cx hu hv a9.drew kb mm w.heap.size (bV P.only.size) n o am P.row ra rc sp ba hc jb cc q ao m5 d1 (by simp only[VE]at h8;omega);have j:(fun u:World=>u.cell? ⟨w.heap.size+1,0,none⟩=some (.pointer (some ⟨cb,B,none⟩))/\u.cell? ⟨cb,B+2,none⟩=some (.slice hu c.cx.length hv)/\u.cell? ⟨w.heap.size,0,none⟩=some (az eb)/\u.cell? ⟨eb,4,none⟩=some (.slice ra sp.length rc)) a9.drew:=⟨P.box.c1,hs,P.box.c0,an⟩;refine wpIn_seq_k fun kW i3=>?_;refine jR bK rfl (fun⟨_,_,h⟩=>h) ?_;refine wpAny_of_held (S:=fun u:World=>u.cell? ⟨w.heap.size+1,0,none⟩=some (.pointer (some ⟨cb,B,none⟩))/\u.cell? ⟨cb,B+2,none⟩=some (.slice hu c.cx.length hv)/\u.cell? ⟨w.heap.size,0,none⟩=some (az eb)/\u.cell? ⟨eb,4,none⟩=some (.slice ra sp.length rc)) _ _ _ _ ?_;refine wpAnyH_take (i:=1) (v:= ?_) rfl bK bK bK (fun _ _ _ h=>h) (VG ⟨aV,?_⟩) j ?_
   rotate_left
   ·exact lI
   dsimp only[Act.put];refine wpAnyH_take (i:=2) (v:= ?_) rfl bK bK bK (fun _ _ _ h=>h) (VG ⟨aV,?_⟩) j ?_
   rotate_left
   ·exact lI
   dsimp only[Act.put];refine wpAnyH_take (i:=3) (v:= ?_) rfl bK bK bK (fun _ _ _ h=>h) (VG ⟨aV,?_⟩) j ?_
   rotate_left
   ·exact lI
   dsimp only[Act.put];refine wpAnyH_take (i:=4) (v:= ?_) rfl bK bK bK (fun _ _ _ h=>h) (VG ⟨aV,?_⟩) j ?_
   rotate_left
   ·exact lI
   dsimp only[Act.put];refine wpAnyH_take (i:=5) (v:= ?_) rfl bK bK bK (fun _ _ _ h=>h) (VG ⟨aV,?_⟩) j ?_
   rotate_left
   ·exact lI
   dsimp only[Act.put];refine wpAnyH_take (i:=6) (v:= ?_) rfl bK bK bK (fun _ _ _ h=>h) (VG ⟨aV,?_⟩) j ?_
   rotate_left
   ·exact lI
   dsimp only[Act.put];refine wpAnyH_take (i:=7) (v:= ?_) rfl bK bK bK (fun _ _ _ h=>h) (VG ⟨aV,?_⟩) j ?_
   rotate_left
   ·exact lI
   dsimp only[Act.put];refine wpAnyH_take (i:=8) (v:= ?_) rfl bK bK bK (fun _ _ _ h=>h) (VG ⟨aV,?_⟩) j ?_
   rotate_left
   ·exact lI
   dsimp only[Act.put];refine wpAnyH_ready (rs:= [0]) bK aK (AllReadyH.cons rfl (fun M y=>?_) AllReadyH.nil)
   go_simp
   refine y.out _ _ j (fun j=>?_);clear y M;refine wpAnyH_ready (rs:= [9]) bK aK (AllReadyH.cons rfl (fun M y=>?_) AllReadyH.nil)
   go_simp
   refine il.mono ?_;clear il;rintro e ca ⟨b2,b3,av,ib,rfl,j5,bk,cp⟩;have a4:∀b,(VH n am.length o).ownBlock=some b->d.heap.size+1<b:=P.own;have g0:∀ {b:Nat} {b0:TypeId},aR a9.drew b b0->b0≠21->¬(VH n am.length o).ownBlock=some b:=fun G a0 e=>a0 (G.eH (aR.aJ P.row e));have a8:=P.box.T bk (fun b G a0 e=>by have:=a4 b e;omega);have cv:=L.T P.only (z L ae);have gs:=bk.T an (g0 cv ae);have ht:=bk.T hs (g0 cs.aZ ae);have ad:=ao.T bk (g0 ao.aZ ae);refine y.out _ _ ⟨a8.c1,ht,a8.c0,gs⟩ (fun j=>?_);clear y M;refine wpAnyH_ready (rs:= [10]) bK aK (AllReadyH.cons rfl (fun M y=>?_) AllReadyH.nil);have kn:=Y ib;clear ib;have g9:=a8.c2;have ga:=a8.f2;have ls:d.heap.size+1<a9.drew.heap.size:=(VF.1 (show a9.heap[d.heap.size+1]? =some _ from fv.2.trans (VL hg))).1
   obtain⟨b7,k7⟩:=P.append rfl b4 bk j5 (by rw[VE];exact kn.o) (fun b f=>by
    rcases cp b f with e|e
    ·exact VG e
    ·right;omega)
   have dj:=ah ca (w.heap.size+1+1) 0 (.slice b2 av b3);have hR:=dj.T gs (by have I:=L.lt;simp;omega);have ka:=dj.T ht (by have I:=b6.aZ.lt;simp;omega);have ia:=ad.T dj E
   go_simp
   refine y.out _ _ ⟨b7.box.c1,ka,b7.box.c0,hR⟩ (fun j=>?_);clear y M;refine wpAnyH_done bK ?_ _;refine i3 _ _ ?_;clear i3 kW j;have hl:=(hk.trans (zJ.quiet (B0:=d.heap.size) d8)).trans k7
   have bs:R (fun b=>b≠d.heap.size/\b≠d.heap.size+1) a9 (ca.setCell ⟨w.heap.size+1+1,0,none⟩ (.slice b2 av b3)):=by
    refine d8.trans ((bk.t dj:R (fun b=>(VH n am.length o).ownBlock=some b\/b=w.heap.size+1+1) _ _)) (fun _ e=>e.elim) (fun b f e=>?_)
    rcases e with e|e
    ·have:=a4 b e;omega
    ·omega
   have bA:a9.drew.heap.size=a9.heap.size:=rfl;have hz:(ca.setCell ⟨w.heap.size+1+1,0,none⟩ (.slice b2 av b3)).heap[d.heap.size]? =U.heap[d.heap.size]? /\(ca.setCell ⟨w.heap.size+1+1,0,none⟩ (.slice b2 av b3)).heap[d.heap.size+1]? =U.heap[d.heap.size+1]? :=⟨(bs.block _ E E).trans fv.1,(bs.block _ E E).trans fv.2⟩;have o8:U.heap.size<=(ca.setCell ⟨w.heap.size+1+1,0,none⟩ (.slice b2 av b3)).heap.size:=by obtain⟨S,a2,_⟩:=hl;exact a2.size
   clear bs k7 hk fv fc P i9 ao ad gs hR an ba a8 g9 ga j5 bk cp cv g0 a4 h6 d8 hs kb ht ka dj cs jb bA ls n1
   try dsimp only[World.s]at*
   generalize ca.setCell ⟨w.heap.size+1+1,0,none⟩ (.slice b2 av b3)=bv at*
   have n5:bv.cell? ⟨cc,1,none⟩=some (Z N):=by
    have:=ia.cells 1 (Z N) (by rw[V4,<-fb,VJ,VK E];rfl)
    rwa [Nat.zero_add]at this
   have l2:=b7.box.c3;have l5:=b7.box.f3;refine wpIn_seq_k fun nf nv=>?_;refine gX rfl (fun⟨_,_,h⟩=>h) ?_;go_wp2;clear l2 l5 n5;obtain⟨fd,k8⟩:=b7.jM (k':=N) rfl b4 (ah bv (w.heap.size+1+1+1) 0 (Z N)) E E (VG b7.box.t3) (b7.box.OD N);have n4:=hl.trans k8;have ge:=(ah bv (w.heap.size+1+1+1) 0 (Z N)).block;have kd:(bv.setCell ⟨w.heap.size+1+1+1,0,none⟩ (Z N)).heap[d.heap.size]? =U.heap[d.heap.size]? /\(bv.setCell ⟨w.heap.size+1+1+1,0,none⟩ (Z N)).heap[d.heap.size+1]? =U.heap[d.heap.size+1]? :=⟨(ge _ E E).trans hz.1,(ge _ E E).trans hz.2⟩;clear ge k8 hl hz b7 ia
   try dsimp only[World.s]at*
   generalize bv.setCell ⟨w.heap.size+1+1+1,0,none⟩ (Z N)=nn at*
   have lS:=b6.T fd.only (fun b f=>z f ae) (fun b f=>z f ae) (fun b f=>z f ae) (fun b f=>z f ae);have hI:=lS.all;have np:=fd.box.c1;have al:=a6;simp only[dU]at al;rw[if_neg E,d2,fb,im,VP]at al;rw[fb,VP]at f0
   rcases ap:c.all with _|_
   ·rw[ap]at hI
    have cj:dU sp c.dc c.all c.cx X 0 0 [] false=(N,am++dB sp q c.cx,true):=by
     rw[al,ap];rfl
    have g3:=Y cj;have ki:=Y ap;clear cj al a6 ap;refine wpIn_seq_k fun kA lp=>?_;refine gX rfl (fun⟨_,_,h⟩=>h) ?_;go_wp2;refine wpIn_cond (t:=true) GW ?_;refine wpIn_exit ?_;refine⟨kd,(cn.out _ _ _).2 ⟨N,am++dB sp q c.cx,true,b2,av,b3,?_,g3.o,rfl,h8,mt⟩⟩;rw[VE];exact fd
   ·rw[ap]at hI
    have cj:dU sp c.dc c.all c.cx X 0 0 [] false=dU sp c.dc c.all c.cx (X.drop (pre.length+1)) ((pre.length:Int)+1) N (am++dB sp q c.cx) true:=by
     rw[al,if_pos ap]
    have hS:=f0 ap;have g3:=Y cj;have ki:=Y ap;have ko:=Y hS;clear cj al a6 ap hS f0;refine wpIn_seq_k fun kA lp=>?_;refine gX rfl (fun⟨_,_,h⟩=>h) ?_;go_wp2;refine wpIn_cond (t:=false) GW ?_;refine wpIn_skip ?_;refine⟨kd,n4,(b5.out _ _).2 ⟨N,am++dB sp q c.cx,true,b2,av,b3,?_,?_,?_⟩⟩
    ·rw[VE];exact fd
    ·rw[VE];exact g3.o
    ·rw[VE];exact ko.o
 all_goals
  first
  | (intro oc m mS bi bE;subst mS;obtain⟨k,x,F,a,g,c',ac,a6,c6⟩:=(b5.out _ _).1 bi;rw[List.drop_length]at a6 c6;simp only[dU]at a6;obtain⟨d0,io⟩:=c6;refine h1 _ _ ?_)
  | (intro bz pre m o3 bi bE;obtain⟨k,x,F,a,g,c',ac,a6,rfl,io,d0⟩:=(cn.out _ _ _).1 bi;refine wpIn_exit ?_;refine h1 _ _ ?_)
  clear h1 kw b5 cn dr ds bi;have gg:=ac.box.c5;have ip:=L.T ac.only (z L ae);have lm:=gN.T ac.only (z L ae);have o0:eb<w.heap.size:=L.lt
  rcases F with _|_
  ·have m7:eW sp c=false:=by unfold eW;rw[c3,a6]
   gi_wp2
   refine⟨aK,.inl ⟨_,_,rfl,run_takeDeferred bE,?_⟩⟩;have a5:=j4 m d.heap.size (.deferred none);refine⟨_,results_none rfl _ _ _,⟨_,rfl⟩,?_⟩;rw[g8.o];refine⟨(ac.only.trans a5 (fun _ e=>e.elim) (fun b f e=>E):R (fun b=>b=eb\/(aR w b 5/\eb<=b)) w _),VG ⟨m7,?_⟩⟩
   exact(g5.o.T ac.only (z L ae) (fun b f=>z f ae)).T a5 E (fun b f e=>by
    obtain⟨ci,cl,I⟩:=f;rw[e,bE]at I;cases I)
  ·have jl:A.subst sp c=x++nJ sp k sp.length:=by
    unfold A.subst;rw[c3,a6];simp only[nJ,VP,if_true];rw[List.take_of_length_le aK]
   have ih:=jl;clear jl;have hC:Hid (eW sp c=true):=by show _=_;unfold eW;rw[c3,a6]
   have g7:=Y ih;clear ih a6
   gi_wp2
   have d5:=A.pE sp k sp.length d0 (VM _);have bb:aG m m.drew:=(R.refl _ m).drew;have a3:=ac.quiet bb;have an:=a3.only.T dN (z L ae)
   have ba:=b9.T a3.only (fun b a2 e=>by
    rcases b9 with ⟨H,_⟩ |⟨hx,hy,H,bm,_⟩
    ·rw[H]at e;cases e
    ·rw[H]at e;injection e with e;injection e with aa H;subst aa;exact z bm ae)
   have f5:=ba.cut rc k sp.length d0 (VM _) hc;have nR:k<=sp.length:=d0;have j:(fun u:World=>u.cell? ⟨w.heap.size,0,none⟩=some (az eb)/\u.cell? ⟨w.heap.size+1+1,0,none⟩=some (.slice a g c')/\u.cell? ⟨w.heap.size+1+1+1,0,none⟩=some (Z k)) m.drew:=⟨a3.box.c0,a3.box.c2,a3.box.c3⟩;refine wpIn_wide.2 ?_;refine wp_region_noPanic ?_;refine wp_region_held (S:=fun u:World=>u.cell? ⟨w.heap.size,0,none⟩=some (az eb)/\u.cell? ⟨w.heap.size+1+1,0,none⟩=some (.slice a g c')/\u.cell? ⟨w.heap.size+1+1+1,0,none⟩=some (Z k)) bK ?_
   change wpAnyH _ _ _ _ _ _ _ _ m.drew
   refine wpAnyH_take (i:=0) (v:= ?_) rfl bK bK bK (fun _ _ _ h=>h) (VG ⟨aV,?_⟩) j ?_
   rotate_left
   ·exact mC
   dsimp only[Act.put];refine wpAnyH_take (i:=1) (v:= ?_) rfl bK bK bK (fun _ _ _ h=>h) (VG ⟨aV,?_⟩) j ?_
   rotate_left
   ·exact mC
   dsimp only[Act.put];refine wpAnyH_take (i:=2) (v:= ?_) rfl bK bK bK (fun _ _ _ h=>h) (VG ⟨aV,?_⟩) j ?_
   rotate_left
   ·exact mC
   dsimp only[Act.put];refine wpAnyH_take (i:=3) (v:= ?_) rfl bK bK bK (fun _ _ _ h=>h) (VG ⟨aV,?_⟩) j ?_
   rotate_left
   ·exact mC
   dsimp only[Act.put];refine wpAnyH_take (i:=4) (v:= ?_) rfl bK bK bK (fun _ _ _ h=>h) (VG ⟨aV,?_⟩) j ?_
   rotate_left
   ·exact mC
   dsimp only[Act.put];refine wpAnyH_take (i:=6) (v:= ?_) rfl bK bK bK (fun _ _ _ h=>h) (VG ⟨aV,?_⟩) j ?_
   rotate_left
   ·exact mC
   dsimp only[Act.put];refine wpAnyH_ready (rs:= [5]) bK aK (AllReadyH.cons rfl (fun M y=>?_) AllReadyH.nil)
   go_simp
   refine y.out _ _ j (fun j=>?_);clear y M;refine wpAnyH_take (i:=7) (v:= ?_) rfl bK bK bK (fun _ _ _ h=>h) (VG ⟨aV,?_⟩) j ?_
   rotate_left
   ·exact mC
   dsimp only[Act.put];refine wpAnyH_ready (rs:= [8]) bK aK (AllReadyH.cons rfl (fun M y=>?_) AllReadyH.nil);refine kK _ aV _ _ aV w.heap.size (.slice a g c') g x aV a3.row _ _ (nJ sp k sp.length) _ aV d5.symm f5 (bV a3.len) (bV a3.only.size) ?_;intro n o D c5 a1 co
   try dsimp only[World.s]at*
   generalize (if rc=k then ra else Option.map (fun q=>q.add k) ra)=nb at*
   have a4:∀b,(VH a g c').ownBlock=some b->d.heap.size+1<b:=a3.own;have ab:=a3.box.T a1 (fun b G a0 e=>by have:=a4 b e;omega);refine y.out _ _ ⟨ab.c0,ab.c2,ab.c3⟩ (fun j=>?_);clear y M;dsimp only[Act.put];refine wpAnyH_take (i:=9) (v:= ?_) rfl bK bK bK (fun _ _ _ h=>h) (VG ⟨aV,?_⟩) j ?_
   rotate_left
   ·exact mC
   dsimp only[Act.put];refine wpAnyH_take (i:=10) (v:= ?_) rfl bK bK bK (fun _ _ _ h=>h) (VG ⟨aV,?_⟩) j ?_
   rotate_left
   ·exact mC
   dsimp only[Act.put];have ff:∀b,(VH a g c').ownBlock=some b->¬b=eb:=fun b e=>by have:=a4 b e;omega
   have hX:=lm.T bb id;have h0:=hX.T a1 (fun e=>ff eb e rfl);have bA:=h0 4 _ fa;have gl:=bA.1;have gj:=bA.2;refine wpAnyH_ready (rs:= [11]) bK aK (AllReadyH.cons rfl (fun M y=>?_) AllReadyH.nil);have d9:=ah D eb 4 (.slice n (g+(sp.length-k)) o);have a8:=ab.T d9 (fun b G a0 e=>E)
   go_simp
   refine y.out _ _ ⟨a8.c0,a8.c2,a8.c3⟩ (fun j=>?_);clear y M bA gl gj;refine wpAnyH_done bK ?_ _;refine NoPanic.normal ?_
   have d7:∀b,(VH n (g+(sp.length-k)) o).ownBlock=some b->b≠eb/\b≠d.heap.size:=fun b f=>by
    have hV:=(VF.1 bE).1;have ns:m.drew.heap.size=m.heap.size:=rfl
    rcases co with e|e
    ·have:=a4 b (e▸f);omega
    ·rw[e]at f;injection f with f;omega
   have hf:=Sl.aJ c5;have dS:=h0.set 4 (.slice n (g+(sp.length-k)) o);have hW:(l.set 4 (.slice n (g+(sp.length-k)) o))[8]? =some (.bool fp):=by rw[VI E];exact j1
   have bh:=dS.set 8 (.bool true);have li:=(dS 8 _ hW).1;have l9:=(dS 8 _ hW).2;have jj:=hf.1.T d9 (fun b a2 e=>by subst e;exact(d7 b rfl).1);have dg:=ah (D.setCell ⟨eb,4,none⟩ (.slice n (g+(sp.length-k)) o)) eb 8 (.bool true);have d6:=jj.T dg (fun b a2 e=>by subst e;exact(d7 b rfl).1);have hF:=Y (ax (ax c5 d9 (fun b f=>(d7 b f).1)) dg (fun b f=>(d7 b f).1));have m3:aR ((D.setCell ⟨eb,4,none⟩ (.slice n (g+(sp.length-k)) o)).setCell ⟨eb,8,none⟩ (.bool true)) eb 108:=(((ip.T bb id).T a1 (fun e=>ff eb e rfl)).setCell _ _).setCell _ _;have ik:=a8.T dg (fun b G a0 e=>E)
   have fl:R (fun b=>b=eb\/False) w ((D.setCell ⟨eb,4,none⟩ (.slice n (g+(sp.length-k)) o)).setCell ⟨eb,8,none⟩ (.bool true)):=by
    have G:R (fun b=>b=eb\/False) w D:=a3.only.trans a1 (fun _ e=>VV e) (fun b f e=>by have:=a4 b e;omega);exact R.setCell (p:=⟨eb,8,none⟩) (R.setCell (p:=⟨eb,4,none⟩) G (fun _=>VG rfl) _) (fun _=>VG rfl) _
   have hU:((D.setCell ⟨eb,4,none⟩ (.slice n (g+(sp.length-k)) o)).setCell ⟨eb,8,none⟩ (.bool true)).heap[d.heap.size]? =some (.deferred (some [])):=by
    have hV:=(VF.1 bE).1;have G:D.heap[d.heap.size]? =some (.deferred (some [])):=(a1.block _ hV (fun e=>by have:=a4 _ e;omega)).trans bE;have a0:=(d9.block d.heap.size (VF.1 G).1 E).trans G;exact(dg.block d.heap.size (VF.1 a0).1 E).trans a0
   have lz:((D.setCell ⟨eb,4,none⟩ (.slice n (g+(sp.length-k)) o)).setCell ⟨eb,8,none⟩ (.bool true)).cell? ⟨cb,B+4,none⟩=some (.bool c.ay):=fl.T b6.ay (fun e=>by
    rcases e with e|e
    ·exact(L.ne b6.aZ ae) e.symm
    ·exact z b6.aZ ae e)
   have ic:Hid ((A.subst sp c).length=g+(sp.length-k)):=by show _=_;rw[g7.o,VE,d5,a3.len]
   have m0:=hf.2;have jc:Hid (((D.setCell ⟨eb,4,none⟩ (.slice n (g+(sp.length-k)) o)).setCell ⟨eb,8,none⟩ (.bool true)).shape? eb=w.shape? eb):=om.trans (om.trans ((pF a1 (ip.T bb id).lt (fun e=>ff eb e rfl)).trans (pF a3.only L.lt (z L ae))));have dk:=a8.c0;have fo:=ik.c1;have hB:=Y bh;have hG:=Y d6;clear h0 dS hX ab a8 ik a3 ac c5 a1 co hf jj a4 ff bb d9 dg j gg f5 ba an bh d6;have n6:Hid (∀b,(VH n (g+(sp.length-k)) o).ownBlock=some b->b≠eb/\b≠d.heap.size):=d7
   rcases h9:c.ay with _|_
   all_goals
    rw[h9]at lz;have hA:=Y h9;clear h9
    gi_wp2
    have bh:=hB.o;have d6:=hG.o;have l4:=(bh 4 (.slice n (g+(sp.length-k)) o) (by rw[VI E,VW (bV ((List.getElem?_eq_some_iff.1 fa).1))])).1;rw[kk.o]at bh;have lr:=ic.out;clear ic
    try dsimp only[World.s]at*
    generalize g+(sp.length-k)=ni at*
    subst lr;have h4:=g7.o;rw[<-h4]at d6;have na:=(ah (D.setCell ⟨eb,4,none⟩ (.slice n (A.subst sp c).length o)) eb 8 (.bool true)).T dk (by show ¬w.heap.size=eb;omega)
    have hY:Ed ((D.setCell ⟨eb,4,none⟩ (.slice n (A.subst sp c).length o)).setCell ⟨eb,8,none⟩ (.bool true)) eb ((W.set 4 (.slice n (A.subst sp c).length o)).set 8 (.bool true)) out:=by
     refine⟨⟨be,bx,bw,?_,g2.out.1,ax g2.out.2 fl (fun b f e=>?_)⟩,jc.out.trans g5.o.zu,m3,by rw[VZ,VZ];exact g5.o.len⟩
     ·rwa [VU _ _ (by omega:14≠4),VU _ _ (by omega:13≠4),VU _ _ (by omega:14≠8),VU _ _ (by omega:13≠8)]at bh
     ·rcases e with e|e
      ·subst e;exact absurd ((aR.aJ g2.out.2 f).eH L) ae
      ·exact e
    have hP:((W.set 4 (.slice n (A.subst sp c).length o)).set 8 (.bool true))[15]? =some aB:=by rw[VI E,VI E];exact kf.o.2.2
    have dq:=hF.o;rw[<-h4]at dq;have g4:=Y hU;have g6:=Y fl;clear bh hB hG hU fl m0 li l9 hF jc h4 g7;have c9:aG ((D.setCell ⟨eb,4,none⟩ (.slice n (A.subst sp c).length o)).setCell ⟨eb,8,none⟩ (.bool true)) ((D.setCell ⟨eb,4,none⟩ (.slice n (A.subst sp c).length o)).setCell ⟨eb,8,none⟩ (.bool true)).drew:=(R.refl _ _).drew
    try dsimp only[World.s]at*
    generalize (D.setCell ⟨eb,4,none⟩ (.slice n (A.subst sp c).length o)).setCell ⟨eb,8,none⟩ (.bool true)=ce at*
    have lx:=kp.o;have ho:=n6.out;have j2:¬eb=d.heap.size:=E
   ·refine⟨aK,.inl ⟨_,_,rfl,run_takeDeferred g4.o,?_⟩⟩
    have a5:=j4 ce d.heap.size (.deferred none)
    have hp:∀b,aR ce b 5->¬b=d.heap.size:=fun b f e=>by
     obtain⟨ci,cl,I⟩:=f;rw[e,g4.o]at I;cases I
    refine⟨_,results_none rfl _ _ _,⟨_,rfl⟩,?_⟩;rw[g8.o];refine⟨g6.o.trans a5 (fun b e=>e.elim VG False.elim) (fun b f e=>E),VV ⟨hC.o,n,o,ax dq a5 (fun b f=>(ho b f).2),?_⟩⟩;rw[hA.o,if_neg aK,if_neg aK,OG hP];exact hY.T a5 j2 hp
   ·have j9:=AT eb ce.drew _ out 0 (hY.T c9 id (fun _ _=>id)) hP (runesBytes (A.subst sp c)) lx
    have m1:=ft ce.drew n o (A.subst sp c) (Sl.T d6 c9 (fun _ _ _=>id));refine wpIn_wide.2 ?_;refine wp_region_noPanic ?_;have oa:=c9.T na id;have nr:=c9.T l4 id
    go_region_with (go_at_call 97;refine j9.mono ?_;rintro e g1 ⟨⟨v5,rfl⟩,ll,hr⟩)
    all_goals
     have hT:g1.heap[d.heap.size]? =some (.deferred (some [])):=by
      have gt:ce.drew.heap[d.heap.size]? =some (.deferred (some [])):=g4.o;refine(hr.block _ (VF.1 gt).1 (fun e=>?_)).trans gt
      rcases e with e |⟨⟨ci,cl,e⟩,_⟩
      ·omega
      ·rw[gt]at e;cases e
     have n9:R (fun b=>b=eb\/(aR w b 5/\eb<=b)) w g1:=by
      refine(g6.o.drew).trans hr (fun b e=>e.elim VG False.elim) (fun b f e=>?_)
      rcases e with e |⟨aa,H⟩
      ·exact VG e
      ·by_cases ii:b=eb
       ·exact VG ii
       ·refine VV ⟨?_,H⟩
        obtain⟨ci,cl,I⟩:=aa;exact⟨ci,cl,(g6.o.drew.block b f (fun e=>e.elim ii id)).symm.trans I⟩
     clear j9 m1;refine NoPanic.normal ?_
     gi_wp2
     refine⟨aK,.inl ⟨_,_,rfl,run_takeDeferred hT,?_⟩⟩;have a5:=j4 g1 d.heap.size (.deferred none)
     have hp:∀b,aR g1 b 5->¬b=d.heap.size:=fun b f e=>by
      obtain⟨ci,cl,I⟩:=f;rw[e,hT]at I;cases I
     refine⟨_,results_none rfl _ _ _,⟨_,rfl⟩,?_⟩;rw[g8.o];refine⟨n9.trans a5 (fun _ e=>e) (fun b f e=>E),VV ⟨hC.o,n,o,?_,?_⟩⟩
     ·refine ax (ax (gp dq c9) hr (fun b f e=>?_)) a5 (fun b f=>(ho b f).2)
      rcases e with e |⟨aa,_⟩
      ·exact(ho b f).1 e
      ·exact absurd (aa.eH (aR.aJ (gp dq c9) f)) ae
     ·rw[hA.o,if_pos rfl,if_pos rfl]
      exact ll.T a5 j2 hp
theorem ef.eC{F X w b t}(h:ef F X w t)(a:aG w b):ef F X b t:=
 h.jM t (a.mono (fun _ _ e=>e.elim)) (h.aZ.T a id) (fun _ _ _ _ _ k=>k.T a id) rfl rfl rfl rfl h.b3 h.b5
theorem rC{w:World}{aq e a k c f}(h:w.ownsRow aq e 1 (.slice a k c) k f):k<=c:=by rcases h.2 with ⟨b,d⟩ |⟨g,cD,bI,b,_,_,d,_⟩;{omega};{simp_all}
theorem ef.pH{F X w t}(h:ef F X w t)(a c l)(n:bW w a l)(y:Vd l)(q:l.length<=10000000000)(U:l.length<=c):ef F X (w.s X.eb 5 (.slice a l.length c)) {t with sp:=l}:=by obtain⟨c,rfl⟩:∃d,c=l.length+d:=⟨c-l.length,E⟩;have f:=ah w X.eb 5 (.slice a l.length (l.length+c));have gn:∀b i,aR w b i->i≠94->¬b=X.eb:=fun b i t r e=>by{subst e;exact r (t.eH h.aZ)};have⟨W,a0,p,o,j,k,P,m,h1⟩:=h.cells;have⟨ra,rc,N,O⟩:=h.row;have⟨L,M,H,I⟩:=h.RX;have⟨D,G,z,B,C⟩:=h.zY;have g:∀b,aR w b 3->¬b=X.eb:=fun b t=>gn b _ t ae;have x:∀b,j.ownBlock=some b->¬b=X.eb:=fun b S=>by{exact Ns};exact⟨h.aZ.set,⟨a,c,p,o,j,k.set 5 _,n.T f g,m.T f g,h1.T f x g⟩,⟨ra,rc,N,O.T f (fun b t=>gn b _ t ae)⟩,⟨L,M,H,I.T f g⟩,⟨D,G,z,B.T f (fun b _ t=>gn b _ t ae) g,C⟩,h.IW.T f (fun b t=>gn b _ t ae),h.lt,V2 h.bs f.size,q,h.b2,h.b3,h.b4,h.b5,y,h.v2,h.v3,h.v4⟩
theorem ef.Sr{F X w t}(h:ef F X w t)(a c l)(n:bW w a l)(r:Vd l)(o:l.length<=10000000000)(W:l.length<=c):ef F X (w.s X.eb 6 (.slice a l.length c)) {t with aS:=l}:=by obtain⟨c,rfl⟩:∃d,c=l.length+d:=⟨c-l.length,E⟩;have f:=ah w X.eb 6 (.slice a l.length (l.length+c));have gn:∀b i,aR w b i->i≠94->¬b=X.eb:=fun b i t p e=>by{subst e;exact p (t.eH h.aZ)};have⟨N,O,a0,U,j,k,m,P,h1⟩:=h.cells;have⟨ra,rc,L,M⟩:=h.row;have⟨H,I,D,G⟩:=h.RX;have⟨B,C,x,y,z⟩:=h.zY;have g:∀b,aR w b 3->¬b=X.eb:=fun b t=>gn b _ t ae;have q:∀b,j.ownBlock=some b->¬b=X.eb:=fun b S=>by{exact Ns};exact⟨h.aZ.set,⟨N,O,a,c,j,k.set 6 _,m.T f g,n.T f g,h1.T f q g⟩,⟨ra,rc,L,M.T f (fun b t=>gn b _ t ae)⟩,⟨H,I,D,G.T f g⟩,⟨B,C,x,y.T f (fun b _ t=>gn b _ t ae) g,z⟩,h.IW.T f (fun b t=>gn b _ t ae),h.lt,V2 h.bs f.size,h.b1,o,h.b3,h.b4,h.b5,h.v1,r,h.v3,h.v4⟩
theorem PB{iY cG r}(d:Vd cG)(c:0<=r/\r<=1114111):0<=A.fu iY cG r/\A.fu iY cG r<=1114111:=by induction iY generalizing cG with|nil=>unfold A.fu;exact c|cons a iY g=>cases cG with|nil=>unfold A.fu;exact c|cons b cG=>unfold A.fu;split;{exact d b (List.mem_cons_self)};{exact g (fun i f=>d i (List.mem_cons_of_mem _ f))}
theorem DF(F X w t)(h:ef F X w t)(cb B a9 c5 c3 iY cG)(b9:w.c cb 18=some (.slice B iY.length c5))(ba:w.c cb 19=some (.slice a9 cG.length c3))(bw:bW w B iY)(bq:bW w a9 cG)(a6:iY.length=cG.length)(ch:iY.length<=1000)(bA:Vd cG):aO 118 #[az X.eb,az cb] w fun e ac=>e=.returned (.tuple #[])/\ef F X ac {t with sp:=t.sp.map (A.fu iY cG)}/\R (·=X.eb) w ac:=by have⟨d6,d7,cn,cm,d5,a2,bb,c9,ca⟩:=h.cells;have a8:=bC a2 5;have be:=fJ a2 5;have bk:=h.b1;have ap:=Y h;have b4:=Y bb;have b3:=Y bw;have b2:=Y bq;have b6:Hid _:=h.v1;have L:=Y a6;obtain⟨G,C⟩:∃G:Int->Int,A.fu iY cG=G:=⟨_,rfl⟩;have am:Hid (∀r k,k<iY.length->(∀j,j<k->iY.getD j 0≠r)->iY.getD k 0=r->G r=cG.getD k 0):=by{rw[<-C];exact fun r k O l bi=>BQ iY cG r k a6 O bi l};have an:Hid (∀r,(∀j,j<iY.length->iY.getD j 0≠r)->G r=r):=by{rw[<-C];exact fun r l=>uU iY cG r l};have ao:Hid (∀r,(0<=r/\r<=1114111)->0<=G r/\G r<=1114111):=by{rw[<-C];exact fun r P=>PB bA P};rw[C];go_enter func118,ntmps118;go_wp21;go_loopg [4,5] (t.sp.length+1) (fun k v c7 wr=>∃(i:Nat) (d:Option Addr) (f:Nat),v=.slice d i f/\c7=Z (i:Int)/\Hid (i<=t.sp.length/\t.sp.length+1<=i+k)/\Hid (wr.ownsRow w.heap.size 3 1 (.slice d i f) i (((t.sp.take i).map G).map Z))/\Hid (aG w wr));(case atStart=>exact ⟨0,none,0,rfl,rfl,⟨E,E⟩,VN _ _ _ _,R.refl _ _⟩);case round=>obtain⟨i,d,f,rfl,rfl,av,a0,a⟩:=hrel;obtain⟨co,cp⟩:=av.o;have c1:=a.o.T a8 id;have c2:=a.o.aE a8 be id;by_cases x:i<t.sp.length;{have bm:(i:Int)<(t.sp.length:Int):=E;have bv:t.sp≠ []:=fun e=>by{rw[e]at x;simp at x};obtain⟨d3,d4,rfl,_,a4⟩:=bW.quiet b4.o a.o bv;have c8:=a4 i x;have bE:=a.o.T b9 id;have c0:=a.o.T ba id;have b5:Hid ((t.sp.take (i+1)).map G=(t.sp.take i).map G++[G (t.sp.getD i 0)]):=by{show(t.sp.take (i+1)).map G=_;rw[VR x,VX,show t.sp.getD i 0=t.sp[i] by simp[x]];rfl};generalize t.sp.getD i 0=r at*;clear a4;go_upto_block 2 with (fail);go_cut [6] from 8 to 58 (fun v S=>v=Z (G r)/\Hid (∃n,S=wr.drewN n));(case first=>go_wp21;go_loopg [6,7] (iY.length+1) (fun k v6 v S=>∃m:Nat,v6=Z r/\v=Z (m:Int)/\Hid (m<=iY.length/\iY.length+1<=m+k)/\Hid (∀j,j<m->iY.getD j 0≠r)/\Hid (∃n,S=wr.drewN n));(case atStart=>exact ⟨0,rfl,rfl,⟨E,E⟩,fun j a5=>absurd a5 (Nat.not_lt_zero _),⟨0,rfl⟩⟩);case round=>obtain⟨m,rfl,rfl,b0,M,N⟩:=hrel;have⟨cv,cW⟩:=b0.o;have⟨n,z⟩:=N.o;subst z;by_cases I:m<iY.length;{have bp:(m:Int)<(iY.length:Int):=E;have d0:(m:Int)<(cG.length:Int):=bV L.o;obtain⟨ob,oo,rfl,_,bx⟩:=bW.quiet b3.o a.o (fun e=>by rw[e]at I;simp at I);obtain⟨d2,no,rfl,_,bs⟩:=bW.quiet b2.o a.o (fun e=>by have a3:=L.o;rw[e]at a3;have ci:iY.length=0:=a3;omega);have d9:=bx m I;have dg:=bs m (by rwa [<-L.o]);have U:Hid (iY.getD m 0=r->G r=cG.getD m 0):=fun e=>am.o r m I M.o e;have W:Hid (iY.getD m 0≠r->∀j,j<m+1->iY.getD j 0≠r):=fun e j a5=>by{by_cases bc:j=m;{subst bc;exact e};{exact M.o j E}};generalize iY.getD m 0=p,cG.getD m 0=q at*;by_cases y:p=r;{have b7:=jD y;have g:Hid _:=U.o y;go_wp21;go_quiet (fail);go_wp21;go_meet;case rel=>exact ⟨by rw[g.o],⟨_,rfl⟩⟩};{have b7:=bP y;have g:=Y (W.o y);clear y W U;go_wp21;go_quiet (fail);go_wp2;go_roundg (gk-1);(case measure=>omega);case rel=>exact ⟨m+1,rfl,by first|rfl|simp,⟨E,E⟩,g.o,⟨_,rfl⟩⟩}};{have bp:¬(m:Int)<(iY.length:Int):=E;have a7:m=iY.length:=E;have g:Hid (G r=r):=an.o r (by rw[<-a7];exact M.o);clear a7;go_wp21;go_meet;case rel=>exact ⟨by rw[g.o],⟨_,rfl⟩⟩});case rest=>obtain⟨rfl,N⟩:=hcut;obtain⟨n,z⟩:=N.o;subst z;have aa:=a.o.drewN n;have ab:=ax a0.o ((R.refl (fun _=>False) wr).drewN n) (fun _ _=>id);generalize wr.drewN n=wv,G r=bh at*;have B:aG wv (wv.alloc (.cells #[Z bh] 3)):=(R.refl _ wv).alloc _;have c6:=gp ab B;have d1:=aa.size;clear c1 c2 c8 bE c0;go_wp2_with (at_builtin;refine iT eD c6 ?_;intro ce cc ad bz bl cj cs);have c4:aG w ad:=aa.trans (B.t (R.bT bl):R (fun b=>(VH d i f).ownBlock=some b) wv ad) (fun _ e=>e) (fun b cl e=>by have:=(ab.lt b e).1;omega);go_roundg (gk-1);(case measure=>omega);case rel=>exact ⟨i+1,_,_,rfl,by first|rfl|simp,⟨E,E⟩,by rw[b5.o,VX];exact bz,c4⟩};{have bm:¬(i:Int)<(t.sp.length:Int):=E;have D:i=t.sp.length:=E;have a1:Hid (wr.ownsRow w.heap.size 3 1 (.slice d i f) i ((t.sp.map G).map Z)):=by{have:=a0.o;rw[D,List.take_length]at this;rw[D];exact this};have H:i=(t.sp.map G).length:=by{rw[VS];exact D};have al:Hid (ef F X (wr.s X.eb 5 (.slice d i f)) {t with sp:=t.sp.map G}):=by{have O:=ef.eC ap.o a.o;have l:=bW.aJ (n:=i) (by rw[<-H];exact a1.o);have:=O.pH d f (t.sp.map G) l (fun d8 z=>by obtain⟨r,P,rfl⟩:=List.mem_map.1 z;exact ao.o r (b6.o r P)) (by rw[VS];exact bk) (by rw[<-H];exact rC a1.o);rw[<-H]at this;exact this};clear D H;go_wp2;go_end0;exact⟨rfl,al.o,(a.o.mono (fun _ _ e=>e.elim):R (·=X.eb) w wr).t (ah _ _ _ _)⟩}
def cy:List Int->List Int->List (List Int)
 |[],bI=>if bI= []then []else [bI]
 |c::t,bI=>if c=10 then bI::cy t []else cy t (bI++[c])
theorem bW.part{w c d l}(h:bW w (some ⟨c,d,none⟩) l)(a b)(o:a<=b)(p:b<=l.length):bW w (some ⟨c,d+a,none⟩) ((l.drop a).take (b-a)):=by intro f;have n:l≠ []:=fun e=>by{rw[e]at f;simp at f};have⟨q,r,e,t,j⟩:=h n;injection e with e;injection e with g i;subst g;subst i;refine⟨c,d+a,rfl,t,fun k m=>?_⟩;rw[List.length_take,List.length_drop]at m;rw[Nat.add_assoc,j (a+k) E];congr 2;rw[VJ,VJ,V1,if_pos E,List.getElem?_drop]
theorem zg(l:List Int)(a b)(c:a<=b)(d:b<=l.length):((l.drop a).take (b-a)).length=b-a:=by grind
theorem Ko(l:List Int)(a b)(f:a<=b)(d:b<l.length):(l.drop a).take (b+1-a)=(l.drop a).take (b-a)++[l.getD b 0]:=by have c:b-a<(l.drop a).length:=cr;rw[show b+1-a=(b-a)+1 by omega,VR c];congr 2;rw[List.getElem_drop];have:a+(b-a)=b:=E;simp only[this];simp[d]
def Dh(w:World)(aq:Nat)(v:Value)(b:List (List Int)):Prop:=∃a c d,v=.slice a b.length c/\w.ownsRow aq 35 1 (.slice a b.length c) b.length d/\∀(i:Nat) (l:List Int),b[i]? =some l->∃ra rc,d[i]? =some (.slice ra l.length (l.length+rc))/\bW w ra l
theorem B6:(prog.info? 35).map (fun i=>(i.zero,i.size,i.bytes))=some (some aM,1,24):=bK
theorem Dh.T{w f aq v b}(h:Dh w aq v b)(d:aG w f):Dh f aq v b:=by have⟨a,c,j,e,k,m⟩:=h;refine⟨a,c,j,e,gp k d,fun i l g=>?_⟩;have⟨ra,rc,n,o⟩:=m i l g;exact⟨ra,rc,n,o.quiet d⟩
theorem Gl{w m aq a c g d}(r:w.ownsRow aq 35 1 (.slice a d.length c) d.length g)(D:∀(i:Nat) (l:List Int),d[i]? =some l->∃ra rc,g[i]? =some (.slice ra l.length (l.length+rc))/\bW w ra l)(q:R (fun b=>(VH a d.length c).ownBlock=some b) w m){k j ra rc l}(x:m.ownsRow aq 35 1 (bJ k (d.length+1) j) (d.length+1) (g++[.slice ra l.length (l.length+rc)]))(s:bW w ra l):Dh m aq (bJ k (d.length+1) j) (d++[l]):=by have p:∀b,aR w b 3->¬(VH a d.length c).ownBlock=some b:=fun b t e=>absurd (t.eH (aR.aJ r e)) ae;have z:g.length=d.length:=bV r.1;refine⟨some ⟨k,0,none⟩,j,g++[.slice ra l.length (l.length+rc)],by rw[VE];rfl,by rw[VE];exact x,fun i y f=>?_⟩;rw[List.getElem?_append]at f;by_cases n:i<d.length;{rw[if_pos n]at f;have⟨B,C,F,G⟩:=D i y f;exact⟨B,C,by rw[List.getElem?_append_left E];exact F,G.T q p⟩};{rw[if_neg n]at f;have o:i-d.length=0:=by{grind};rw[o]at f;cases f;exact⟨ra,rc,by rw[List.getElem?_append_right E,z,o];rfl,s.T q p⟩}
theorem BM(w ac c l)(h:bW w ac l)(bx:l.length<=100000)(bs:l.length<=c):aO 37 #[.slice ac l.length c] w fun e ad=>∃v,e=.returned v/\Dh ad w.heap.size v (cy l [])/\aG w ad:=by have a7:=Y h;obtain⟨L,U⟩:=b8 (cy l []);rw[U];have am:=Y U;clear h U;go_enter func37,ntmps37;go_wp21;go_loopg [3,4,5] (l.length+1) (fun k v bh bi wr=>∃(i a:Nat) (f:List (List Int)) (j:Option Addr) (m:Nat),v=.slice j f.length m/\bh=Z (a:Int)/\bi=Z (i:Int)/\Hid (a<=i/\i<=l.length/\l.length+1<=i+k/\f.length<=i)/\Hid (f++cy (l.drop i) ((l.drop a).take (i-a))=L)/\Hid (∃N,wr.ownsRow w.heap.size 35 1 (.slice j f.length m) f.length N/\∀(i:Nat) (l:List Int),f[i]? =some l->∃ra rc,N[i]? =some (.slice ra l.length (l.length+rc))/\bW wr ra l)/\Hid (aG w wr));(case atStart=>exact ⟨0,0,[],none,0,rfl,rfl,rfl,⟨E,E,E,VM _⟩,by show []++cy (l.drop 0) _=L;rw[Wc];exact am.o,⟨[],VN _ _ _ _,fun i l h=>by simp at h⟩,R.refl _ _⟩);case round=>obtain⟨i,a,f,j,m,rfl,rfl,rfl,al,a9,a8,g⟩:=hrel;obtain⟨F,M,bv,bw⟩:=al.o;obtain⟨N,s,a6⟩:=a8.o;by_cases x:i<l.length;{have b7:(i:Int)<(l.length:Int):=E;have a0:l≠ []:=fun e=>by{rw[e]at x;simp at x};have C:=bW.quiet a7.o g.o;obtain⟨p,q,rfl,_,D⟩:=C a0;have bA:=D i x;have a3:cy (l.drop i) ((l.drop a).take (i-a))=if l.getD i 0=10 then (l.drop a).take (i-a)::cy (l.drop (i+1)) []else cy (l.drop (i+1)) ((l.drop a).take (i+1-a)):=by{rw[Ko l a i F x,VT x,show l.getD i 0=l[i] by simp[x]];rfl};have d:=a9.o;rw[a3]at d;have y:=zg l a i F M;have a2:=C.part a i F M;generalize l.getD i 0=r at*;by_cases z:r=10;{have an:=jD z;rw[if_pos z]at d;have B:=Y d;generalize (l.drop a).take (i-a)=P at*;have bp:a<c:=E;have bq:¬(c:Int)-(a:Int)=0:=E;clear d a3 D z;have bz:(a:Int)<=(i:Int):=E;have b5:(i:Int)<=(c:Int):=E;have b6:¬c=a:=E;go_upto_region 7 with (fail);have bb:(wr.alloc (.cells #[.slice (some ⟨p,q+a,none⟩) (i-a) (c-a)] 35)).heap.size=wr.heap.size+1:=aK;have H:aG wr (wr.alloc (.cells #[.slice (some ⟨p,q+a,none⟩) (i-a) (c-a)] 35)):=(R.refl _ wr).alloc _;have a5:=gp s H;have ba:=g.o.size;go_wp2_with (at_builtin;refine iT B6 a5 ?_;intro b0 ao I a1 W b3 b9);have G:R (fun b=>(VH j f.length m).ownBlock=some b) wr I:=H.t (R.bT W);have S:=Gl s a6 G (l:=P) (ra:=some ⟨p,q+a,none⟩) (rc:=c-i) (by rw[y,show i-a+(c-i)=c-a by omega];exact a1) a2;have a4:aG w I:=g.o.trans G (fun _ e=>e) (fun b b4 e=>by have:=(s.lt b e).1;omega);obtain⟨bl,c',bk,av,bc,be⟩:=S;go_roundg (gk-1);(case measure=>omega);case rel=>exact ⟨i+1,i+1,f++[P],_,_,by rw[VE];rfl,by first|rfl|simp,by first|rfl|simp,⟨VM _,E,E,by rw[VE];show f.length+1<=i+1;omega⟩,by show(f++[P])++cy (l.drop (i+1)) ((l.drop (i+1)).take (i+1-(i+1)))=L;rw[Nat.sub_self,List.take_zero,V3];exact B.o,⟨bk,by injection av with n bm ap;subst n;subst ap;exact bc,be⟩,a4⟩};{have an:=bP z;rw[if_neg z]at d;have B:=Y d;clear d a3 D z;go_wp2;go_roundg (gk-1);(case measure=>omega);case rel=>exact ⟨i+1,a,f,j,m,rfl,rfl,by first|rfl|simp,⟨E,E,E,E⟩,B.o,a8.o,g.o⟩}};{have b7:¬(i:Int)<(l.length:Int):=E;have X:i=l.length:=E;have d:=a9.o;rw[VO E]at d;have y:=zg l a i F M;by_cases ab:a<l.length;{have b2:(a:Int)<(l.length:Int):=E;have a0:l≠ []:=fun e=>by{rw[e]at ab;simp at ab};have C:=bW.quiet a7.o g.o;obtain⟨p,q,rfl,_,D⟩:=C a0;have a2:=C.part a i F M;generalize (l.drop a).take (i-a)=P at*;have b1:P≠ []:=fun e=>by{rw[e]at y;simp at y;omega};have n:cy [] P= [P]:=if_neg b1;rw[n]at d;have B:=Y d;rw[X]at y;have b6:¬c=a:=E;have b5:(l.length:Int)<=(c:Int):=E;clear d D n X;go_upto_region 10 with (fail);have bb:(wr.alloc (.cells #[.slice (some ⟨p,q+a,none⟩) (l.length-a) (c-a)] 35)).heap.size=wr.heap.size+1:=aK;have H:aG wr (wr.alloc (.cells #[.slice (some ⟨p,q+a,none⟩) (l.length-a) (c-a)] 35)):=(R.refl _ wr).alloc _;have a5:=gp s H;have ba:=g.o.size;go_wp2_with (at_builtin;refine iT B6 a5 ?_;intro b0 ao I a1 W b3 b9);have G:R (fun b=>(VH j f.length m).ownBlock=some b) wr I:=H.t (R.bT W);have S:=Gl s a6 G (l:=P) (ra:=some ⟨p,q+a,none⟩) (rc:=c-l.length) (by rw[y,show l.length-a+(c-l.length)=c-a by omega];exact a1) a2;have a4:aG w I:=g.o.trans G (fun _ e=>e) (fun b b4 e=>by have:=(s.lt b e).1;omega);have O:=Y S;go_wp2;go_ret;exact⟨_,rfl,by rw[<-B.o];exact O.o,a4⟩};{have b2:¬(a:Int)<(l.length:Int):=E;have aa:(l.drop a).take (i-a)= []:=by{rw[VO E];simp};rw[aa]at d;have n:cy [] []= []:=rfl;rw[n,List.append_nil]at d;have O:Hid (Dh wr w.heap.size (.slice j f.length m) L):=by{rw[<-d];exact⟨j,m,N,rfl,s,a6⟩};clear d aa n X;go_wp2;go_ret;exact⟨_,rfl,O.o,g.o⟩}}
end
section
structure SS where
 i:Nat
 e:Int:=0
 p:Int:=0
 aC:Int:=0
namespace V
def bj(L:List Int)(s:SS):Int:=if s.e=0 then aj L s.i else -1
def no(pl:List Int)(s:SS)(b:Int)(a:Nat):SS:=if s.e=0 then {s with e:=b,p:=aD pl a}else s
def next(L pl:List Int)(s:SS):Int×SS:=if bj L s<0 then (-1,no pl s 3 s.i)else (bj L s,{s with i:=s.i+1})
def take(L:List Int)(s:SS)(c:Int):Bool×SS:=if bj L s=c then (true,{s with i:=s.i+1})else (false,s)
def xI(iE:Bool)(c:Int):Bool:=c==32 || c==9 || (iE && (c==10 || c==59))
def skip(L:List Int)(s:SS)(iE:Bool):SS:=if s.e=0 then {s with i:=s.i+((L.drop s.i).takeWhile (xI iE)).length}else s
def qA(a:List Int):Int:=a.foldl (fun n d=>min (n*10+(d-48)) 10000) 0
def number(L pl:List Int)(s:SS):Int×SS:=
 if s.e=0 then
  (qA (cw L s.i),if qA (cw L s.i)<1\/9999<qA (cw L s.i)then no pl {s with i:=s.i+(cw L s.i).length} 4 s.i else {s with i:=s.i+(cw L s.i).length})
 else (0,s)
def dA(L:List Int)(s:SS):List Int:=if s.e=0 then aN L s.i else []
def name(L pl:List Int)(s:SS):SS:=
 if 8<(dA L s).length then no pl {s with i:=s.i+(dA L s).length} 4 s.i else {s with i:=s.i+(dA L s).length}
def cQ(L pl:List Int)(may:List Int)(s:SS):Int×SS:=
 if (next L pl s).1=110 then (10,(next L pl s).2)
 else ((next L pl s).1,if may.contains (next L pl s).1 then (next L pl s).2 else no pl (next L pl s).2 3 s.i)
def plain(L pl:List Int)(but:List Int)(s:SS):Int×SS:=
 if (next L pl s).1=92 then cQ L pl kY (next L pl s).2
 else ((next L pl s).1,if but.contains (next L pl s).1 then no pl (next L pl s).2 3 s.i else (next L pl s).2)
def gZ:List Int:= [93,94,45,91,47,10]
def gW:List Int:= [91,40,41,42,43,63,94,36,47,10]
def pJ(L pl:List Int)(lo:Int×SS):Int×SS:=
 if (take L lo.2 45).1 then plain L pl gZ (take L lo.2 45).2 else (lo.1,(take L lo.2 45).2)
def fG(L pl:List Int)(s:SS):SS:=
 if (pJ L pl (plain L pl gZ s)).1<(plain L pl gZ s).1 then no pl (pJ L pl (plain L pl gZ s)).2 4 s.i else (pJ L pl (plain L pl gZ s)).2
def df(L pl:List Int):Nat->Bool->SS->SS
 |0,_,s=>s
 |n+1,lP,s=>
  if s.e=0 then
   if lP=true/\bj L s=93 then {s with i:=s.i+1}
   else df L pl n true (fG L pl s)
  else s
def dv(L pl:List Int)(s:SS):SS:=
 if bj L s=46 then {s with i:=s.i+1}
 else if bj L s=91 then df L pl (L.length+1) false (take L {s with i:=s.i+1} 94).2
 else (plain L pl gW s).2
def fO(L:List Int)(s:SS):SS:=if bj L s=42\/bj L s=43\/bj L s=63 then {s with i:=s.i+1}else s
def kS(L pl:List Int)(s:SS):SS:=fO L (dv L pl s)
def gU(L pl:List Int):Nat->List Int->SS->List Int
 |0,l,_=>l
 |n+1,l,s=>
  if s.e=0 then
   if l.length≠0/\bj L s=93 then l
   else gU L pl n (l++[(plain L pl gZ s).1,(pJ L pl (plain L pl gZ s)).1]) (fG L pl s)
  else l
def pG(L pl:List Int)(s:SS):List Int×Bool:=
 if bj L s=46 then ([],true)
 else if bj L s=91 then (gU L pl (L.length+1) [] (take L {s with i:=s.i+1} 94).2,(take L {s with i:=s.i+1} 94).1)
 else ([(plain L pl gW s).1,(plain L pl gW s).1],false)
def vU(L:List Int)(s:SS):Int:=if bj L s=42\/bj L s=43\/bj L s=63 then bj L s else 49
def kD(L pl:List Int)(s:SS):Rm.It:=⟨120,(pG L pl s).1,(pG L pl s).2,vU L (dv L pl s),0⟩
structure PS where
 s:SS
 n:Nat
 af:Nat
 ai:Nat
 ys:List Rm.It:= []
 op:List Int:= []
def Cv(pl:List Int)(first:Nat)(t:PS):SS:=
 let s1:=if 30<t.n then no pl {t.s with i:=t.s.i+1} 4 first else {t.s with i:=t.s.i+1}
 if 0<t.ai then no pl s1 8 first else s1
def qN(L pl:List Int)(first:Nat)(t:PS):PS:=
 if bj L t.s=94/\t.s.i=first then {t with s:={t.s with i:=t.s.i+1},n:=t.n+1,ys:=t.ys++[⟨94,[],false,0,0⟩]}
 else if bj L t.s=40 then {s:=if 9<t.af+1 then no pl {t.s with i:=t.s.i+1} 8 t.s.i else {t.s with i:=t.s.i+1},n:=t.n+1,af:=t.af+1,ai:=t.ai+1,ys:=t.ys++[⟨40,[],false,0,(t.af:Int)+1⟩],op:=t.op++[(t.af:Int)+1]}
 else if bj L t.s=41 then
  if t.ai=0 then {t with s:=no pl t.s 8 t.s.i}
  else {t with s:={t.s with i:=t.s.i+1},n:=t.n+1,ai:=t.ai-1,ys:=t.ys++[⟨41,[],false,0,t.op.getD (t.ai-1) 0⟩],op:=t.op.take (t.ai-1)}
 else if bj L t.s=36 then {t with s:=if bj L {t.s with i:=t.s.i+1}=47 then {t.s with i:=t.s.i+1}else no pl {t.s with i:=t.s.i+1} 3 (t.s.i+1),n:=t.n+1,ys:=t.ys++[⟨36,[],false,0,0⟩]}
 else {t with s:=kS L pl t.s,n:=t.n+1,ys:=t.ys++[kD L pl t.s]}
def gR(L pl:List Int)(first:Nat):Nat->PS->PS
 |0,t=>t
 |n+1,t=>
  if t.s.e=0 then
   if bj L t.s=47 then {t with s:=Cv pl first t}
   else gR L pl first n (qN L pl first t)
  else t
def fk(L pl:List Int)(s:SS):PS:=gR L pl s.i (L.length+1) ⟨s,0,0,0,[],[]⟩
def qS(L pl:List Int)(af:Nat)(s:SS):SS:=
 let c:=(next L pl s).1
 let s1:=if c=10 then no pl (next L pl s).2 3 s.i else (next L pl s).2
 if c=38 then s1
 else if c=92/\br (bj L s1)=true/\bj L s1≠48 then
  if (af:Int)<bj L s1-48 then no pl {s1 with i:=s1.i+1} 8 s.i else {s1 with i:=s1.i+1}
 else if c=92 then (cQ L pl dF s1).2
 else s1
def bO(L pl:List Int)(af:Nat):Nat->SS->SS
 |0,s=>s
 |n+1,s=>
  if s.e=0 then
   if bj L s=47 then {s with i:=s.i+1}else bO L pl af n (qS L pl af s)
  else s
def CN(L pl:List Int)(s:SS):Int:=
 let c:=(next L pl s).1
 let s1:=if c=10 then no pl (next L pl s).2 3 s.i else (next L pl s).2
 if c=38 then -1
 else if c=92/\br (bj L s1)=true/\bj L s1≠48 then -1-(bj L s1-48)
 else if c=92 then (cQ L pl dF s1).1
 else c
def pU(L pl:List Int)(af:Nat):Nat->List Int->SS->List Int
 |0,l,_=>l
 |n+1,l,s=>
  if s.e=0 then
   if bj L s=47 then l else pU L pl af n (l++[CN L pl s]) (qS L pl af s)
  else l
def pW(L pl:List Int)(s:SS):Int×SS:=
 let c:=(next L pl s).1
 let s1:=if c=10 then no pl (next L pl s).2 3 s.i else (next L pl s).2
 if c=92 then cQ L pl fW s1 else (c,s1)
def bL(L pl:List Int):Nat->List Int->SS->List Int×SS
 |0,l,s=>(l,s)
 |n+1,l,s=>
  if s.e=0 then
   if bj L s=47 then (l,{s with i:=s.i+1})else bL L pl n (l++[(pW L pl s).1]) (pW L pl s).2
  else (l,s)
def bH(L pl:List Int)(s:SS):Int×SS:=
 if br (bj L s)=true then (110,(number L pl s).2)
 else if bj L s=36 then (36,{s with i:=s.i+1})
 else if bj L s=47 then (47,(fk L pl {s with i:=s.i+1}).s)
 else (0,s)
def mT(L pl:List Int)(s:SS):Rr.RA:=
 if br (bj L s)=true then {aF:=110,n:=(number L pl s).1}
 else if bj L s=36 then {aF:=36}
 else if bj L s=47 then {aF:=47,ys:=(fk L pl {s with i:=s.i+1}).ys,af:=(fk L pl {s with i:=s.i+1}).af}
 else {}
def mc(L pl:List Int)(s:SS)(c:Int):SS:=if bj L s=c then {s with i:=s.i+1}else no pl s 3 s.i
def aI(L:List Int)(s:SS):SS:=if s.e=0 then {s with i:=s.i+(A.bd L s.i).length}else s
def text(L pl:List Int)(s:SS):SS:=
 let s1:=if 0<=bj L s/\bj L s≠32/\bj L s≠9/\bj L s≠10 then no pl s 3 s.i else s
 aI L (if bj L s=32\/bj L s=9 then {s1 with i:=s1.i+1}else s1)
structure Ti where
 s:SS
 all:Bool
 ay:Bool
 dc:Int
def ee(L pl:List Int):Nat->Ti->Ti
 |0,f=>f
 |n+1,f=>
  if f.s.e=0 then
   if bj L f.s=103/\f.all=false then ee L pl n {f with all:=true,s:={f.s with i:=f.s.i+1}}
   else if bj L f.s=112/\f.ay=false then ee L pl n {f with ay:=true,s:={f.s with i:=f.s.i+1}}
   else if br (bj L f.s)=true/\f.dc=0 then ee L pl n {f with dc:=(number L pl f.s).1,s:=(number L pl f.s).2}
   else f
  else f
structure RS where
 s:SS
 ak:List (List Int):= []
 bu:List (List Int×Nat):= []
 row:List Rr.RC:= []
def jM(row:List Rr.RC)(k:Nat)(a:Rr.RC->Rr.RC):List Rr.RC:=row.set k (a (row.getD k {}))
def RS.jM(r:RS)(a:Rr.RC->Rr.RC):RS:={r with row:=V.jM r.row (r.row.length-1) a}
def mI(L pl:List Int)(s:SS):List Int:=
 let s1:=if 0<=bj L s/\bj L s≠32/\bj L s≠9/\bj L s≠10 then no pl s 3 s.i else s
 let s2:=if bj L s=32\/bj L s=9 then {s1 with i:=s1.i+1}else s1
 if s2.e=0 then A.bd L s2.i else []
def dE(L pl:List Int)(s:SS):SS:=
 let s1:=skip L s false
 if 0<=bj L s1/\bj L s1≠59/\bj L s1≠10/\bj L s1≠125 then no pl s1 3 s1.i else s1
def CU(L pl:List Int)(at_:Nat)(r:RS):RS:=
 let nm:=dA L r.s
 let s0:=name L pl r.s
 let s1:=if nm.length=0 then no pl s0 3 s0.i else s0
 {r.jM (fun c=>{c with text:=nm})with s:=if r.ak.contains nm then no pl s1 7 at_ else s1,ak:=r.ak++[nm]}
def Bv(L pl:List Int)(at_:Nat)(r:RS):RS:=
 let s0:=skip L r.s false
 {r.jM (fun c=>{c with text:=dA L s0})with s:=name L pl s0,bu:=r.bu++[(dA L s0,at_)]}
def subst(L pl:List Int)(s:SS):SS:=
 let p:=fk L pl (mc L pl s 47)
 (ee L pl (L.length+1) ⟨bO L pl p.af (L.length+1) p.s,false,false,0⟩).s
def gy(L pl:List Int)(s:SS)(c:Rr.RC):Rr.RC:=
 let p:=fk L pl (mc L pl s 47)
 let f:=ee L pl (L.length+1) ⟨bO L pl p.af (L.length+1) p.s,false,false,0⟩
 {c with ys:=p.ys,af:=p.af,fL:=pU L pl p.af (L.length+1) [] p.s,all:=f.all,ay:=f.ay,dc:=f.dc}
def yn(L pl:List Int)(s:SS)(c:Rr.RC):Rr.RC:=
 let a:=bL L pl (L.length+1) [] (mc L pl s 47)
 let b:=bL L pl (L.length+1) [] a.2
 {c with iY:=a.1,cG:=b.1}
def fu(L pl:List Int)(at_:Nat)(s:SS):SS:=
 let a:=bL L pl (L.length+1) [] (mc L pl s 47)
 let b:=bL L pl (L.length+1) [] a.2
 if dC a.1=true\/a.1.length≠b.1.length then no pl b.2 4 at_ else b.2
def bR(L pl:List Int)(ag:Int)(at_:Nat)(r:RS):RS:=
 if ag=97\/ag=99\/ag=105 then {r.jM (fun c=>{c with text:=mI L pl r.s})with s:=text L pl r.s}
 else
  let r1:RS:=if ag=58 then CU L pl at_ r
   else if ag=98\/ag=116 then Bv L pl at_ r
   else if ag=115 then {r.jM (gy L pl r.s)with s:=subst L pl r.s}
   else if ag=121 then {r.jM (yn L pl r.s)with s:=fu L pl at_ r.s}
   else r
  {r1 with s:=dE L pl r1.s}
def iL(L pl:List Int)(s:SS):SS:=
 if bj L s=44 then
  let b:=bH L pl (skip L {s with i:=s.i+1} false)
  skip L (if b.1=0 then no pl b.2 3 b.2.i else b.2) false
 else s
def eY:List Int:= [61,100,68,103,71,104,72,110,78,112,80,113,120,97,99,105,58,98,116,115,121,123]
structure Hd where
 ag:Int
 at_:Nat
 s:SS
def head(L pl:List Int)(b:Nat)(s:SS):Hd:=
 let a:=bH L pl s
 let s1:=skip L a.2 false
 let s2:=if a.1=0 then s1 else iL L pl s1
 let n:=take L s2 33
 let s3:=skip L n.2 false
 let c:=next L pl s3
 let s4:=if eY.contains c.1=false\/(c.1=58/\(a.1≠0\/n.1=true))then no pl c.2 3 s3.i else c.2
 let s5:=if 40<=s4.aC then no pl s4 5 s3.i else s4
 ⟨c.1,s3.i,if c.1=123/\5<=b then no pl s5 6 s3.i else s5⟩
def gv(L pl:List Int)(c:Nat)(s:SS)(k:Nat):Rr.RC:=
 let a:=bH L pl s
 let s1:=skip L a.2 false
 let s2:=if a.1=0 then s1 else iL L pl s1
 {a:=mT L pl s,b:=if a.1≠0/\bj L s1=44 then mT L pl (skip L {s1 with i:=s1.i+1} false)else {},neg:=(take L s2 33).1,ag:=(head L pl c s).ag,dx:=k,next:=k+1}
def aY(L pl:List Int):Nat->Nat->RS->RS
 |0,_,r=>r
 |f+1,nest,r=>
  if r.s.e=0 then
   let s1:=skip L r.s true
   if bj L s1<0 then {r with s:=if 0<nest then no pl s1 3 L.length else s1}
   else if 0<nest/\bj L s1=125 then {r with s:={s1 with i:=s1.i+1}}
   else
    let h:=head L pl nest s1
    let r1:RS:={r with s:={h.s with aC:=h.s.aC+1},row:=r.row++[gv L pl nest s1 r.row.length]}
    aY L pl f nest (if h.s.e=0 then (if h.ag=123 then {aY L pl f (nest+1) r1 with row:=jM (aY L pl f (nest+1) r1).row r.row.length (fun c=>{c with next:=(aY L pl f (nest+1) r1).row.length})}else bR L pl h.ag h.at_ r1)else {r with s:=h.s})
  else r
def lu(pl:List Int)(ak:List (List Int)):List (List Int×Nat)->SS->SS
 |[],s=>s
 |j::js,s=>if s.e=0 then lu pl ak js (if ak.contains j.1=false/\0<j.1.length then no pl s 7 j.2 else s)else s
def cX(L pl:List Int):SS:=
 let r:=aY L pl (L.length+1) 0 {s:=⟨0,0,0,0⟩}
 lu pl r.ak r.bu r.s
end V
end
section
open Go.RowKit
attribute [local go_sem ↓] Go.wp_at_zero Go.wp_at_succ
structure SG where
 x:Nat
 lb:Nat
 pb:Nat
 L:List Int
 pl:List Int
 lv:Value
 jv:Value
 lc:Nat
structure da(g:SG)(w:World)(s:SS):Prop where
 aZ:aR w g.x 79
 cells:∃la pc,aX w g.x [.slice la g.L.length g.lc,.slice (some ⟨g.pb,0,none⟩) (g.L.length+1) pc,.int .i64 s.i,.int .i64 s.e,.int .i64 s.p,.int .i64 s.aC,g.lv,g.jv]/\(g.L= []->la=none)/\(g.L≠ []->la=some ⟨g.lb,0,none⟩)
 bL:∀j,j<g.L.length->w.cell? ⟨g.lb,j,none⟩=some (.int .i64 (aj g.L j))
 sM:∀j,j<=g.L.length->w.cell? ⟨g.pb,j,none⟩=some (.int .i64 (aD g.pl j))
 nl:g.L≠ []->g.lb≠g.x
 np:g.pb≠g.x
 le:s.i<=g.L.length
 cC:g.L.length<=500
 ky:∀j,j<g.L.length->0<=aj g.L j
 cD:g.L.length<=g.lc
 Bz:g.L= []->g.lc=0
theorem da.drewN{g w s}(h:da g w s)(n):da g (w.drewN n) s:=by have⟨d,f,b,c⟩:=h.cells;exact⟨h.aZ.T ((R.refl (fun _=>False) w).drewN n) id,⟨d,f,b.T ((R.refl (fun _=>False) w).drewN n) id,c⟩,fun j a=>((R.refl (fun _=>False) w).drewN n).T (h.bL j a) id,fun j a=>((R.refl (fun _=>False) w).drewN n).T (h.sM j a) id,h.nl,h.np,h.le,h.cC,h.ky,h.cD,h.Bz⟩
theorem SF(g w s)(h:da g w s)(d:s.e=0):aO 56 #[az g.x] w fun e l=>e=.returned (Z (aj g.L s.i))/\∃n,l=w.drewN n:=by have⟨y,z,b,k⟩:=h.cells;have m:=bC b 0;have o:=bC b 2;have c:=bC b 3;rw[d]at c;have q:=h.le;by_cases a:s.i<g.L.length;{have j:=k.2 (fun e=>by rw[e]at a;simp at a);subst j;have t:=h.bL s.i a;have p:(s.i:Int)<(g.L.length:Int):=E;have f:¬(g.L.length:Int)<=(s.i:Int):=E;generalize aj g.L s.i=r at*;go_enter func56,ntmps56;go_wp21;go_quiet (fail);go_wp21;go_quiet (fail);go_wp2;go_ret;exact⟨rfl,Kw rfl⟩};{have f:(g.L.length:Int)<=(s.i:Int):=E;rw[pC E];go_enter func56,ntmps56;exact yT}
theorem Qc(g w s)(h:da g w s)(b:s.e≠0):aO 56 #[az g.x] w fun e d=>e=.returned (Z (-1))/\∃n,d=w.drewN n:=by have⟨l,m,c,k⟩:=h.cells;have i:=bC c 3;have a:=bP b;have f:=iN a;generalize s.e=j at*;go_enter func56,ntmps56;exact yT
theorem da.jM{g w b s}(h:da g w s)(s')(c:R (·=g.x) w b)(k:aR b g.x 79)(d:∀v0 v1,aX w g.x [v0,v1,Z s.i,Z s.e,Z s.p,Z s.aC,g.lv,g.jv]->aX b g.x [v0,v1,Z s'.i,Z s'.e,Z s'.p,Z s'.aC,g.lv,g.jv])(f:s'.i<=g.L.length):da g b s':=by have⟨n,o,l,m⟩:=h.cells;exact⟨k,⟨n,o,d _ _ l,m⟩,fun j a=>c.T (h.bL j a) (h.nl (fun e=>by rw[e]at a;simp at a)),fun j a=>c.T (h.sM j a) h.np,h.nl,h.np,f,h.cC,h.ky,h.cD,h.Bz⟩
theorem T8(g w s)(h:da g w s)(o:s.e=0)(c a)(m:a<=g.L.length):aO 36 #[az g.x,Z c,Z (a:Int)] w fun e f=>e=.returned (.tuple #[])/\da g f {s with e:=c,p:=aD g.pl a}/\R (·=g.x) w f:=by have⟨D,F,b,C⟩:=h.cells;have r:=bC b 1;have l:=bC b 3;have x:=fJ b 3;have t:=bC b 4;have y:=fJ b 4;rw[o]at l;have B:=h.sM a m;have z:=h.np;have q:∀n,R (·=g.x) w (((w.drewN n).s g.x 3 (Z c)).s g.x 4 (Z (aD g.pl a))):=fun n=>(cE (ah _ _ _ _) (ah _ _ _ _)).d;have gO:=fun n=>(h.drewN n).jM {s with e:=c,p:=aD g.pl a} (cE (ah _ _ 3 (Z c)) (ah _ _ 4 (Z (aD g.pl a)))) (h.drewN n).aZ.set.set (fun v0 v1 k=>(k.set 3 _).set 4 _) h.le;have i:=Y gO;have j:=Y q;generalize aD g.pl a=P at*;go_enter func36,ntmps36;go_wp2;go_end0;exact⟨rfl,i.o 0,j.o 0⟩
theorem cL(g w s)(h:da g w s):aO 56 #[az g.x] w fun e b=>e=.returned (Z (V.bj g.L s))/\∃n,b=w.drewN n:=by unfold V.bj;by_cases a:s.e=0;{rw[if_pos a];exact SF g w s h a};{rw[if_neg a];exact Qc g w s h a}
theorem fR{g w s}(h:da g w s)(b:¬V.bj g.L s<0):s.e=0/\s.i<g.L.length/\V.bj g.L s=aj g.L s.i:=by unfold V.bj at*;by_cases a:s.e=0;{rw[if_pos a]at b ⊢;refine⟨a,cJ (fun e=>b E),rfl⟩};{omega}
theorem cO(g w s)(h:da g w s)(c a)(f:a<=g.L.length):aO 36 #[az g.x,Z c,Z (a:Int)] w fun e d=>e=.returned (.tuple #[])/\da g d (V.no g.pl s c a)/\R (·=g.x) w d:=by unfold V.no;by_cases b:s.e=0;{rw[if_pos b];exact T8 g w s h b c a f};{rw[if_neg b];have⟨o,p,i,n⟩:=h.cells;have k:=bC i 3;have j:=bP b;generalize m:s.e=l at*;go_enter func36,ntmps36;go_wp2;go_end0;exact⟨rfl,h,R.refl _ _⟩}
theorem j7(g w s)(h:da g w s):aO 83 #[az g.x] w fun e j=>e=.returned (Z (V.next g.L g.pl s).1)/\da g j (V.next g.L g.pl s).2/\R (·=g.x) w j:=by have⟨F,G,f,D⟩:=h.cells;have y:=bC f 2;have z:=fJ f 2;have C:=h.cC;have c:=cL g w s h;unfold V.next;by_cases a:V.bj g.L s<0;{rw[if_pos a];have q:=fun n=>cO g (w.drewN n) s (h.drewN n) 3 s.i h.le;have m:=Y q;generalize V.bj g.L s=r at*;go_enter func83,ntmps83;go_wp21;refine c.kd fun b=>?_;go_wp21;refine(m.o b).k fun H ⟨p,t⟩=>?_;go_wp2;go_ret;exact⟨rfl,p,t.d⟩};{rw[if_neg a];have B:=(fR h a).2.1;have gO:=fun n=>(h.drewN n).jM {s with i:=s.i+1} (ah _ _ 2 (Z ((s.i+1:Nat):Int))) (h.drewN n).aZ.set (fun v0 v1 k=>k.set 2 _) cr;have l:=Y gO;generalize V.bj g.L s=r at*;go_enter func83,ntmps83;go_wp21;refine c.kd fun b=>?_;go_wp2;go_ret;have:=l.o b;exact⟨rfl,by first|exact this|simpa using this,by first|exact(ah _ _ _ _).d|simpa using (ah _ _ _ _).d⟩}
theorem da.step{g w s}(h:da g w s)(a:s.i<g.L.length):da g (w.s g.x 2 (Z ((s.i+1:Nat):Int))) {s with i:=s.i+1}/\R (·=g.x) w (w.s g.x 2 (Z ((s.i+1:Nat):Int))):=
 ⟨h.jM {s with i:=s.i+1} (ah _ _ 2 _) h.aZ.set (fun v0 v1 k=>k.set 2 _) cr,ah _ _ 2 _⟩
theorem de(g w s)(h:da g w s)(c)(q:0<=c):aO 57 #[az g.x,Z c] w fun e k=>e=.returned (.bool (V.take g.L s c).1)/\da g k (V.take g.L s c).2/\R (·=g.x) w k:=by have⟨z,B,j,y⟩:=h.cells;have m:=bC j 2;have p:=fJ j 2;have t:=h.cC;have f:=cL g w s h;unfold V.take;by_cases b:V.bj g.L s=c;{rw[if_pos b];have l:=(fR h E).2.1;have gO:=fun n=>(h.drewN n).step l;have i:=Y gO;rw[b]at f;go_enter func57,ntmps57;go_wp21;refine f.kd fun a=>?_;go_wp2;go_ret;exact⟨rfl,(i.o a).1,(i.o a).2.d⟩};{rw[if_neg b];have bn:=bP b;generalize V.bj g.L s=r at*;go_enter func57,ntmps57;go_wp21;refine f.kd fun a=>?_;go_wp2;go_ret;exact⟨rfl,h.drewN a,(R.refl (·=g.x) w).drewN a⟩}
end
end Go.Proofs.YtbiobhghnldckaaGreatDoor
