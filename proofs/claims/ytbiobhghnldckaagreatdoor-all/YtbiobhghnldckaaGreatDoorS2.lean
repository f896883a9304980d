/- Proved: steps on the way to the card. Conditions: as each states. -/
import Derived.Test.YtbiobhghnldckaaGreatDoorS1
namespace Go.Proofs.YtbiobhghnldckaaGreatDoor
open Bool renaming false_eq_true->VE,false_and->VP
open Nat renaming le_trans->VF,le_refl->VS
open _root_.Array renaming getElem?_eq_some_iff->VG,getElem?_push->VQ
open World renaming cell?_setCell_same->VH,ownsRow_nil->VN,drewN_drewN->VR
open List renaming getElem?_set_self->VI,take_succ_eq_append_getElem->VJ,eq_nil_of_length_eq_zero->VK,getElem?_set_ne->VL
open Value renaming int->VM
open Utf8 renaming encode->VO
open Except renaming error->VT
open Go.Proofs.Tryz
open A
set_option linter.unusedVariables false
set_option maxRecDepth 100000
set_option maxHeartbeats 6400000
section
open Go.RowKit
attribute [local go_sem ↓] Go.wp_at_zero Go.wp_at_succ
def fK(w:World)(c:Value)(a:List gq):Prop:=∃b,w.ownsRow 0 270 4 c a.length (gJ a b)/\mR w a b
theorem qQ{w:World}{aq a:Nat}{e}{size:Nat}{v:Value}{n:Nat}{b}(h:w.ownsRow aq e size v n b)(c:a<=aq):w.ownsRow a e size v n b:=by refine⟨h.1,?_⟩;rcases h.2 with f |⟨g,cD,bI,rfl,d,rest⟩;{exact .inl f};{exact .inr ⟨g,cD,bI,rfl,VF c d,rest⟩}
theorem fK.T{S w d a f}(h:fK w a f)(c:R S w d)(g:∀b,aR w b 270->¬S b)(i:∀b,aR w b 284->¬S b):fK d a f:=by have⟨k,i2,i3⟩:=h;exact⟨k,ax i2 c (fun b j=>g b (aR.aJ i2 j)),i3.T c i⟩
theorem lW.start{g b i}(h:dD g b i):lW g b.heap.size b.heap.size (b.alloc (.cells #[az g.c,aM,aB,aM] 249)) ⟨i,[],0,[]⟩:=by have a:=aX.cG b #[az g.c,aM,aB,aM] 249;exact⟨h.alloc _,(a 0 _ rfl).1,⟨aM,[],(a 1 _ rfl).1,VN _ _ _ _,trivial⟩,(a 2 _ rfl).1,⟨aM,(a 3 _ rfl).1,VN _ _ _ _⟩,(a 1 _ rfl).2,(a 2 _ rfl).2,(a 3 _ rfl).2, aR.cG _ _ _ _,h.tp.lt,aK,VS _,aK,aK,aK⟩
end
section
end
section
open Go.RowKit
def lA(k v:Int)(n:Nat):MapEntry:={key:=.int .i32 k,val:=.int .i64 v,born:=n}
def dM:Nat->List (Int×Int)->List MapEntry
 |_,[]=>[]
 |n,(k,v)::l=>lA k v n::dM (n+1) l
theorem DJ(r):∀(l:List (Int×Int)) (n i:Nat),∃j,Instr.findNow (.int .i32) (.int .i32 r) (dM n l) i=some ((l.find? (fun p=>r==p.1)).map (fun p=>(j,VM .i64 p.2)))
 |[],n,i=>⟨0,rfl⟩
 | (k,v)::l,n,i=>by
  by_cases h:r=k
  ·subst h
   exact⟨i,by simp[dM,lA,Instr.findNow,Instr.sameNow]⟩
  ·have⟨j,b⟩:=DJ r l (n+1) (i+1)
   have a:=bP h;exact⟨j,by simp[dM,lA,Instr.findNow,Instr.sameNow,a,b]⟩
def sV(w:World)(a:Nat):Prop:=w.heap[a]? =some (.map (dM 0 dW).toArray 22)
theorem zQ(w b r n):(Instr.checkKey b (n+1) 21 (.int .i32 r)).run prog w=.ok () w:=by simp[Instr.checkKey,run_underlying underlying21]
theorem tw(w b r):(Instr.checkKey b 10000 21 (.int .i32 r)).run prog w=.ok () w:=zQ w b r 9999
theorem vP(w r a b)(h:Instr.findNow (.int .i32) (.int .i32 r) a 0=some b):(Instr.findKey 21 (.int .i32 r) a).run prog w=.ok b w:=by simp[Instr.findKey,run_underlying underlying21,h]
theorem lh(w a r)(h:sV w a):(Instr.lookup 115 (.map (some a)) (.int .i32 r) true).run prog w=.ok (.tuple #[Z ((aQ r).getD 0),.bool (aQ r).isSome]) w:=by exact QR
theorem kV(w a r)(h:sV w a):(Instr.lookup 115 (.map (some a)) (.int .i32 r) false).run prog w=.ok (Z ((aQ r).getD 0)) w:=by exact QR
def cA(i:Nat):Array MapEntry:=(dM 0 (dW.take i)).toArray
theorem gx(w:World)(a b)(n:Nat)(k v:Int)(h:Instr.findNow (.int .i32) (.int .i32 k) a.toList 0=some none)(d:b=a.push (lA k v n)):(Instr.mapUpdate 115 (.map (some w.heap.size)) (.int .i32 k) (Z v)).run prog (w.alloc (.map a n))=.ok () (w.alloc (.map b (n+1))):=by have c:(w.alloc (.map a n)).heap[w.heap.size]? =some (.map a n):=heap_alloc_new w _;simp only[Instr.mapUpdate,Sem.run_bind,run_underlying underlying115,MapKept.run_getObj_map c,tw,Result.andThen,(vP (w.alloc (.map a n)) k a.toList _ h)];rw[MapKept.run_setObj_map _ c];subst d;have e:(w.alloc (.map a n)).heap.setIfInBounds w.heap.size (.map (a.push (lA k v n)) (n+1))=(w.alloc (.map (a.push (lA k v n)) (n+1))).heap:=by{show(w.heap.push _).setIfInBounds w.heap.size _=w.heap.push _;apply Array.ext_getElem?;intro i;rw[Array.getElem?_setIfInBounds,VQ,VQ];by_cases f:w.heap.size=i;{simp[f]};{grind}};exact congrArg (Result.ok ()) (by show({w.alloc (.map a n)with heap:=_}:World)=w.alloc _;rw[show ((w.alloc (.map a n)).heap.setIfInBounds w.heap.size (.map (a.push {key:=.int .i32 k,val:=Z v,born:=n}) (n+1)))=(w.alloc (.map (a.push (lA k v n)) (n+1))).heap from e];rfl)
theorem zP(w):aO 50 #[] w fun e a=>e=.returned (.map (some w.heap.size))/\a=w.alloc (.map (dM 0 dW).toArray 22):=by have b:= @run_makeMap prog;have u0:=gx w #[] (cA 1) 0 123 1 aV aV;have u1:=gx w (cA 1) (cA 2) 1 61 0 aV aV;have u2:=gx w (cA 2) (cA 3) 2 100 0 aV aV;have u3:=gx w (cA 3) (cA 4) 3 68 0 aV aV;have u4:=gx w (cA 4) (cA 5) 4 103 0 aV aV;have u5:=gx w (cA 5) (cA 6) 5 71 0 aV aV;have u6:=gx w (cA 6) (cA 7) 6 104 0 aV aV;have u7:=gx w (cA 7) (cA 8) 7 72 0 aV aV;have u8:=gx w (cA 8) (cA 9) 8 110 0 aV aV;have u9:=gx w (cA 9) (cA 10) 9 78 0 aV aV;have u10:=gx w (cA 10) (cA 11) 10 112 0 aV aV;have u11:=gx w (cA 11) (cA 12) 11 80 0 aV aV;have u12:=gx w (cA 12) (cA 13) 12 113 0 aV aV;have u13:=gx w (cA 13) (cA 14) 13 120 0 aV aV;have u14:=gx w (cA 14) (cA 15) 14 97 2 aV aV;have u15:=gx w (cA 15) (cA 16) 15 99 2 aV aV;have u16:=gx w (cA 16) (cA 17) 16 105 2 aV aV;have u17:=gx w (cA 17) (cA 18) 17 58 3 aV aV;have u18:=gx w (cA 18) (cA 19) 18 98 4 aV aV;have u19:=gx w (cA 19) (cA 20) 19 116 4 aV aV;have u20:=gx w (cA 20) (cA 21) 20 115 5 aV aV;have u21:=gx w (cA 21) (cA 22) 21 121 6 aV aV;go_enter func50,ntmps50;go_wp2;go_ret;exact⟨rfl,rfl⟩
end
section
end
section
open Go.RowKit
attribute [local go_sem ↓] Go.wp_at_zero Go.wp_at_succ
structure fM(g:CG)(pp:Nat)(w:World):Prop where
 iU:w.cell? ⟨pp,0,none⟩=some (.pointer (some ⟨g.c,0,none⟩))
 ne:pp≠g.c
 aZ:aR w pp 119
theorem fM.T{g pp S w c}(h:fM g pp w)(b:R S w c)(a:¬S pp):fM g pp c:=⟨b.T h.iU a,h.ne,h.aZ.T b a⟩
theorem fM.aw{g pp w a}(h:fM g pp w)(b:R (·=g.c) w a):fM g pp a:=h.T b h.ne
theorem fM.drewN{g pp w}(h:fM g pp w)(n):fM g pp (w.drewN n):=h.aw ((R.refl _ w).drewN n)
theorem fM.alloc{g pp w}(h:fM g pp w)(a):fM g pp (w.alloc a):=h.aw ((R.refl _ w).alloc a)
theorem fM.lt{g pp w}(h:fM g pp w):pp<w.heap.size:=World.block_lt_of_cell? w _ h.iU
def gC(p:kj):List Value:= [.int .i64 p.aF,.string ⟨p.text.toArray⟩,.int .i64 p.bF]
theorem OH(r):(⟨(iX r).toArray⟩:ByteArray)=VO r:=by simp[iX]
theorem si(w r):aO 214 #[.int .i32 r,.pointer none] w fun e a=>e=.returned (.tuple #[.agg #[aB,.string (VO r),aB],.pointer none])/\aG w a:=by go_enter func214,ntmps214;go_wp2;exact bodyPost_ret (v:=.tuple #[.agg #[aB,.string (VO r),aB],.pointer none]) (by simp[results,results214,go_sem]) rfl ⟨rfl,(R.refl _ w).alloc _⟩
end
section
end
section
open Go.RowKit
attribute [local go_sem ↓] Go.wp_at_zero Go.wp_at_succ
def OD(w:World)(b:Nat)(v0 v1 v2:Value):World:=((w.setCell ⟨b,0,none⟩ v0).setCell ⟨b,1,none⟩ v1).setCell ⟨b,2,none⟩ v2
theorem rE(w b v0 v1 v2):R (·=b) w (OD w b v0 v1 v2):=
 R.setCell (S:=(·=b)) (p:=⟨b,2,none⟩) (R.setCell (S:=(·=b)) (p:=⟨b,1,none⟩) (R.setCell (S:=(·=b)) (p:=⟨b,0,none⟩) (R.refl _ w) (fun _=>rfl) _) (fun _=>rfl) _) (fun _=>rfl) _
theorem tf:KU ⟨#[47,92,38]⟩ dF:=⟨ae,ae,ae⟩
theorem ui{g w a i0 b}(h:dD g w i0)(f:dD g a b)(j:R (·=g.c) w a)(v0 v1 v2)(l:w.heap.size<a.heap.size):dD g (OD a w.heap.size v0 v1 v2) b/\R (·=g.c) w (OD a w.heap.size v0 v1 v2):=by have d:=rE a w.heap.size v0 v1 v2;have k:=h.lt;refine⟨f.T d E (fun i e=>by have:=(h.tr i).lt;omega) (fun e=>by have:=h.tp.lt;omega),j.t d⟩
end
section
end
section
open Go.RowKit
theorem LV:(prog.info? 240).map (fun i=>(i.zero,i.size,i.bytes))=some (some (.agg #[aB,.string ⟨#[]⟩,aB]),3,32):=bK
def lg(w:World)(a:Value)(ps:List kj):Prop:=w.ownsRow 0 240 3 a ps.length (ps.flatMap gC)
theorem lg.T{S w c a ps}(h:lg w a ps)(g:R S w c)(f:∀b,aR w b 240->¬S b):lg c a ps:=
 ax h g (fun b d=>f b (aR.aJ h d))
end
section
end
section
open Go.RowKit
structure pY(cb:Nat)(P:Nat->Prop)(w w':World):Prop where
 cells:∀o,¬P o->w'.cell? ⟨cb,o,none⟩=w.cell? ⟨cb,o,none⟩
 cY:∀o,w'.frozen? ⟨cb,o,none⟩=w.frozen? ⟨cb,o,none⟩
 aZ:∀T,aR w cb T->aR w' cb T
theorem pY.refl(cb P w):pY cb P w w:=⟨fun _ _=>rfl,fun _=>rfl,fun _ h=>h⟩
theorem pY.trans{cb P a b c}(h:pY cb P a b)(k:pY cb P b c):pY cb P a c:=
 ⟨fun d g=>(k.cells d g).trans (h.cells d g),fun d=>(k.cY d).trans (h.cY d),fun f t=>k.aZ f (h.aZ f t)⟩
theorem pY.IV{cb P S a b}(h:R S a b)(c:¬S cb)(f:cb<a.heap.size):pY cb P a b:=
 ⟨fun d _=>h.cell (p:=⟨cb,d,none⟩) f c,fun d=>h.cY (p:=⟨cb,d,none⟩) f c,fun _ t=>t.T h c⟩
theorem pY.setCell{cb P}(w b v)(d:P b):pY cb P w (w.s cb b v):=
 have a:=Field.setCell w cb b v
 ⟨fun f c=>a.dK f (fun e=>c (e▸d)),a.cY,a.aZ⟩
structure jT(w:World)(cb:Nat)(c:fZ):Prop where
 a:w.cell? ⟨cb,9,none⟩=some (.bool c.all)
 p:w.cell? ⟨cb,10,none⟩=some (.bool c.ay)
 n:w.cell? ⟨cb,11,none⟩=some (.int .i64 c.dc)
 fa:w.frozen? ⟨cb,9,none⟩=false
 fp:w.frozen? ⟨cb,10,none⟩=false
 fn:w.frozen? ⟨cb,11,none⟩=false
 aZ:aR w cb 167
theorem jT.T{S w f cb c}(h:jT w cb c)(d:R S w f)(b:¬S cb):jT f cb c:=
 ⟨d.T h.a b,d.T h.p b,d.T h.n b,d.aE h.a h.fa b,d.aE h.p h.fp b,d.aE h.n h.fn b,h.aZ.T d b⟩
def uW(a:Nat):Prop:=a=9\/a=10\/a=11
end
section
end
section
open Go.RowKit
def jI(w:World)(v:Value)(l:List Int):Prop:=w.ownsRow 0 21 1 v l.length (l.map (VM .i32))
theorem jI.T{S w a v l}(h:jI w v l)(f:R S w a)(d:∀b,aR w b 21->¬S b):jI a v l:=
 ax h f (fun b c=>d b (aR.aJ h c))
def Bs(a:A.Ad)(b:Value):List Value:= [.int .i64 a.aF,.int .i64 a.number,b,.int .i64 a.fk.af]
def jf:List A.Ad->List Value->List Value
 |x::xs,v::vs=>Bs x v++jf xs vs
 |_,_=>[]
def ir(w:World):List A.Ad->List Value->Prop
 |[],[]=>True
 |x::xs,v::vs=>fK w v x.fk.aH/\ir w xs vs
 |_,_=>False
theorem ir.T{S w i}(g:R S w i)(d:∀b,aR w b 270->¬S b)(f:∀b,aR w b 284->¬S b):∀ {c:List A.Ad} {a:List Value},ir w c a->ir i c a
 |[],[],_=>trivial
 |x::c,v::a,h=>⟨h.1.T g d f,ir.T g d f h.2⟩
 |[],_::_,h=>h.elim
 |_::_,[],h=>h.elim
def xy(w:World)(b:Value)(l:List A.Ad):Prop:=∃a,w.ownsRow 0 186 4 b l.length (jf l a)/\ir w l a
structure iJ(w:World)(S:Nat->Prop):Prop where
 Pb:∀b,aR w b 186->¬S b
 jP:∀b,aR w b 270->¬S b
 Aj:∀b,aR w b 284->¬S b
 part:∀b,aR w b 240->¬S b
 zq:∀b,aR w b 21->¬S b
theorem xy.T{S w f a l}(h:xy w a l)(d:R S w f)(s:iJ w S):xy f a l:=by have⟨j,c,g⟩:=h;exact⟨j,ax c d (fun b i=>s.Pb b (aR.aJ c i)),g.T d s.jP s.Aj⟩
def db(c:fZ)(a d f b g:Value):List Value:=
 [.int .i32 c.ag,a,.bool c.neg,.string ⟨c.text.toArray⟩,.string ⟨c.name.toArray⟩,.int .i64 c.cM,d,.int .i64 c.fk.af,f,.bool c.all,.bool c.ay,.int .i64 c.dc,b,g]
structure Deep(w:World)(c:fZ)(av iv rv fv tv:Value):Prop where
 a:xy w av c.bN
 i:fK w iv c.fk.aH
 r:lg w rv c.cx
 f:jI w fv c.iY
 t:jI w tv c.cG
theorem Deep.T{S w m c d j k g l}(h:Deep w c d j k g l)(b:R S w m)(s:iJ w S):Deep m c d j k g l:=
 ⟨h.a.T b s,h.i.T b s.jP s.Aj,h.r.T b s.part,h.f.T b s.zq,h.t.T b s.zq⟩
structure eP(w:World)(cb:Nat)(c:fZ):Prop where
 aZ:aR w cb 167
 ij:∃av iv rv fv tv,aX w cb (db c av iv rv fv tv)/\Deep w c av iv rv fv tv
theorem gm{w:World}{b:Nat}{d}(t:aR w b d)(h:d≠186/\d≠270/\d≠284/\d≠240/\d≠21):iJ w (·=b):=
 ⟨fun c a e=>h.1 (t.eH (e▸a)),fun c a e=>h.2.1 (t.eH (e▸a)),fun c a e=>h.2.2.1 (t.eH (e▸a)),fun c a e=>h.2.2.2.1 (t.eH (e▸a)),fun c a e=>h.2.2.2.2 (t.eH (e▸a))⟩
theorem iJ.or{w S d}(h:iJ w S)(k:iJ w d):iJ w (fun b=>S b\/d b):=
 ⟨fun c a=>not_or.2 ⟨h.Pb c a,k.Pb c a⟩,fun c a=>not_or.2 ⟨h.jP c a,k.jP c a⟩,fun c a=>not_or.2 ⟨h.Aj c a,k.Aj c a⟩,fun c a=>not_or.2 ⟨h.part c a,k.part c a⟩,fun c a=>not_or.2 ⟨h.zq c a,k.zq c a⟩⟩
theorem dD.ct{g w i}(h:dD g w i):iJ w (·=g.c):=gm h.tc ae
theorem eP.T{S w d cb c}(h:eP w cb c)(a:R S w d)(s:iJ w S)(b:¬S cb):eP d cb c:=by have⟨f,k,l,g,m,i,j⟩:=h.ij;exact⟨h.aZ.T a b,f,k,l,g,m,i.T a b,j.T a s⟩
theorem cE{b u v w}(h:R (·=b) u v)(k:R (·=b) v w):R (·=b) u w:=h.t k
theorem dD.rU{g w a i cb}(h:dD g w i)(c:R (·=cb) w a)(t:aR w cb 167):dD g a i:=
 h.T c (h.tc.ne t ae) (fun b=>(h.tr b).ne t ae) (h.tp.ne t ae)
theorem aR.set{w b a}(h:aR w b a){p v}:aR (w.setCell p v) b a:=h.setCell p v
end
section
open Go.RowKit
attribute [local go_sem ↓] Go.wp_at_zero Go.wp_at_succ
abbrev Vr(g:CG)(w:World)(b:Except iD (Int×Nat))(e:Ending)(a:World):Prop:=
 match b with
 | .ok (n,i')=>e=.returned (.tuple #[Z n,.pointer none])/\dD g a i'/\R (·=g.c) w a
 | .error f=>∃v,e=.returned (.tuple #[.int .i64 0,v])/\fq w a v f/\R (·=g.c) w a
theorem pA(g pp w i)(h:dD g w i)(P:fM g pp w)(r)(a:A.number g.L g.pl i=r):aO 194 #[az pp] w (Vr g w r):=by have⟨n,z⟩:=b8 (xN 0 (cw g.L i));have⟨C,y⟩:=b8 (i+(cw g.L i).length);have U:Hid ((if (n==0 || decide (9999<n))=true then (.error (4,aD g.pl i):Except iD (Int×Nat))else .ok (n,C))=r):=by{rw[<-z,<-y];exact a};have a9:=P.iU;have G:=Y z;have D:=Y y.symm;clear z y a;go_enter func194,ntmps194;go_wp2_with fail;refine(cu g _ i h).mono ?_;rintro e f ⟨rfl,p,rfl⟩;go_wp2_with fail;go_loopg [5] (g.L.length-i) (fun k v wr=>∃j m,v=Z m/\0<=m/\m<=10000/\Hid (dD g wr j)/\Hid (fM g pp wr)/\j+k=g.L.length/\Hid (xN m (cw g.L j)=n/\C=j+(cw g.L j).length)/\Hid (R (·=g.c) w wr));(case atStart=>exact ⟨i,0,rfl,E,E,h.drewN _,P.drewN _,bV h.le,⟨G.o,D.o⟩,(R.refl _ w).drewN _⟩);case round=>obtain⟨j,m,rfl,a7,a8,H,M,I,s,c5⟩:=hrel;have l:dD g wr j:=H;have N:fM g pp wr:=M;have F:Hid (j+gk=g.L.length):=I;have aa:=N.iU;clear I H M;by_cases hd:br (aj g.L j)=true;{have a3:j<g.L.length:=nh hd;have S:=mW hd;have q:Hid (br (aj g.L j)=true):=hd;have W:Hid (cw g.L j=aj g.L j::cw g.L (j+1)):=S;obtain⟨a5,a6⟩:=fT hd;clear hd S;go_wp2_with fail;refine(aL g wr j l).mono ?_;rintro e f ⟨rfl,p,rfl⟩;go_wp2_with fail;refine(fy _ _).mono ?_;rintro e f ⟨rfl,rfl⟩;rw[q.o];go_wp2_with fail;refine(cK g _ j (l.drewN _) a3).mono ?_;rintro e f ⟨rfl,a1,O⟩;go_wp2;go_roundg (gk-1);(case measure=>have:=F.o;omega);case rel=>refine⟨j+1,_,rfl,E,E,a1,(N.drewN p).aw O,bV F.o,?_,(R.drewN c5 p).t O⟩;have⟨b,d⟩:=Hid.o s;rw[W.o]at b d;exact⟨b,by rw[d];simp;omega⟩};{have x:br (aj g.L j)=false:=bS hd;have q:Hid (br (aj g.L j)=false):=x;obtain⟨b,d⟩:=Hid.o s;rw[vK x]at b d;have a4:m=n:=b;have a2:C=j:=bS d;subst a4 a2;clear hd x b d s G D;go_wp2_with fail;refine(aL g wr _ l).mono ?_;rintro e f ⟨rfl,p,rfl⟩;go_wp2_with fail;refine(fy _ _).mono ?_;rintro e f ⟨rfl,rfl⟩;rw[q.o];have a:=U.o;by_cases d4:m=0;{rw[if_pos pr]at a;subst a;have X:(m==0)=true:=pr;exact Rw};{have X:=bP d4;by_cases B:9999<m;{rw[if_pos (by simp[B])]at a;subst a;have a0:=decide_eq_true B;exact Rw};{rw[if_neg (by simp[d4];omega)]at a;subst a;have a0:=decide_eq_false B;go_wp2;go_ret2;exact⟨rfl,l.drewN _,R.drewN c5 _⟩}}}
theorem vT(w r v)(b:∃a,v=az a):aO 214 #[.int .i32 r,v] w fun e c=>e=.returned (.tuple #[.agg #[aB,.string ⟨#[]⟩,aB],v])/\aG w c:=by obtain⟨a,rfl⟩:=b;go_enter func214,ntmps214;go_wp2;exact bodyPost_ret (v:=.tuple #[.agg #[aB,.string ⟨#[]⟩,aB],az a]) (by simp[results,results214,go_sem]) rfl ⟨rfl,(R.refl _ w).alloc _⟩
abbrev Vs(g:CG)(w:World)(b:Except iD (kj×Nat))(e:Ending)(a:World):Prop:=
 match b with
 | .ok (p,i')=>e=.returned (.tuple #[.agg #[Z p.aF,.string ⟨p.text.toArray⟩,Z p.bF],.pointer none])/\dD g a i'/\R (·=g.c) w a
 | .error f=>∃v,e=.returned (.tuple #[.agg #[aB,.string ⟨#[]⟩,aB],v])/\fq w a v f/\R (·=g.c) w a
theorem Ep(g pp w i)(h:dD g w i)(a0:fM g pp w)(a4 aa)(a:A.part g.L g.pl a4 i=aa):aO 196 #[az pp,Z a4] w (Vs g w aa):=by unfold A.part at a;have bc:=h.lt;have b5:=a0.iU;have b4:=a0.lt;have D:w.heap.size≠g.c:=E;have P:∀a8:Obj,R (·=g.c) w (w.alloc a8):=fun a8=>(R.refl _ w).alloc a8;have an:∀a8:Obj,(w.alloc a8).c pp 0=some (az g.c):=fun a8=>(World.cell?_alloc_past _ _ _ b4).trans b5;by_cases C:aj g.L i=38;{simp only[C,beq_self_eq_true,if_true]at a;subst a;go_enter func196,ntmps196;go_wp21;refine(cu g _ i (h.alloc _)).kd fun j=>?_;go_wp21;refine(dQ g _ i 38 ((h.alloc _).drewN _) C E).k fun s ⟨o,c5⟩=>?_;have b:=((aX.cG w _ _).drewN j).T c5 D;have fd:=b 0 _ rfl;have b1:=b 1 _ rfl;have b7:=b 2 _ rfl;have B:w.heap.size<s.heap.size:=GM;go_wp2;have⟨c,a8⟩:=ui h o (((P _).drewN j).t c5) (Z 1) (.string ⟨#[]⟩) aB B;exact bodyPost_ret (v:=.tuple #[.agg #[Z 1,.string ⟨#[]⟩,aB],.pointer none]) vh rfl ⟨rfl,c,a8⟩};{have ap:=bP C;rw[ap]at a;simp only[VE,if_false]at a;by_cases U:aj g.L i=92;{have a3:(aj g.L i !=92)=false:=by{simp[U]};rw[a3]at a;simp only[VE,if_false]at a;by_cases H:(aj g.L (i+1)==48 || !br (aj g.L (i+1)))=true;{rw[if_pos H]at a;have x:=Y a;have a2:Hid (aj g.L (i+1)=48\/(aj g.L (i+1)==48)=false/\br (aj g.L (i+1))=false):=by{by_cases I:aj g.L (i+1)=48;{exact Or.inl I};{exact Or.inr ⟨by simpa using I,by simpa[I]using H⟩}};go_enter func196,ntmps196;go_wp21;refine(cu g _ i (h.alloc _)).kd fun j=>?_;go_wp21;refine(dI g _ i 38 ((h.alloc _).drewN _) C).kd fun n=>?_;go_wp21;refine(dQ g _ i 92 ((h.alloc _).drewN _) U E).k fun s ⟨o,c5⟩=>?_;have b6:=c5.T (an _) a0.ne;have ac:=((aX.cG w _ _).drewN (j+n)).T c5 D;have al:=((P _).drewN (j+n)).t c5;have be:w.heap.size<s.heap.size:=GM;go_wp21;refine(aL g s (i+1) o).kd fun F=>?_;have a:=x.o;clear x;rcases a2.o with I |⟨av,b3⟩;(all_goals first|(rw[I];go_wp21)|(have ao:Hid _:=b3;go_wp21;refine(fy _ _).kk ?_;rw[ao.o];go_wp21));all_goals(rcases y:A.cQ g.L g.pl dF (i+1)with f' |⟨r,i2⟩ <;> rw[y]at a <;> simp only[pj]at a <;> subst a;{refine(qy g _ (i+1) _ _ tf (o.drewN _) f' y).mono ?_;rintro e S ⟨v,rfl,⟨l,rfl,N,z⟩,a9⟩;go_wp21;refine(vT S 0 _ ⟨l,rfl⟩).k fun f O=>?_;have m:aG s f:=(a9.d).t O;have b:=ac.T m id;have fd:=b 0 _ rfl;have b1:=b 1 _ rfl;have b7:=b 2 _ rfl;have b0:s.heap.size<=l:=N;have a6:=z.T O id;go_wp2;have q:=rE f w.heap.size aB (.string ⟨#[]⟩) aB;refine bodyPost_ret (v:=.tuple #[.agg #[aB,.string ⟨#[]⟩,aB],az l]) vh rfl ⟨_,rfl,⟨l,rfl,E,a6.T q E⟩,?_⟩;exact(al.t m).t q};{refine(sF g _ (i+1) _ _ tf (o.drewN _) r i2 y).k fun S ⟨a5,a7⟩=>?_;go_wp21;refine(si _ r).k fun f p=>?_;have m:=(a7.d).t p;have M:=a5.T p id (fun _=>id) id;have b:=ac.T m D;have fd:=b 0 _ rfl;have b1:=b 1 _ rfl;have b7:=b 2 _ rfl;have B:w.heap.size<f.heap.size:=by{have:=m.size;omega};go_wp2;have⟨c,a8⟩:=ui h M (al.t m) aB (.string (VO r)) aB B;exact Mh})};{rw[if_neg H]at a;simp at H;have⟨av,W⟩:=H;have a2:Hid _:=W;have b2:=nh W;obtain⟨ba,bb⟩:=fT W;clear W;have x:=Y a;clear a;go_enter func196,ntmps196;go_wp21;refine(cu g _ i (h.alloc _)).kd fun j=>?_;go_wp21;refine(dI g _ i 38 ((h.alloc _).drewN _) C).kd fun n=>?_;go_wp21;refine(dQ g _ i 92 ((h.alloc _).drewN _) U E).k fun s ⟨o,c5⟩=>?_;have b6:=c5.T (an _) a0.ne;go_wp21;refine(aL g s (i+1) o).kd fun F=>?_;go_wp21;refine(fy _ _).kk ?_;rw[a2.o];go_wp21;refine(cK g _ (i+1) (o.drewN _) b2).k fun f ⟨M,p⟩=>?_;have m:=p.d;have b:=(((aX.cG w _ _).drewN (j+n)).T c5 D).T m D;have B:w.heap.size<f.heap.size:=by{have:=c5.size;have:=m.size;simp at*;omega};have a1:=(((P _).drewN (j+n)).t c5).t m;have a:=x.o;clear x;by_cases ab:aj g.L (i+1)-48>a4;{rw[if_pos ab]at a;subst a;go_wp21;refine(eI 8 _ _).k fun b9 ad=>?_;have X:=b.T ((R.refl (fun _=>False) f).alloc (.cells #[Z 8,Z (aD g.pl i)] 73)) id;have fd:=X 0 _ rfl;have b1:=X 1 _ rfl;have b7:=X 2 _ rfl;have z:=jE.cG f 8 (aD g.pl i);have am:R (·=g.c) w (f.alloc (.cells #[Z 8,Z (aD g.pl i)] 73)):=a1.alloc _;rw[<-ad]at fd b1 b7 z am;obtain⟨l,N⟩:=b8 (f.heap.size);rw[N]at z ⊢;clear ad b X c5 p m;go_wp2;have q:=rE b9 w.heap.size aB (.string ⟨#[]⟩) aB;refine bodyPost_ret (v:=.tuple #[.agg #[aB,.string ⟨#[]⟩,aB],az l]) vh rfl ⟨_,rfl,⟨l,rfl,E,z.T q E⟩,?_⟩;exact am.t q};{rw[if_neg ab]at a;subst a;have fd:=b 0 _ rfl;have b1:=b 1 _ rfl;have b7:=b 2 _ rfl;go_wp2;have⟨c,a8⟩:=ui h M a1 (Z 2) (.string ⟨#[]⟩) (Z (aj g.L (i+1)-48)) B;exact bodyPost_ret (v:=.tuple #[.agg #[Z 2,.string ⟨#[]⟩,Z (aj g.L (i+1)-48)],.pointer none]) vh rfl ⟨rfl,c,a8⟩}}};{have a3:(aj g.L i !=92)=true:=by{simp_all};rw[a3]at a;simp only[if_true]at a;have x:=Y a;go_enter func196,ntmps196;go_wp21;refine(cu g _ i (h.alloc _)).kd fun j=>?_;go_wp21;refine(dI g _ i 38 ((h.alloc _).drewN _) C).kd fun n=>?_;go_wp21;refine(dI g _ i 92 ((h.alloc _).drewN _) U).kd fun F=>?_;go_wp21;have a:=x.o;rcases y:A.plain g.L g.pl dF i with f' |⟨r,i2⟩ <;> rw[y]at a <;> simp only[pj]at a <;> subst a;{refine(vu g _ i _ _ tf ((h.alloc _).drewN _) f' y).mono ?_;rintro e S ⟨v,rfl,⟨l,rfl,N,z⟩,a9⟩;go_wp21;refine(vT S 0 _ ⟨l,rfl⟩).k fun f O=>?_;have G:=a9.t O;have b:=((aX.cG w _ _).drewN (j+n+F)).T G id;have fd:=b 0 _ rfl;have b1:=b 1 _ rfl;have b7:=b 2 _ rfl;have b0:w.heap.size<l:=by{simp at N;omega};have a6:=z.T O id;have a1:=((P _).drewN (j+n+F)).t G;go_wp2;have q:=rE f w.heap.size aB (.string ⟨#[]⟩) aB;refine bodyPost_ret (v:=.tuple #[.agg #[aB,.string ⟨#[]⟩,aB],az l]) vh rfl ⟨_,rfl,⟨l,rfl,E,a6.T q E⟩,?_⟩;exact a1.t q};{refine(zj g _ i _ _ tf ((h.alloc _).drewN _) r i2 y).k fun S ⟨a5,a7⟩=>?_;go_wp21;refine(si _ r).k fun f p=>?_;have M:=a5.T p id (fun _=>id) id;have G:=a7.t p;have b:=((aX.cG w _ _).drewN (j+n+F)).T G D;have fd:=b 0 _ rfl;have b1:=b 1 _ rfl;have b7:=b 2 _ rfl;have B:w.heap.size<f.heap.size:=by{have:=G.size;simp at this;omega};go_wp2;have⟨c,a8⟩:=ui h M (((P _).drewN (j+n+F)).t G) aB (.string (VO r)) aB B;exact Mh}}}
abbrev Vu(g:CG)(w:World)(d:Except iD (List kj×Nat))(e:Ending)(a:World):Prop:=
 match d with
 | .ok (ps,i')=>∃b,e=.returned (.tuple #[b,.pointer none])/\lg a b ps/\dD g a i'/\R (·=g.c) w a
 | .error f=>∃v,e=.returned (.tuple #[aM,v])/\fq w a v f/\R (·=g.c) w a
theorem pV(g pp w i)(h:dD g w i)(aa:fM g pp w)(l B)(ab:A.bO g.L g.pl l (g.L.length+1) [] i=B):aO 175 #[az pp,Z l] w (Vu g w B):=by have I:=Y ab;have b1:=h.le;have b9:=h.cC;obtain⟨i0,a4,al,am,an⟩:=info_parts LV;go_enter func175,ntmps175;go_wp21;go_loopg [6] (g.L.length-i) (fun k v wr=>∃j a m ra rc,v=.slice ra a.length rc/\Hid (dD g wr j)/\Hid (fM g pp wr)/\Hid (wr.ownsRow w.heap.size 240 3 (.slice ra a.length rc) a.length (a.flatMap gC))/\j+k=g.L.length/\Hid (g.L.length<m+j/\a.length<=j/\A.bO g.L g.pl l m a j=B)/\Hid (R (fun b=>b=g.c\/w.heap.size<=b) w wr));(case atStart=>exact ⟨i,[],g.L.length+1,none,0,rfl,h,aa,VN _ _ _ _,E,⟨E,aK,I.o⟩,R.refl _ _⟩);case round=>obtain⟨j,a,m,ra,rc,rfl,W,a8,y,a6,P,S⟩:=hrel;have⟨b4,b7,eW⟩:=P.out;have f:=W;have k5:=a8;have f9:=S;have H:=Y a6;have ba:=k5.iU;cases m with|zero=>have:=f.le;omega|succ m=>unfold A.bO at eW;by_cases n:aj g.L j=47;{simp only[n,beq_self_eq_true,if_true]at eW;subst eW;go_wp21;refine(dQ g wr j 47 f n E).k fun a0 ⟨X,hI⟩=>?_;go_wp2;go_ret2;refine⟨_,rfl,qQ (ax (Hid.o y) hI (fun b a5 e=>(aR.aJ (Hid.o y) a5).ne f.tc ae e)) (Nat.zero_le _),X,?_⟩;exact Mn};{have N:=bP n;rw[N]at eW;simp only[VE,if_false]at eW;cases s:A.part g.L g.pl l j with|error ao=>rw[s]at eW;subst eW;have z:=Y s;go_wp21;refine(dI g wr j 47 f n).kd fun x=>?_;go_wp21;refine(Ep g pp _ j (f.drewN x) (k5.drewN x) l _ z.o).mono ?_;rintro e a7 ⟨v,rfl,⟨F,rfl,a2,a1⟩,C⟩;have ac:R (·=g.c) wr a7:=C.d;have av:wr.heap.size<=F:=a2;have ad:=f9.size;go_wp2;go_ret2;exact⟨_,rfl,⟨F,rfl,E,a1.T ((R.refl (fun _=>False) a7).alloc _) id⟩,((f9.t ac:R (fun b=>b=g.c\/w.heap.size<=b) w a7).mono (fun b a5 e=>by rcases e with e|e;exact e;omega)).alloc _⟩|ok q=>obtain⟨p,G⟩:=q;rw[s]at eW;simp only at eW;have z:=Y s;have M:=Y eW;have b2:=IX s;go_wp21;refine(dI g wr j 47 f n).kd fun x=>?_;go_wp21;refine(Ep g pp _ j (f.drewN x) (k5.drewN x) l _ z.o).k fun a7 ⟨r,C⟩=>?_;have ac:=C.d;have l6:=ax (Hid.o y) ac (fun b a5 e=>(aR.aJ (Hid.o y) a5).ne f.tc ae e);have b0:=r.le;have ad:=VF f9.size ac.size;have U:∀D ac:Obj,((a7.alloc D).alloc ac).heap[a7.heap.size+1]? =some ac:=fun D ac=>by{have:=heap_alloc_new (a7.alloc D) ac;simpa using this};go_wp2_with (at_builtin;refine OZ a4 al am an ((l6.alloc _).alloc _) (U _ _) (a7.heap.size+2) aK ?_;intro O cD bb b5 a3 ap b3);go_roundg (g.L.length-G);(case measure=>have:=H.o;omega);case rel=>have b6:=((((R.refl (fun b=>(Value.slice ra a.length rc).ownBlock=some b) a7).alloc _).alloc _)).t (R.bT a3);refine⟨G,a++[p],m,some ⟨O,0,none⟩,cD,aK,?_,?_,?_,E,⟨E,bQ,M.o⟩,?_⟩;{exact r.T b6 (du l6 r.tc ae) (fun a9=>du l6 (r.tr a9) ae) (du l6 r.tp ae)};{exact Gy};{have:(a++[p]).flatMap gC=a.flatMap gC++[Z p.aF,.string ⟨p.text.toArray⟩,Z p.bF]:=by{simp[gC]};rwa [this,List.length_append]};{exact ND}}
end
section
open Go.RowKit
def Vo(g:CG)(cb:Nat)(w:World)(d:Except iD (fZ×Nat))(e:Ending)(a:World):Prop:=
 match d with
 | .ok (c',i')=>e=.returned (.pointer none)/\jT a cb c'/\dD g a i'/\R (fun b=>b=g.c\/b=cb) w a/\pY cb uW w a
 | .error f=>∃v,e=.returned v/\fq w a v f/\R (fun b=>b=g.c\/b=cb) w a
theorem Az(g pp cb w i)(h:dD g w i)(b3:fM g pp w)(c)(al:jT w cb c)(X)(ao:A.ee g.L g.pl (g.L.length+1) c i=X):Calls prog 176 #[.pointer (some ⟨pp,0,none⟩),.pointer (some ⟨cb,6,none⟩)] w (Vo g cb w X):=by have av:=Y ao;clear ao;have bm:=h.le;have ic:cb≠g.c:=al.aZ.ne h.tc ae;go_enter func176,ntmps176;go_wp21;go_loopg [] (g.L.length-i) (fun k wr=>∃j d m,Hid (dD g wr j)/\Hid (fM g pp wr)/\Hid (jT wr cb d)/\j+k=g.L.length/\Hid (g.L.length<m+j/\A.ee g.L g.pl m d j=X)/\Hid (R (fun b=>b=g.c\/b=cb) w wr/\pY cb uW w wr));(case atStart=>exact ⟨i,c,g.L.length+1,h,b3,al,E,⟨E,av.o⟩,R.refl _ _,pY.refl _ _ _⟩);case round=>obtain⟨j,d,m,ad,an,hd,am,aa,ab⟩:=hrel;obtain⟨bp,eW⟩:=aa.out;have cv:dD g wr j:=ad;have C:fM g pp wr:=an;have na:jT wr cb d:=hd;obtain⟨f9,kB⟩:=ab.out;have U:=Y am;have bs:=C.iU;have bl:=cv.le;have a4:=na.a;have a6:=na.p;have a5:=na.n;have ba:=na.fa;have be:=na.fp;have fn:=na.fn;have a2:pp≠cb:=C.aZ.ne na.aZ ae;clear am ad an aa ab hd;cases m with|zero=>omega|succ m=>unfold A.ee at eW;simp only at eW;by_cases x:(aj g.L j==103 && !d.all)=true;{rw[if_pos x]at eW;simp only[Bool.and_eq_true,beq_iff_eq,Bool.not_eq_true']at x;obtain⟨G,B⟩:=x;have O:j<g.L.length:=cJ E;have H:=Y eW;clear eW;rw[B]at a4;go_wp21;refine(aL g wr j cv).kd fun r=>?_;rw[G];go_wp21;refine(cK g _ j (cv.drewN r) O).k fun a7 ⟨y,F⟩=>?_;have ac:R (·=g.c) wr a7:=F.d;have f:=na.T ac ic;have b4:=f.a;have bb:=f.fa;go_wp2;go_roundg (g.L.length-(j+1));(case measure=>have:=U.o;omega);case rel=>have b6:R (·=cb) a7 (a7.s cb 9 (.bool true)):=R.setCell (S:=(·=cb)) (p:=⟨cb,9,none⟩) (R.refl _ a7) (fun _=>rfl) _;have dq:=pY.setCell (cb:=cb) (P:=uW) a7 9 (.bool true) (Or.inl rfl);have l:=Field.setCell a7 cb 9 (.bool true);refine⟨j+1,{d with all:=true},m,y.T b6 (Ne.symm ic) (fun I=>(y.tr I).ne f.aZ ae) (y.tp.ne f.aZ ae),(C.aw ac).T b6 a2,?_,E,⟨E,H.o⟩,?_,?_⟩;{exact⟨VH _ _ _ f.a,(l.dK 10 ae).trans f.p,(l.dK 11 ae).trans f.n,(l.cY 9).trans f.fa,(l.cY 10).trans f.fp,(l.cY 11).trans f.fn,l.aZ _ f.aZ⟩};{exact GF};{exact GC}};{rw[if_neg x]at eW;by_cases G:aj g.L j=103;{have b0:d.all=true:=by{simpa[G]using x};simp[G,br]at eW;subst eW;have j5:Hid (br 103=false):=show br 103=false by{decide};rw[b0]at a4;clear x;go_wp21;refine(aL g wr j cv).kd fun r=>?_;rw[G];exact ID};{have a3:=bP G;by_cases B:aj g.L j=112;{by_cases N:d.ay=true;{simp[B,N,br]at eW;subst eW;have j5:Hid (br 112=false):=show br 112=false by{decide};rw[N]at a6;clear x a3;go_wp21;refine(aL g wr j cv).kd fun r=>?_;rw[B];exact ID};{have a8:d.ay=false:=bS N;simp only[B,a8,beq_self_eq_true,Bool.not_false,Bool.and_self,if_true]at eW;have O:j<g.L.length:=cJ E;have H:=Y eW;rw[a8]at a6;clear eW x a3 N;go_wp21;refine(aL g wr j cv).kd fun r=>?_;rw[B];go_wp21;refine(cK g _ j (cv.drewN r) O).k fun a7 ⟨y,F⟩=>?_;have ac:R (·=g.c) wr a7:=F.d;have f:=na.T ac ic;have b7:=f.p;have bh:=f.fp;go_wp2;go_roundg (g.L.length-(j+1));(case measure=>have:=U.o;omega);case rel=>have b6:R (·=cb) a7 (a7.s cb 10 (.bool true)):=R.setCell (S:=(·=cb)) (p:=⟨cb,10,none⟩) (R.refl _ a7) (fun _=>rfl) _;have dq:=pY.setCell (cb:=cb) (P:=uW) a7 10 (.bool true) (Or.inr (Or.inl rfl));have l:=Field.setCell a7 cb 10 (.bool true);refine⟨j+1,{d with ay:=true},m,y.T b6 (Ne.symm ic) (fun I=>(y.tr I).ne f.aZ ae) (y.tp.ne f.aZ ae),(C.aw ac).T b6 a2,?_,E,⟨E,H.o⟩,?_,?_⟩;{exact⟨(l.dK 9 ae).trans f.a,VH _ _ _ f.p,(l.dK 11 ae).trans f.n,(l.cY 9).trans f.fa,(l.cY 10).trans f.fp,(l.cY 11).trans f.fn,l.aZ _ f.aZ⟩};{exact GF};{exact GC}}};{have a0:=bP B;by_cases z:br (aj g.L j)=true;{have j5:=Y z;by_cases M:d.dc=0;{simp only[a0,z,M,beq_self_eq_true,Bool.and_self,if_true,VP,VE,if_false]at eW;cases D:A.number g.L g.pl j with|error b9=>rw[D]at eW;simp only at eW;subst eW;have W:=Y D;rw[M]at a5;clear x D z;go_wp21;refine(aL g wr j cv).kd fun r=>?_;go_wp21;refine(fy _ _).kk ?_;rw[j5.o];go_wp21;refine(pA g pp _ j (cv.drewN r) (C.drewN r) _ W.o).mono ?_;rintro e a7 ⟨v,rfl,⟨a9,rfl,b2,b1⟩,F⟩;have ac:R (·=g.c) wr a7:=F.d;have bi:wr.heap.size<=a9:=b2;have bq:=f9.size;go_wp2;go_ret;exact⟨_,rfl,⟨a9,rfl,E,b1⟩,f9.t ac⟩|ok q=>obtain⟨k,ap⟩:=q;rw[D]at eW;simp only at eW;have O:=rB D z;have W:=Y D;have H:=Y eW;rw[M]at a5;clear eW x D z;go_wp21;refine(aL g wr j cv).kd fun r=>?_;go_wp21;refine(fy _ _).kk ?_;rw[j5.o];go_wp21;refine(pA g pp _ j (cv.drewN r) (C.drewN r) _ W.o).k fun a7 ⟨y,F⟩=>?_;have ac:R (·=g.c) wr a7:=F.d;have f:=na.T ac ic;have b5:=f.n;have bc:=f.fn;have bk:=y.le;go_wp2;go_roundg (g.L.length-ap);(case measure=>have:=U.o;omega);case rel=>have b6:R (·=cb) a7 (a7.s cb 11 (Z k)):=R.setCell (S:=(·=cb)) (p:=⟨cb,11,none⟩) (R.refl _ a7) (fun _=>rfl) _;have dq:=pY.setCell (cb:=cb) (P:=uW) a7 11 (Z k) (Or.inr (Or.inr rfl));have l:=Field.setCell a7 cb 11 (Z k);refine⟨ap,{d with dc:=k},m,y.T b6 (Ne.symm ic) (fun I=>(y.tr I).ne f.aZ ae) (y.tp.ne f.aZ ae),(C.aw ac).T b6 a2,?_,E,⟨E,H.o⟩,?_,?_⟩;{exact⟨(l.dK 9 ae).trans f.a,(l.dK 10 ae).trans f.p,VH _ _ _ f.n,(l.cY 9).trans f.fa,(l.cY 10).trans f.fp,(l.cY 11).trans f.fn,l.aZ _ f.aZ⟩};{exact GF};{exact GC}};{have bn:=bP M;simp only[a0,bn,Bool.and_false,VP,VE,if_false]at eW;subst eW;clear x z;go_wp21;refine(aL g wr j cv).kd fun r=>?_;exact ID}};{have a1:br (aj g.L j)=false:=bS z;have j5:=Y a1;simp only[a0,a1,VP,VE,if_false]at eW;subst eW;clear x z a1;go_wp21;refine(aL g wr j cv).kd fun r=>?_;exact ID}}}}
attribute [local go_sem ↓] Go.wp_at_zero Go.wp_at_succ
end
section
open Go.RowKit
attribute [local go_sem ↓] Go.wp_at_zero Go.wp_at_succ
theorem JH{g f aq w s}(h:lW g f aq w s)(a:dt s.aH=true):Calls prog 208 #[.pointer (some ⟨f,0,none⟩)] w fun e o=>e=.returned (.bool true)/\∃n,o=w.drewN n:=by have⟨l,C,B,i2,i3⟩:=h.it;have y:=h.bI.cC;have t:=h.bI.le;have r:=h.cC;by_cases k:s.aH.length=0;{have:s.aH= []:=VK k;rw[this]at a;simp[dt]at a};{obtain⟨m,d⟩:∃m,s.aH.length=m+1:=⟨s.aH.length-1,E⟩;rw[d]at i2;have c:m<s.aH.length:=E;have⟨v,_,i⟩:=kz i3 m c;have j:s.aH[m].aF=1:=by{unfold dt at a;rw[List.getLast?_eq_getElem?,d]at a;simpa[c]using a};obtain⟨b,cD,rfl⟩:∃b cD,l=.slice (some ⟨b,0,none⟩) (m+1) cD:=by{rcases i2.2 with ⟨_,p⟩ |⟨b,cD,bI,rfl,_⟩;{omega};{simp}};have q:w.cell? ⟨b,m*4,none⟩=some (Z 1):=by{rw[i2.cellAt (m*4) E,<-j];have:=i 0 E;simpa[jz]using this};have hd:decide ((0:Int)<(m:Int)+1)=true:=decide_eq_true E;have x:m<=500:=E;have z:IntKind.i64.wrap ((m:Int)+1-1)=(m:Int):=fF;go_enter func208,ntmps208;exact yT}
theorem Jo{g b aq w s}(h:lW g b aq w s)(f:s.aH≠ []):aO 209 #[az b] w fun e d=>∃v,e=.returned v/\fq w d v (iS g.pl s.i)/\aG w d:=by have⟨p,r,o,i2,i3⟩:=h.it;have q:=h.r0;have⟨a,c,k⟩:=bG i2;subst k;have n:s.aH.length≠0:=fun e=>f (VK e);have m:(0:Int)<(s.aH.length:Int):=E;go_enter func209,ntmps209;go_wp21;refine(dR g w s.i h.bI).mono ?_;rintro e t ⟨v,rfl,j,l⟩;go_wp2;go_ret;exact⟨v,rfl,j,l⟩
theorem Ae{g a aq w s}(h:lW g a aq w s)(c:s.af=9):aO 211 #[az a] w fun e b=>∃v,e=.returned v/\fq w b v (8,aD g.pl s.i)/\aG w b:=by have f:=h.r0;have d:=h.r2;rw[c]at d;go_enter func211,ntmps211;exact Rh
theorem yd{g d aq w s}(h:lW g d aq w s)(j:s.ai= []):aO 212 #[az d] w fun e f=>∃v,e=.returned v/\fq w f v (8,aD g.pl s.i)/\aG w f:=by have m:=h.r0;have⟨l,b,k⟩:=h.op;obtain⟨a,c,rfl⟩:=bG k;rw[j]at b;simp at b;go_enter func212,ntmps212;exact Rh
theorem Kr{g b aq w s}(h:lW g b aq w s)(a)(m:A.dv g.L g.pl s.i=.error a):aO 213 #[az b] w fun e d=>∃v,e=.returned v/\fq w d v a/\R (·=g.c) w d:=by have f:=Y m;go_enter func213,ntmps213;go_wp21;refine(Ho g b w s.i h.bI h.r0 h.ne a f.o).mono ?_;rintro e p ⟨v,rfl,⟨j,rfl,l,k⟩,n⟩;go_wp2;go_ret;exact⟨_,rfl,⟨j,rfl,l,k.T ((R.refl (fun _=>False) p).alloc _) id⟩,n.alloc _⟩
theorem LX{g D aq w s}(h:lW g D aq w s)(B)(a:jP g.L g.pl s=.error B):Calls prog 195 #[.pointer (some ⟨D,0,none⟩)] w fun e F=>∃v,e=.returned v/\fq w F v B/\R (·=g.c) w F:=by have a0:=h.r0;unfold jP at a;by_cases b:dt s.aH=true;{simp only[b,if_true,VT.injEq]at a;subst a;go_enter func195,ntmps195;go_wp21;refine(JH h b).kd fun n=>?_;go_wp21;refine(dR g _ s.i (h.bI.drewN n)).mono ?_;rintro e a1 ⟨v,rfl,bb,W⟩;go_wp2;go_ret;exact⟨v,rfl,bb.oG (VS _),((R.refl (·=g.c) w).drewN n).t W⟩};{have m:dt s.aH=false:=bS b;simp only[m,VE,if_false]at a;have G:Hid _:=m;clear b m;have d:=jV h G.o;have f:=fun n=>aL g (w.drewN n) s.i (h.bI.drewN n);by_cases j:aj g.L s.i=94;{simp only[j,beq_self_eq_true,if_true]at a;by_cases r:s.aH= [];{simp[r]at a};{have S:s.aH.isEmpty=false:=bS r;rw[S]at a;simp at a;subst a;go_enter func195,ntmps195;go_wp21;refine d.kd fun n=>?_;go_wp21;refine(f n).kd fun y=>?_;rw[j];go_wp21;refine(Jo (h.drewN _) r).mono ?_;exact IG}};{have I:=bP j;by_cases z:aj g.L s.i=36;{simp[z]at a};{have M:=bP z;by_cases k:aj g.L s.i=40;{simp only[k,beq_self_eq_true,if_true,show((40:Int)==94)=false from rfl,show((40:Int)==36)=false from rfl,VE,if_false]at a;by_cases C:s.af=9;{simp only[C,beq_self_eq_true,if_true,VT.injEq]at a;subst a;go_enter func195,ntmps195;go_wp21;refine d.kd fun n=>?_;go_wp21;refine(f n).kd fun y=>?_;rw[k];go_wp21;refine(Ae (h.drewN _) C).mono ?_;exact IG};{simp_all}};{have N:=bP k;by_cases l:aj g.L s.i=41;{simp only[l,beq_self_eq_true,if_true,show((41:Int)==94)=false from rfl,show((41:Int)==36)=false from rfl,show((41:Int)==40)=false from rfl,VE,if_false]at a;cases p:s.ai.getLast? with|some a2=>rw [p]at a;simp at a|none=>rw[p]at a;simp at a;subst a;have U:=List.getLast?_eq_none_iff.1 p;go_enter func195,ntmps195;go_wp21;refine d.kd fun n=>?_;go_wp21;refine(f n).kd fun y=>?_;rw[l];go_wp21;refine(yd (h.drewN _) U).mono ?_;exact IG};{have O:=bP l;rw[I,M,N,O]at a;simp at a;cases x:A.dv g.L g.pl s.i with|ok q=>rw [x]at a;cases a|error P=>rw[x]at a;simp at a;subst a;have H:=Y x;generalize aj g.L s.i=X at*;go_enter func195,ntmps195;go_wp21;refine d.kd fun n=>?_;go_wp21;refine(f n).kd fun y=>?_;go_wp21;refine(Kr (h.drewN _) P H.o).mono ?_;exact IG}}}}}
abbrev Vt(g:CG)(w:World)(d:Except iD (Ta×Nat))(e:Ending)(a:World):Prop:=
 match d with
 | .ok (p,i')=>∃b,e=.returned (.tuple #[.agg #[b,.int .i64 p.af],.pointer none])/\fK a b p.aH/\dD g a i'/\R (·=g.c) w a
 | .error f=>∃v,e=.returned (.tuple #[.agg #[.slice none 0 0,.int .i64 0],v])/\fq w a v f/\R (·=g.c) w a
theorem nj(g w i)(h:dD g w i)(a6)(a:fA g.L g.pl i=a6):Calls prog 174 #[.pointer (some ⟨g.c,0,none⟩)] w (Vt g w a6):=by unfold fA at a;obtain⟨M,N⟩:=b8 (aH g.L g.pl (g.L.length+1) ⟨i,[],0,[]⟩);rw[N]at a;have a4:=Y N;have G:=Y a;clear N a;have bl:=h.lt;have bq:=h.le;have bv:=h.tp.lt;have bx:=h.cC;go_enter func174,ntmps174;go_wp21;refine(cu g _ i (h.alloc _)).kd fun n=>?_;go_wp21;have b4:lW g (w.heap.size+1) (w.heap.size+1) (((w.alloc (.cells #[aM,aB] 160)).drewN n).alloc (.cells #[az g.c,aM,aB,aM] 249)) ⟨i,[],0,[]⟩:=by{have:=lW.start ((h.alloc (.cells #[aM,aB] 160)).drewN n);simpa using this};have ab:aX (((w.alloc (.cells #[aM,aB] 160)).drewN n).alloc (.cells #[az g.c,aM,aB,aM] 249)) w.heap.size [aM,aB]:=((aX.cG w _ _).drewN n).alloc _;have bi:aR (((w.alloc (.cells #[aM,aB] 160)).drewN n).alloc (.cells #[az g.c,aM,aB,aM] 249)) w.heap.size 160:=((aR.cG w _ _ _).drewN n).alloc _;have oo:aG w (((w.alloc (.cells #[aM,aB] 160)).drewN n).alloc (.cells #[az g.c,aM,aB,aM] 249)):=(((R.refl _ w).alloc _).drewN n).alloc _;generalize (((w.alloc (.cells #[aM,aB] 160)).drewN n).alloc (.cells #[az g.c,aM,aB,aM] 249))=ap at*;go_loopg [] (g.L.length-i) (fun k wr=>∃s m,Hid (lW g (w.heap.size+1) (w.heap.size+1) wr s)/\s.i+k=g.L.length/\Hid (g.L.length<m+s.i/\aH g.L g.pl m s=M)/\Hid (R (SR g (w.heap.size+1)) ap wr));(case atStart=>exact ⟨_,g.L.length+1,b4,bQ,⟨bQ,a4.o⟩,R.refl _ _⟩);case round=>obtain⟨s,m,a9,D,a7,a8⟩:=hrel;obtain⟨b6,eW⟩:=a7.out;have l:lW g (w.heap.size+1) (w.heap.size+1) wr s:=a9;have f9:R (SR g (w.heap.size+1)) ap wr:=a8;have bw:=l.bI.le;clear a9 a8 a7;have O:¬SR g (w.heap.size+1) w.heap.size:=by{rintro(e|e);{omega};{omega}};cases m with|zero=>omega|succ m=>unfold aH at eW;by_cases C:aj g.L s.i=47;{simp only[C,beq_self_eq_true,if_true]at eW;subst eW;have a:=G.o;simp only at a;have ac:s.i<g.L.length:=cJ E;have z:=aL g wr s.i l.bI;rw[C]at z;clear D b6 a4 G;go_wp21;refine z.mono ?_;clear z;rintro e a0 ⟨rfl,f,rfl⟩;go_wp21;refine(cK g _ s.i (l.bI.drewN f) ac).k fun a0 ⟨aa,y⟩=>?_;have j:=(l.drewN f).aw aa y E;obtain⟨bA,bh,am,x,a2⟩:=j.it;obtain⟨c2,a3,B⟩:=j.op;obtain⟨ad,al,P⟩:=bG x;obtain⟨c0,c1,a1⟩:=bG B;rw[P]at am x;rw[a1]at a3 B;simp only at am a3 x B;have r:aX a0 w.heap.size [aM,aB]:=(((ab.T f9 O).drewN f).T y E);have b5:w.heap.size+1<a0.heap.size:=j.vy.lt;have bz:=j.cC;have bs:=j.ai;by_cases W:s.aH.length>30;{rw[if_pos W]at a;subst a;clear x a2 B P a1;have b2:(30:Int)<(s.aH.length:Int):=E;go_wp21;refine(eI 4 _ _).k fun cp pe=>?_;have fd:=(r.T ((R.refl (fun _=>False) a0).alloc (.cells #[Z 4,Z (aD g.pl i)] 73)) id) 0 _ rfl;have b1:=(r.T ((R.refl (fun _=>False) a0).alloc (.cells #[Z 4,Z (aD g.pl i)] 73)) id) 1 _ rfl;have bb:=jE.cG a0 4 (aD g.pl i);have oA:R (·=g.c) wr (a0.alloc (.cells #[Z 4,Z (aD g.pl i)] 73)):=((y.d)).alloc _;exact QT};{rw[if_neg W]at a;by_cases X:s.ai.length>0;{rw[if_pos X]at a;subst a;clear x a2 B P a1;have b2:¬(30:Int)<(s.aH.length:Int):=E;have bk:(0:Int)<(s.ai.length:Int):=E;go_wp21;refine(eI 8 _ _).k fun cp pe=>?_;have fd:=(r.T ((R.refl (fun _=>False) a0).alloc (.cells #[Z 8,Z (aD g.pl i)] 73)) id) 0 _ rfl;have b1:=(r.T ((R.refl (fun _=>False) a0).alloc (.cells #[Z 8,Z (aD g.pl i)] 73)) id) 1 _ rfl;have bb:=jE.cG a0 8 (aD g.pl i);have oA:R (·=g.c) wr (a0.alloc (.cells #[Z 8,Z (aD g.pl i)] 73)):=((y.d)).alloc _;exact QT};{rw[if_neg X]at a;subst a;have be:=j.r2;simp only at be;have bp:s.aH.length<=30:=E;have b7:s.ai.length=0:=E;rw[b7]at a3;have fd:=r 0 _ rfl;have b1:=r 1 _ rfl;have ao:aR a0 w.heap.size 160:=((bi.T f9 O).drewN f).T y E;clear r;go_wp21;clear W X;go_region;all_goals(go_wp2;have F:R (·=w.heap.size) a0 ((a0.s w.heap.size 0 (.slice ad s.aH.length al)).s w.heap.size 1 (Z s.af)).drew:= (R.setCell (S:=(·=w.heap.size)) (p:=⟨w.heap.size,1,none⟩) (R.setCell (S:=(·=w.heap.size)) (p:=⟨w.heap.size,0,none⟩) (R.refl _ a0) (fun _=>rfl) _) (fun _=>rfl) _).drew;refine bodyPost_ret (v:=.tuple #[.agg #[.slice ad s.aH.length al,Z s.af],.pointer none]) GJ rfl ⟨_,rfl,⟨bh,ax (qQ x (Nat.zero_le _)) F (fun b a5 e=>?_),a2.T F (fun b a5 e=>?_)⟩,aa.T F E (fun b9 e=>?_) (fun e=>?_),?_⟩;{exact(aR.aJ x a5).ne ao ae e};{exact a5.ne ao ae e};{have:=(h.tr b9).lt;omega};{omega};{have bc:R (·=g.c) w wr:=oo.t f9;exact((bc.drewN f).t y).trans F (fun _ e=>e) (fun b a5 e=>E)})}}};{have I:=bP C;have bE:(aj g.L s.i !=47)=true:=by{simpa[bne]using C};rw[I]at eW;simp only[VE,if_false]at eW;cases q:jP g.L g.pl s with|error b3=>rw[q]at eW;simp only at eW;subst eW;have a:=G.o;simp only at a;subst a;have H:=Y q;have z:=aL g wr s.i l.bI;clear q I D;generalize aj g.L s.i=c4 at*;go_wp21;refine z.mono ?_;clear z;rintro e a0 ⟨rfl,f,rfl⟩;go_wp21;refine(LX (l.drewN f) b3 H.o).mono ?_;rintro e cp ⟨v,rfl,⟨gb,rfl,jb,bb⟩,c3⟩;have oA:R (·=g.c) wr cp:=c3.d;have U:aX cp w.heap.size [aM,aB]:=((ab.T f9 O).drewN f).T c3 E;have fd:=U 0 _ rfl;have b1:=U 1 _ rfl;have b5:w.heap.size+1<wr.heap.size:=l.vy.lt;have bm:wr.heap.size<=gb:=jb;clear U c3;go_wp2;have c3:=mJ cp w.heap.size aM aB;refine bodyPost_ret (v:=.tuple #[.agg #[aM,aB],az gb]) GJ rfl ⟨_,rfl,⟨gb,rfl,E,bb.T c3 E⟩,?_⟩;have bc:R (·=g.c) w wr:=oo.t f9;exact(bc.t oA).trans c3 (fun _ e=>e) (fun b a5 e=>E)|ok an=>rw[q]at eW;simp only at eW;have H:=Y q;have b0:=Y eW;have ac:=Iv q;have av:=Y D;clear q eW D I;go_wp21;refine(aL g wr s.i l.bI).kd fun f=>?_;go_wp21;refine(B8 (l.drewN f) H.o).k fun a0 ⟨j,ba⟩=>?_;go_wp2;go_roundg (g.L.length-an.i);(case measure=>have:=av.o;have:=j.bI.le;omega);case rel=>exact ⟨an,m,j,bV j.bI.le,⟨E,b0.o⟩,je (R.drewN f9 f) ba⟩}
end
section
open Go.RowKit
abbrev Vw(g:CG)(cb:Nat)(w:World)(d:Except iD (fZ×Nat))(e:Ending)(a:World):Prop:=
 match d with
 | .ok (c',i')=>e=.returned (.pointer none)/\eP a cb c'/\dD g a i'/\R (fun b=>b=g.c\/b=cb) w a
 | .error f=>∃v,e=.returned v/\fq w a v f/\R (fun b=>b=g.c\/b=cb) w a
theorem oB(g pp cb w i)(h:dD g w i)(a8:fM g pp w)(c)(a6:eP w cb c)(ac)(d:cI g.L g.pl c i=ac):aO 150 #[az pp,az cb] w (Vw g cb w ac):=by unfold cI at d;by_cases al:aj g.L i=47;{have a4:(aj g.L i !=47)=false:=by{simp[al]};rw[a4]at d;simp only[VE,if_false]at d;have D:=Y d;have c8:=a8.iU;have ci:=a6.aZ.lt;have O:=a6.aZ.ne h.tc ae;have bq:=a8.aZ.ne a6.aZ ae;clear d a4;go_enter func150,ntmps150;go_wp21;refine(dQ g w i 47 h al E).k fun bw ⟨a7,X⟩=>?_;have bk:=a8.aw X;have cv:=bk.iU;have bm:=a6.T X h.ct O;go_wp21;have cj:=X.size;have d:=D.o;rcases a0:fA g.L g.pl (i+1)with f' |⟨p,an⟩ <;> rw[a0]at d <;> simp only at d;{subst d;refine(nj g bw (i+1) a7 _ a0).mono ?_;rintro e l ⟨v,rfl,⟨gb,rfl,b7,G⟩,H⟩;have N:=bm.T H a7.ct O;obtain⟨I,c3,bs,M,S,B,a5⟩:=N.ij;have be:=B 6 _ rfl;have bh:=B 7 _ rfl;have s:R (·=cb) l ((l.setCell ⟨cb,6,none⟩ aM).setCell ⟨cb,7,none⟩ aB):=cE (ah _ _ _ _) (ah _ _ _ _);have W:=G.T s E;have b1:R (·=g.c) w l:=X.t H;have ob:R (fun b=>b=g.c\/b=cb) w ((l.setCell ⟨cb,6,none⟩ aM).setCell ⟨cb,7,none⟩ aB):=b1.t s;have np:=Y W;have ov:=Y ob;clear W ob s B a5 D a0;exact AH};have ab:=Y d;clear d D;refine(nj g bw (i+1) a7 _ a0).mono ?_;clear a0;rintro e l ⟨cs,rfl,eW,bA,H⟩;obtain⟨ca,b9,c2⟩:=eW;obtain⟨y,z,rfl⟩:=bG b9;have c5:=bk.aw H;have N:=bm.T H a7.ct O;obtain⟨I,c3,bs,M,S,B,a5⟩:=N.ij;have be:=B 6 _ rfl;have bh:=B 7 _ rfl;go_wp21;have s:R (·=cb) l ((l.setCell ⟨cb,6,none⟩ (.slice y p.aH.length z)).setCell ⟨cb,7,none⟩ (Z p.af)):=cE (ah _ _ _ _) (ah _ _ _ _);have b2:=gm N.aZ ae;have bc:aX ((l.setCell ⟨cb,6,none⟩ (.slice y p.aH.length z)).setCell ⟨cb,7,none⟩ (Z p.af)) cb (db {c with fk:=p} I (.slice y p.aH.length z) bs M S):=(B.set 6 _).set 7 _;have cc:aR ((l.setCell ⟨cb,6,none⟩ (.slice y p.aH.length z)).setCell ⟨cb,7,none⟩ (Z p.af)) cb 167:=N.aZ.set.set;have U:=bA.rU s N.aZ;have b0:=c5.T s bq;have bx:=a5.T s b2;have i3:=fK.T ⟨ca,b9,c2⟩ s b2.jP b2.Aj;generalize (l.setCell ⟨cb,6,none⟩ (.slice y p.aH.length z)).setCell ⟨cb,7,none⟩ (Z p.af)=b4 at*;clear be bh B a5;have b1:R (·=g.c) w l:=X.t H;have ob:R (fun b=>b=g.c\/b=cb) w b4:=b1.t s;have cl:=H.size;have cm:=s.size;have d:=ab.o;rcases a1:A.bO g.L g.pl p.af (g.L.length+1) [] an with f' |⟨r,i2⟩ <;> rw[a1]at d <;> simp only at d;{subst d;refine(pV g pp b4 an U b0 p.af _ a1).mono ?_;rintro e x ⟨v,rfl,⟨gb,rfl,b7,G⟩,q⟩;have a2:=bc.T q O;have c4:=a2 8 _ rfl;have m:R (·=cb) x (x.setCell ⟨cb,8,none⟩ aM):=ah _ _ _ _;have W:=G.T m E;have a3:R (fun b=>b=g.c\/b=cb) w (x.setCell ⟨cb,8,none⟩ aM):=(ob.t q:R (fun b=>b=g.c\/b=cb) w x).t m;have np:=Y W;have ov:=Y a3;clear W a3 m a2 ab a1;exact AH};have D:=Y d;clear d ab;refine(pV g pp b4 an U b0 p.af _ a1).mono ?_;clear a1;rintro e x ⟨cW,rfl,ba,bE,q⟩;obtain⟨ra,rc,rfl⟩:=bG ba;have b3:=cc.T q O;have a2:=bc.T q O;have c4:=a2 8 _ rfl;go_wp21;have m:R (·=cb) x (x.setCell ⟨cb,8,none⟩ (.slice ra r.length rc)):=ah _ _ _ _;have a9:=gm b3 ae;have C:aX (x.setCell ⟨cb,8,none⟩ (.slice ra r.length rc)) cb (db {c with fk:=p,cx:=r} I (.slice y p.aH.length z) (.slice ra r.length rc) M S):=a2.set 8 _;have bv:aR (x.setCell ⟨cb,8,none⟩ (.slice ra r.length rc)) cb 167:=b3.set;have am:=bE.rU m b3;have bl:=(b0.aw q).T m bq;have bz:=(bx.T q U.ct).T m a9;have i5:=(i3.T q U.ct.jP U.ct.Aj).T m a9.jP a9.Aj;have c9:=lg.T ba m a9.part;generalize x.setCell ⟨cb,8,none⟩ (.slice ra r.length rc)=b5 at*;have b6:jT _ _ _:=⟨(C 9 _ rfl).1,(C 10 _ rfl).1,(C 11 _ rfl).1,(C 9 _ rfl).2,(C 10 _ rfl).2,(C 11 _ rfl).2,bv⟩;have a3:R (fun b=>b=g.c\/b=cb) w b5:=(ob.t q).t m;rcases ac with ch |⟨c',cp⟩;{refine(Az g pp cb b5 i2 am bl _ b6 _ D.o).mono ?_;rintro e ce ⟨v,rfl,⟨gb,rfl,b7,G⟩,P⟩;have cn:=q.size;have co:=m.size;go_wp2;go_ret;exact⟨_,rfl,⟨gb,rfl,E,G⟩,a3.t P⟩};refine(Az g pp cb b5 i2 am bl _ b6 _ D.o).k fun ce ⟨F,c0,P,bi⟩=>?_;go_wp2;go_ret;have bb:=kZ D.o;have aa:=am.ct.or (gm bv ae);have ad:=bz.T P aa;refine⟨rfl,⟨F.aZ,I,.slice y p.aH.length z,.slice ra r.length rc,M,S,?_,?_⟩,c0,?_⟩;{have c1:db c' I (.slice y p.aH.length z) (.slice ra r.length rc) M S=(((db {c with fk:=p,cx:=r} I (.slice y p.aH.length z) (.slice ra r.length rc) M S).set 9 (.bool c'.all)).set 10 (.bool c'.ay)).set 11 (Z c'.dc):=by{rw[bb];rfl};intro j v f;rw[c1]at f;by_cases ap:j=11;{subst ap;rw[VI (by simp[db])]at f;cases f;exact⟨F.n,F.fn⟩};{rw[VL (Ne.symm ap)]at f;by_cases ao:j=10;{subst ao;rw[VI (by simp[db])]at f;cases f;exact⟨F.p,F.fp⟩};{rw[VL (Ne.symm ao)]at f;by_cases av:j=9;{subst av;rw[VI (by simp[db])]at f;cases f;exact⟨F.a,F.fa⟩};{rw[VL (Ne.symm av)]at f;have c6:¬uW j:=by{rintro(e|e|e);exact av e;exact ao e;exact ap e};exact⟨(bi.cells j c6).trans (C j v f).1,(bi.cY j).trans (C j v f).2⟩}}}};{rw[bb];exact⟨ad.a,i5.T P aa.jP aa.Aj,c9.T P aa.part,ad.f,ad.t⟩};{exact a3.t P}};{have a4:(aj g.L i !=47)=true:=by{simp_all};rw[a4]at d;simp only[if_true]at d;subst d;have c8:=a8.iU;go_enter func150,ntmps150;go_wp21;refine(dI g w i 47 h al).kd fun bp=>?_;go_wp21;refine(dR g _ i (h.drewN bp)).mono ?_;rintro e l ⟨v,rfl,G,c7⟩;go_wp2;go_ret;exact⟨v,rfl,G.oG (VS _),((R.refl _ w).drewN bp).t c7⟩}
attribute [local go_sem ↓] Go.wp_at_zero Go.wp_at_succ
def RZ(W0:World)(a:Nat)(b c j k l m n o p q d f g i:Value):World:=(((((((((((((W0.setCell ⟨a,0,none⟩ b).setCell ⟨a,1,none⟩ c).setCell ⟨a,2,none⟩ j).setCell ⟨a,3,none⟩ k).setCell ⟨a,4,none⟩ l).setCell ⟨a,5,none⟩ m).setCell ⟨a,6,none⟩ n).setCell ⟨a,7,none⟩ o).setCell ⟨a,8,none⟩ p).setCell ⟨a,9,none⟩ q).setCell ⟨a,10,none⟩ d).setCell ⟨a,11,none⟩ f).setCell ⟨a,12,none⟩ g).setCell ⟨a,13,none⟩ i
theorem wL{W0 a r s B C D F G H I L t x y z}(b c j k l m n o p q d f g i)(h:aX W0 a [r,s,B,C,D,F,G,H,I,L,t,x,y,z]):aX (RZ W0 a b c j k l m n o p q d f g i) a [b,c,j,k,l,m,n,o,p,q,d,f,g,i]:=(((((((((((((h.set 0 b).set 1 c).set 2 j).set 3 k).set 4 l).set 5 m).set 6 n).set 7 o).set 8 p).set 9 q).set 10 d).set 11 f).set 12 g).set 13 i
theorem zt(W0 a b c j k l m n o p q d f g i):R (·=a) W0 (RZ W0 a b c j k l m n o p q d f g i):=cE (cE (cE (cE (cE (cE (cE (cE (cE (cE (cE (cE (cE (ah W0 a 0 b) (ah _ a 1 c)) (ah _ a 2 j)) (ah _ a 3 k)) (ah _ a 4 l)) (ah _ a 5 m)) (ah _ a 6 n)) (ah _ a 7 o)) (ah _ a 8 p)) (ah _ a 9 q)) (ah _ a 10 d)) (ah _ a 11 f)) (ah _ a 12 g)) (ah _ a 13 i)
theorem Qt(g pp w i)(h:dD g w i)(f:fM g pp w)(j)(a:A.tail g.L g.pl i=.ok j):aO 104 #[az pp] w fun e l=>e=.returned (.pointer none)/\dD g l j/\R (·=g.c) w l:=by unfold A.tail at a;simp only at a;have x:=f.iU;split at a;{rename_i t;simp at a;subst a;generalize q:aj g.L (bB g.L i)=r at*;have m:=Y q;have p:r=59\/r=10\/r=125\/r= -1:=cr;rcases p with e|e|e|e;all_goals(go_enter func104,ntmps104;go_wp21;refine(iw g w i h).k fun s ⟨b,d⟩=>?_;have y:=(f.aw d).iU;go_wp21;refine(aL g s _ b).kd fun n=>?_;rw[m.o,e];go_wp2;go_ret;exact⟨rfl,b.drewN n,d.drewN n⟩)};{cases a}
theorem tm(g pp w i)(h:dD g w i)(b:fM g pp w)(a:cH g.L i=false):aO 142 #[az pp] w fun e c=>e=.returned (.bool false)/\∃n,c=w.drewN n:=by have j:=b.iU;unfold cH at a;simp only[Bool.or_eq_false_iff]at a;obtain⟨⟨hd,d⟩,f⟩:=a;exact Re
theorem ju{w c:World}{a b m}(h:c=(w.drewN (a+b)).drewN m):∃n,c=w.drewN (a+n):=⟨b+m,by rw[h,VR,Nat.add_assoc]⟩
theorem Kw{w a:World}{b m}(h:a=(w.drewN b).drewN m):∃n,a=w.drewN n:=⟨b+m,by rw[h,VR]⟩
structure Ic(pp:Nat)(w:World)(n:Nat):Prop where
 map:∃mb,w.cell? ⟨pp,1,none⟩=some (.map (some mb))/\sV w mb
 au:∃qa qc,w.cell? ⟨pp,2,none⟩=some (.slice qa n qc)
theorem Qz(g pp cb n w i)(h:dD g w i)(O:fM g pp w)(s:Ic pp w n)(c)(q:eP w cb c)(k)(I:aQ (aj g.L i)=some k)(F:k≠3)(D:k≠1)(a6:n≠40)(a7:n<=500)(M:i<g.L.length):aO 102 #[az pp,az cb] w fun e p=>e=.returned (.pointer none)/\eP p cb {c with ag:=aj g.L i}/\dD g p (i+1)/\R (fun b=>b=g.c\/b=cb) w p:=by have⟨y,a9,U⟩:=s.map;have⟨ad,qc,ac⟩:=s.au;have ab:=O.iU;have a5:∀m,(Instr.lookup 115 (.map (some y)) (.int .i32 (aj g.L i)) true).run prog (w.drewN m)=.ok (.tuple #[Z k,.bool true]) (w.drewN m):=fun m=>by{have:=lh (w.drewN m) y (aj g.L i) U;rwa [I]at this};have a3:=bP F;have a2:=bP D;have a4:((n:Int)==40)=false:=bQ;have W:=q.aZ.ne h.tc ae;go_enter func102,ntmps102;go_wp21;refine(cu g w i h).kd fun aa=>?_;go_wp21;go_quiet ((go_at_call 51;exact(aL g _ i (h.drewN _)).mono (fun e al ⟨H,m,P⟩=>⟨H,ju P⟩)));go_wp21;refine(cK g _ i (h.drewN _) M).k fun a1 ⟨G,N⟩=>?_;have z:=N.d;have l:=q.T z h.ct W;have⟨B,S,X,C,a0,x,dd⟩:=l.ij;have a8:=x 0 _ rfl;go_wp2;go_ret;have o:=ah a1 cb 0 (.int .i32 (aj g.L i));have j:=dd.T o (gm l.aZ ae);exact⟨rfl,⟨l.aZ.set,B,S,X,C,a0,x.set 0 _,⟨j.a,j.i,j.r,j.f,j.t⟩⟩,G.rU o l.aZ,z.t o⟩
theorem Li(g pp cb n w i at_)(h:dD g w i)(x:fM g pp w)(z:Ic pp w n)(c)(a:eP w cb c)(q:c.ag=115)(c' f)(y:cI g.L g.pl c i=.ok (c',f)):aO 103 #[az pp,az cb,Z at_] w fun e d=>e=.returned (.pointer none)/\eP d cb c'/\dD g d f/\R (fun b=>b=g.c\/b=cb) w d:=by have⟨j,N,F⟩:=z.map;have⟨G,M,O,H,P,D,dd⟩:=a.ij;have C:=bC D 0;rw[q]at C;have I:∀m,(Instr.lookup 115 (.map (some j)) (.int .i32 115) false).run prog (w.drewN m)=.ok (Z 5) (w.drewN m):=fun m=>kV (w.drewN m) j 115 F;have p:=Y y;go_enter func103,ntmps103;go_wp21;go_quiet (fail);go_wp21;have l:R (·=g.c) w _:=(R.refl _ w).drewN nq;refine(oB g pp cb _ i (h.drewN nq) (x.drewN nq) c (a.T l h.ct (a.aZ.ne h.tc ae)) _ p.o).k fun S ⟨r,B,s⟩=>?_;go_wp2;go_ret;exact⟨rfl,r,B,l.t s⟩
end
section
open Go.RowKit
attribute [local go_sem ↓] Go.wp_at_zero Go.wp_at_succ
theorem Iu:(prog.info? 167).map (fun i=>(i.zero,i.size,i.bytes))=some (some (.agg (db {} aM aM aM aM aM).toArray),14,200):=bK
def gS(w:World):List fZ->List Value->Prop
 |[],[]=>True
 |c::cs,x0::x1::x2::x3::x4::x5::x6::x7::x8::x9::x10::x11::x12::x13::xs=>(∃a d f b g,[x0,x1,x2,x3,x4,x5,x6,x7,x8,x9,x10,x11,x12,x13]=db c a d f b g/\Deep w c a d f b g)/\gS w cs xs
 |_,_=>False
theorem gS.T{S w f}(b:R S w f)(s:iJ w S):∀ {cs:List fZ} {a:List Value},gS w cs a->gS f cs a
 |[],[],_=>trivial
 |c::cs,x0::x1::x2::x3::x4::x5::x6::x7::x8::x9::x10::x11::x12::x13::a,h=>by
  have⟨⟨g,j,k,i,l,e,d⟩,r⟩:=h;exact⟨⟨g,j,k,i,l,e,d.T b s⟩,gS.T b s r⟩
theorem gS.ET{w c a f g b i}(d:Deep w c a f g b i):∀ {cs:List fZ} {j:List Value},gS w cs j->gS w (cs++[c]) (j++db c a f g b i)
 |[],[],_=>⟨⟨a,f,g,b,i,rfl,d⟩,trivial⟩
 |c::cs,x0::x1::x2::x3::x4::x5::x6::x7::x8::x9::x10::x11::x12::x13::j,h=>⟨h.1,gS.ET d h.2⟩
def eK(a:pZ)(n:Nat):MapEntry:={key:=.string ⟨a.name.toArray⟩,val:=.agg #[.int .i64 a.set,.int .i64 a.bX],born:=n}
def bg:Nat->List pZ->List MapEntry
 |_,[]=>[]
 |n,x::l=>eK x n::bg (n+1) l
structure iP(g:CG)(pp aq:Nat)(w:World)(s:A.Ps):Prop where
 bI:dD g w s.i
 dp:fM g pp w
 map:∃mb,w.cell? ⟨pp,1,none⟩=some (.map (some mb))/\sV w mb
 au:∃qv xs,w.cell? ⟨pp,2,none⟩=some qv/\w.ownsRow aq 167 14 qv s.au.length xs/\gS w s.au xs
 op:∃ov,w.cell? ⟨pp,3,none⟩=some ov/\w.ownsRow aq 3 1 ov s.ai.length (s.ai.map (VM .i64))
 AE:∃lb,aq<=lb+1/\w.cell? ⟨pp,4,none⟩=some (.map (some lb))/\w.heap[lb]? =some (.map (bg 0 s.ak).toArray s.ak.length)
 f2:w.frozen? ⟨pp,2,none⟩=false
 f3:w.frozen? ⟨pp,3,none⟩=false
 bs:aq<=w.heap.size
 pb:g.pb<aq
 iW:s.au.length<=s.i
theorem iP.EZ{g pp aq w s}(h:iP g pp aq w s):Ic pp w s.au.length:=by have⟨f,i,a,b,d⟩:=h.au;obtain⟨c,qc,rfl⟩:=bG b;exact⟨h.map,⟨c,qc,a⟩⟩
end
section
end
section
open Go.RowKit
attribute [local go_sem ↓] Go.wp_at_zero Go.wp_at_succ
theorem lN{w b m a d n}(t:aR w b a)(h:w.heap[m]? =some (.map d n)):m≠b:=fun e=>by have⟨c,f,t⟩:=t;rw[<-e,h]at t;cases t
theorem dm{S w b m a n}(h:w.heap[m]? =some (.map a n))(d:R S w b)(c:¬S m):b.heap[m]? =some (.map a n):=
 (d.block m (VG.1 h).1 c).trans h
theorem iP.aw{g pp aq w k s}(h:iP g pp aq w s){i}(t:dD g k i)(a:R (·=g.c) w k)(x:s.i<=i):iP g pp aq k {s with i:=i}:=by have⟨C,B,o⟩:=h.map;have⟨F,G,l,m,r⟩:=h.au;have⟨D,p,q⟩:=h.op;have⟨lb,y,z,n⟩:=h.AE;have f:=h.bI.tc;have d:=h.dp.ne;exact⟨t,h.dp.aw a,⟨C,a.T B d,dm o a (lN f o)⟩,⟨F,G,a.T l d,ax m a (fun b j e=>(aR.aJ m j).ne f ae e),r.T a h.bI.ct⟩, ⟨D,a.T p d,ax q a (fun b j e=>(aR.aJ q j).ne f ae e)⟩,⟨lb,y,a.T z d,dm n a (lN f n)⟩,a.aE l h.f2 d,a.aE p h.f3 d,VF h.bs a.size,h.pb,VF h.iW x⟩
theorem iP.lP{g pp aq w k s}(h:iP g pp aq w s){j v' p c q B H x I}(a5:w.c pp 2=some j)(z:w.ownsRow aq 167 14 j s.au.length p)(M:gS w s.au p)(d:Deep w c q B H x I)(a2:k.c pp 2=some v')(a3:k.ownsRow aq 167 14 v' (s.au.length+1) (p++db c q B H x I))(a:R (fun b=>b=pp\/j.ownBlock=some b) w k)(f:Field pp 2 w k)(a4:s.au.length<s.i):iP g pp aq k {s with au:=s.au++[c]}:=by have⟨U,S,D⟩:=h.map;have⟨a1,a0,G⟩:=h.op;have⟨lb,O,P,C⟩:=h.AE;have o:=h.dp.aZ;have key:∀ {b:Nat} {l:TypeId},aR w b l->l≠119->l≠167->¬(b=pp\/j.ownBlock=some b):=by{rintro b l t W X (e|e);{exact t.ne o W e};{exact du z t X e}};have sp:iJ w (fun b=>b=pp\/j.ownBlock=some b):=⟨fun b t=>key t ae ae,fun b t=>key t ae ae,fun b t=>key t ae ae,fun b t=>key t ae ae,fun b t=>key t ae ae⟩;have F:∀ {m:Nat} {r:Array MapEntry} {n:Nat},w.heap[m]? =some (.map r n)->¬(m=pp\/j.ownBlock=some m):=by{rintro m r n y (e|e);{exact lN o y e};{exact lN (aR.aJ z e) y rfl}};refine⟨h.bI.T a (key h.bI.tc ae ae) (fun N=>key (h.bI.tr N) ae ae) (key h.bI.tp ae ae),⟨(f.dK 0 ae).trans h.dp.iU,h.dp.ne,f.aZ _ o⟩, ⟨U,(f.dK 1 ae).trans S,dm D a (F D)⟩,⟨v',_,a2,by simpa using a3,gS.ET (d.T a sp) (M.T a sp)⟩,⟨a1,(f.dK 3 ae).trans a0,ax G a (fun b L=>key (aR.aJ G L) ae ae)⟩, ⟨lb,O,(f.dK 4 ae).trans P,dm C a (F C)⟩,(f.cY 2).trans h.f2,(f.cY 3).trans h.f3,VF h.bs a.size,h.pb,bQ⟩
theorem lB{w c b j l g m}(d:Deep w c b j l g m):(∃a n k,b=.slice a n k)/\(∃a n k,j=.slice a n k)/\(∃a n k,l=.slice a n k)/\(∃a n k,g=.slice a n k)/\(∃a n k,m=.slice a n k):=by have⟨B,o,_⟩:=d.a;have⟨C,z,_⟩:=d.i;have⟨D,L,p⟩:=bG o;have⟨F,M,q⟩:=bG z;have⟨G,N,s⟩:=bG d.r;have⟨H,O,x⟩:=bG d.f;have⟨I,P,y⟩:=bG d.t;exact⟨⟨_,_,_,p⟩,⟨_,_,_,q⟩,⟨_,_,_,s⟩,⟨_,_,_,x⟩,⟨_,_,_,y⟩⟩
end
section
end
section
open Go.RowKit
theorem tQ:(prog.info? 21).map (fun i=>(i.zero,i.size,i.bytes))=some (some (.int .i32 0),1,4):=bK
structure U8(s:ByteArray)(L pl:List Int):Prop where
 len:pl.length=L.length+1
 zero:aD pl 0=0
 fE:aD pl L.length=s.size
 step:∀k,k<L.length->∃p q:Nat,aD pl k=p/\aD pl (k+1)=q/\p<s.size/\((Utf8.decode s p).1:Int)=aj L k/\p+(Utf8.decode s p).2=q
 cC:s.size<=500
 iW:L.length<=500
 ky:∀k,k<L.length->0<=aj L k/\aj L k<=1114111/\aj L k≠65533/\Lib.validRune (aj L k)=true
structure mQ(s:ByteArray)(L pl:List Int)(c ib aq:Nat)(w:World)(ki kr kp:Nat):Prop where
 it:w.heap[ib]? =some (.stringIter s (aD pl ki).toNat)
 r:∃rv,w.cell? ⟨c,0,none⟩=some rv/\w.ownsRow aq 21 1 rv kr ((L.take kr).map (VM .i32))
 p:∃pv,w.cell? ⟨c,1,none⟩=some pv/\w.ownsRow aq 3 1 pv kp ((pl.take kp).map (VM .i64))
 c2:w.cell? ⟨c,2,none⟩=some (.int .i64 0)
 f0:w.frozen? ⟨c,0,none⟩=false
 f1:w.frozen? ⟨c,1,none⟩=false
 f2:w.frozen? ⟨c,2,none⟩=false
 tc:aR w c 144
 bs:aq<=w.heap.size
 cb:c<aq
 UE:ib<aq
theorem pd{w b m a s n}(t:aR w b a)(h:w.heap[m]? =some (.stringIter s n)):b≠m:=fun e=>by have⟨c,d,t⟩:=t;rw[e,h]at t;cases t
theorem mQ.next{s L pl c f aq w k kr i}(h:mQ s L pl c f aq w k kr i)(k'):mQ s L pl c f aq (w.iterAt f s (aD pl k').toNat) k' kr i:=by have⟨q,m,n⟩:=h.r;have⟨o,j,l⟩:=h.p;have a:=lH w f s (aD pl k').toNat;have d:=pd h.tc h.it;exact⟨Lib.iterAt_heap w f s _ _ h.it,⟨q,a.T m d,ax n a (fun b g=>pd (aR.aJ n g) h.it)⟩,⟨o,a.T j d,ax l a (fun b g=>pd (aR.aJ l g) h.it)⟩,a.T h.c2 d,a.aE m h.f0 d,a.aE j h.f1 d,a.aE h.c2 h.f2 d,h.tc.T a d,VF h.bs a.size,h.cb,h.UE⟩
theorem mQ.zq{s L pl c f aq w d k kr kr' l}(h:mQ s L pl c f aq w k kr l){o v'}(q:w.cell? ⟨c,0,none⟩=some o)(y:d.cell? ⟨c,0,none⟩=some v')(z:d.ownsRow aq 21 1 v' kr' ((L.take kr').map (VM .i32)))(i:R (fun b=>b=c\/o.ownBlock=some b) w d)(a:Field c 0 w d):mQ s L pl c f aq d k kr' l:=by have⟨B,m,n⟩:=h.r;rw[q]at m;cases m;have⟨x,t,g⟩:=h.p;refine⟨(i.block f (VG.1 h.it).1 ?_).trans h.it,⟨v',y,z⟩,⟨x,(a.dK 1 ae).trans t,ax g i (fun b j=>?_)⟩,(a.dK 2 ae).trans h.c2,(a.cY 0).trans h.f0,(a.cY 1).trans h.f1,(a.cY 2).trans h.f2,a.aZ _ h.tc,VF h.bs i.size,h.cb,h.UE⟩;{rintro(e|e);{exact pd h.tc h.it e.symm};{exact pd (aR.aJ n e) h.it rfl}};{rintro(e|e);{exact(aR.aJ g j).ne h.tc ae e};{exact du n (aR.aJ g j) ae e}}
theorem mQ.aD{s L pl c f aq w d k kr q kp'}(h:mQ s L pl c f aq w k kr q){n v'}(o:w.cell? ⟨c,1,none⟩=some n)(t:d.cell? ⟨c,1,none⟩=some v')(x:d.ownsRow aq 3 1 v' kp' ((pl.take kp').map (VM .i64)))(g:R (fun b=>b=c\/n.ownBlock=some b) w d)(a:Field c 1 w d):mQ s L pl c f aq d k kr kp':=by have⟨B,l,m⟩:=h.p;rw[o]at l;cases l;have⟨z,y,i⟩:=h.r;refine⟨(g.block f (VG.1 h.it).1 ?_).trans h.it,⟨z,(a.dK 0 ae).trans y,ax i g (fun b j=>?_)⟩,⟨v',t,x⟩,(a.dK 2 ae).trans h.c2,(a.cY 0).trans h.f0,(a.cY 1).trans h.f1,(a.cY 2).trans h.f2,a.aZ _ h.tc,VF h.bs g.size,h.cb,h.UE⟩;{rintro(e|e);{exact pd h.tc h.it e.symm};{exact pd (aR.aJ m e) h.it rfl}};{rintro(e|e);{exact(aR.aJ i j).ne h.tc ae e};{exact du m (aR.aJ i j) ae e}}
theorem rF{L k}(h:k<L.length):L.take (k+1)=L.take k++[aj L k]:=by rw[VJ h,I0 h]
theorem zB{pl k}(h:k<pl.length):pl.take (k+1)=pl.take k++[aD pl k]:=by rw[VJ h];simp[aD,h]
end
section
end
section
open Go.RowKit
theorem vH{w}:∀ {cs:List fZ} {b:List Value},gS w cs b->∀j (a:j<cs.length),b[j*14]? =some (.int .i32 (cs[j]).ag)
 |[],[],_,j,a=>by simp at a
 |c::cs,x0::x1::x2::x3::x4::x5::x6::x7::x8::x9::x10::x11::x12::x13::b,h,0,_=>by
  have⟨⟨f,i,k,g,l,e,d⟩,r⟩:=h;have:x0=.int .i32 c.ag:=(List.cons.inj e).1;simp[this]
 |c::cs,x0::x1::x2::x3::x4::x5::x6::x7::x8::x9::x10::x11::x12::x13::b,h,j+1,a=>by
  have:=vH h.2 j (bS a);have e:(j+1)*14=j*14+1+1+1+1+1+1+1+1+1+1+1+1+1+1:=E;rw[e];simpa using this
end
end Go.Proofs.YtbiobhghnldckaaGreatDoor
