/- Proved: steps on the way to the card. Conditions: as each states. -/
import Derived.Test.YtbiobhghnldckaaGreatDoorS4
namespace Go.Proofs.YtbiobhghnldckaaGreatDoor
open List renaming getD_eq_getElem?_getD->VE,drop_eq_getElem_cons->VG,getElem?_eq_some_iff->VJ,getElem?_eq_getElem->VL,length_append->VM,replicate->VP,length_map->VQ,getElem?_map->VR,drop_eq_nil_of_le->VS,mem_cons_of_mem->VT,takeWhile_cons->VW,getElem?_take->VZ,getElem?_append_left->V0,getElem?_replicate->V6,length_eq_zero_iff->V8,length_take->Wg,drop_zero->Wj
open World renaming ownsRow_nil->VF,cell?_setCell_same->V5,setCells->Wk
open Or renaming inr->VH,inl->VI
open Nat renaming zero_add->VK,lt_of_lt_of_le->VX,le_refl->V3,mul_one->Wb,add_assoc->We
open _root_.Array renaming getElem?_toList->VN,length_toList->VV
open _root_.ByteArray renaming size_append->VO,data_append->V9,size->Wc,empty->Wh
open Value renaming slice->VU,int->Wd,bool->Wi
open Lib renaming trimSuffix->VY,index->V7,run_eql_slice_nil->Wa
open Classical renaming byContradiction->V1
open IntKind renaming i64->V2
open Utf8 renaming encode->V4
open Bool renaming false_eq_true->Wf
open Go.Proofs.Tryz
open A Rr Rm
set_option linter.unusedVariables false
set_option maxRecDepth 100000
set_option maxHeartbeats 6400000
section
open Go.RowKit
def jd(w:World)(b:Option Addr)(a:List ByteArray):Prop:=a= []\/∃lb,b=some ⟨lb,0,none⟩/\lb<w.heap.size/\∀k (c:k<a.length),w.cell? ⟨lb,k,none⟩=some (.string a[k])
theorem jd.T{w d a b}(h:jd w a b)(c:aG w d):jd d a b:=by rcases h with h |⟨lb,e,f,g⟩;{exact VI h};{exact VH ⟨lb,e,VX f c.size,fun k i=>c.T (g k i) id⟩}
theorem jd.at{w b c}(h:jd w b c){f}(d:aG w f):sW f w.heap.size b c:=by rcases h with h |⟨lb,e,a,g⟩;{exact VI h};{exact VH ⟨lb,e,a,VX a d.size,fun k i=>d.T (g k i) id⟩}
theorem G0(n):(madeCells (Wi false).cells n).toList=VP n (.bool false):=by apply List.ext_getElem?;intro k;rw[V6,VN];unfold madeCells;have e:(Wi false).cells=#[.bool false]:=rfl;rw[e];by_cases h:k<n;{grind};{simp_all}
theorem N0(n)(b:n<=500):∃a:Array Value,a.toList=VP n (.bool false)/\∀u:World,(Instr.makeSlice 92 (Z n) (Z n)).run prog u=.ok (bJ u.heap.size n n) (u.alloc (.cells a 4)):=by refine⟨madeCells (Wi false).cells ((n:Int).toNat*1),by rw[G0,Int.toNat_natCast,Wb],fun u=>?_⟩;have h:=run_make (P:=prog) (w:=u) 92 4 _ (.bool false) aV aV aV .i64 .i64 n n E E (by show(1:Int)*n<=_;omega) E;have e:prog.types[4].size=1:=aV;rw[h,e];rfl
theorem Kj{u eb X n ob}(h:X.ov=bJ ob n n)(c:ob<eb)(d:X.lo<=ob)(g:aR u ob 4)(f:aX u ob (VP n (.bool false))):sX u eb X (VP n false):=by refine VH ⟨ob,n,by rw[h,List.length_replicate],c,d,g,fun k b a=>?_⟩;rw[V6]at a;split at a;{rename_i i;cases a;exact f k _ aU};{cases a}
end
section
end
section
open Go.RowKit
theorem ye{w}:∀ {cs:List fZ} {m:List Value},gS w cs m->∀j (n:j<cs.length),∃b i k f l,Deep w cs[j] b i k f l/\∀a,a<14->m[j*14+a]? =(db cs[j] b i k f l)[a]?
 |[],[],_,j,n=>by simp at n
 |c::cs,o::x1::x2::x3::x4::x5::x6::x7::x8::x9::x10::x11::x12::x13::m,h,0,_=>by
  have⟨⟨b,i,k,f,l,e,d⟩,r⟩:=h;refine⟨b,i,k,f,l,d,fun a p=>?_⟩;show _=(db c b i k f l)[a]?;rw[<-e,Nat.zero_mul,VK];have q:(o::x1::x2::x3::x4::x5::x6::x7::x8::x9::x10::x11::x12::x13::m)= [o,x1,x2,x3,x4,x5,x6,x7,x8,x9,x10,x11,x12,x13]++m:=rfl;rw[q,V0 bQ]
 |c::cs,o::x1::x2::x3::x4::x5::x6::x7::x8::x9::x10::x11::x12::x13::m,h,j+1,n=>by
  have⟨b,i,k,f,l,d,g⟩:=ye h.2 j (bS n);refine⟨b,i,k,f,l,d,fun a p=>?_⟩;have e:(j+1)*14+a=j*14+a+1+1+1+1+1+1+1+1+1+1+1+1+1+1:=E;rw[e];exact g a p
theorem DL(s:ByteArray)(i):s.get! i=(s.data.toList[i]?).getD 0:=by have⟨⟨l⟩⟩:=s;show(⟨l⟩:Array UInt8)[i]! =_;rw[getElem!_def];simp;cases l[i]? <;> rfl
end
section
end
section
open Go.RowKit
theorem tP:∀(l:List UInt8),(10:UInt8) ∉ l->V7 l [10]= -1
 |[],_=>rfl
 |b::l,h=>by
  have a:([(10:UInt8)].isPrefixOf (b::l))=false:=cr;unfold V7;rw[a,(tP l (fun e=>h (VT _ e)))]
  rfl
theorem yx:∀(l t:List UInt8),(10:UInt8) ∉ l->V7 (l++10::t) [10]=l.length
 |[],t,_=>by simp[V7,List.isPrefixOf]
 |b::l,t,h=>by
  have a:([(10:UInt8)].isPrefixOf (b::(l++10::t)))=false:=cr;show V7 (b::(l++10::t)) [10]=_;unfold V7;rw[a,(yx l t (fun e=>h (VT _ e)))];have:((l.length:Int)== -1)=false:=aK;simp[this]
def jo:List ByteArray->List UInt8
 |[]=>[]
 |[l]=>l.data.toList
 |l::ls=>l.data.toList++10::jo ls
theorem By{a b:ByteArray}(h:a.data.toList=b.data.toList):a=b:=by have⟨⟨a⟩⟩:=a;have⟨⟨b⟩⟩:=b;simp at h;rw[h]
theorem yD:∀(a:List ByteArray),a≠ []->(∀l∈a,(10:UInt8) ∉ l.data.toList)->Lib.countB ⟨(jo a).toArray⟩ ⟨#[10]⟩+1=a.length/\Lib.splitB ⟨#[10]⟩ 0 (Lib.countB ⟨(jo a).toArray⟩ ⟨#[10]⟩) ⟨(jo a).toArray⟩=a
 |[],h,_=>absurd rfl h
 |[l],_,h=>by
  have c:=tP _ (h l aK);rw[Lib.countB_miss _ _ c];exact⟨rfl,by rw[Lib.splitB_zero];exact congrArg (fun d=>[d]) (By rfl)⟩
 |l::b::a,_,h=>by
  have⟨j,k⟩:=yD (b::a) aK (fun d m=>h d (VT _ m));have c:Lib.indexB ⟨(jo (l::b::a)).toArray⟩ ⟨#[10]⟩=(l.data.toList.length:Nat):=yx _ _ (h l aK);have n:(⟨#[10]⟩:ByteArray).size=1:=rfl
  have f:(⟨(jo (l::b::a)).toArray⟩:ByteArray).extract (l.data.toList.length+(⟨#[10]⟩:ByteArray).size) (⟨(jo (l::b::a)).toArray⟩:ByteArray).size=⟨(jo (b::a)).toArray⟩:=by
   apply By;rw[BR,n];show(l.data.toList++10::jo (b::a)).drop (l.data.toList.length+1)=_;simp[List.drop_append]
  have i:(⟨(jo (l::b::a)).toArray⟩:ByteArray).extract 0 (l.data.toList.length+0)=l:=by
   apply By;rw[Lib.extract_from_zero,Nat.add_zero];show(l.data.toList++10::jo (b::a)).take l.data.toList.length=_;simp
  have g:=Lib.countB_hit _ ⟨#[10]⟩ _ E c;rw[f]at g;rw[g,Nat.add_comm 1,Lib.splitB_hit _ _ _ _ _ c,f,i,k];exact⟨by simp only[List.length_cons]at j ⊢;omega,rfl⟩
end
section
end
section
open Go.RowKit
theorem Hp(s a)(r:a≠ [])(x:∀l∈a,(10:UInt8) ∉ l.data.toList)(f:VY s.data.toList [10]=jo a)(F:0<s.size)(I:s.size<=3000)(w)(y:Jk w):aO 43 #[.string s] w fun e i=>∃g C,e=.returned (.slice g a.length C)/\jd i g a/\aG w i:=by have⟨m,q⟩:=y.m;have⟨z,B⟩:=yD a r x;have G:(jo a).length<=s.size:=by{have p:s.data.toList.length=s.size:=VV;rw[<-f,<-p];unfold VY;split;{simp};{omega}};have H:s.toList.isEmpty=false:=by{rw[Lib.toList_data];cases hd:s.data.toList with|nil=>have:s.data.toList.length=s.size:=VV;rw[hd]at this;simp at this;omega|cons b t=>rfl};have c:=Tryz.strings_TrimSuffix s ⟨#[10]⟩ w E;rw[(congrArg (fun D:List UInt8=>(⟨D.toArray⟩:ByteArray)) f)]at c;have L:(⟨(jo a).toArray⟩:ByteArray).size<=3000:=by{simp[Wc];omega};have d:=Tryz.strings_Split ⟨(jo a).toArray⟩ ⟨#[10]⟩ m w E q ae;rw[B,z]at d;generalize (⟨(jo a).toArray⟩:ByteArray)=M at*;have j:Hid (jd (w.alloc (.cells (a.map Value.string).toArray 9)) (some ⟨w.heap.size,0,none⟩) a):=by{refine VH ⟨w.heap.size,rfl,aK,fun k n=>((aX.cG w (a.map Value.string).toArray 9) k _ ?_).1⟩;rw[VR,VL n];rfl};go_enter func43,ntmps43;go_wp21;refine c.kk ?_;go_wp21;refine d.kk ?_;go_wp2;go_ret;exact⟨_,_,rfl,j.o,(R.refl _ _).alloc _⟩
theorem Hq(w):aO 43 #[.string ⟨#[]⟩] w fun e b=>∃a c,e=.returned (.slice a ([]:List ByteArray).length c)/\jd b a []/\aG w b:=by go_enter func43,ntmps43;go_wp2;go_ret;exact⟨none,0,rfl,VI rfl,R.refl _ _⟩
def Tf:List ByteArray->List UInt8
 |[]=>[]
 |l::ls=>l.data.toList++10::Tf ls
theorem Fa:∀(a:List ByteArray),a≠ []->Tf a=jo a++[10]
 |[],h=>absurd rfl h
 |[l],_=>rfl
 |l::b::a,_=>by
  show l.data.toList++10::Tf (b::a)=(l.data.toList++10::jo (b::a))++[10];rw[Fa (b::a) aK];simp
theorem OO(a)(h:a≠ []):VY (Tf a) [10]=jo a:=by rw[Fa a h];unfold VY;have:Lib.hasSuffix (jo a++[10]) [10]=true:=by{simp[Lib.hasSuffix]};rw[this];simp
end
section
end
section
open Go.RowKit
theorem ur{w aq b a n c d}(h:w.ownsRow aq b 1 (.slice a n c) n d)(f:0<n):∃g,a=some ⟨g,0,none⟩/\aq<=g/\aR w g b/\∀k v,d[k]? =some v->w.cell? ⟨g,k,none⟩=some v:=by exact Q4
theorem PJ:(prog.info? 9).map (fun i=>(i.zero,i.size,i.bytes))=some (some (.string ⟨#[]⟩),1,16):=bK
structure mM(w:World)(g o:Nat)(c:fZ):Prop where
 lt:g<w.heap.size
 ij:∃av iv rv fv tv,(∀j v,(db c av iv rv fv tv)[j]? =some v->w.cell? ⟨g,o+j,none⟩=some v)/\Deep w c av iv rv fv tv
theorem mM.T{w b g a c}(h:mM w g a c)(u:R (fun _=>False) w b):mM b g a c:=by obtain⟨d,m,n,f,o,i,k⟩:=h.ij;exact⟨VX h.lt u.size,d,m,n,f,o,fun j v l=>u.T (i j v l) id,k.T u ⟨fun _ _=>id,fun _ _=>id,fun _ _=>id,fun _ _=>id,fun _ _=>id⟩⟩
theorem mM.ag{w g a c}(h:mM w g a c):w.cell? ⟨g,a,none⟩=some (.int .i32 c.ag):=by obtain⟨d,j,k,f,l,b,i⟩:=h.ij;exact b 0 _ rfl
theorem mM.neg{w g a c}(h:mM w g a c):w.cell? ⟨g,a+2,none⟩=some (.bool c.neg):=by obtain⟨d,j,k,f,l,b,i⟩:=h.ij;exact b 2 _ rfl
theorem mM.text{w g a c}(h:mM w g a c):w.cell? ⟨g,a+3,none⟩=some (.string ⟨c.text.toArray⟩):=by obtain⟨d,j,k,f,l,b,i⟩:=h.ij;exact b 3 _ rfl
theorem mM.cM{w g a c}(h:mM w g a c):w.cell? ⟨g,a+5,none⟩=some (.int .i64 c.cM):=by obtain⟨d,j,k,f,l,b,i⟩:=h.ij;exact b 5 _ rfl
theorem mM.m{w g d c}(h:mM w g d c):Ur w g d c:=by obtain⟨l,o,q,n,r,b,k⟩:=h.ij;obtain⟨p,f,_⟩:=k.a;obtain⟨i,j,rfl⟩:=bG f;exact⟨b 0 _ rfl,⟨i,j,b 1 _ rfl⟩,b 2 _ rfl,b 3 _ rfl⟩
theorem Pj{w g cD cs f}(q:w.ownsRow 0 167 14 (.slice (some ⟨g,0,none⟩) cs.length cD) cs.length f)(n:gS w cs f)(j)(o:j<cs.length):mM w g (j*14) cs[j]:=by obtain⟨i,t,x,l,y,d,m⟩:=ye n j o;rcases q.2 with ⟨e,_⟩ |⟨D,z,bI,s,_,c,_,_,F,r⟩;{cases e};{injection s with k B C;cases k;refine⟨(Array.getElem?_eq_some_iff.1 c).1,i,t,x,l,y,fun b u a=>?_,d⟩;have p:b<14:=by{have:=(VJ.1 a).1;simpa[db]using this};rw[cell_of_row _ g (j*14+b) bI _ (0,0) c];rw[<-m b p,<-r,VZ]at a;split at a;{rw[VN]at a;exact a};{cases a}}
end
section
open Go.RowKit
attribute [local go_sem] Oper.semAt_some
namespace A
def eW(sp:List Int)(c:fZ):Bool:=(dU sp c.dc c.all c.cx (dw sp c.fk.aH) 0 0 [] false).2.2
end A
end
section
end
section
open Go.RowKit
theorem mM.sub{w g d c}(h:mM w g d c)(f:aR w g 167):rM w g (d+6) c:=by have⟨m,j,o,n,p,a,b⟩:=h.ij;obtain⟨k,l,rfl⟩:=bG b.r;exact⟨f,⟨j,a 6 _ rfl,b.i⟩,⟨k,l,a 8 _ rfl,b.r⟩,a 9 _ rfl,a 10 _ rfl,a 11 _ rfl⟩
end
section
end
section
open Go.RowKit
attribute [local go_sem ↓] Go.wp_at_zero Go.wp_at_succ
def Tj(a:List Int)(r v:Int):Prop:=(∃j:Nat,j<a.length/\v=j/\a.getD j 0=r/\∀k,k<j->a.getD k 0≠r)\/(v= -1/\∀k,k<a.length->a.getD k 0≠r)
theorem lF(w s z a)(h:cU w s a)(G:a.length<=1000000)(r):aO 163 #[.slice s a.length z,.int .i32 r] w fun e B=>(∃v:Int,e=.returned (Z v)/\Tj a r v)/\B=w:=by go_enter func163,ntmps163;go_wp21;go_loopg [8] a.length (fun k v wr=>∃j:Nat,v=Z j/\j+k=a.length/\Hid (∀k,k<j->a.getD k 0≠r)/\wr=w);(case atStart=>exact ⟨0,rfl,E,fun k m=>by omega,rfl⟩);case round=>obtain⟨j,rfl,x,d,rfl⟩:=hrel;have g:Hid _:=x;have D:j<=a.length:=E;by_cases n:j<a.length;{obtain⟨H,I,rfl,F,l⟩:=h cr;have L:=l j n;clear l;have y:V2.wrap ((j:Int)+1)=(j:Int)+1:=fF;have b:Hid _:=d;clear d;generalize q:a.getD j 0=p at*;have i:Hid _:=q;clear q;by_cases f:r=p;{subst f;go_wp2;go_ret;exact⟨⟨_,rfl,VI ⟨j,n,rfl,i.o,b.o⟩⟩,rfl⟩};{have C:=bP f;go_wp2;go_roundg (gk-1);(case measure=>have:=g.o;omega);case rel=>exact ⟨j+1,by first|rfl|simp[y],bV g.o,fun k m=>by rcases Nat.lt_succ_iff_lt_or_eq.1 m with c|c;{exact b.o k c};{subst c;rw[i.o];exact fun e=>f e.symm},rfl⟩}};{have t:j=a.length:=E;subst t;have b:Hid _:=d;go_wp2;go_ret;exact⟨⟨_,rfl,VH ⟨rfl,b.o⟩⟩,rfl⟩}
theorem qk(w b d a)(h:cU w b a)(i:a.length<=1000000)(r)(p:∀k,k<a.length->a.getD k 0≠r):aO 198 #[.slice b a.length d,.int .i32 r] w fun e l=>e=.returned (.bool false)/\l=w:=by go_enter func198,ntmps198;go_wp21;refine(lF w b d a h i r).mono ?_;rintro e q ⟨⟨v,rfl,f⟩,rfl⟩;have g:v= -1:=by{rcases f with ⟨j,c,m,n,o⟩ |⟨c,_⟩;{simp_all};{exact c}};subst g;go_wp2;go_ret;exact⟨rfl,rfl⟩
theorem rW(g pp w i)(h:dD g w i)(a:fM g pp w)(b:br (aj g.L i)=true\/aj g.L i=36):aO 142 #[az pp] w fun e c=>e=.returned (.bool true)/\∃n,c=w.drewN n:=by have d:=a.iU;rcases b with hd|hd;{exact Re};{have j5:=Y ((show br (36:Int)=false by decide));exact Rc}
theorem LR:(prog.info? 186).map (fun i=>(i.zero,i.size,i.bytes))=some (some (.agg #[aB,aB,aM,aB]),4,48):=bK
structure jN(w:World)(cb B:Nat)(kP:List A.Ad):Prop where
 aZ:aR w cb 167
 cells:∃av ivs,aX w cb (db {bN:=kP} av (.slice none 0 0) (.slice none 0 0) (.slice none 0 0) (.slice none 0 0))/\w.ownsRow B 186 4 av kP.length (jf kP ivs)/\ir w kP ivs
theorem jN.T{S w f cb B kP}(h:jN w cb B kP)(a:R S w f)(s:iJ w S)(d:¬S cb):jN f cb B kP:=by have⟨g,l,i,c,j⟩:=h.cells;exact⟨h.aZ.T a d,g,l,i.T a d,ax c a (fun b k=>s.Pb b (aR.aJ c k)),j.T a s.jP s.Aj⟩
theorem rO{w}(c v):∀ {b:List A.Ad} {a:List Value},ir w b a->jf (b++[c]) (a++[v])=jf b a++Bs c v
 |[],[],_=>by simp[jf]
 |y::b,u::a,h=>by
  have:=rO c v h.2;simp[jf,this]
 |[],_::_,h=>h.elim
 |_::_,[],h=>h.elim
theorem ir.ET{w}{d:A.Ad}{v}(c:fK w v d.fk.aH):∀ {b:List A.Ad} {a:List Value},ir w b a->ir w (b++[d]) (a++[v])
 |[],[],_=>⟨c,trivial⟩
 |y::b,u::a,h=>⟨h.1,ir.ET c h.2⟩
 |[],_::_,h=>h.elim
 |_::_,[],h=>h.elim
end
section
end
section
open Go.RowKit
attribute [local go_sem ↓] Go.wp_at_zero Go.wp_at_succ
theorem jN.ij{w B kP b a}(c:w.ownsRow B 186 4 b kP.length (jf kP a))(d:ir w kP a)(neg):Deep w {bN:=kP,neg:=neg} b aM aM aM aM:=
 ⟨⟨a,qQ c (Nat.zero_le _),d⟩,⟨[],VF _ _ _ _,trivial⟩,VF _ _ _ _,VF _ _ _ _,VF _ _ _ _⟩
end
section
end
section
open Go.RowKit
namespace A
theorem J7{L j}(a:j<L.length)(h:aj L j≠10):bd L j=aj L j::bd L (j+1):=by unfold bd;have b:aj L j=L[j]:=by{simp[aj,VL a]};rw[b]at h ⊢;rw[(VG a),VW,if_pos (bS h)]
theorem vd{L j}(h:aj L j=10\/L.length<=j):bd L j= []:=by unfold bd;by_cases a:j<L.length;{have e:=VG a;have b:aj L j=L[j]:=by{simp[aj,VL a]};rcases h with h|h;{rw[b]at h;rw[e,VW,if_neg (by simp[h])]};{omega}};{rw[VS E];rfl}
theorem AF(L i):bd L i=(L.drop i).take (bd L i).length:=by unfold bd;exact(List.prefix_iff_eq_take.1 (List.takeWhile_prefix _))
theorem yK(L i)(a:i<=L.length):i+(bd L i).length<=L.length:=by have h:=congrArg List.length (AF L i);rw[Wg,List.length_drop]at h;omega
end A
theorem A3{g w i}(h:dD g w i)(f:g.L.length≠0)(a n)(k:a+n<=g.L.length)(c):(convert 103 9 (.slice (some ⟨g.rb,a,none⟩) n c)).run prog w=.ok (.string (runesBytes ((g.L.drop a).take n))) w:=by have d:((g.L.drop a).take n).length=n:=cr;have key:Sl w (some ⟨g.rb,a,none⟩) ((g.L.drop a).take n):=by{refine VH ⟨g.rb,a,rfl,h.tr f,fun j b=>?_⟩;rw[h.rs (a+j) E];congr 2;rw[d]at b;simp[aj,b];rw[VL E];rfl};have:=ft w (some ⟨g.rb,a,none⟩) c _ key;rwa [d]at this
theorem PW(g w i)(h:dD g w i)(l:g.L.length≠0)(X:g.L.length<=g.rJ):aO 170 #[az g.c] w fun e q=>e=.returned (.string (runesBytes (A.bd g.L i)))/\dD g q (i+(A.bd g.L i).length)/\R (·=g.c) w q:=by have S:=h.c2;have D:=h.le;have a5:=h.cC;have a3:=A.yK g.L i D;go_enter func170,ntmps170;go_wp21;go_loopg [] (g.L.length-i) (fun k wr=>∃j,Hid (dD g wr j)/\Hid (j+k=g.L.length/\i<=j/\i+(A.bd g.L i).length=j+(A.bd g.L j).length)/\Hid (R (·=g.c) w wr));(case atStart=>exact ⟨i,h,⟨E,V3 _,rfl⟩,R.refl _ _⟩);case round=>have⟨j,z,f,c5⟩:=hrel;have cv:=z;by_cases p:j<g.L.length/\aj g.L j≠10;{have⟨b,d⟩:=p;have a4:=(cv.bL j b).1;have O:(aj g.L j != -1)=true:=bQ;have P:=mK d;have r:=Y (J7 b d);go_wp21;refine(aL g wr j cv).kd fun al=>?_;go_wp21;refine(aL g _ j (cv.drewN al)).kd fun M=>?_;go_wp21;refine(cK g _ j (cv.drewN _) b).k fun a6 ⟨B,G⟩=>?_;go_wp2;go_roundg (gk-1);(case measure=>have:=f.out.1;omega);case rel=>exact ⟨j+1,B,⟨bV f.out.1,bV f.out.2.1,by rw[f.out.2.2,r.o];simp;omega⟩,(c5.out.drewN _).t G⟩};{have I:=A.vd (L:=g.L) (j:=j) (by by_cases b:j<g.L.length;{omega};{exact VH E});have F:i+(A.bd g.L i).length=j:=by{rw[f.out.2.2,I];rfl};have hcut:(g.L.drop i).take (j-i)=A.bd g.L i:=by{have e:=AF g.L i;rw[show j-i=(A.bd g.L i).length by omega];exact e.symm};have a0:∀m,(convert 103 9 (.slice (some ⟨g.rb,i,none⟩) (j-i) (g.rJ-i))).run prog (wr.drewN m)=.ok (.string (runesBytes (A.bd g.L i))) (wr.drewN m):=fun m=>by{rw[<-hcut];exact A3 (cv.drewN m) l i (j-i) (bV cv.le) _};have n:g.rJ=i->∀m,(convert 103 9 (bJ g.rb 0 0)).run prog (wr.drewN m)=.ok (.string (runesBytes (A.bd g.L i))) (wr.drewN m):=fun e m=>by{have s:j-i=0:=E;rw[<-hcut,s];have:=A3 (cv.drewN m) l 0 0 E 0;simpa using this};have W:=cv.c2;have⟨a,U,y⟩:=cv.c0;obtain rfl:=y l;have a2:=cv.le;have hE:=Y F;generalize x:runesBytes (A.bd g.L i)=N at*;have cj:=Y x;by_cases b:j<g.L.length;{have d:=V1 fun e=>p ⟨b,e⟩;go_wp21;refine(aL g wr j cv).kd fun al=>?_;rw[d];go_wp21;refine(aL g _ j (cv.drewN al)).kd fun M=>?_;rw[d];go_wp21;go_quiet (fail);go_wp2;go_ret;rw[hE.o];exact⟨by rw[cj.o];rfl,(cv.drewN _).drewN _,(c5.out.drewN _).drewN _⟩};{have mb:=(qM cv).2 E;by_cases H:g.rJ=i;{have a1:=n H;have C:j=i:=E;subst C;exact Ro};{clear n;exact Ro}}}
theorem As(l):(⟨(cg l).toArray⟩:ByteArray)=runesBytes l:=by have key:∀(l:List Int) (a:ByteArray),(l.foldl (fun r n=>r++V4 n) a).data.toList=a.data.toList++cg l:=by{intro l;induction l with|nil=>intro a;simp[cg]|cons r l b=>intro a;rw[List.foldl_cons,b,V9,Array.toList_append];simp[cg,iX]};have e:(runesBytes l).data.toList=cg l:=by{unfold runesBytes;rw[(key l Wh)];rfl};rw[<-e]
theorem Qv(g pp cb w i)(h:dD g w i)(S:fM g pp w)(c)(C:eP w cb c)(aa:g.L.length<=g.rJ)(c' U)(j:iM g.L g.pl c i=.ok (c',U)):aO 147 #[az pp,az cb] w fun e G=>e=.returned (.pointer none)/\eP G cb c'/\dD g G U/\R (fun b=>b=g.c\/b=cb) w G:=by have b0:=S.iU;have X:=C.aZ.ne h.tc ae;unfold iM at j;simp only at j;by_cases l:aj g.L i=10\/aj g.L i= -1;{have x:(aj g.L i==10 || aj g.L i== -1)=true:=bS l;rw[x]at j;simp only[if_true]at j;cases j;have p:=aL g w i h;rcases l with l|l;all_goals(rw[l]at p;go_enter func147,ntmps147;go_wp21;refine p.kd fun q=>?_;go_wp2;go_ret;have a0:R (·=g.c) w (w.drewN q):=(R.refl _ w).drewN q;exact⟨rfl,C.T a0 h.ct X,h.drewN q,a0.mono (fun _ _ e=>VI e)⟩)};{have x:(aj g.L i==10 || aj g.L i== -1)=false:=bS l;rw[x]at j;simp only[Wf,if_false]at j;cases y:bU (aj g.L i)with|false=>rw [y]at j;simp at j|true=>rw[y]at j;simp only[Bool.not_true,Wf,if_false]at j;cases j;have M:aj g.L i≠10:=fun e=>l (VI e);have D:aj g.L i≠ -1:=fun e=>l (VH e);have an:(aj g.L i==10)=false:=bS M;have ao:(aj g.L i== -1)=false:=bS D;have ab:=Nat.lt_of_not_le (fun e=>D ((qM h).2 e));have p:=aL g w i h;have N:=fun u=>fx (aj g.L i) u;have P:=fun n=>cK g (w.drewN n) i (h.drewN n) ab;have a6:Hid _:=y;clear l x y M D;generalize aj g.L i=r at*;go_enter func147,ntmps147;go_wp21;refine p.mono ?_;clear p;rintro e al ⟨rfl,q,rfl⟩;go_wp21;refine(N _).mono ?_;clear N;rintro e al ⟨rfl,rfl⟩;rw[a6.o];go_wp21;refine(P q).mono ?_;clear P;rintro e am ⟨rfl,a8,ac⟩;have a1:=ac.d;have b1:=(S.aw a1).iU;go_wp21;refine(PW g am (i+1) a8 E aa).k fun a5 ⟨a9,ad⟩=>?_;have a2:=a1.t ad;have B:=C.T a2 h.ct X;obtain⟨H,W,a3,I,a4,z,dd⟩:=B.ij;have av:=bC z 3;have ap:=fJ z 3;have F:=ah a5 cb 3 (.string (runesBytes (A.bd g.L (i+1))));have O:aX (a5.s cb 3 (.string (runesBytes (A.bd g.L (i+1))))) cb (db {c with text:=cg (A.bd g.L (i+1))} H W a3 I a4):=by{have:=z.set 3 (.string (runesBytes (A.bd g.L (i+1))));rw[<-As]at this ⊢;exact this};have m:=dd.T F (gm B.aZ ae);have a7:=Y O;clear O z;go_wp2;go_ret;exact⟨rfl,⟨B.aZ.set,H,W,a3,I,a4,a7.o,⟨m.a,m.i,m.r,m.f,m.t⟩⟩,a9.rU F B.aZ,a2.t F⟩}
theorem Fy(g pp n i c)(f:g.L.length<=g.rJ)(aa:aQ c.ag=some 2)(c' b)(k:iM g.L g.pl c i=.ok (c',b)):Df g pp n c i c' b:=fun w cb at_ h j l a=>by have⟨hc,y,g2⟩:=l.map;have⟨q,t,z,r,B,p,dd⟩:=a.ij;have x:=bC p 0;have s:∀m,(Instr.lookup 115 (.map (some hc)) (.int .i32 c.ag) false).run prog (w.drewN m)=.ok (Z 2) (w.drewN m):=fun m=>by{exact sk};have d:=Y k;have j3:=fun m=>Qv g pp cb (w.drewN m) i (h.drewN m) (j.drewN m) c (a.T ((R.refl (·=g.c) w).drewN m) h.ct (a.aZ.ne h.tc ae)) f c' b d.o;exact Q3
end
section
open Go.RowKit
attribute [local go_sem ↓] Go.wp_at_zero Go.wp_at_succ
theorem cU.eO{S w i ra sp}(h:cU w ra sp)(d:R S w i)(m:sp≠ []->∀b off,ra=some ⟨b,off,none⟩->¬S b):cU i ra sp:=by intro c;have⟨f,g,e,n,k⟩:=h c;have a:=m c f g e;exact⟨f,g,e,n.T d a,fun j l=>d.T (k j l) a⟩
theorem Ln(w f d a)(h:cU w f a)(q:f=none->d=0)(z:a.length<=10000):aO 129 #[.slice f a.length d] w fun e l=>∃i c',e=.returned (.slice i a.length c')/\l.ownsRow w.heap.size 21 1 (.slice i a.length c') a.length (a.map (.int .i32))/\aG w l:=by cases f with|none=>have e:a= []:=V1 fun r=>by{obtain⟨_,_,e,_⟩:=h r;cases e};subst e;have o:=q rfl;subst o;have s:∀c:World,(binOp .eql 103 aM aM).run prog c=.ok (.bool true) c:=fun c=>Wa c _ _ none 0 0 0 0 underlying103;go_enter func129,ntmps129;go_wp2;go_ret;exact⟨none,0,rfl,VF _ _ _ _,R.refl _ _⟩|some g=>have k:aG w (w.alloc (.cells #[] 21)):=(R.refl _ w).alloc _;have p:(w.alloc (.cells #[] 21)).ownsRow w.heap.size 21 1 (bJ w.heap.size 0 0) 0 (([]:List Int).map (.int .i32)):=⟨rfl,VH ⟨w.heap.size,0,#[],rfl,V3 _,(heap_alloc_new w (.cells #[] 21)),V3 _,rK,rfl,rfl⟩⟩;have s:∀c:World,(binOp .eql 103 (.slice (some g) a.length d) aM).run prog c=.ok (.bool false) c:=fun c=>Wa c _ _ (some g) a.length d 0 0 underlying103;go_enter func129,ntmps129;go_wp2_with (at_builtin;refine wpList_append_runes _ aV _ _ aV w.heap.size (bJ w.heap.size 0 0) 0 [] aV p (some g) d a a.length aV rfl (h.T k (fun _ _=>id)) E aK ?_;intro m n B j t x);go_ret;rw[VK,List.nil_append]at j;refine⟨m,n,rfl,j,?_⟩;exact k.trans t (fun _ e=>e) (fun b y e=>by simp[Value.ownBlock]at e;omega)
namespace A
def fu:List Int->List Int->Int->Int
 |a::as_,b::bs,r=>if a=r then b else fu as_ bs r
 |_,_,r=>r
theorem uU:∀(c ys:List Int) (r:Int),(∀k,k<c.length->c.getD k 0≠r)->fu c ys r=r
 |[],ys,r,_=>by unfold fu;rfl
 |a::c,[],r,_=>by unfold fu;rfl
 |a::c,b::ys,r,h=>by
  have d:=h 0 aK;simp at d;unfold fu;rw[if_neg d];exact uU c ys r (fun k f=>by have:=h (k+1) bQ;simpa using this)
theorem BQ:∀(c ys:List Int) (r:Int) (j:Nat),c.length=ys.length->j<c.length->c.getD j 0=r->(∀k,k<j->c.getD k 0≠r)->fu c ys r=ys.getD j 0
 |[],ys,r,j,_,hj,_,_=>by simp at hj
 |a::c,[],r,j,hl,_,_,_=>by simp at hl
 |a::c,b::ys,r,0,hl,hj,he,h=>by
  simp at he;unfold fu;rw[if_pos he];rfl
 |a::c,b::ys,r,j+1,hl,hj,he,h=>by
  have d:=h 0 E;simp at d;unfold fu;rw[if_neg d];simp at hl hj;simp at he ⊢;exact BQ c ys r j E E he (fun k f=>by have:=h (k+1) E;simpa using this)
end A
end
section
end
section
open Go.RowKit
attribute [local go_sem ↓] Go.wp_at_zero Go.wp_at_succ
theorem th:KU ⟨#[47,92]⟩ fW:=⟨ae,ae,ae⟩
theorem EO(g pp w i)(h:dD g w i)(q:fM g pp w)(r f)(a:fP g.L g.pl i=.ok (r,f)):aO 197 #[az pp] w fun e s=>e=.returned (.tuple #[.int .i32 r,.pointer none])/\dD g s f/\R (·=g.c) w s:=by unfold fP at a;have z:=q.iU;by_cases b:aj g.L i=92;{have l:(aj g.L i==92)=true:=by{simp[b]};rw[l]at a;simp only[if_true]at a;have j:=Y a;go_enter func197,ntmps197;go_wp21;refine(dQ g w i 92 h b E).k fun C ⟨t,p⟩=>?_;have B:=(q.aw p).iU;go_wp21;refine(sF g _ (i+1) _ _ th t r f j.o).k fun y ⟨m,n⟩=>?_;go_wp2;go_ret2;exact⟨rfl,m,cE p n⟩};{have l:=bP b;rw[l]at a;simp at a;have j:=Y a;go_enter func197,ntmps197;go_wp21;refine(dI g w i 92 h b).kd fun x=>?_;go_wp21;refine(zj g _ i _ _ th (h.drewN x) r f j.o).k fun y ⟨m,n⟩=>?_;go_wp2;go_ret2;exact⟨rfl,m,n.d⟩}
theorem wO{L pl i a r}(h:fP L pl i=.ok (r,a)):i<a:=by unfold fP A.cQ A.plain at h;split at h;{grind};{grind}
theorem E8:∀(l:List Int),dC l=false->∀i j,i<j->j<l.length->l.getD i 0≠l.getD j 0
 |[],_,i,j,_,hj=>by simp at hj
 |r::l,h,i,j,hij,hj=>by
  simp only[dC,Bool.or_eq_false_iff]at h;have⟨a,b⟩:=h
  cases j with
  |zero=>omega
  |succ j=>
   simp at hj
   cases i with
   |zero=>
    simp;intro e
    have c:r∈l:=by
     simp_all
    simp[c]at a
   |succ i=>
    simp;exact E8 l b i j E E
theorem DQ(w t g a)(h:cU w t a)(N:a.length<=1000000)(M:a.length<=g)(D:dC a=false):aO 178 #[.slice t a.length g] w fun e H=>e=.returned (.bool false)/\∃m,H=w.drewN m:=by
 have f:=E8 a D;have z:=Y f;go_enter func178,ntmps178;go_wp21;go_loopg [7] a.length (fun k v wr=>∃j:Nat,v=Z j/\j+k=a.length/\∃m,wr=w.drewN m);case atStart=>exact ⟨0,rfl,E,0,rfl⟩
 case round=>
  obtain⟨j,rfl,C,m,rfl⟩:=hrel;have i:=Y C;have I:j<=a.length:=E;by_cases q:j<a.length
  ·obtain⟨r,s,rfl,f,l⟩:=h cr
   have O:=((R.refl (fun _=>False) w).drewN m).T (l j q) id;have x:=Y l;have G:V2.wrap ((j:Int)+1)=(j:Int)+1:=fF;generalize F:a.getD j 0=p at*
   have y:=Y F;have d:(a.take j).length=j:=aU
   have n:=qk (w.drewN m) (some ⟨r,s,none⟩) g (a.take j) (fun L=>⟨r,s,rfl,f.T ((R.refl (fun _=>False) w).drewN m) id,fun k b=>by
    rw[d]at b;have c:(a.take j).getD k 0=a.getD k 0:=cr;rw[c];exact((R.refl (fun _=>False) w).drewN m).T (x.o k E) id⟩) E p (fun k b=>by
    rw[d]at b;have c:(a.take j).getD k 0=a.getD k 0:=cr;rw[c,<-y.o];exact z.o k j b q)
   rw[d]at n
   go_wp21
   refine n.kk ?_;go_wp2;go_roundg (gk-1)
   case measure=>have:=i.o;omega
   case rel=>exact ⟨j+1,by first|rfl|simp[G],bV i.o,m,rfl⟩
  {have B:j=a.length:=E;subst B;go_wp2;go_ret;exact⟨rfl,m,rfl⟩}
end
section
structure nL where
 aT:List (List Int)
 q:Bool
 cg:List Int->List UInt8
def aW(sp:List Int):Nat:=(sp.takeWhile (fun r=>r !=10)).length
namespace Er
structure St where
 aI:Nat:=0
 sp:List Int:= []
 aS:List Int:= []
 aA:List (List UInt8):= []
 ai:List Bool:= []
 cx:Bool:=false
 next:Nat:=0
 drop:Bool:=false
 lJ:Bool:=false
 ar:Nat:=0
 out:List UInt8:= []
 ew:Int:=0
def ay(t:List UInt8)(s:St):St:=if s.ew=0 then {s with out:=s.out++t++[10],ew:=if 8000<(s.out++t++[10]).length then 11 else 0}else s
def fI:List (List UInt8)->St->St
 |[],s=>s
 |t::ts,s=>fI ts (ay t s)
def eG(s:St):St:={fI s.aA s with aA:= []}
def aP(s:St):St:=if s.ew=0/\(400<s.sp.length\/400<s.aS.length)then {s with ew:=9}else s
def bM(s:St):St:=if s.ew=0/\5000<s.ar+1 then {s with ar:=s.ar+1,ew:=10}else {s with ar:=s.ar+1}
def jk(F:nL)(s:St):St:=eG (if F.q then aP s else ay (F.cg (aP s).sp) (aP s))
def gP(s:St):St:={s with aI:=s.aI+1,cx:=false}
def bd(F:nL)(s:St):List Int:=F.aT.getD s.aI []
def eE(F:nL)(a:A.Ad)(s:St):Bool:=
 if a.aF=0 then decide ((s.aI:Int)=a.number)else if a.aF=1 then decide (¬s.aI<F.aT.length)else decide (bD (eZ s.sp a.fk.aH) 0≠ -1)
def eJ(a:A.Ad)(s:St):Bool:=decide (a.aF=0/\a.number<=(s.aI:Int))
def cR(F:nL)(c:List A.Ad)(at_:Nat)(s:St):Bool×St:=
 match c with
 |[]=>(true,s)
 |[a]=>(eE F a s,s)
 |a::b::_=>
  if s.ai.getD at_ false then (true,{s with ai:=s.ai.set at_ (!(eJ b s || eE F b s))})
  else if eE F a s then (true,{s with ai:=s.ai.set at_ (!eJ b s)})else (false,s)
def mx(n:Nat)(s:St):St:={eG s with drop:=true,next:=n}
def xj(n:Nat)(s:St):St:={s with lJ:=true,next:=n}
def gy(F:nL)(c:fZ)(s:St):St:=
 if (dU s.sp c.dc c.all c.cx (dw s.sp c.fk.aH) 0 0 [] false).2.2 then
  (if c.ay then ay (F.cg (A.subst s.sp c)) {s with sp:=A.subst s.sp c,cx:=true}else {s with sp:=A.subst s.sp c,cx:=true})
 else s
def gE(F:nL)(dg:Nat->List UInt8)(n:Nat)(c:fZ)(s:St):St:=
 if c.ag=61 then ay (dg s.aI) s
 else if c.ag=97 then {s with aA:=s.aA++[c.text]}
 else if c.ag=98 then {s with next:=c.cM.toNat}
 else if c.ag=99 then mx n (ay c.text s)
 else if c.ag=100 then mx n s
 else if c.ag=68 then (if aW s.sp=s.sp.length then mx n s else {eG {s with sp:=s.sp.drop (aW s.sp+1)}with next:=0})
 else if c.ag=103 then {s with sp:=s.aS}
 else if c.ag=71 then {s with sp:=s.sp++[10]++s.aS}
 else if c.ag=104 then {s with aS:=s.sp}
 else if c.ag=72 then {s with aS:=s.aS++[10]++s.sp}
 else if c.ag=105 then ay c.text s
 else if c.ag=110 then (if s.aI<F.aT.length then {gP (jk F s)with sp:=bd F (jk F s)}else xj n s)
 else if c.ag=78 then (if s.aI<F.aT.length then eG {gP s with sp:=s.sp++[10]++bd F s}else xj n s)
 else if c.ag=112 then ay (F.cg s.sp) s
 else if c.ag=80 then ay (F.cg (s.sp.take (aW s.sp))) s
 else if c.ag=113 then xj n s
 else if c.ag=115 then gy F c s
 else if c.ag=116 then (if s.cx then {s with cx:=false,next:=c.cM.toNat}else s)
 else if c.ag=120 then {s with sp:=s.aS,aS:=s.sp}
 else if c.ag=121 then {s with sp:=s.sp.map (A.fu c.iY c.cG)}
 else s
def step(F:nL)(dg:Nat->List UInt8)(cs:List fZ)(s:St):St:=
 let s1:=bM (aP s)
 if s1.ew=0 then
  let c:=cs.getD s1.next {}
  let m:=cR F c.bN s1.next {s1 with next:=s1.next+1}
  if m.1≠c.neg then gE F dg cs.length c m.2 else if c.ag=123 then {m.2 with next:=c.cM.toNat}else m.2
 else s1
def loop(F:nL)(dg:Nat->List UInt8)(cs:List fZ):Nat->St->St
 |0,s=>s
 |n+1,s=>if s.ew=0/\s.next<cs.length then loop F dg cs n (step F dg cs s)else s
def dy(F:nL)(s:St):St:=if s.ew=0/\s.drop=false then jk F s else s
def pQ(F:nL)(dg:Nat->List UInt8)(cs:List fZ)(s:St):St:=dy F (loop F dg cs 5002 {gP s with sp:=bd F s,next:=0,drop:=false})
def jG(F:nL)(dg:Nat->List UInt8)(cs:List fZ):Nat->St->St
 |0,s=>s
 |n+1,s=>if s.ew=0/\s.lJ=false/\s.aI<F.aT.length then jG F dg cs n (pQ F dg cs s)else s
def run(F:nL)(dg:Nat->List UInt8)(cs:List fZ):List UInt8×Int:=
 let s:=jG F dg cs (F.aT.length+1) {ai:=VP cs.length false}
 if s.ew=0 then (s.out,0)else ([],s.ew)
end Er
namespace Rr
structure St where
 aI:Nat:=0
 sp:List Int:= []
 aS:List Int:= []
 aA:List (List Int):= []
 ai:List Bool:= []
 done:Bool:=false
 ar:Nat:=0
 out:List UInt8:= []
 e:Int:=0
def no(a:Int)(t:St):St:=if t.e=0 then {t with e:=a}else t
def ay(F:nL)(l:List Int)(t:St):St:=if t.e=0 then {t with out:=t.out++F.cg l++[10],e:=if 8000<(t.out++F.cg l++[10]).length then 11 else 0}else t
def eN(t:St):St:=if 400<t.sp.length\/400<t.aS.length then no 9 t else t
def aC(t:St):St:=if 5000<t.ar+1 then no 10 {t with ar:=t.ar+1}else {t with ar:=t.ar+1}
def fI(F:nL):List (List Int)->St->St
 |[],t=>t
 |l::ls,t=>fI F ls (ay F l t)
def eG(F:nL)(t:St):St:={fI F t.aA t with aA:= []}
def fY(F:nL)(t:St):St:=eG F (if F.q then eN t else ay F (eN t).sp (eN t))
def gP(t:St):St:={t with aI:=t.aI+1,done:=false}
def bd(F:nL)(t:St):List Int:=F.aT.getD t.aI []
def cR(F:nL)(a:RA)(t:St):Bool:=
 if a.aF=110 then decide (a.n=(t.aI:Int))else if a.aF=36 then decide (t.aI=F.aT.length)else (jC t.sp a.ys a.af 0).isSome
def cS(F:nL)(c:RC)(t:St):Bool×St:=
 if c.b.aF≠0/\t.ai.getD c.dx false=true then
  (true !=c.neg,{t with ai:=t.ai.set c.dx (!(if c.b.aF=110 then decide (c.b.n<=(t.aI:Int))else cR F c.b t))})
 else if c.a.aF≠0 then
  (cR F c.a t !=c.neg,if cR F c.a t=true/\c.b.aF≠0 then {t with ai:=t.ai.set c.dx (decide (c.b.aF≠110\/(t.aI:Int)<c.b.n))}else t)
 else (true !=c.neg,t)
def change(F:nL)(c:RC)(t:St):St:=
 if (lY t.sp c.ys c.af c.dc c.all c.fL).2 then
  (if c.ay then ay F (lY t.sp c.ys c.af c.dc c.all c.fL).1 {t with sp:=(lY t.sp c.ys c.af c.dc c.all c.fL).1,done:=true}else {t with sp:=(lY t.sp c.ys c.af c.dc c.all c.fL).1,done:=true})
 else t
def plain(F:nL)(dg:Nat->List Int)(c:RC)(t:St):St:=
 if c.ag=61 then ay F (dg t.aI) t
 else if c.ag=97 then {t with aA:=t.aA++[c.text]}
 else if c.ag=105 then ay F c.text t
 else if c.ag=103 then {t with sp:=t.aS}
 else if c.ag=104 then {t with aS:=t.sp}
 else if c.ag=71 then {t with sp:=t.sp++[10]++t.aS}
 else if c.ag=72 then {t with aS:=t.aS++[10]++t.sp}
 else if c.ag=120 then {t with sp:=t.aS,aS:=t.sp}
 else if c.ag=112 then ay F t.sp t
 else if c.ag=80 then ay F (t.sp.take (aW t.sp)) t
 else if c.ag=115 then change F c t
 else if c.ag=121 then {t with sp:=t.sp.map (A.fu c.iY c.cG)}
 else t
def gE(F:nL)(dg:Nat->List Int)(c:RC)(t:St):Nat×St:=
 if c.ag=99\/c.ag=100\/c.ag=68 then
  if c.ag=68/\aW t.sp<t.sp.length then (2,eG F {t with sp:=t.sp.drop (aW t.sp+1)})
  else (1,if c.ag=99 then ay F c.text t else t)
 else if c.ag=113 then (3,fY F t)
 else if c.ag=110\/c.ag=78 then
  if t.aI=F.aT.length then (3,fY F t)
  else if c.ag=110 then (0,{gP (fY F t)with sp:=bd F (fY F t)})
  else (0,eG F {gP t with sp:=t.sp++[10]++bd F t})
 else (0,plain F dg c t)
def label(row:List RC)(name:List Int):Nat:=if name= []then row.length else (row.findIdx? (fun r=>r.ag==58 && decide (r.text=name))).getD row.length
def sU(F:nL)(dg:Nat->List Int)(row:List RC):Nat->Nat->St->Nat×St
 |0,_,t=>(3,t)
 |n+1,i,t=>
  if i<row.length then
   if (aC (eN t)).e=0 then
    let c:=row.getD i {}
    let m:=cS F c (aC (eN t))
    if m.1=false then sU F dg row n c.next m.2
    else if c.ag=98\/(c.ag=116/\m.2.done=true)then sU F dg row n (label row c.text) (if c.ag=116 then {m.2 with done:=false}else m.2)
    else if c.ag=116 then sU F dg row n (i+1) m.2
    else if (gE F dg c m.2).1=0 then sU F dg row n (i+1) (gE F dg c m.2).2
    else if (gE F dg c m.2).1=2 then sU F dg row n 0 (gE F dg c m.2).2
    else gE F dg c m.2
   else (3,aC (eN t))
  else (0,fY F t)
def jG(F:nL)(dg:Nat->List Int)(row:List RC):Nat->St->St
 |0,t=>t
 |n+1,t=>
  if t.aI<F.aT.length/\t.e=0 then
   let h:=sU F dg row 5002 0 {gP t with sp:=bd F t}
   if h.1=3 then h.2 else jG F dg row n (eG F h.2)
  else t
def run(F:nL)(dg:Nat->List Int)(row:List RC)(a:Nat):List UInt8×Int:=
 let t:=jG F dg row (F.aT.length+1) {ai:=VP a false}
 if t.e=0 then (t.out,0)else ([],t.e)
end Rr
end
section
open Go.RowKit
def jH(w:World)(B:Nat)(a:Option Addr)(c:Nat)(l:List Int):Prop:=l.length<=c/\((a=none/\c=0)\/∃g b,a=some ⟨g,b,none⟩/\B<=g/\aR w g 21/\(∀j,j<l.length->w.cell? ⟨g,b+j,none⟩=some (.int .i32 (l.getD j 0)))/\∀j,j<c->(w.cell? ⟨g,b+j,none⟩).isSome=true/\w.frozen? ⟨g,b+j,none⟩=false)
theorem jH.T{S w n B c a l}(h:jH w B a c l)(f:R S w n)(s:∀b k,a=some ⟨b,k,none⟩->¬S b):jH n B a c l:=by refine⟨h.1,?_⟩;rcases h.2 with e |⟨g,k,e,o,p,q,r⟩;{exact VI e};{have d:=s g k e;refine VH ⟨g,k,e,o,p.T f d,fun j i=>f.T (q j i) d,fun j i=>?_⟩;have⟨t,x⟩:=r j i;have⟨v,m⟩:=Option.isSome_iff_exists.1 t;exact⟨by rw[f.T m d];rfl,f.aE m x d⟩}
theorem jH.sl{w B c a l}(h:jH w B a c l):Sl w a l:=by rcases h.2 with ⟨e,f⟩ |⟨g,k,e,i,b,d,j⟩;{exact VI ⟨e,V8.1 (bV h.1)⟩};{exact VH ⟨g,k,e,b,d⟩}
def nE(X:A.Fx)(s:Er.St)(c a b:Value):List Value:=
 [X.cv,.bool X.q,.slice X.la X.aT.length X.lc,.int .i64 s.aI,c,a,b,X.ov,.bool s.cx,.int .i64 s.next,.bool s.drop,.bool s.lJ,.int .i64 s.ar,.pointer none,.slice none 0 0,.int .i64 s.ew]
structure EV(X:A.Fx)(eb:Nat)(w:World)(s:Er.St)(sa:Option Addr)(sc:Nat)(ha:Option Addr)(hc:Nat)(qa:Option Addr)(qc:Nat):Prop where
 ed:Ed w eb (nE X s (.slice sa s.sp.length sc) (.slice ha s.aS.length hc) (.slice qa s.aA.length qc)) s.out
 sp:jH w (eb+1) sa sc s.sp
 aS:jH w (eb+1) ha hc s.aS
 eO:∀b k b' k',sa=some ⟨b,k,none⟩->ha=some ⟨b',k',none⟩->b≠b'
 aA:w.ownsRow (eb+1) 9 1 (.slice qa s.aA.length qc) s.aA.length (s.aA.map fun t=>.string ⟨t.toArray⟩)
 aT:sW w eb X.la X.aT
 ai:sX w eb X s.ai
 b1:s.sp.length<=1000000000
 b2:s.aS.length<=1000000000
 b3:s.aI<=X.aT.length
 b4:X.aT.length<=100000
 b5:s.ar<=1000000000
 b6:s.ew=0->s.out.length<=8000
 b7:∀t∈s.aA,t.length<=1000000
theorem EV.C2{X eb w f s s' q j p r o qc}(h:EV X eb w s q r j o p qc)(d:R (fun b=>b=eb\/(aR w b 5/\eb<=b)) w f)(I:Ed f eb (nE X s' (.slice q s'.sp.length r) (.slice j s'.aS.length o) (.slice p s'.aA.length qc)) s'.out)(t:s'.sp=s.sp)(x:s'.aS=s.aS)(y:s'.aA=s.aA)(D:s'.ai=s.ai)(F:s'.aI<=X.aT.length)(G:s'.ar<=1000000000)(H:s'.ew=0->s'.out.length<=8000):EV X eb f s' q r j o p qc:=by have n:∀ {b:Nat} {i:TypeId},aR w b i->i≠5->i≠108->¬(b=eb\/(aR w b 5/\eb<=b)):=fun bA al ce e=>by{exact M5};have B:∀ {a:Option Addr} {c:Nat} {l:List Int},jH w (eb+1) a c l->jH f (eb+1) a c l:=fun {a c l} z=>by{refine z.T d (fun b k e=>?_);rcases z.2 with ⟨C,_⟩ |⟨g,L,C,_,bA,_⟩;{simp_all};{grind}};exact⟨I,by rw[t];exact B h.sp,by rw[x];exact B h.aS,h.eO,by rw[y];exact ax h.aA d (fun b m=>n (aR.aJ h.aA m) ae ae),h.aT.T d (fun b m e=>by rcases e with e|e <;> omega),by rw[D];exact h.ai.T d (fun b m e=>by rcases e with e|e <;> omega),by rw[t];exact h.b1,by rw[x];exact h.b2,F,h.b4,G,H,by rw[y];exact h.b7⟩
theorem AR(t s):(Er.ay t s).ew=SK s.ew s.out ⟨t.toArray⟩/\(Er.ay t s).out=Ub s.ew s.out ⟨t.toArray⟩:=by unfold Er.ay SK Ub;have e:∀t:List UInt8,(⟨t.toArray⟩:ByteArray).size=t.length:=fun t=>by{simp[Wc]};by_cases h:s.ew=0;{grind};{simp_all}
theorem zk(t s)(h:s.ew=0->s.out.length<=8000):(Er.ay t s).ew=0->(Er.ay t s).out.length<=8000:=by unfold Er.ay;by_cases a:s.ew=0;{simp_all};{simp_all}
theorem iA(X eb w s){q l p r m qc}(h:EV X eb w s q r l m p qc)(t)(L:t.length<=5000000000):aO 97 #[az eb,.string ⟨t.toArray⟩] w fun e a=>(∃v,e=.returned v)/\EV X eb a (Er.ay t s) q r l m p qc/\R (fun b=>b=eb\/(aR w b 5/\eb<=b)) w a:=by have e:(⟨t.toArray⟩:ByteArray).size=t.length:=rfl;have n:=AR t s;have G:(Er.ay t s).sp=s.sp/\(Er.ay t s).aS=s.aS/\(Er.ay t s).aA=s.aA/\(Er.ay t s).ai=s.ai/\(Er.ay t s).aI=s.aI/\(Er.ay t s).ar=s.ar/\(Er.ay t s).cx=s.cx/\(Er.ay t s).next=s.next/\(Er.ay t s).drop=s.drop/\(Er.ay t s).lJ=s.lJ:=by{exact Ng};have⟨f,g,i,y,j,k,z,B,C,x⟩:=G;by_cases c:s.ew=0;{have I:=h.b6 c;refine(AT eb w _ s.out s.ew h.ed rfl ⟨t.toArray⟩ E).mono ?_;rintro D a ⟨d,H,o⟩;refine⟨d,h.C2 o (H.eq ?_ n.2.symm) f g i y (by rw[j];exact h.b3) (by rw[k];exact h.b5) (zk t s h.b6),o⟩;unfold nE;rw[f,g,i,j,k,z,B,C,x,n.1];rfl};{refine(Eu eb w _ s.out s.ew h.ed rfl c ⟨t.toArray⟩).mono ?_;rintro D a ⟨d,rfl⟩;have F:Er.ay t s=s:=by{unfold Er.ay;rw[if_neg c]};rw[F];exact⟨d,h,R.refl _ _⟩}
theorem EV.cells{X eb w g s s' d a c f b qc}(h:EV X eb w s d f a b c qc)(q:R (·=eb) w g)(p:Ed g eb (nE X s' (.slice d s'.sp.length f) (.slice a s'.aS.length b) (.slice c s'.aA.length qc)) s'.out)(i:s'.sp=s.sp)(j:s'.aS=s.aS)(k:s'.aA=s.aA)(l:s'.ai=s.ai)(m:s'.aI<=X.aT.length)(n:s'.ar<=1000000000)(o:s'.ew=0->s'.out.length<=8000):EV X eb g s' d f a b c qc:=
 h.C2 (q.mono (fun _ _ e=>VI e)) p i j k l m n o
theorem EV.quiet{X eb w i s f a d g b qc}(h:EV X eb w s f g a b d qc)(c:aG w i):EV X eb i s f g a b d qc:=
 h.C2 (c.mono (fun _ _ e=>e.elim)) (h.ed.T c id (fun _ _=>id)) rfl rfl rfl rfl h.b3 h.b5 h.b6
theorem tO(X eb w s){g c f i d qc}(h:EV X eb w s g i c d f qc):aO 93 #[az eb] w fun e a=>(∃v,e=.returned v)/\EV X eb a (Er.aP s) g i c d f qc/\R (·=eb) w a:=by have b:=(h.ed.get 15 E _ rfl).1;have f15:=(h.ed.get 15 E _ rfl).2;have r:=(h.ed.get 4 E _ rfl).1;have t:=(h.ed.get 5 E _ rfl).1;have c2:∀k,aO 44 #[az eb] (w.drewN k) fun e a=>e=.returned (.bool (s.ew==0))/\a=w.drewN k:=fun k=>eR eb (w.drewN k) s.ew b;have fe:=Y h;have o:=h.b1;have q:=h.b2;unfold Er.aP;by_cases b0:s.ew=0;{by_cases j:400<s.sp.length\/400<s.aS.length;{rw[if_pos ⟨b0,j⟩];have m:decide ((400:Int)<max (s.sp.length:Int) s.aS.length)=true:=bQ;rw[b0]at c2 b;have n:Hid (∀k,EV X eb ((w.drewN k).s eb 15 (Z 9)) {s with ew:=9} g i c d f qc):=fun k=>(h.quiet ((R.refl _ w).drewN k)).cells (ah _ _ _ _) ((h.quiet ((R.refl _ w).drewN k)).ed.set 15 E (Z 9)) rfl rfl rfl rfl h.b3 h.b5 (fun e=>by simp at e);go_enter func93,ntmps93;go_wp21;go_quiet ((go_at_call 44;exact(c2 _).mono (fun e a0 ⟨b0,hT⟩=>⟨b0,_,hT⟩)));go_wp2;go_end0;exact⟨⟨_,rfl⟩,n.out _,R.setCell (S:=(·=eb)) (p:=⟨eb,15,none⟩) ((R.refl _ w).drewN _) (fun _=>rfl) _⟩};{rw[if_neg (fun e=>j e.2)];have m:decide ((400:Int)<max (s.sp.length:Int) s.aS.length)=false:=bQ;rw[b0]at c2 b;exact Q5}};{rw[if_neg (fun e=>b0 e.1)];have l:=bP b0;rw[l]at c2;exact Q5}
theorem BU(X eb w s){g c f i d qc}(h:EV X eb w s g i c d f qc)(r:s.ar<=100000):aO 94 #[az eb] w fun e l=>(∃v,e=.returned v)/\EV X eb l (Er.bM s) g i c d f qc/\R (·=eb) w l:=by have x:=(h.ed.get 12 E _ rfl).1;have y:=(h.ed.get 12 E _ rfl).2;have a:EV X eb (w.s eb 12 (Z ((s.ar:Int)+1))) {s with ar:=s.ar+1} g i c d f qc:=h.cells (ah _ _ _ _) (h.ed.set 12 E (Z ((s.ar:Int)+1))) rfl rfl rfl rfl h.b3 cr h.b6;have g1:=ah w eb 12 (Z ((s.ar:Int)+1));have j:=(a.ed.get 15 E _ rfl).1;have f15:=(a.ed.get 15 E _ rfl).2;have jc:=eR eb _ s.ew j;have d6:=Y a;have m:Hid (EV X eb ((w.s eb 12 (Z ((s.ar:Int)+1))).s eb 15 (Z 10)) {s with ar:=s.ar+1,ew:=10} g i c d f qc):=a.cells (ah _ _ _ _) (a.ed.set 15 E (Z 10)) rfl rfl rfl rfl h.b3 cr (fun e=>by simp at e);have t:V2.wrap ((s.ar:Int)+1)=(s.ar:Int)+1:=fF;unfold Er.bM;by_cases b:s.ew=0;{by_cases k:5000<s.ar+1;{rw[if_pos ⟨b,k⟩];have q:decide ((5000:Int)<(s.ar:Int)+1)=true:=bQ;rw[b]at jc j;go_enter func94,ntmps94;go_wp21;refine jc.kk ?_;go_wp2;go_end0;exact⟨⟨_,rfl⟩,m.o,R.setCell (S:=(·=eb)) (p:=⟨eb,15,none⟩) g1 (fun _=>rfl) _⟩};{rw[if_neg (fun e=>k e.2)];have q:decide ((5000:Int)<(s.ar:Int)+1)=false:=bQ;rw[b]at jc;exact Mb}};{rw[if_neg (fun e=>b e.1)];have n:=bP b;rw[n]at jc;exact Mb}
theorem zF:∀(a:List (List UInt8)) (s:Er.St) (t:List UInt8),Er.fI (a++[t]) s=Er.ay t (Er.fI a s)
 |[],s,t=>rfl
 |x::a,s,t=>zF a (Er.ay x s) t
theorem lC(t s):(Er.ay t s).sp=s.sp/\(Er.ay t s).aS=s.aS/\(Er.ay t s).aA=s.aA/\(Er.ay t s).ai=s.ai/\(Er.ay t s).aI=s.aI/\(Er.ay t s).ar=s.ar:=by unfold Er.ay;split <;> exact⟨rfl,rfl,rfl,rfl,rfl,rfl⟩
theorem qq:∀(a:List (List UInt8)) (s:Er.St),(Er.fI a s).sp=s.sp/\(Er.fI a s).aS=s.aS/\(Er.fI a s).aA=s.aA/\(Er.fI a s).ai=s.ai/\(Er.fI a s).aI=s.aI/\(Er.fI a s).ar=s.ar
 |[],s=>⟨rfl,rfl,rfl,rfl,rfl,rfl⟩
 |t::a,s=>by
  have⟨b,c,d,f,g,i⟩:=qq a (Er.ay t s);have⟨j,k,l,m,n,o⟩:=lC t s;exact⟨b.trans j,c.trans k,d.trans l,f.trans m,g.trans n,i.trans o⟩
theorem EV.U7{X eb w s o i r p m qc}(h:EV X eb w s o p i m r qc):EV X eb (w.s eb 6 aM) {s with aA:= []} o p i m none 0:=by have f:=ah w eb 6 aM;have d:∀ {a:Option Addr} {c:Nat} {l:List Int},jH w (eb+1) a c l->jH (w.s eb 6 aM) (eb+1) a c l:=fun {a c l} d=>by{refine d.T f (fun b k e=>?_);rcases d.2 with ⟨q,_⟩ |⟨g,x,q,j,n,_⟩;{simp_all};{grind}};exact⟨h.ed.set 6 E aM,d h.sp,d h.aS,h.eO,VF _ _ _ _,h.aT.T f (fun b j=>E),h.ai.T f (fun b j=>E),h.b1,h.b2,h.b3,h.b4,h.b5,h.b6,fun t n=>by cases n⟩
theorem lE(X eb w s){l f q m i qc}(h:EV X eb w s l m f i q qc)(a0:s.aA.length<=100000):aO 98 #[az eb] w fun e r=>(∃v,e=.returned v)/\EV X eb r (Er.eG s) l m f i none 0/\R (fun b=>b=eb\/(aR w b 5/\eb<=b)) w r:=by have a2:=(h.ed.get 6 E _ rfl).1;have c:=Y h;have M:=h.ed.aZ;go_enter func98,ntmps98;go_wp21;go_loopg [9] s.aA.length (fun k v wr=>∃j:Nat,v=Z j/\j+k=s.aA.length/\Hid (EV X eb wr (Er.fI (s.aA.take j) s) l m f i q qc)/\Hid (R (fun b=>b=eb\/(aR w b 5/\eb<=b)) w wr));(case atStart=>exact ⟨0,rfl,E,c.o,R.refl _ _⟩);case round=>obtain⟨j,rfl,G,a,d⟩:=hrel;have n:=Y G;by_cases H:j<s.aA.length;{obtain⟨g,rfl,U,D,C⟩:=Qh c.o.aA E;have O:¬(g=eb\/(aR w g 5/\eb<=g)):=fun e=>by{rcases e with e|e;{omega};{exact absurd (D.eH e.1) ae}};have S:=d.out.T (C j (.string ⟨s.aA[j].toArray⟩) aK) O;have I:Er.fI (s.aA.take (j+1)) s=Er.ay s.aA[j] (Er.fI (s.aA.take j) s):=by{rw[<-zF,List.take_append_getElem]};have p:=iA X eb wr _ a.out s.aA[j] (bV (c.o.b7 _ (List.getElem_mem H)));rw[<-I]at p;have y:=Y d.out;generalize (⟨s.aA[j].toArray⟩:ByteArray)=a3 at*;have W:(j:Int)<(s.aA.length:Int):=E;go_wp21;refine p.mono ?_;rintro e a4 ⟨⟨v1,rfl⟩,B,P⟩;go_wp2;go_roundg (gk-1);(case measure=>have:=n.o;omega);case rel=>exact ⟨j+1,by go_num,bV n.o,B,rG M y.o P⟩};{have F:j=s.aA.length:=E;subst F;rw[List.take_length]at a;have N:=(a.out.ed.get 6 E _ rfl).1;have a1:=(a.out.ed.get 6 E _ rfl).2;have x:=Y (d.out.t (ah wr eb 6 aM));have z:=Y a.out.U7;have L:(Er.fI s.aA s).aA.length=s.aA.length:=by{rw[(qq s.aA s).2.2.1]};rw[L]at N;go_wp2;go_end0;exact⟨⟨_,rfl⟩,z.o,x.o⟩}
end
section
open Go.RowKit
attribute [local go_sem ↓] Go.wp_at_zero Go.wp_at_succ
def bW(w:World)(a:Option Addr)(zs:List Int):Prop:=zs≠ []->∃b c,a=some ⟨b,c,none⟩/\aR w b 3/\∀k,k<zs.length->w.cell? ⟨b,c+k,none⟩=some (.int .i64 (zs.getD k 0))
structure Fm(w:World)(b o:Nat)(y:Rm.It):Prop where
 aF:w.cell? ⟨b,o,none⟩=some (.int .u8 y.aF)
 bF:w.cell? ⟨b,o+1,none⟩=some (.int .i64 y.bF)
 cP:∃a c,w.cell? ⟨b,o+2,none⟩=some (.slice a y.cP.length c)/\bW w a y.cP/\y.cP.length<=c
 neg:w.cell? ⟨b,o+3,none⟩=some (.bool y.neg)
 fO:w.cell? ⟨b,o+4,none⟩=some (.int .u8 y.fO)
 iW:y.cP.length<=1000
theorem JP{ps:List Int}{neg}{c:Int}{i:Nat}(h:i+1<ps.length):Rm.nU (ps.drop i) neg c=if ps.getD i 0<=c/\c<=ps.getD (i+1) 0 then !neg else Rm.nU (ps.drop (i+2)) neg c:=by have a:i<ps.length:=E;rw[VG a,VG h];have b:ps.getD i 0=ps[i]:=by{simp[a]};have d:ps.getD (i+1) 0=ps[i+1]:=by{simp[h]};rw[b,d];rfl
theorem LB{ps:List Int}{neg}{c:Int}{i:Nat}(h:¬i+1<ps.length):Rm.nU (ps.drop i) neg c=neg:=by have d:(ps.drop i).length<=1:=cr;match hd:ps.drop i with|[]=>rfl|[a]=>rfl|a::b::t=>rw [hd]at d;simp at d
theorem Ez(w b n y)(h:Fm w b n y)(c):aO 181 #[.pointer (some ⟨b,n,none⟩),Z c] w fun e C=>e=.returned (.bool (Rm.nU y.cP y.neg c))/\C=w:=by obtain⟨g,f⟩:=b8 (Rm.nU y.cP y.neg c);rw[f];have cj:Hid (Rm.nU (y.cP.drop 0) y.neg c=g):=by{rw[Wj];exact f};obtain⟨a,G,D,j,H⟩:=h.cP;have F:=h.neg;have I:=h.iW;have o:=Y j;clear f j h;go_enter func181,ntmps181;go_wp21;go_loopg [5] y.cP.length (fun k v wr=>∃i:Nat,v=Z (i:Int)/\Hid (i<=y.cP.length+1/\y.cP.length<=i+k)/\Hid (Rm.nU (y.cP.drop i) y.neg c=g)/\Hid (wr=w));(case atStart=>exact ⟨0,rfl,⟨E,E⟩,cj.o,rfl⟩);case round=>obtain⟨i,rfl,r,f7,s⟩:=hrel;have B:=s.o;subst B;obtain⟨L,M⟩:=r.o;by_cases d:i+1<y.cP.length;{have t:(i:Int)+1<(y.cP.length:Int):=E;have x:y.cP≠ []:=fun e=>by{rw[e]at d;simp at d};obtain⟨N,O,rfl,_,z⟩:=o.o x;have P:=z i E;have S:=z (i+1) d;have bv:=f7.o;rw[JP d]at bv;generalize y.cP.getD i 0=p,y.cP.getD (i+1) 0=q at*;by_cases l:p<=c;{by_cases m:c<=q;{rw[if_pos ⟨l,m⟩]at bv;have nR:=Y bv;clear bv f7 z cj;go_wp2;go_ret;exact⟨by rw[<-nR.o];rfl,rfl⟩};{rw[if_neg (fun e=>m e.2)]at bv;exact RB}};{rw[if_neg (fun e=>l e.1)]at bv;exact RB}};{have t:¬(i:Int)+1<(y.cP.length:Int):=E;have bv:=f7.o;rw[LB d]at bv;have nR:=Y bv;clear bv f7 cj;go_wp2;go_ret;exact⟨by rw[<-nR.o];rfl,rfl⟩}
theorem CH(w b d y)(h:Fm w b d y):aO 180 #[.pointer (some ⟨b,d,none⟩)] w fun e i=>e=.returned (Z (kQ y:Int))/\i=w:=by have j:=h.fO;unfold kQ;by_cases a:y.fO=42;{have f:=jD a;rw[if_pos (VI a)];exact Gq};{have f:=bP a;by_cases c:y.fO=63;{have g:=jD c;rw[if_pos (VH c)];exact Gq};{have g:=bP c;rw[if_neg E];exact Gq}}
def Rm.xZ(y:Rm.It):Prop:=y.fO=49\/y.fO=63
theorem xL{y sp p k m}(h:lK y (sp.drop p)=k+m)(c:xZ y->k<=1)(a:m=0\/(xZ y/\k=1)):gu y sp p=k:=by unfold gu;rw[h];by_cases b:y.fO=49\/y.fO=63;{rw[if_pos b];have:=c b;rcases a with a |⟨_,a⟩;{omega};{omega}};{rw[if_neg b];rcases a with a |⟨a,_⟩;{omega};{exact absurd a b}}
theorem wB(w b q y)(h:Fm w b q y)(t N sp)(s:bW w t sp)(a0:sp.length<=5000)(p)(X:p<=sp.length):aO 155 #[.pointer (some ⟨b,q,none⟩),.slice t sp.length N,Z (p:Int)] w fun e O=>e=.returned (Z (gu y sp p:Int))/\O=w:=by obtain⟨P,n⟩:=b8 (gu y sp p);rw[n];have cj:=Y n;have S:=h.fO;have r:=fun c=>Ez w b q y h c;have z:=Y r;have x:=Y s;clear n s r h;go_enter func155,ntmps155;go_wp21;go_loopg [7] (sp.length+1) (fun k v wr=>∃i:Nat,v=Z (i:Int)/\Hid (p+i<=sp.length/\sp.length+1<=p+i+k)/\Hid (lK y (sp.drop p)=i+lK y (sp.drop (p+i))/\(xZ y->i<=1))/\Hid (wr=w));(case atStart=>exact ⟨0,rfl,⟨E,E⟩,⟨by rw[Nat.add_zero,VK],fun _=>Nat.zero_le _⟩,rfl⟩);case round=>obtain⟨i,rfl,B,a,C⟩:=hrel;have M:=C.o;subst M;obtain⟨U,W⟩:=B.o;by_cases m:p+i<sp.length;{have I:(p:Int)+(i:Int)<(sp.length:Int):=E;have L:sp≠ []:=fun e=>by{rw[e]at m;simp at m};obtain⟨a1,a2,rfl,_,o⟩:=x.o L;have a3:=o (p+i) m;have j:=EH (y:=y) m;have sa:=z.o (sp.getD (p+i) 0);generalize sp.getD (p+i) 0=G at*;cases l:Rm.nU y.cP y.neg G with|false=>rw[l]at sa j;have gN:Hid (gu y sp p=i):=xL a.o.1 a.o.2 (VI (by rw[j];rfl));clear j l o;exact Gs|true=>rw[l,if_pos rfl]at j;rw[l]at sa;have hE:Hid (lK y (sp.drop p)=(i+1)+lK y (sp.drop (p+(i+1)))):=by{have d:=a.o.1;rw[j]at d;show lK y (sp.drop p)=(i+1)+lK y (sp.drop (p+(i+1)));rw[show p+(i+1)=p+i+1 by omega];omega};clear j l o;by_cases d:i=1;{have H:((i:Int)==1)=true:=by{simp[d]};by_cases f:y.fO=49;{have D:=jD f;have gN:Hid _:=xL a.o.1 a.o.2 (VH ⟨VI f,d⟩);clear f d;exact Gs};{have D:=bP f;by_cases g:y.fO=63;{have F:=jD g;have gN:Hid _:=xL a.o.1 a.o.2 (VH ⟨VH g,d⟩);clear f d g;exact Gs};{have F:=bP g;have y2:Hid (xZ y->i+1<=1):=fun e=>by{rcases e with e|e;exact absurd e f;exact absurd e g};clear f d g;exact RD}}};{have H:((i:Int)==1)=false:=bQ;have y2:Hid (xZ y->i+1<=1):=fun e=>by{have:=a.o.2 e;omega};clear d;exact RD}};{have I:¬(p:Int)+(i:Int)<(sp.length:Int):=E;have gN:Hid (gu y sp p=i):=xL a.o.1 a.o.2 (VI (by rw[VS E];rfl));go_wp2;go_ret;exact⟨by rw[<-cj.o,gN.o];rfl,rfl⟩}
theorem bW.T{S w c a zs}(h:bW w a zs)(a8:R S w c)(ao:∀b,aR w b 3->¬S b):bW c a zs:=by exact Mm
theorem bW.quiet{w b a zs}(h:bW w a zs)(c:aG w b):bW b a zs:=h.T c (fun _ _=>id)
theorem bW.aJ{w aq n a c zs}(h:w.ownsRow aq 3 1 (.slice a n c) zs.length (zs.map Z)):bW w a zs:=by intro p;rcases h.2 with ⟨_,e⟩ |⟨g,cD,bI,i,_,b,m,_,q,r⟩;{simp_all};{injection i with d j l;subst d;refine⟨g,0,rfl,⟨bI,(0,0),b⟩,fun k o=>?_⟩;rw[VK,cell_of_row _ g k bI _ (0,0) b,<-VN];have f:(bI.toList.take (zs.length*1))[k]? =some (Z (zs.getD k 0)):=by{simp_all};rwa [VZ,if_pos E]at f}
theorem Bu(w d v k c){aq e f}(hj:w.ownsRow aq e 1 v k f):(Builtin.append_ #[35,35] d #[v,.slice none 0 c]).run prog w=.ok v w:=by have b:∃a cD,v=.slice a k cD/\k<=cD:=by{exact Nd};obtain⟨a,cD,rfl,z⟩:=b;have⟨i,b2,g,ia,j⟩:=info_parts eD;have cW:=run_underlying (P:=prog) (w:=w) underlying35;have i8:(sizeOf 3).run prog w=.ok 1 w:=GQ;exact Mo
theorem xo(w f aq v k s)(d:w.ownsRow aq 3 1 v k (s.map Z))(a c sp)(y:bW w a sp)(C:k+sp.length<=1000000000000)(g:aq<=w.heap.size):∃v' a2,(Builtin.append_ #[35,35] f #[v,.slice a sp.length c]).run prog w=.ok v' a2/\a2.ownsRow aq 3 1 v' (k+sp.length) ((s++sp).map Z)/\w.grownBy a2 v.ownBlock/\(v'.ownBlock=v.ownBlock\/v'.ownBlock=some w.heap.size):=by have⟨i,m,n,p,q⟩:=info_parts eD;by_cases l:sp= [];{subst l;cases a with|none=>exact ⟨v,w,Bu w f v k c d,by simpa using d,⟨rfl,rfl,rfl,V3 _,fun _ _ _=>rfl⟩,VI rfl⟩|some t=>have⟨v',a2,o,a4,ab,_,f8⟩:=run_append_own_at (P:=prog) w aq 35 f 3 i _ 1 8 underlying35 m n p q rfl E v k _ d t 0 c [] rfl aK aK rK E g;exact Ch};{obtain⟨z,B,rfl,_,x⟩:=y l;obtain⟨v',a2,o,a4,ab,_,f8⟩:=run_append_own_at (P:=prog) w aq 35 f 3 i _ 1 8 underlying35 m n p q rfl E v k _ d ⟨z,B,none⟩ sp.length c (sp.map Z) aK (fun j u cW=>by rw[Addr.add_mid];rw[VR]at cW;cases b:sp[j]? with|none=>rw [b]at cW;cases cW|some r=>rw[b]at cW;simp at cW;subst cW;rw[x j ((VJ.1 b).1),VE,b];rfl) GR rK E g;exact Ch}
theorem wp_append_ints(w){d:Oper}{a K Q}(s i)(c5:d.op=.call {callee:=.builtin .append,args:=#[s,i],argTypes:=#[35,35]})(aq:Nat)(v)(k:Nat)(g)(ch:a.eval s=v)(o:w.ownsRow aq 3 1 v k (g.map Z))(f)(c:Nat)(sp)(n:Nat)(bw:a.eval i=.slice f n c)(m:n=sp.length)(p:bW w f sp)(l:k+n<=1000000000000)(j:aq<=w.heap.size)(h:∀hm c' a2,a2.ownsRow aq 3 1 (.slice hm (k+n) c') (k+n) ((g++sp).map Z)->R (fun b=>v.ownBlock=some b) w a2->((VU hm (k+n) c').ownBlock=v.ownBlock\/(VU hm (k+n) c').ownBlock=some w.heap.size)->K (a.put d.dst (.slice hm (k+n) c')) a2):d.wp prog a w K Q:=by subst m;have⟨v',a2,x,a4,ab,be⟩:=xo w d.type aq v k g o f c sp p l j;exact Q9
theorem oy(w){ops d a K Q m}(p:d.guard=none)(s j)(t:d.op=.call {callee:=.builtin .append,args:=#[s,j],argTypes:=#[35,35]})(aq v k l)(z:a.eval s=v)(x:w.ownsRow aq 3 1 v k (l.map Z))(g c sp)(n:Nat)(B:a.eval j=.slice g n c)(r:n=sp.length)(y:bW w g sp)(q:k+n<=1000000000000)(o:aq<=w.heap.size)(h:∀f c' i,i.ownsRow aq 3 1 (.slice f (k+n) c') (k+n) ((l++sp).map Z)->R (fun b=>v.ownBlock=some b) w i->((VU f (k+n) c').ownBlock=v.ownBlock\/(VU f (k+n) c').ownBlock=some w.heap.size)->K (a.put d.dst (.slice f (k+n) c')) i):if Region.wanted d (yielded ops a.tmps)=true then Oper.wp prog d a w K Q else m:=by rw[if_pos (by simp[Region.wanted,p])];exact wp_append_ints w s j t aq v k l z x g c sp n B r y q o h
theorem wpList_append_ints(w){ops rest g a Q}(t:g.guard=none)(s j)(z:g.op=.call {callee:=.builtin .append,args:=#[s,j],argTypes:=#[35,35]})(aq v k l)(D:a.eval s=v)(B:w.ownsRow aq 3 1 v k (l.map Z))(i c sp)(n:Nat)(F:a.eval j=.slice i n c)(y:n=sp.length)(C:bW w i sp)(x:k+n<=1000000000000)(r:aq<=w.heap.size)(h:∀d c' f,f.ownsRow aq 3 1 (.slice d (k+n) c') (k+n) ((l++sp).map Z)->R (fun b=>v.ownBlock=some b) w f->((VU d (k+n) c').ownBlock=v.ownBlock\/(VU d (k+n) c').ownBlock=some w.heap.size)->wpList prog ops Q rest (a.put g.dst (.slice d (k+n) c')) f):
 wpList prog ops Q (g::rest) a w:=
 wpList_plain t fun _ q=>wp_append_ints w s j z aq v k l D B i c sp n F y C x r (fun d c' f m o p=>q _ _ (h d c' f m o p))
theorem gL(w c d f g a ys)(p:bW w c a)(q:bW w d ys)(D:a.length<=100000000000)(F:ys.length<=100000000000):aO 88 #[.slice c a.length f,.slice d ys.length g] w fun e n=>∃ra rc,e=.returned (.slice ra (a.length+ys.length) rc)/\n.ownsRow w.heap.size 3 1 (.slice ra (a.length+ys.length) rc) (a.length+ys.length) ((a++ys).map Z)/\aG w n:=by have r:w.ownsRow w.heap.size 3 1 aM 0 (([]:List Int).map Z):=VF _ _ _ _;have y:0+a.length=a.length:=VK _;go_enter func88,ntmps88;go_upto_region 3 with (at_builtin;refine wpList_append_ints _ aV _ _ aV w.heap.size aM 0 [] aV r c f a a.length aV rfl p E (V3 _) ?_;intro l m o s j z);have i:o.ownsRow w.heap.size 3 1 (.slice l a.length m) a.length (a.map Z):=bS s;have k:aG w o:=j.mono (fun b _ e=>by cases e);go_wp2_with (at_builtin;refine wpList_append_ints _ aV _ _ aV w.heap.size (.slice l a.length m) a.length a aV i d g ys ys.length aV rfl (q.quiet k) E j.size ?_;intro G H I t x B);go_wp2;go_ret;exact⟨_,_,rfl,t,k.trans x (fun _ e=>e) (fun b C e=>by have:=(i.lt b e).1;omega)⟩
structure EX where
 eb:Nat
 B:Nat
 Ou:Value
 Eh:Value
 Cc:Value
 sq:Value
 fs:List Nat
 next:List Int
def sY(w:World)(a:Option Addr)(fs:List Nat):Prop:=fs≠ []->∃b,a=some ⟨b,0,none⟩/\aR w b 88/\∀k,k<fs.length->w.cell? ⟨b,k,none⟩=some (.pointer (some ⟨fs.getD k 0,0,none⟩))
theorem sY.T{S w f a fs}(h:sY w a fs)(d:R S w f)(c:∀b,aR w b 88->¬S b):sY f a fs:=by intro j;have⟨b,e,t,g⟩:=h j;exact⟨b,e,t.T d (c b t),fun k i=>d.T (g k i) (c b t)⟩
def nM(w:World)(a:Option Addr)(c:List (List Int)):Prop:=c≠ []->∃b,a=some ⟨b,0,none⟩/\aR w b 35/\∀k,k<c.length->∃ra rc,w.cell? ⟨b,k,none⟩=some (.slice ra (c.getD k []).length ((c.getD k []).length+rc))/\bW w ra (c.getD k [])
theorem nM.T{S w g a f}(h:nM w a f)(c:R S w g)(d:∀b,a=some ⟨b,0,none⟩->aR w b 35->¬S b)(i:∀b,aR w b 3->¬S b):nM g a f:=by intro m;have⟨b,e,t,j⟩:=h m;refine⟨b,e,t.T c (d b e t),fun k l=>?_⟩;have⟨ra,rc,n,o⟩:=j k l;exact⟨ra,rc,c.T n (d b e t),o.T c i⟩
def R6(w:World)(B:Nat)(c:Value)(q:List (List Int)):Prop:=∃a qc b,c=.slice a q.length qc/\w.ownsRow B 35 1 (.slice a q.length qc) q.length b/\∀(i:Nat) (l:List Int),q[i]? =some l->∃ra rc,b[i]? =some (.slice ra l.length rc)/\bW w ra l
theorem R6.T{S w d B a q}(h:R6 w B a q)(c:R S w d)(f:∀b,a.ownBlock=some b->¬S b)(g:∀b,aR w b 3->¬S b):R6 d B a q:=by have⟨k,qc,m,e,n,o⟩:=h;refine⟨k,qc,m,e,ax n c (fun b s=>f b aU),fun i l j=>?_⟩;have⟨ra,rc,p,r⟩:=o i l j;exact⟨ra,rc,p,r.T c g⟩
def KY(w:World)(v:Value)(os:List Bool):Prop:=∃a c,v=.slice a os.length c/\(os≠ []->∃b,a=some ⟨b,0,none⟩/\aR w b 4/\∀k,k<os.length->w.cell? ⟨b,k,none⟩=some (.bool (os.getD k false))/\w.frozen? ⟨b,k,none⟩=false)
theorem KY.T{S w g v os}(h:KY w v os)(d:R S w g)(c:∀b,aR w b 4->¬S b):KY g v os:=by have⟨m,n,e,j⟩:=h;refine⟨m,n,e,fun l=>?_⟩;have⟨b,i,t,f⟩:=j l;exact⟨b,i,t.T d (c b t),fun k a=>⟨d.T (f k a).1 (c b t),d.aE (f k a).1 (f k a).2 (c b t)⟩⟩
def Vd(l:List Int):Prop:=∀r∈l,0<=r/\r<=1114111
structure ef(F:nL)(X:EX)(w:World)(t:Rr.St):Prop where
 aZ:aR w X.eb 94
 cells:∃sa sc ha hc qv,aX w X.eb [X.Ou,X.Eh,.bool F.q,X.Cc,.int .i64 (t.aI:Int),.slice sa t.sp.length (t.sp.length+sc),.slice ha t.aS.length (t.aS.length+hc),qv,X.sq,.bool t.done,.int .i64 (t.ar:Int),.string ⟨t.out.toArray⟩,.int .i64 t.e]/\bW w sa t.sp/\bW w ha t.aS/\R6 w X.B qv t.aA
 row:∃ra rc,X.Ou=.slice ra X.fs.length rc/\sY w ra X.fs
 RX:∃na nc,X.Eh=.slice na X.next.length nc/\bW w na X.next
 zY:∃la lc,X.Cc=.slice la F.aT.length lc/\nM w la F.aT/\∀b,la=some ⟨b,0,none⟩->b<X.B
 IW:KY w X.sq t.ai
 lt:X.eb<X.B
 bs:X.B<=w.heap.size
 b1:t.sp.length<=10000000000
 b2:t.aS.length<=10000000000
 b3:t.aI<=F.aT.length
 b4:F.aT.length<=100000
 b5:t.ar<=10000000000
 v1:Vd t.sp
 v2:Vd t.aS
 v3:∀l∈t.aA,Vd l/\l.length<=10000000000
 v4:∀l∈F.aT,Vd l/\l.length<=10000000000
def Bk(X:EX)(b:Nat):Prop:=b=X.eb\/X.sq.ownBlock=some b\/X.B<=b
theorem ef.jM{F X w o t}(h:ef F X w t)(a)(c:R (·=X.eb) w o)(L:aR o X.eb 94)(H:∀m n j k l,aX w X.eb [X.Ou,X.Eh,.bool F.q,X.Cc,Z (t.aI:Int),.slice m t.sp.length n,.slice j t.aS.length k,l,X.sq,.bool t.done,Z (t.ar:Int),.string ⟨t.out.toArray⟩,Z t.e]->aX o X.eb [X.Ou,X.Eh,.bool F.q,X.Cc,Z (a.aI:Int),.slice m t.sp.length n,.slice j t.aS.length k,l,X.sq,.bool a.done,Z (a.ar:Int),.string ⟨a.out.toArray⟩,Z a.e])(g:a.sp=t.sp)(i:a.aS=t.aS)(r:a.aA=t.aA)(C:a.ai=t.ai)(D:a.aI<=F.aT.length)(G:a.ar<=10000000000):ef F X o a:=by have f:∀b p,aR w b p->p≠94->¬b=X.eb:=fun b p t I e=>by{subst e;exact I (t.eH h.aZ)};have⟨m,n,j,k,l,x,y,z,B⟩:=h.cells;have⟨ra,rc,a3,a4⟩:=h.row;have⟨a0,a1,U,W⟩:=h.RX;have⟨P,S,M,N,O⟩:=h.zY;have d:∀b,aR w b 3->¬b=X.eb:=fun b t=>f b _ t ae;refine⟨L,⟨m,n,j,k,l,by rw[g,i];exact H _ _ _ _ _ x,by rw[g];exact y.T c d,by rw[i];exact z.T c d,by rw[r];have⟨a2,qc,a5,e,s,a6⟩:=B;exact R6.T ⟨a2,qc,a5,e,s,a6⟩ c (fun b a7=>f b _ (aR.aJ s aU) ae) d⟩,⟨ra,rc,a3,a4.T c (fun b t=>f b _ t ae)⟩,⟨a0,a1,U,W.T c d⟩,⟨P,S,M,N.T c (fun b _ t=>f b _ t ae) d,O⟩,by rw[C];exact h.IW.T c (fun b t=>f b _ t ae),h.lt,Nat.le_trans h.bs c.size,by rw[g];exact h.b1,by rw[i];exact h.b2,D,h.b4,G,by rw[g];exact h.v1,by rw[i];exact h.v2,by rw[r];exact h.v3,h.v4⟩
theorem ef.drewN{F X w t}(h:ef F X w t)(n):ef F X (w.drewN n) t:=
 h.jM t ((R.refl _ w).drewN n) (h.aZ.T ((R.refl (fun _=>False) w).drewN n) id) (fun _ _ _ _ _ k=>k.T ((R.refl (fun _=>False) w).drewN n) id) rfl rfl rfl rfl h.b3 h.b5
theorem uS(F X w t)(h:ef F X w t)(a):aO 61 #[az X.eb,Z a] w fun e g=>e=.returned (.tuple #[])/\ef F X g (Rr.no a t)/\R (·=X.eb) w g:=by have⟨p,q,l,m,n,f,_⟩:=h.cells;have i:=bC f 12;have j:=fJ f 12;by_cases d:t.e=0;{have c:Rr.no a t={t with e:=a}:=if_pos d;rw[c];rw[d]at i;have b:=Y (h.jM {t with e:=a} (ah _ _ _ _) h.aZ.set (fun _ _ _ _ _ k=>k.set 12 _) rfl rfl rfl rfl h.b3 h.b5);go_enter func61,ntmps61;go_wp2;go_end0;exact⟨rfl,b.o,ah _ _ _ _⟩};{have c:Rr.no a t=t:=if_neg d;rw[c];have b:=Y h;go_enter func61,ntmps61;go_wp2;go_end0;exact⟨rfl,b.o,R.refl _ _⟩}
theorem vM(F X w t)(h:ef F X w t):aO 60 #[az X.eb] w fun e b=>e=.returned (.tuple #[])/\ef F X b (eN t)/\R (·=X.eb) w b:=by have⟨r,s,n,p,q,a,_⟩:=h.cells;have l:=bC a 5;have m:=bC a 6;have gn:=uS F X w t h 9;have j:=h.b1;have k:=h.b2;have c:=Y h;unfold eN;by_cases d:400<t.sp.length;{have f:(400:Int)<(t.sp.length:Int):=E;rw[if_pos (VI d)];exact Rx};{have f:¬(400:Int)<(t.sp.length:Int):=E;by_cases g:400<t.aS.length;{have i:(400:Int)<(t.aS.length:Int):=E;rw[if_pos (VH g)];exact Rx};{have i:¬(400:Int)<(t.aS.length:Int):=E;rw[if_neg E];go_enter func60,ntmps60;go_wp2;go_end0;exact⟨rfl,c.o,R.refl _ _⟩}}
theorem jx(F X w t)(h:ef F X w t):aO 87 #[az X.eb] w fun e G=>e=.returned (Z (aW t.sp:Int))/\G=w:=by obtain⟨W,a0,L,M,U,m,n,_⟩:=h.cells;have I:=bC m 5;have H:=h.b1;have p:=Y n;obtain⟨a,g⟩:=b8 (aW t.sp);rw[g];have s:=Y g;clear g m n h;go_enter func87,ntmps87;go_wp21;go_loopg [3] (t.sp.length+1) (fun k v wr=>∃i:Nat,v=Z (i:Int)/\Hid (i<=t.sp.length/\t.sp.length+1<=i+k)/\Hid (i+aW (t.sp.drop i)=a)/\Hid (wr=w));(case atStart=>exact ⟨0,rfl,⟨E,E⟩,by show 0+aW (t.sp.drop 0)=a;rw[Wj,VK];exact s.o,rfl⟩);case round=>obtain⟨i,rfl,q,l,x⟩:=hrel;have D:=x.o;subst D;obtain⟨N,O⟩:=q.o;by_cases d:i<t.sp.length;{have B:(i:Int)<(t.sp.length:Int):=E;have C:t.sp≠ []:=fun e=>by{rw[e]at d;simp at d};obtain⟨P,S,rfl,_,j⟩:=p.o C;have a1:=j i d;have f:aW (t.sp.drop i)=if t.sp.getD i 0=10 then 0 else aW (t.sp.drop (i+1))+1:=by{rw[VG d];have z:t.sp.getD i 0=t.sp[i]:=by{simp[d]};rw[z];unfold aW;rw[VW];by_cases e:t.sp[i]=10;{simp_all};{simp_all}};generalize t.sp.getD i 0=r at*;by_cases b:r=10;{rw[if_pos b]at f;have y:(r !=10)=false:=by{simp[b]};have c:Hid (i=a):=aU;clear f j b;go_wp2;go_ret;exact⟨by rw[<-c.o];rfl,rfl⟩};{rw[if_neg b]at f;have y:=mK b;have c:Hid (i+1+aW (t.sp.drop (i+1))=a):=by{have:=l.o;rw[f]at this;show i+1+_=a;omega};clear f j b;go_wp2;go_roundg (gk-1);(case measure=>omega);case rel=>exact ⟨i+1,by first|rfl|simp,⟨E,E⟩,c.o,rfl⟩}};{have B:¬(i:Int)<(t.sp.length:Int):=E;have c:Hid (i=a):=by{have:=l.o;rw[VS E]at this;exact this};go_wp2;go_ret;exact⟨by rw[<-c.o];rfl,rfl⟩}
theorem nM.get{w a d}(h:nM w a d)(k)(f:k<d.length):∃b ra rc,a=some ⟨b,0,none⟩/\w.c b k=some (.slice ra (d.getD k []).length ((d.getD k []).length+rc))/\bW w ra (d.getD k []):=by have⟨b,e,t,g⟩:=h (fun e=>by rw[e]at f;simp at f);have⟨ra,rc,i,j⟩:=g k f;exact⟨b,ra,rc,e,i,j⟩
theorem qw(F X w t)(h:ef F X w t)(d:t.aI<F.aT.length):aO 39 #[az X.eb] w fun e g=>∃ra rc,e=.returned (.slice ra (Rr.bd F t).length ((Rr.bd F t).length+rc))/\bW g ra (Rr.bd F t)/\ef F X g (Rr.gP t)/\R (·=X.eb) w g:=by have⟨W,a0,I,L,U,a,_⟩:=h.cells;have n:=bC a 3;have C:=bC a 4;have G:=fJ a 4;have D:=bC a 9;have H:=fJ a 9;have B:=h.b4;have⟨P,S,p,i,_⟩:=h.zY;obtain⟨lb,ra,rc,rfl,x,y⟩:=i.get t.aI d;rw[p]at n;have N:lb≠X.eb:=fun e=>by{have⟨z,c,q,_⟩:=i (fun e=>by rw[e]at d;simp at d);injection c with c;injection c with c;subst c;subst e;exact absurd (q.eH h.aZ) ae};have M:(t.aI:Int)<(F.aT.length:Int):=E;have O:V2.wrap ((t.aI:Int)+1)=(t.aI:Int)+1:=fF;have f:R (·=X.eb) w ((w.s X.eb 4 (Z ((t.aI:Int)+1))).s X.eb 9 (.bool false)):=cE (ah _ _ _ _) (ah _ _ _ _);have l:=Y (h.jM (Rr.gP t) f h.aZ.set.set (fun _ _ _ _ _ k=>(k.set 4 _).set 9 _) rfl rfl rfl rfl d h.b5);have j:Hid (bW ((w.s X.eb 4 (Z ((t.aI:Int)+1))).s X.eb 9 (.bool false)) ra (Rr.bd F t)):=y.T f (fun b r e=>by subst e;exact absurd (r.eH h.aZ) ae);have m:=Y f;have o:F.aT.getD t.aI []=Rr.bd F t:=rfl;rw[o]at x;generalize Rr.bd F t=ln at*;go_enter func39,ntmps39;go_wp21;go_quiet (fail);go_wp2;go_ret;exact⟨_,_,rfl,j.o.quiet ((R.refl _ _).drewN _),l.o.drewN _,m.o.drewN _⟩
theorem xp{l:List Int}{i}(h:i<l.length):runesBytes (l.take (i+1))=runesBytes (l.take i)++V4 (l.getD i 0):=by unfold runesBytes;have a:l.getD i 0=l[i]:=by{simp[h]};rw[List.take_succ_eq_append_getElem h,List.foldl_append,a];rfl
theorem qT(r):runesBytes [r]=V4 r:=by rfl
theorem fB(l):(runesBytes l).size<=4*l.length:=by have:=foldl_size_le l Wh;unfold runesBytes;simpa using this
theorem vO(w a c l)(h:bW w a l)(D:Vd l)(X:l.length<=10000000000):aO 90 #[.slice a l.length c] w fun e I=>e=.returned (.string (runesBytes l))/\aG w I:=by have p:=Y h;have x:=Y D;go_enter func90,ntmps90;go_wp21;go_loopg [3,4] (l.length+1) (fun k H G wr=>∃i:Nat,H=.string (runesBytes (l.take i))/\G=Z (i:Int)/\Hid (i<=l.length/\l.length+1<=i+k)/\Hid (aG w wr));(case atStart=>exact ⟨0,rfl,rfl,⟨E,E⟩,R.refl _ _⟩);case round=>obtain⟨i,rfl,rfl,s,d⟩:=hrel;have⟨P,U⟩:=s.o;by_cases b:i<l.length;{have B:(i:Int)<(l.length:Int):=E;have C:l≠ []:=fun e=>by{rw[e]at b;simp at b};obtain⟨a1,a2,rfl,_,f⟩:=bW.quiet p.o d.o C;have a3:=f i b;have g:=xp b;have m:=fB (l.take i);have n:=fB (l.take (i+1));rw[Wg]at m n;have F:0<=l.getD i 0/\l.getD i 0<=1114111:=x.o _ aU;have O:=encode_size_le (l.getD i 0);have t:Hid _:=g;generalize l.getD i 0=r at*;have a0:IntKind.i32.wrap r=r:=by{rw[IntKind.wrap_i32];omega};have N:(convert 103 9 (bJ wr.heap.size 1 1)).run prog (wr.alloc (.cells #[.int .i32 r] 21))=.ok (.string (V4 r)) (wr.alloc (.cells #[.int .i32 r] 21)):=by{have z:=aX.cG wr #[.int .i32 r] 21;have:=ft (wr.alloc (.cells #[.int .i32 r] 21)) (some ⟨wr.heap.size,0,none⟩) 1 [r] (VH ⟨wr.heap.size,0,rfl,aR.cG _ _ _ _,fun j y=>by have:j=0:=bS y;subst this;exact(z 0 _ rfl).1⟩);rw[qT]at this;exact this};clear g;generalize runesBytes (l.take i)=S,V4 r=L at*;have M:S.size<=40000000000:=E;clear f m n F;go_wp2;go_roundg (gk-1);(case measure=>omega);case rel=>exact ⟨i+1,by rw[t.o],by first|rfl|simp,⟨E,E⟩,d.o.alloc _⟩};{have B:¬(i:Int)<(l.length:Int):=E;have W:i=l.length:=E;have q:Hid (runesBytes (l.take i)=runesBytes l):=aU;go_wp2;go_ret;exact⟨by rw[<-q.o];rfl,d.o⟩}
theorem gF(F)(a3:F.cg=fun l=>(runesBytes l).data.toList)(X w t)(h:ef F X w t)(a7:t.e=0->t.out.length<=8000)(a c l)(L:bW w a l)(P:Vd l)(N:l.length<=10000000000):aO 66 #[az X.eb,.slice a l.length c] w fun e p=>e=.returned (.tuple #[])/\ef F X p (Rr.ay F l t)/\R (·=X.eb) w p:=by have⟨b1,b2,an,am,b0,x,_⟩:=h.cells;have a1:=bC x 12;have q:=bC x 11;have I:=fJ x 11;by_cases j:t.e=0;{rw[j]at a1;have z:=vO w a c l L P N;have ap:=fB l;have ao:=a7 j;have y:Rr.ay F l t={t with out:=t.out++(runesBytes l).data.toList++[10],e:=if 8000<(t.out++(runesBytes l).data.toList++[10]).length then 11 else 0}:=by{unfold Rr.ay;rw[if_pos j,a3]};rw[y];have a5:(⟨(t.out++(runesBytes l).data.toList++[10]).toArray⟩:ByteArray)=(⟨t.out.toArray⟩++runesBytes l)++⟨#[10]⟩:=by{apply ByteArray.ext;simp[V9]};have O:(t.out++(runesBytes l).data.toList++[10]).length=t.out.length+(runesBytes l).size+1:=by{rw[VM,VM];rfl};have C:aG w w.drew:=(R.refl _ w).drew;have z:=vO w.drew a c l (L.quiet C) P N;have av:=h.aZ.lt;have H:Hid (∀b,aG w b->ef F X (b.setCell ⟨X.eb,11,none⟩ (.string ((⟨t.out.toArray⟩++runesBytes l)++⟨#[10]⟩))) {t with out:=t.out++(runesBytes l).data.toList++[10]}):=fun b f=>by{have r:ef F X b t:=h.jM t (f.mono (fun _ _ e=>e.elim)) (h.aZ.T f id) (fun _ _ _ _ _ k=>k.T f id) rfl rfl rfl rfl h.b3 h.b5;rw[<-a5];exact r.jM {t with out:=t.out++(runesBytes l).data.toList++[10]} (ah _ _ _ _) r.aZ.set (fun _ _ _ _ _ k=>k.set 11 _) rfl rfl rfl rfl r.b3 r.b5};have ab:=Y O;have al:(runesBytes l).size<=40000000000:=E;have a4:(⟨t.out.toArray⟩:ByteArray).size=t.out.length:=by{simp[Wc]};rw[O];generalize (⟨t.out.toArray⟩:ByteArray)=d at*;have ad:d.size<=8000:=E;have D:=Y j;have G:=Y a4;by_cases M:8000<t.out.length+(runesBytes l).size+1;{rw[if_pos M];have a6:(8000:Int)<(((d++runesBytes l)++⟨#[10]⟩:ByteArray).size:Int):=by{rw[VO,VO,G.o];show(8000:Int)<((t.out.length+(runesBytes l).size+1:Nat):Int);omega};have W:Hid (∀i,ef F X i {t with out:=t.out++(runesBytes l).data.toList++[10]}->aO 61 #[az X.eb,Z 11] i fun e p=>e=.returned (.tuple #[])/\ef F X p {t with out:=t.out++(runesBytes l).data.toList++[10],e:=11}/\R (·=X.eb) i p):=fun i m=>by{have:=uS F X i _ m 11;rwa [show Rr.no 11 {t with out:=t.out++(runesBytes l).data.toList++[10]}={t with out:=t.out++(runesBytes l).data.toList++[10],e:=11} from if_pos D.o]at this};generalize runesBytes l=g at*;go_enter func66,ntmps66;go_wp21;go_region_with (go_at_call 90;refine z.mono ?_;rintro e b ⟨rfl,f⟩;have B:=f.T q id;have a8:=f.aE q I id);all_goals(have n:=C.t f;have m:=H.o b n;have s:R (·=X.eb) w (b.setCell ⟨X.eb,11,none⟩ (.string ((d++g)++⟨#[10]⟩))):=(n.mono (fun _ _ e=>e.elim):R (·=X.eb) w b).t (ah _ _ _ _);have a9:=V5 b ⟨X.eb,11,none⟩ (.string ((d++g)++⟨#[10]⟩)) B;go_upto_region 2 with (fail);generalize b.setCell ⟨X.eb,11,none⟩ (.string ((d++g)++⟨#[10]⟩))=i at*;generalize (d++g)++⟨#[10]⟩=a0 at*;go_wp21;refine(W.o i m).k fun b4 ⟨a2,aa⟩=>?_;go_wp2;go_end0;exact⟨rfl,a2,cE s aa⟩)};{rw[if_neg M];have a6:¬(8000:Int)<(((d++runesBytes l)++⟨#[10]⟩:ByteArray).size:Int):=by{rw[VO,VO,G.o];show ¬(8000:Int)<((t.out.length+(runesBytes l).size+1:Nat):Int);omega};have S:Hid (({t with out:=t.out++(runesBytes l).data.toList++[10],e:=0}:Rr.St)={t with out:=t.out++(runesBytes l).data.toList++[10]}):=by{rw[<-D.o];rfl};generalize runesBytes l=g at*;go_enter func66,ntmps66;go_wp21;go_region_with (go_at_call 90;refine z.mono ?_;rintro e b ⟨rfl,f⟩;have B:=f.T q id;have a8:=f.aE q I id);all_goals(have n:=C.t f;have m:=H.o b n;have s:R (·=X.eb) w (b.setCell ⟨X.eb,11,none⟩ (.string ((d++g)++⟨#[10]⟩))):=(n.mono (fun _ _ e=>e.elim):R (·=X.eb) w b).t (ah _ _ _ _);have a9:=V5 b ⟨X.eb,11,none⟩ (.string ((d++g)++⟨#[10]⟩)) B;go_upto_region 2 with (fail);generalize b.setCell ⟨X.eb,11,none⟩ (.string ((d++g)++⟨#[10]⟩))=i at*;generalize (d++g)++⟨#[10]⟩=a0 at*;go_wp2;go_end0;exact⟨rfl,by rw[S.o];exact m,s⟩)}};{have y:Rr.ay F l t=t:=if_neg j;rw[y];have ac:=bP j;have U:=Y h;go_enter func66,ntmps66;go_wp2;(try simp only[Exit.inBlock,Exit.then]);refine bodyPost_ret (results_none rfl _ _ _) rfl ?_;exact⟨rfl,U.o,R.refl _ _⟩}
end
section
open Go.RowKit
theorem nS(b):(⟨b.data.toList.toArray⟩:ByteArray)=b:=by cases b;simp
theorem zw{s}:(Er.aP s).sp=s.sp/\(Er.aP s).aS=s.aS/\(Er.aP s).aA=s.aA/\(Er.aP s).ar=s.ar/\(Er.aP s).aI=s.aI:=by unfold Er.aP;split <;> exact⟨rfl,rfl,rfl,rfl,rfl⟩
theorem yu(F)(W:F.cg=fun l=>(runesBytes l).data.toList)(X)(y:X.q=F.q)(eb w s){n z a4 p B qc}(h:EV X eb w s n p z B a4 qc)(a9:s.aA.length<=100000):aO 72 #[az eb] w fun e N=>(∃v,e=.returned v)/\EV X eb N (Er.jk F s) n p z B none 0/\R (fun b=>b=eb\/(aR w b 5/\eb<=b)) w N:=by have I:=tO X eb w s h;have⟨x,a5,S,a6,a7⟩:=zw (s:=s);have a8:=h.b1;have i:=h.ed.aZ;unfold Er.jk;cases G:F.q with|true=>rw[if_pos rfl];generalize Er.aP s=c at*;go_enter func72,ntmps72;go_wp21;refine I.mono ?_;rintro e d ⟨⟨v1,rfl⟩,a,k⟩;have f:=(a.ed.get 1 E _ rfl).1;rw[y,G]at f;have g:=lE X eb d c a aU;go_wp21;refine g.mono ?_;rintro e O ⟨⟨v2,rfl⟩,j,m⟩;go_wp2;go_end0;exact⟨⟨_,rfl⟩,j,rG i (k.mono (fun _ _ e=>VI e)) m⟩|false=>rw[if_neg aK,W];have a0:=fB s.sp;dsimp only;rw[x];generalize Er.aP s=c at*;have⟨r,L⟩:=b8 (runesBytes s.sp);rw[L]at a0 ⊢;have P:=Y L;have⟨M,H⟩:=b8 (Er.ay r.data.toList c);rw[H];have t:=Y H;go_enter func72,ntmps72;go_wp21;refine I.mono ?_;rintro e d ⟨⟨v1,rfl⟩,a,k⟩;have f:=(a.ed.get 1 E _ rfl).1;rw[y,G]at f;have U:=(a.ed.get 4 E _ rfl).1;have C:=ft d n p c.sp a.sp.sl;rw[x]at C U;rw[P.o]at C;have D:=iA X eb d c a r.data.toList (by rw[VV];show r.size<=5000000000;omega);rw[nS,t.o]at D;have a1:M.aA.length<=100000:=by{rwa [<-t.o,(lC _ c).2.2.1,S]};go_wp21;refine D.mono ?_;rintro e O ⟨⟨v2,rfl⟩,j,m⟩;have g:=lE X eb O M j a1;go_wp21;refine g.mono ?_;rintro e aa ⟨⟨v3,rfl⟩,a2,a3⟩;go_wp2;go_end0;exact⟨⟨_,rfl⟩,a2,rG i (rG i (k.mono (fun _ _ e=>VI e)) m) a3⟩
theorem qD(X eb w s){n i m p j qc}(h:EV X eb w s n p i j m qc)(l:s.aI<X.aT.length)(a0:X.aT[s.aI].size<=100000):aO 70 #[az eb] w fun e q=>∃b rc,e=.returned (bJ b (A.bL X.aT[s.aI]).length rc)/\q.ownsRow w.heap.size 21 1 (bJ b (A.bL X.aT[s.aI]).length rc) (A.bL X.aT[s.aI]).length ((A.bL X.aT[s.aI]).map (.int .i32))/\ EV X eb q (Er.gP s) n p i j m qc/\R (·=eb) w q:=by have G:=(h.ed.get 2 E _ rfl).1;obtain⟨lb,H,S,U,y⟩:∃lb,X.la=some ⟨lb,0,none⟩/\lb<eb/\lb<w.heap.size/\∀k (l:k<X.aT.length),w.c lb k=some (.string X.aT[k]):=by{rcases h.aT with e|e;{grind};{exact e}};have P:=y s.aI l;rw[H]at G;have a3:=(h.ed.get 3 E _ rfl).1;have L:=h.b4;have a1:V2.wrap ((s.aI:Int)+1)=(s.aI:Int)+1:=fF;have O:(s.aI:Int)<X.aT.length:=E;clear y;generalize X.aT[s.aI]=ln at*;go_enter func70,ntmps70;go_wp21;go_quiet (fail);have f:aG w (w.drewN nq):=(R.refl _ w).drewN nq;have a:=h.quiet f;have a2:(w.drewN nq).heap.size=w.heap.size:=rfl;generalize w.drewN nq=u at*;have a4:=(a.ed.get 3 E _ rfl).1;have M:=(a.ed.get 3 E _ rfl).2;have d:=a.ed.set 3 E (Z ((s.aI:Int)+1));have a5:=(d.get 8 E _ rfl).1;have N:=(d.get 8 E _ rfl).2;have r:=d.set 8 E (.bool false);have g:R (·=eb) w ((u.s eb 3 (Z ((s.aI:Int)+1))).s eb 8 (.bool false)):=cE ((f.t (ah u eb 3 (Z ((s.aI:Int)+1))))) (ah _ eb 8 (.bool false));have x:EV X eb ((u.s eb 3 (Z ((s.aI:Int)+1))).s eb 8 (.bool false)) (Er.gP s) n p i j m qc:=h.cells g r rfl rfl rfl rfl l h.b5 h.b6;obtain⟨rc,a6,W,B,z⟩:=Ls ((u.s eb 3 (Z ((s.aI:Int)+1))).s eb 8 (.bool false)) ln E;have I:((u.s eb 3 (Z ((s.aI:Int)+1))).s eb 8 (.bool false)).heap.size=w.heap.size:=aU;have C:=Y x;have D:=Y g;have F:=Y B;clear x g B r a h f;go_wp2;go_ret;refine⟨w.heap.size,rc,rfl,?_,C.o.quiet z,D.o.t z⟩;have:=F.o;rwa [I]at this
theorem oY(X eb w s){d a c f b qc}(h:EV X eb w s d f a b c qc):aO 45 #[az eb] w fun e g=>e=.returned (.bool (decide ((s.aI:Int)<X.aT.length)))/\aG w g:=by have i:=(h.ed.get 2 E _ rfl).1;have j:=(h.ed.get 3 E _ rfl).1;generalize X.aT.length=n at*;go_enter func45,ntmps45;go_wp21;go_quiet (fail);go_wp2;go_ret;exact⟨by first|rfl|simp,(R.refl _ w).drewN _⟩
theorem vR(X eb w s){f b d g c qc}(h:EV X eb w s f g b c d qc)(m n p)(t:X.cv=.slice m n p):aO 134 #[az eb] w fun e j=>(∃v,e=.returned v)/\EV X eb j (Er.xj n s) f g b c d qc/\R (·=eb) w j:=by have B:=(h.ed.get 11 E _ rfl).1;have y:=(h.ed.get 11 E _ rfl).2;have a:=h.ed.set 11 E (.bool true);have x:=(a.get 0 E _ rfl).1;rw[t]at x;have C:=(a.get 9 E _ rfl).1;have z:=(a.get 9 E _ rfl).2;have q:=a.set 9 E (Z (n:Int));have i:=cE (ah w eb 11 (.bool true)) (ah _ eb 9 (Z (n:Int)));have r:EV X eb ((w.s eb 11 (.bool true)).s eb 9 (Z (n:Int))) (Er.xj n s) f g b c d qc:=h.cells i q rfl rfl rfl rfl h.b3 h.b5 h.b6;have k:=Y r;have l:=Y i;go_enter func134,ntmps134;go_wp2;go_end0;exact⟨⟨_,rfl⟩,k.o,l.o⟩
theorem qB(X eb w s){g d F i f qc}(h:EV X eb w s g i d f F qc)(z:s.aA.length<=100000)(q n r)(y:X.cv=.slice q n r):aO 127 #[az eb] w fun e l=>(∃v,e=.returned v)/\EV X eb l (Er.mx n s) g i d f none 0/\R (fun b=>b=eb\/(aR w b 5/\eb<=b)) w l:=by have B:=lE X eb w s h z;unfold Er.mx;generalize Er.eG s=G at*;go_enter func127,ntmps127;go_wp21;refine B.mono ?_;rintro e j ⟨⟨v1,rfl⟩,a,C⟩;have L:=(a.ed.get 10 E _ rfl).1;have H:=(a.ed.get 10 E _ rfl).2;have c:=a.ed.set 10 E (.bool true);have D:=(c.get 0 E _ rfl).1;rw[y]at D;have M:=(c.get 9 E _ rfl).1;have I:=(c.get 9 E _ rfl).2;have x:=c.set 9 E (Z (n:Int));have k:=cE (ah j eb 10 (.bool true)) (ah _ eb 9 (Z (n:Int)));have m:Hid (EV X eb ((j.s eb 10 (.bool true)).s eb 9 (Z (n:Int))) {G with drop:=true,next:=n} g i d f none 0):=a.cells k x rfl rfl rfl rfl a.b3 a.b5 a.b6;have p:Hid (R (fun b=>b=eb\/(aR w b 5/\eb<=b)) w ((j.s eb 10 (.bool true)).s eb 9 (Z (n:Int)))):=C.t k;go_wp2;go_end0;exact⟨⟨_,rfl⟩,m.o,p.o⟩
theorem zd(g):∀(b:List Value) (a:Nat) (w:World),R (·=g) w (w.setCells g a b)
 |[],a,w=>R.refl _ w
 |v::r,a,w=>by
  rw[Wk];exact cE (ah w g a v) (zd g r (a+1) _)
theorem Bb{b c}(g):∀(d:List Value) (a:Nat) (w:World),aR w b c->aR (w.setCells g a d) b c
 |[],a,w,h=>h
 |v::r,a,w,h=>by
  rw[Wk];exact Bb g r (a+1) _ (h.setCell _ _)
theorem jH.aJ{w B c a b}(h:w.ownsRow B 21 1 (.slice a b.length c) b.length (b.map (.int .i32))):jH w B a c b:=by rcases h.2 with ⟨e,q⟩ |⟨g,cD,bI,o,l,d,m,_,r,s⟩;{injection e with f k i;exact⟨E,VI ⟨f,i⟩⟩};{injection o with f k i;subst i;refine⟨m,VH ⟨g,0,f,l,⟨bI,(0,0),d⟩,fun j n=>?_,fun j n=>⟨?_,?_⟩⟩⟩;{rw[VK,cell_of_row _ g j bI _ (0,0) d];have p:(bI.toList.take (b.length*1))[j]? =some (.int .i32 (b.getD j 0)):=by{simp_all};rwa [VZ,if_pos E,VN]at p};{rw[VK,cell_of_row _ g j bI _ (0,0) d,Array.getElem?_eq_getElem E];rfl};{unfold World.frozen?;simp[d]}}
theorem CP(w z B a c d)(h:jH w B a c d)(C t sp)(W:cU w C sp)(a8:d.length+sp.length<=100000000)(a5:B<=w.heap.size):∃n c' p,(Builtin.append_ #[103,103] z #[.slice a d.length c,.slice C sp.length t]).run prog w=.ok (.slice n (d.length+sp.length) c') p/\jH p B n c' (d++sp)/\R (fun b=>∃k,a=some ⟨b,k,none⟩) w p/\(n=a\/∃g,n=some ⟨g,0,none⟩/\w.heap.size<=g):=by have⟨i,b2,ad,ia,al⟩:=info_parts tQ;have a9:=h.1;rcases h.2 with ⟨rfl,rfl⟩ |⟨g,l,rfl,a7,av,X,x⟩;{have ac:d= []:=V8.1 E;subst ac;have⟨v',p,a3,D,a4,o⟩:=n8 w z B aM 0 [] (VF _ _ _ _) C t sp W (by simp at a8;omega) a5;obtain⟨n,c',rfl⟩:=bG D;refine⟨n,c',p,a3,?_,(R.bT a4).mono (fun b _ e=>by cases e),?_⟩;{have L:0+sp.length=sp.length:=VK _;rw[L]at D;simpa using jH.aJ D};{rcases D.2 with ⟨e,_⟩ |⟨g,cD,bI,G,_⟩;{injection e with q _ _;exact VI q};{injection G with q _ _;refine VH ⟨g,q,?_⟩;rw[q]at o;rcases o with o|o;{cases o};{injection o with o;exact Nat.le_of_eq o.symm}}}};{by_cases F:sp= [];{subst F;refine⟨some ⟨g,l,none⟩,c,w,?_,by simpa using h,R.refl _ _,VI rfl⟩;cases C with|none=>have cW:=run_underlying (P:=prog) (w:=w) underlying103;have ab:(sizeOf 21).run prog w=.ok 1 w:=GQ;simp[Builtin.append_,cW,ab,Builtin.lenOf,Builtin.firstCells,a9,storeCells,Sem.run_bind,Result.andThen]|some a1=>have k:=run_append_room_cells (P:=prog) w 103 z 21 i underlying103 b2 g l d.length c a1 0 t [] aK aK aK E aK aK;exact k};{obtain⟨H,I,rfl,b5,a6⟩:=W F;have b4:=List.length_pos_iff.2 F;have O:∀j u,(sp.map (Wd .i32))[j]? =some u->w.cell? ((⟨H,I,none⟩:Addr).add j)=some u:=fun j u cW=>by{rw[Addr.add_mid];rw[VR]at cW;cases f:sp[j]? with|none=>rw [f]at cW;cases cW|some r=>rw[f]at cW;simp at cW;subst cW;have m:=(VJ.1 f).1;rw[a6 j m,VE,f];rfl};have aa:∀u∈sp.map (Wd .i32),u.oneCell'=true:=GR;by_cases U:d.length+sp.length<=c;{have k:=run_append_room_cells (P:=prog) w 103 z 21 i underlying103 b2 g l d.length c ⟨H,I,none⟩ sp.length t (sp.map (.int .i32)) (by rw[ia];simp) O aa U (fun j f=>by rw[ia,Wb,We];rw[VQ]at f;exact(x (d.length+j) E).1) (fun j f=>by rw[ia,Wb,We];rw[VQ]at f;exact(x (d.length+j) E).2);rw[ia,Wb]at k;have N:∀j,j<sp.length->(w.setCells g (l+d.length) (sp.map (Wd .i32))).cell? ⟨g,l+d.length+j,none⟩=some (.int .i32 (sp.getD j 0)):=fun j f=>by{have:=World.cell?_setCells_in g (sp.map (Wd .i32)) (l+d.length) w (fun j f=>by rw[We];rw[VQ]at f;exact(x (d.length+j) E).1) j (by rwa [VQ]);rw[this,List.getElem_map];simp[f]};have S:∀j,j<d.length\/d.length+sp.length<=j->(w.setCells g (l+d.length) (sp.map (Wd .i32))).cell? ⟨g,l+j,none⟩=w.cell? ⟨g,l+j,none⟩:=fun j f=>World.cell?_setCells_out g _ _ w _ (fun _ _=>by rw[VQ];simp only;omega);refine⟨some ⟨g,l,none⟩,c,_,k,⟨by rw[VM];exact U,VH ⟨g,l,rfl,a7,Bb g _ _ _ av,fun j f=>?_,fun j f=>⟨?_,by rw[World.frozen?_setCells];exact(x j f).2⟩⟩⟩,(zd g _ _ w).mono (fun b _ e=>⟨l,by rw[e]⟩),VI rfl⟩;{rw[VM]at f;by_cases m:j<d.length;{rw[S j (VI m),X j m,VE,VE,V0 m]};{have:=N (j-d.length) E;rw[show l+d.length+(j-d.length)=l+j by omega]at this;rw[this,VE,VE,List.getElem?_append_right E]}};{by_cases m:d.length<=j/\j<d.length+sp.length;{have:=N (j-d.length) E;rw[show l+d.length+(j-d.length)=l+j by omega]at this;rw[this];rfl};{rw[S j E];exact(x j f).1}}};{obtain⟨v',p,am,y,an⟩:=run_append_arg_grows (P:=prog) w 103 z 21 i _ 1 4 underlying103 b2 ad ia al rfl E ⟨g,l,none⟩ d.length c (d.map (.int .i32)) aK (fun j u cW=>by rw[Addr.add_mid];rw[VR]at cW;cases f:d[j]? with|none=>rw [f]at cW;cases cW|some r=>rw[f]at cW;simp at cW;subst cW;have m:=(VJ.1 f).1;rw[X j m,VE,f];rfl) ⟨H,I,none⟩ sp.length t (sp.map (.int .i32)) aK O E rK E;obtain⟨n,c',rfl⟩:=bG y;rw[<-List.map_append]at y;have m:d.length+sp.length=(d++sp).length:=by{rw[VM]};have a0:=y;rw[m]at a0;have M:=jH.aJ a0;obtain⟨s,rfl⟩:∃s,n=some ⟨s,0,none⟩:=by{rcases y.2 with ⟨e,L⟩ |⟨s,cD,bI,G,_⟩;{omega};{injection G with q _ _;exact⟨s,q⟩}};refine⟨_,c',p,am,⟨M.1,?_⟩,(R.bT an).mono (fun b _ e=>by cases e),VH ⟨s,rfl,((y.lt s rfl).1)⟩⟩;rcases M.2 with ⟨e,_⟩ |⟨a2,ao,e,b3,ap,b0,b1⟩;{cases e};{exact VH ⟨a2,ao,e,E,ap,b0,b1⟩}}}}
theorem wp_append32(w){l:Oper}{a:Act}{K Q}(s q)(F:l.op=.call {callee:=.builtin .append,args:=#[s,q],argTypes:=#[103,103]})(B:Nat)(f)(p:Nat)(m)(j:Nat)(L:a.eval s=.slice f j p)(D:j=m.length)(G:jH w B f p m)(o)(c:Nat)(sp)(n:Nat)(M:a.eval q=.slice o n c)(C:n=sp.length)(I:cU w o sp)(z:j+n<=100000000)(y:B<=w.heap.size)(h:∀d c' i,jH i B d c' (m++sp)->R (fun b=>∃k,f=some ⟨b,k,none⟩) w i->(d=f\/∃g,d=some ⟨g,0,none⟩/\w.heap.size<=g)->K (a.put l.dst (.slice d (j+n) c')) i):l.wp prog a w K Q:=by subst D C;have⟨d,c',i,H,r,t,x⟩:=CP w l.type B f p m G o c sp I z y;unfold Oper.wp execOp;simp only[F,resolve,invoke,builtin,Sem.run_bind,Sem.run_pure,Result.andThen_ok,List.map_toArray,List.map_cons,List.map_nil,L,M,H];exact h d c' i r t x
theorem wpList_append32(w){ops rest l a Q}(C:l.guard=none)(s q)(H:l.op=.call {callee:=.builtin .append,args:=#[s,q],argTypes:=#[103,103]})(B f p m i)(M:a.eval s=.slice f i p)(G:i=m.length)(I:jH w B f p m)(o c sp n)(N:a.eval q=.slice o n c)(F:n=sp.length)(L:cU w o sp)(D:i+n<=100000000)(z:B<=w.heap.size)(h:∀d c' j,jH j B d c' (m++sp)->R (fun b=>∃k,f=some ⟨b,k,none⟩) w j->(d=f\/∃g,d=some ⟨g,0,none⟩/\w.heap.size<=g)->wpList prog ops Q rest (a.put l.dst (.slice d (i+n) c')) j):
 wpList prog ops Q (l::rest) a w:=
 wpList_plain C fun _ y=>wp_append32 w s q H B f p m i M G I o c sp n N F L D z (fun d c' j r t x=>y _ _ (h d c' j r t x))
theorem qC(w B)(a4:B<=w.heap.size)(d p a)(I:jH w B d p a)(f s ys)(L:cU w f ys)(N:ys≠ []->∀b k q k',d=some ⟨b,k,none⟩->f=some ⟨q,k',none⟩->b≠q)(a7:a.length<=1000000)(a8:ys.length<=1000000):aO 130 #[.slice d a.length p,.slice f ys.length s] w fun e y=>∃i c',e=.returned (.slice i (a++10::ys).length c')/\jH y B i c' (a++10::ys)/\R (fun b=>∃k,d=some ⟨b,k,none⟩) w y/\(i=d\/∃g,i=some ⟨g,0,none⟩/\w.heap.size<=g):=by have o:aG w (w.alloc (.cells #[.int .i32 10] 21)):=(R.refl _ w).alloc _;have X:cU (w.alloc (.cells #[.int .i32 10] 21)) (some ⟨w.heap.size,0,none⟩) [10]:=fun _=>⟨w.heap.size,0,rfl,aR.cG _ _ _ _,fun j a6=>by have:j=0:=aU;subst this;exact(aX.cG w #[.int .i32 10] 21 0 _ rfl).1⟩;have m:(w.alloc (.cells #[.int .i32 10] 21)).heap.size=w.heap.size+1:=aK;have G:(a++10::ys).length=a.length+1+ys.length:=bQ;have H:(a++10::ys)=(a++[10])++ys:=aK;have P:(a++[10]).length=a.length+1:=aK;go_enter func130,ntmps130;go_wp2_with (at_builtin;first | (refine wpList_append32 _ aV _ _ aV B d p a a.length aV rfl (I.T o (fun _ _ _=>id)) (some ⟨w.heap.size,0,none⟩) 1 [10] 1 aV rfl X E E ?_;intro z D a3 U n r;have W:cU a3 f ys:=(L.T o (fun _ _=>id)).eO n (fun S b a1 e M=>by (obtain⟨k,c⟩:=M);exact N S b k b a1 c e rfl);have a0:=n.size;rw[m]at a0) | (refine wpList_append32 _ aV _ _ aV B z D (a++[10]) (a.length+1) aV P.symm U f s ys ys.length aV rfl W E E ?_;intro C F a9 x a2 O));go_ret;rw[<-H]at x;refine⟨C,F,by rw[G];rfl,x,?_,?_⟩;{refine(o.t n).trans a2 (fun _ e=>e) (fun b a5 e=>?_);have⟨k,c⟩:=e;rcases r with h |⟨g,h,l⟩;{exact⟨k,by rw[<-h];exact c⟩};{rw[h]at c;injection c with c;injection c with c;rw[m]at l;omega}};{rcases O with h |⟨g,h,l⟩;{rw[h];rcases r with h |⟨g,h,l⟩;{exact VI h};{exact VH ⟨g,h,by rw[m]at l;omega⟩}};{exact VH ⟨g,h,E⟩}}
end
end Go.Proofs.YtbiobhghnldckaaGreatDoor
