/- Proved: steps on the way to the card. Conditions: as each states. -/
import Derived.Test.YtbiobhghnldckaaGreatDoorS3
namespace Go.Proofs.YtbiobhghnldckaaGreatDoor
open Bool renaming false_eq_true->VE,and_eq_true->VW,false_and->V9,true_and->Wg
open Value renaming slice->VF,int->V0
open _root_.Array renaming getElem?_eq_some_iff->VG,replicate_succ->V7,replicate->Ww
open Nat renaming le_refl->VH,zero_add->VU,zero_le->VX,le_succ_of_le->Wl,mul_comm->Wo,mul_one->Wu
open Or renaming inl->VI,inr->VL
open World renaming putObj_heap_other->VJ,cell?_setCell_same->VQ,putObj_heap_same->V5,alloc_heap_new->V6,shape?->Wp,size_alloc->Wq
open List renaming getElem?_set_self->VK,length_append->VM,drop_eq_getElem_cons->VN,drop_eq_nil_of_le->VR,size_toArray->VS,flatMap_cons->VT,length_map->VV,flatMap_append->VY,getD_eq_getElem?_getD->V1,getElem?_take->V2,getElem?_eq_getElem->V3,length_cons->V4,mem_range->Wa,replicate->Wb,drop_zero->Wc,mem_cons_of_mem->Wd,append_toArray->We,set_comm->Wf,mem_cons_self->Wh,set_set->Wi,push_toArray->Wj,getElem?_map->Wk,ext_getElem?->Wm,getElem?_set->Wn,take_length->Wr,cons_append->Ws,flatMap_nil->Wt,length_nil->Wx,nil_append->Wy,append_nil->Wz,range->WA
open Int renaming toNat_natCast->VO
open Lib renaming byteCells->VP,run_unsafeSliceData_row->VZ,byteCells_append->V8
open Utf8 renaming decode->Wv
open IntKind renaming i64->WB
open Go.Proofs.Tryz
open A
set_option linter.unusedVariables false
set_option maxRecDepth 100000
set_option maxHeartbeats 6400000
section
open Go.RowKit
structure Ed(w:World)(eb:Nat)(l:List Value)(out:List UInt8):Prop where
 cells:∃p a c,aX w eb ((l.set 13 p).set 14 (.slice a out.length c))/\(p=.pointer none\/p=.pointer (some ⟨eb,13,none⟩))/\w.ownsRow eb 5 1 (.slice a out.length c) out.length (VP out)
 zu:w.shape? eb=some (108,16)
 aZ:aR w eb 108
 len:l.length=16
theorem Ed.get{w eb l out}(h:Ed w eb l out)(j)(d:j≠13/\j≠14)(v)(f:l[j]? =some v):w.c eb j=some v/\w.frozen? ⟨eb,j,none⟩=false:=by have⟨p,a,c,b,_⟩:=h.cells;exact b j v cr
theorem Ed.T{S w i eb l out}(h:Ed w eb l out)(d:R S w i)(f:¬S eb)(m:∀b,aR w b 5->¬S b):Ed i eb l out:=by have⟨p,a,c,j,k,g⟩:=h.cells;exact⟨⟨p,a,c,j.T d f,k,ax g d (fun b n=>m b (aR.aJ g n))⟩,(pF d h.aZ.lt f).trans h.zu,h.aZ.T d f,h.len⟩
theorem Ed.set{w eb l out}(h:Ed w eb l out)(j)(k:j≠13/\j≠14)(v):Ed (w.s eb j v) eb (l.set j v) out:=by have⟨p,a,c,f,g,d⟩:=h.cells;refine⟨⟨p,a,c,?_,g,ax d (ah w eb j v) (fun b i e=>by subst e;exact absurd ((aR.aJ d i).eH h.aZ) ae)⟩,om.trans h.zu,h.aZ.setCell _ _,by rw[List.length_set];exact h.len⟩;have:=f.set j v;rwa [Wf _ _ (by omega:14≠j),Wf _ _ (by omega:13≠j)]at this
theorem pP(eb w l out)(h:Ed w eb l out):aO 166 #[.pointer (some ⟨eb,13,none⟩)] w fun e f=>e=.returned (.tuple #[])/\(∃a c,aX f eb ((l.set 13 (.pointer (some ⟨eb,13,none⟩))).set 14 (.slice a out.length c))/\f.ownsRow eb 5 1 (.slice a out.length c) out.length (VP out))/\R (·=eb) w f/\f.shape? eb=some (108,16)/\aR f eb 108:=by have⟨p,a,c,g,q,i⟩:=h.cells;have z:=h.len;have m:=g 13 p aU;have s:(prog.info? 106).map (·.size)=some 2:=bK;have⟨j,k,y⟩:=Option.map_eq_some_iff.1 s;rcases q with rfl|rfl;{have o:=m.1;have C:=Lib.run_to_unsafe (P:=prog) w ⟨eb,13,none⟩ underlying104 underlying241 k E h.zu aK;have x:=Lib.run_from_unsafe (P:=prog) w ⟨eb,13,none⟩ underlying241 underlying104 k h.zu bK;have t:=fun d:Value=>run_callFunc_extern (P:=prog) (w:=w) (args:=#[d]) func192 bK bK bK (e:=Extern.AbiNoEscape.same) bK;have B:∀d:Value,(Extern.AbiNoEscape.same #[d]).run prog w=.ok d w:=fun d=>Lib.run_noEscape w d;have n:=g.set 13 (.pointer (some ⟨eb,13,none⟩));rw[Wf _ _ (by omega:14≠13),Wi]at n;go_enter func166,ntmps166;go_wp2;go_end0;exact⟨rfl,⟨a,c,n,ax i (ah w eb 13 _) (fun b r e=>by subst e;exact absurd ((aR.aJ i r).eH h.aZ) ae)⟩,ah w eb 13 _,om.trans h.zu,h.aZ.setCell _ _⟩};{have o:=m.1;go_enter func166,ntmps166;go_wp2;rw[Lib.run_neq_ptr_same w _ underlying104 k];go_wp2;go_end0;exact⟨rfl,⟨a,c,g,i⟩,R.refl _ _,h.zu,h.aZ⟩}
theorem DW:(prog.info? 5).map (fun i=>(i.zero,i.size,i.bytes))=some (some (.int .u8 0),1,1):=bK
theorem rG{w a eb}(k:aR w eb 108)(c:R (fun b=>b=eb\/(aR w b 5/\eb<=b)) w a){d}(j:R (fun b=>b=eb\/(aR a b 5/\eb<=b)) a d):R (fun b=>b=eb\/(aR w b 5/\eb<=b)) w d:=by refine c.trans j (fun _ e=>e) (fun b i e=>?_);rcases e with e |⟨⟨bI,g,e⟩,f⟩;{exact VI e};{by_cases h:b=eb\/(aR w b 5/\eb<=b);{exact h};{exact absurd (VL ⟨⟨bI,g,(c.block b i h).symm.trans e⟩,f⟩) h}}
theorem eR(eb w a)(h:w.c eb 15=some (Z a)):aO 44 #[az eb] w fun e b=>e=.returned (.bool (a==0))/\b=w:=by go_enter func44,ntmps44;go_wp2;go_ret;exact⟨rfl,rfl⟩
theorem nQ(eb n c:Nat)(a w)(h:w.c eb 14=some (.slice a n c)):aO 140 #[.pointer (some ⟨eb,13,none⟩)] w fun e b=>e=.returned (Z n)/\b=w:=by go_enter func140,ntmps140;go_wp2;go_ret;exact⟨rfl,rfl⟩
end
section
end
section
open Go.RowKit
theorem uo(sp m)(ps:List kj)(j)(h:j<ps.length):dB sp m (ps.take (j+1))=dB sp m (ps.take j)++pT sp m ps[j]:=by unfold dB;rw[List.take_succ_eq_append_getElem h,VY];simp
theorem He(sp m ps j)(h:j<ps.length):(dB sp m (ps.take j)).length+(pT sp m ps[j]).length<=(dB sp m ps).length:=by have e:dB sp m ps=dB sp m (ps.take (j+1))++dB sp m (ps.drop (j+1)):=by{unfold dB;rw[<-VY,List.take_append_drop]};rw[e,uo sp m ps j h];simp only[VM];omega
theorem Ag(ps aa ac w)(b7:lg w (.slice aa ps.length ac) ps)(bv:ps.length<=1000)(aq)(a5:aq<=w.heap.size)(g i a)(O:w.ownsRow aq 21 1 (.slice g a.length i) a.length (a.map (.int .i32)))(ra rc sp)(bc:Sl w ra sp)(s4:sp.length<=rc)(be:∀b U,ra=some ⟨b,U,none⟩->(VF g a.length i).ownBlock≠some b)(s m)(dN:fg w s m)(b0:∀p∈ps,A.nU m sp.length p)(D:yC (m.getD 0 0) (m.getD 1 0) sp.length)(bp:a.length+(dB sp m ps).length<=2500000000):aO 165 #[.slice g a.length i,.slice aa ps.length ac,.slice ra sp.length rc,az s] w fun e al=>∃hm c' f0,f0=a.length+(dB sp m ps).length/\e=.returned (.slice hm f0 c')/\al.ownsRow aq 21 1 (.slice hm f0 c') f0 ((a++dB sp m ps).map (.int .i32))/\ R (fun b=>(VF g a.length i).ownBlock=some b) w al/\(∀b,(VF hm f0 c').ownBlock=some b->(VF g a.length i).ownBlock=some b\/w.heap.size<=b):=by go_enter func165,ntmps165;go_wp21;go_loopg [0,13] ps.length (fun k v u wr=>∃(j f0:Nat) (hm:Option Addr) (c':Nat) (h:List Int),v=.slice hm f0 c'/\u=Z j/\j+k=ps.length/\Hid (h=a++dB sp m (ps.take j))/\Hid (f0=h.length)/\Hid (wr.ownsRow aq 21 1 (.slice hm f0 c') f0 (h.map (.int .i32)))/\Hid (R (fun b=>(VF g a.length i).ownBlock=some b) w wr)/\Hid (∀b,(VF hm f0 c').ownBlock=some b->(VF g a.length i).ownBlock=some b\/w.heap.size<=b));(case atStart=>refine⟨0,a.length,g,i,a,rfl,rfl,E,?_,rfl,O,R.refl _ _,?_⟩;{show _=_;simp[dB]};{show ∀b,_->_;intro b L;exact VI L});case round=>obtain⟨j,f0,hm,c',h,rfl,rfl,a4,x,hr,W,X,ab⟩:=hrel;have fb:Hid _:=a4;have bs:j<=ps.length:=E;have F:=W;have o:=X;clear a4 W X;by_cases ad:j<ps.length;{have ba:=b7.T o (fun b L e=>by have:=(aR.aJ O e).eH L;exact absurd this ae);obtain⟨c1,rfl,c3,a0⟩:=ba.get Ck;obtain⟨r5,ib,hy⟩:=a0 j ad;have z:=bc.T o (fun b U an q=>be b U an q);have l:=dN.T o (fun e=>absurd ((aR.aJ O e).eH dN.aZ) ae);have y:=b0 _ (List.getElem_mem ad);have a9:=uo sp m ps j ad;have b5:=He sp m ps j ad;have c0:WB.wrap ((j:Int)+1)=(j:Int)+1:=fF;have bm:(j:Int)<ps.length:=E;have H:f0+(pT sp m ps[j]).length<=2500000000:=by{have:=hr.out;have q:=x.out;rw[q,VM]at this;omega};have rT:Hid (h++pT sp m ps[j]=a++dB sp m (ps.take (j+1))):=by{show _=_;rw[a9,x.out,List.append_assoc]};have kw:∀ {u:World} {c6:Option Addr} {am C:Nat},w.heap.size<=u.heap.size->((VF c6 C am).ownBlock=(VF hm f0 c').ownBlock\/(VF c6 C am).ownBlock=some u.heap.size)->∀b,(VF c6 C am).ownBlock=some b->(VF g a.length i).ownBlock=some b\/w.heap.size<=b:=by{intro u c6 am C bE b6 b M;rcases b6 with e|e;{exact ab.out b (e▸M)};{rw[e]at M;injection M with e;right;omega}};clear a9 b5 x a0;generalize P:ps[j]=p at*;by_cases B:p.aF=0;{have n:pT sp m p=A.bL ⟨p.text.toArray⟩:=by{simp[pT,B]};rw[n]at rT H;rw[B]at r5;have bz:p.text.length<=100000:=by{rcases y with ⟨_,h⟩|h |⟨h,_⟩ <;> omega};have f:aG wr (wr.alloc (.cells #[aB,.string ⟨p.text.toArray⟩,Z p.bF] 240)):=(R.refl _ wr).alloc _;have s7:=gp F f;obtain⟨bl,c4,bx,a8,a6,_,_⟩:=FJ (wr.alloc (.cells #[aB,.string ⟨p.text.toArray⟩,Z p.bF] 240)) ⟨p.text.toArray⟩ (by simp[ByteArray.size];omega);have ap:=gp s7 a6;have I:=o.t (f.t a6);simp only[Wq]at a8;clear s7 z l y P B n;generalize bw:A.bL ⟨p.text.toArray⟩=rs at*;go_wp2_with (at_builtin;refine wpList_append_runes _ aV _ _ aV aq (.slice hm f0 c') f0 h aV ap _ _ rs _ aV rfl a8 E (bV I.size) ?_;intro c6 am a7 fz dn hk);go_roundg (gk-1);(case measure=>have:=fb.o;omega);case rel=>exact ⟨j+1,f0+rs.length,c6,am,h++rs,rfl,by first|rfl|simp,bV fb.o,rT,by show _=_;rw[VM,hr.out],fz,I.trans dn (fun _ e=>e) (fun b a5 e=>by rcases ab.out b e with e|e;exact e;omega),kw I.size hk⟩};by_cases G:p.aF=1;{obtain⟨a3,bb⟩:∃a3:Nat,m.getD 0 0=a3:=⟨(m.getD 0 0).toNat,bV D.1⟩;obtain⟨t,bA⟩:∃t:Nat,m.getD 1 0=t:=⟨(m.getD 1 0).toNat,by have:=D.1;have:=D.2.1;omega⟩;have a2:=D;rw[bb,bA]at a2;obtain⟨_,b3,b4⟩:=a2;have n:pT sp m p=nJ sp a3 t:=by{unfold pT;rw[if_neg E,if_pos G,bb,bA]};have k8:=A.pE sp a3 t E E;rw[n]at rT H;rw[G]at r5;have st:wr.c s 0=some (Z a3):=by{have:=l.cells 0 (Z a3) NO;rwa [VU]at this};have t7:wr.c s 1=some (Z t):=by{have:=l.cells 1 (Z t) NP;rwa [VU]at this};have bh:=l.aZ.lt;have f:aG wr (wr.alloc (.cells #[Z 1,.string ⟨p.text.toArray⟩,Z p.bF] 240)):=(R.refl _ wr).alloc _;have s7:=gp F f;have x8:=z.T f (fun _ _ _=>id);have bi:=f.T st id;have bk:=f.T t7 id;have rg:=o.t f;clear z l y P n B G;go_wp21;generalize wr.alloc (.cells #[Z 1,.string ⟨p.text.toArray⟩,Z p.bF] 240)=rP at*;exact T7};obtain⟨S,b1,b2,r⟩:p.aF=2/\1<=p.bF/\p.bF<=9/\yC (m.getD (p.bF.toNat*2) 0) (m.getD (p.bF.toNat*2+1) 0) sp.length:=by{rcases y with ⟨h,_⟩|h|h;{omega};{omega};{exact h}};obtain⟨d,N⟩:∃d:Nat,p.bF=d:=⟨p.bF.toNat,E⟩;have bq:(d:Int)<10:=E;rw[N,VO]at r;obtain⟨a3,bb⟩:∃a3:Nat,m.getD (d*2) 0=a3:=⟨(m.getD (d*2) 0).toNat,bV r.1⟩;obtain⟨t,bA⟩:∃t:Nat,m.getD (d*2+1) 0=t:=⟨(m.getD (d*2+1) 0).toNat,by have:=r.1;have:=r.2.1;omega⟩;rw[bb,bA]at r;obtain⟨_,b3,b4⟩:=r;have n:pT sp m p=nJ sp a3 t:=by{unfold pT;rw[if_neg E,if_neg E,if_pos S,N,VO,bb,bA]};have k8:=A.pE sp a3 t E E;rw[n]at rT H;rw[S]at r5;rw[N]at hy;have st:wr.c s (d*2)=some (Z a3):=by{have:=l.cells (d*2) (Z a3) NO;rwa [VU]at this};have t7:wr.c s (d*2+1)=some (Z t):=by{have:=l.cells (d*2+1) (Z t) NP;rwa [VU]at this};have bh:=l.aZ.lt;have f:aG wr (wr.alloc (.cells #[Z 2,.string ⟨p.text.toArray⟩,Z d] 240)):=(R.refl _ wr).alloc _;have s7:=gp F f;have x8:=z.T f (fun _ _ _=>id);have bi:=f.T st id;have bk:=f.T t7 id;have c2:=((aX.cG wr #[Z 2,.string ⟨p.text.toArray⟩,Z d] 240) 2 _ rfl).1;have rg:=o.t f;clear z l y P n B G S b1 b2;go_wp21;generalize wr.alloc (.cells #[Z 2,.string ⟨p.text.toArray⟩,Z d] 240)=rP at*;exact T7};{have av:j=ps.length:=E;subst av;have q:Hid (h=a++dB sp m ps):=by{show _=_;rw[x.out,Wr]};have ao:Hid (f0=a.length+(dB sp m ps).length):=by{show _=_;rw[hr.out,q.out,VM]};clear x hr;go_wp2;go_ret;refine⟨hm,c',f0,ao.out,rfl,?_,o,ab⟩;rw[<-q.out];exact F}
end
section
end
section
open Go.RowKit
theorem qK{P ops Q}(l n)(hd:∀(i:Nat) b,ops[i]? =some b->∀c,b.op≠ .defer c)(q:¬LetsOut Q):
 ∀(is:List Nat) (a:Act) (w:World),wpOps P ops Q is a w->wpOpsIn (Fence.wide.inRound l) n P ops Q is a w
 |[],a,w,h=>h
 |i::is,a,w,h=>by
  have f:=qK (P:=P) l n hd q is;unfold wpOps at h;unfold wpOpsIn
  cases j:ops[i]? with
  |none=>rw [j]at h;exact f a w h
  |some b=>
   rw[j]at h;simp only at h ⊢;split
   ·rename_i k
    rw[if_pos k]at h
    rcases h with h |⟨_,h⟩
    ·refine⟨fun _ _=>trivial,?_⟩
     show b.uponIn _ n P a _ Q ((b.semAt (some l) a.eval).run P w);rw[Oper.semAt_some l a.eval b (hd i b j)];unfold Oper.wp at h;generalize (execOp a.eval b).run P w=r at h ⊢
     cases r with
     |ok m x=>
      cases m with
      |value v=>exact f _ _ h
      |skip=>exact f _ _ h
      |defer d=>exact f _ _ h
      |enter p args=>
       refine⟨fun e=>by simp[Fence.inRound,Fence.wide]at e,CallsIn.inRound l (callsIn_wide.2 (Calls.mono h ?_))⟩;intro e o g
       cases e with
       |returned v=>exact f _ _ g
       |panicked y=>exact g
       |outgrown=>exact g
      |row row args=>
       refine⟨fun e=>by simp[Fence.inRound,Fence.wide]at e,?_⟩;intro c cs _;have⟨v,o,t,s⟩:=h c cs;exact⟨v,o,f _ _ t,stepsIn_wide.2 s⟩
      |round z p tmps assign body=>exact h.elim
      |_=>exact h.elim
     |halt m x=>
      cases m <;> first|exact h|exact h.elim
    ·simp_all
   ·rename_i k
    rw[if_neg k]at h;exact⟨fun _ _=>trivial,f _ _ h⟩
theorem gX{P ops Q l n f a w}(hd:ops.all (fun b=>match b.op with | .defer _=>false|_=>true)=true)(d:¬LetsOut Q)(h:wpList P ops.toArray Q ops a w):(Code.region f ops.toArray false).wpIn (Fence.wide.inRound l) n P Q a w:=by refine wpIn_region (qK l n (fun i b j c g=>?_) d _ _ _ ?_);{grind};{have e:=wpOps_eq_wpList (P:=P) (ops:=ops.toArray) (Q:=Q) ops 0 aK;rwa [List.range_eq_range',VS,e]}
theorem jR{P}{ops:List Oper}{Q}{l n g:Nat}{a:Act}{w:World}(f:P.follows .mixedOrders=true)(hd:ops.all (fun b=>match b.op with | .defer _=>false|_=>true)=true)(d:¬LetsOut Q)(h:wpAny P .any ops.toArray Q ops.toArray.size (Ww ops.toArray.size false) a w.drew):(Code.region g ops.toArray true).wpIn (Fence.wide.inRound l) n P Q a w:=by refine wpIn_region_draw fun t=>qK l n (fun i b k c j=>?_) d _ _ _ ?_;{grind};{simp only[Region.schedule,f,Bool.true_or,if_true];exact wpAny_sound ops.toArray.size t _ a _ h}
def Al{f:Type}(d:TypeId)(B:Nat)(J:f->World->Prop):Prop:=∀s a c,J s a->R (fun b=>aR a b d/\B<=b) a c->J s c
def KX{g:Type}(f:TypeId)(B:Nat)(c:g->World->Prop):Prop:=∀s a d,c s a->R (fun b=>(aR a b f/\B<=b)\/b=B\/b=B+1) a d->c s d
def SE{α:Type}(B:Nat)(Kp:World->World->Prop)(d:List α->World->Prop)(c:Code->List α->World->Prop)(b:List α)(a:World):Exit->Act->World->Prop
 | .normal,_,W'=>(W'.heap[B]? =a.heap[B]? /\W'.heap[B+1]? =a.heap[B+1]?)/\Kp a W'/\d b W'
 | .ret,_,W'=>(W'.heap[B]? =a.heap[B]? /\W'.heap[B+1]? =a.heap[B+1]?)/\c .ret b W'
 | .exit id,_,W'=>(W'.heap[B]? =a.heap[B]? /\W'.heap[B+1]? =a.heap[B+1]?)/\c (.exit id) b W'
 | .goto t,_,W'=>(W'.heap[B]? =a.heap[B]? /\W'.heap[B+1]? =a.heap[B+1]?)/\c (.goto t) b W'
 | .panic _,_,_=>False
 | .outgrown,_,_=>False
theorem j4(a b d):R (·=b) a (a.putObj b d):=
 ⟨rfl,rfl,rfl,aK,fun k _ c=>VJ c⟩
theorem Kx{α:Type}{P:Program}{g:Operand}{ps:Array Tmp}{assign body:Code}{Q:Exit->Act->World->Prop}{a:Act}{w:World} {gf:Nat} {lb:Array Value} (b9:a.eval g=.func (.func gf) #[] lb) (eg:∀args w,(callFunc gf args).run P w=.ok (.enter gf args) w) {encs:α->Array Value} (c1:∀f,(encs f).size=ps.size) (M:TypeId) {S Sp Ok:List α->Prop} {Kp:World->World->Prop} (bl:∀(l:Nat) (J a8:List α->World->Prop) (d:World),aG w d->Al M w.heap.size J->Al M w.heap.size a8-> (∀pre f k,J pre k->Ok (pre++[f])->YieldAt Fence.wide 0 P l (encs f) k fun e j=>(e=.returned (.bool true)/\J (pre++[f]) j/\Kp k j)\/(e=.returned (.bool false)/\a8 (pre++[f]) j))->J [] d-> CallsIn Fence.wide 0 P gf (#[.func (.yield l) #[] #[]]++lb) d fun e j=>(∃v,e=.returned v)/\((∃L,S L/\J L j)\/(∃pre,Sp pre/\a8 pre j))) (a9:∀ {o B C:World},Kp o B->Kp B C->Kp o C) (ab:∀(d:World) (r:Loop) (q:Obj),d.heap[w.heap.size+1]? =some (.loop r)->Kp d (d.putObj (w.heap.size+1) q)) (n:List α->World->Prop) (a4:Code->List α->World->Prop) (a5:KX M w.heap.size n) (a0:∀c,KX M w.heap.size (a4 c)) (av:n [] w) (bk:∀(pre:List α) (f:α) (d:World) (r:Loop),n pre d->Ok (pre++[f])->d.heap[w.heap.size+1]? =some (.loop r)-> assign.wpIn (Fence.wide.inRound (w.heap.size+1)) 0 P (Exit.then (fun ao X=>(X.heap[w.heap.size]? =d.heap[w.heap.size]? /\X.heap[w.heap.size+1]? =d.heap[w.heap.size+1]?)/\Kp d X/\∀r':Loop,body.wpIn (Fence.wide.inRound (w.heap.size+1)) 0 P (SE w.heap.size Kp n a4 (pre++[f]) (X.putObj (w.heap.size+1) (.loop r'))) ao (X.putObj (w.heap.size+1) (.loop r'))) (fun _ _ _=>False)) {tmps:=(ps.zip (encs f)).foldl (fun t (p,v)=>t.setIfInBounds p v) a.tmps,defers:= []} d) (b6:∀(L:List α) (d:World),S L->n L d->d.heap[w.heap.size]? =some (.deferred (some []))->Q .normal {a with defers:={target:=.collected w.heap.size,args:=#[]}::a.defers} d) (bm:∀(c:Code) (pre:List α) (d:World),Sp pre->a4 c pre d->d.heap[w.heap.size]? =some (.deferred (some []))->c.wpIn Fence.wide 0 P Q {a with defers:={target:=.collected w.heap.size,args:=#[]}::a.defers} d):(Code.rangeFunc g ps assign body).wpIn Fence.wide 0 P Q a w:=by refine wpIn_rangeFunc ?_;intro fn b7;obtain⟨rec,W⟩:∃rec:LoopState->Option Code->Loop,rec=fun bv bs=>{state:=bv,pending:=bs,fn:=fn,tmps:=a.tmps,params:=ps,assign:=assign,body:=body,defers:=w.heap.size}:=⟨_,rfl⟩;have⟨k,a6⟩:=b8 ((w.alloc (.deferred (some []))).alloc (.loop (rec .ready none)));have ac:aG w k:=by{rw[<-a6];exact((R.refl _ w).alloc _).alloc _};have b1:k.heap[w.heap.size+1]? =some (.loop (rec .ready none)):=by{rw[<-a6];have:=V6 (w.alloc (.deferred (some []))) (.loop (rec .ready none));rwa [Wq]at this};have b0:k.heap[w.heap.size]? =some (.deferred (some [])):=by{rw[<-a6];exact(Below.heap_alloc _ _ _ aK).trans (V6 w _)};have a7:∀ {o:World} {b:Nat} {q:Obj},o.heap[b]? =some q->q.isCells=false->¬aR o b M:=fun h b5 ⟨bI,c0,e⟩=>by{rw[h]at e;cases e;simp[Obj.isCells]at b5};have N:∀ {bw:Type} {n:bw->World->Prop},KX M w.heap.size n->∀ {s d q},n s d->n s (d.putObj (w.heap.size+1) q):=fun h s d q a3=> h s d _ a3 ((j4 d _ q).mono (fun _ _ e=>VL (VL e)));refine⟨w.heap.size+1,[{target:=.collected w.heap.size,args:=#[]}],k,{target:=.fn (.func gf) lb,args:=#[.func (.yield (w.heap.size+1)) #[] #[]]},k,gf, #[.func (.yield (w.heap.size+1)) #[] #[]]++lb,k,?_,?_,fun _ _=>trivial,?_,fun e=>by simp[Fence.wide]at e,?_⟩;{rw[<-a6,W];exact run_enterLoop_outer _ _ _ _ _};{simp only[resolve,b9];simp[go_sem]};{simp[invoke,go_sem,eg]};{refine(bl (w.heap.size+1) (fun pre d=>n pre d/\d.heap[w.heap.size+1]? =some (.loop (rec .ready none))/\d.heap[w.heap.size]? =some (.deferred (some []))) (fun pre d=>∃c,a4 c pre d/\d.heap[w.heap.size+1]? =some (.loop (rec .done (some c)))/\d.heap[w.heap.size]? =some (.deferred (some []))) k ac ?_ ?_ ?_ ⟨?_,b1,b0⟩).mono ?_;{rintro s o B ⟨a3,x,y⟩ H;exact⟨a5 s o B a3 (H.mono (fun _ _ e=>VI e)),(H.block _ (VG.1 x).1 (fun e=>a7 x rfl e.1)).trans x,(H.block _ (VG.1 y).1 (fun e=>a7 y rfl e.1)).trans y⟩};{rintro s o B ⟨c,a3,x,y⟩ H;exact⟨c,a0 c s o B a3 (H.mono (fun _ _ e=>VI e)),(H.block _ (VG.1 x).1 (fun e=>a7 x rfl e.1)).trans x,(H.block _ (VG.1 y).1 (fun e=>a7 y rfl e.1)).trans y⟩};{rintro pre f d ⟨a1,F,a2⟩ bi;have am:=run_yield (P:=P) (args:=encs f) F aU;rw[W]at am;refine⟨fn,_,assign,body,am,roundIn_of_wpIn b7 (wpIn_mono (bk pre f d _ a1 bi F) ?_)⟩;rintro ap bz j U;(cases ap with|exit _=>exact U.elim|goto _=>exact U.elim|ret=>exact U.elim|panic _=>exact U.elim|outgrown=>exact U.elim|normal=>?_);have⟨⟨bp,bq⟩,bc,b4⟩:=U;have aa:=bq.trans F;have ba:=bp.trans a2;have bh:=(VG.1 aa).1;refine⟨_,run_beginRound aa (by rw[W]),?_⟩;have ad:(j.putObj (w.heap.size+1) (.loop {rec .ready none with state:=.busy})).heap[w.heap.size+1]? =some (.loop {rec .ready none with state:=.busy}):=V5 bh;have bb:(j.putObj (w.heap.size+1) (.loop {rec .ready none with state:=.busy})).heap[w.heap.size]? =some (.deferred (some [])):=(VJ E).trans ba;refine wpIn_mono (b4 {rec .ready none with state:=.busy}) ?_;have gO:∀(tV:Option Code) (i:World),i.heap[w.heap.size]? =(j.putObj (w.heap.size+1) (.loop {rec .ready none with state:=.busy})).heap[w.heap.size]? /\i.heap[w.heap.size+1]? =(j.putObj (w.heap.size+1) (.loop {rec .ready none with state:=.busy})).heap[w.heap.size+1]? -> (Instr.endRound (w.heap.size+1) tV).run P i=.ok (.bool tV.isNone) (i.putObj (w.heap.size+1) (.loop (rec (if tV.isNone then .ready else .done) tV)))/\ (i.putObj (w.heap.size+1) (.loop (rec (if tV.isNone then .ready else .done) tV))).heap[w.heap.size+1]? =some (.loop (rec (if tV.isNone then .ready else .done) tV))/\ (i.putObj (w.heap.size+1) (.loop (rec (if tV.isNone then .ready else .done) tV))).heap[w.heap.size]? =some (.deferred (some [])):=fun tV i m=>by{have al:=m.2.trans ad;have:=run_endRound (P:=P) tV al;rw[W]at this ⊢;exact⟨this,V5 (VG.1 al).1,(VJ E).trans (m.1.trans bb)⟩};rintro e bA i O;cases e with|normal=>have⟨m,be,z⟩:=O;have⟨I,G,D⟩:=gO none i m;exact⟨_,_,I,.inl ⟨rfl,⟨N a5 z,G,D⟩,a9 (a9 (a9 bc (ab _ _ _ aa)) be) (ab _ _ _ (m.2.trans ad))⟩⟩|ret=>have⟨m,z⟩:=O;have⟨I,G,D⟩:=gO (some .ret) i m;exact⟨_,_,I,.inr ⟨rfl,.ret,N (a0 _) z,G,D⟩⟩|exit an=>have⟨m,z⟩:=O;have⟨I,G,D⟩:=gO (some (.exit an)) i m;exact⟨_,_,I,.inr ⟨rfl,.exit an,N (a0 _) z,G,D⟩⟩|goto t=>have⟨m,z⟩:=O;have⟨I,G,D⟩:=gO (some (.goto t)) i m;exact⟨_,_,I,.inr ⟨rfl,.goto t,N (a0 _) z,G,D⟩⟩|panic bE=>exact O.elim|outgrown=>exact O.elim};{exact a5 _ _ _ av (ac.mono (fun _ _ e=>e.elim))};{rintro e bx ⟨⟨v,rfl⟩,(⟨L,b2,a1,F,a2⟩ |⟨pre,b3,c,a1,F,a2⟩)⟩;{exact⟨none,_,by have:=run_endLoop (P:=P) F aU;rw[W]at this;exact this,b6 L _ b2 (N a5 a1) ((VJ E).trans a2)⟩};{exact⟨some c,_,by have:=run_endLoop (P:=P) F aU;rw[W]at this;exact this,bm c pre _ b3 (N (a0 c) a1) ((VJ E).trans a2)⟩}}}
theorem wpListIn_store_mid{F n P}(s:F.round=none){ops rest op a w Q}(r:op.guard=none)(f i y)(g:op.op=.store f i y)(b c cells)(m:a.eval i=.pointer (some ⟨b,c,none⟩))(o:a.eval y=.agg cells)(l:w.there b c cells.size)(k:(P.info? f).map (·.size)=some cells.size)(j:cells.all (·.oneCell')=true)(h:wpListIn F n P ops Q rest (a.put op.dst undef) (w.setCells b c cells.toList)):wpListIn F n P ops Q (op::rest) a w:=
 wpListIn_plain r fun K p=>by
  refine⟨fun t q=>by simp[Oper.about,g]at q,?_⟩
  have e:op.semAt F.round a.eval=execOp a.eval op:=by
   rw[s];unfold Oper.semAt;split <;> simp_all
  rw[e];have d:op.wp P a w K Q:=wp_store_mid f i y g b c cells m o l k j (p _ _ h);unfold Oper.wp at d;unfold execOp at d ⊢;simp only[g,m,o,Instr.storeAt,Instr.sureAddr,Sem.run_bind,Sem.run_pure,Result.andThen_ok,run_storeVar_mid w b c f cells l k j]at d ⊢;exact d
theorem wpListIn_load_mid{F n P}(p:F.round=none){ops rest op a w Q}(m:op.guard=none)(c i)(g:op.op=.load c i)(b f)(r:a.eval i=.pointer (some ⟨b,f,none⟩))(cs d)(k:w.rangeAt b f cs)(q:P.underlying c=some d)(hd:d.isRow=true)(o:(P.info? c).map (·.size)=some cs.length)(h:wpListIn F n P ops Q rest (a.put op.dst (.agg cs.toArray)) w):wpListIn F n P ops Q (op::rest) a w:=
 wpListIn_plain m fun K j=>by
  refine⟨fun s l=>by simp[Oper.about,g]at l,?_⟩
  have e:op.semAt F.round a.eval=execOp a.eval op:=by
   rw[p];unfold Oper.semAt;split <;> simp_all
  rw[e];unfold execOp;simp only[g,r,Instr.loadAt,Instr.sureAddr,Sem.run_bind,Sem.run_pure,Result.andThen_ok,run_loadVar_mid w b f c cs d k q hd o];exact j _ _ h
end
section
end
section
open Go.RowKit
attribute [local go_sem] Oper.semAt_some
def zJ(B0:Nat)(a b:World):Prop:=
 ∃S:Nat->Prop,R S a b/\∀c,S c->(c<B0/\(aR a c 3\/aR a c 4\/aR a c 103))\/aR a c 21\/∃r,a.heap[c]? =some (.loop r)
theorem zJ.trans{B0 a B C}(h:zJ B0 a B)(k:zJ B0 B C):zJ B0 a C:=by have⟨S,f,j⟩:=h;have⟨b,q,l⟩:=k;refine⟨fun c=>S c\/(b c/\¬S c/\c<a.heap.size),f.trans q (fun c e=>VI e) (fun c d e=>?_),fun c d=>?_⟩;{grind};{rcases d with d |⟨p,o,n⟩;{exact j c d};{have e:=f.block c n o;have y:∀ {b},aR B c b->aR a c b:=fun ⟨bI,i,m⟩=>⟨bI,i,e.symm.trans m⟩;rcases l c p with ⟨s,t⟩|g |⟨r,x⟩;{grind};{simp_all};{grind}}}
theorem zJ.put{B0 L a r}(b)(h:a.heap[L]? =some (.loop r)):zJ B0 a (a.putObj L b):=
 ⟨(·=L),j4 a L b,fun c e=>by subst e;exact VL (VL ⟨r,h⟩)⟩
theorem zJ.quiet{B0 a b}(h:aG a b):zJ B0 a b:=⟨_,h,fun _ e=>e.elim⟩
theorem zJ.only{B0 d j}(h:zJ B0 d j):∃S:Nat->Prop,R S d j/\(∀c b,aR d c b->b≠3->b≠4->b≠103->b≠21->¬S c)/\(∀c,B0<=c->aR d c 3->¬S c):=by have⟨S,p,h⟩:=h;refine⟨S,p,fun c b a l m n o i=>?_,fun c q a i=>?_⟩;{rcases h c i with ⟨_,g|g|g⟩|g |⟨r,f⟩;{exact l (a.eH g)};{exact m (a.eH g)};{exact n (a.eH g)};{exact o (a.eH g)};{have⟨bI,k,e⟩:=a;rw[f]at e;cases e}};{rcases h c i with ⟨g,_⟩|g |⟨r,f⟩;{omega};{exact absurd (a.eH g) ae};{have⟨bI,k,e⟩:=a;rw[f]at e;cases e}}
def TW(n:Nat):Value->Value->Nat
 | .int _ e,.int _ a=>A.left n e a
 |_,_=>0
structure uG(W:World)(sb ab aq:Nat)(iv:Value)(ra:Option Addr)(rc:Nat)(sp:List Int)(xs:List gq):Prop where
 xu:kM W sb iv (.slice ra sp.length rc) (.slice (some ⟨ab,0,none⟩) (xs.length+1) (xs.length+1))
 zH:Db W ab aq (xs.length+1) sp.length (gO sp xs)
 aH:fK W iv xs
theorem uG.step{g i b j aq k ra rc sp f}(h:uG g b j aq k ra rc sp f)(m:R (·=b) g i)(s:kM i b k (.slice ra sp.length rc) (bJ j (f.length+1) (f.length+1))):uG i b j aq k ra rc sp f:=by have d:∀ {l:TypeId} {c:Nat},aR g c l->l≠258->¬c=b:=fun a n e=>by{subst e;exact n (a.eH h.xu.aZ)};exact⟨s,h.zH.T m (fun c a=>d a ae) (fun c a=>d a ae),h.aH.T m (fun c a=>d a ae) (fun c a=>d a ae)⟩
theorem uG.quiet{b c g d aq f ra rc sp i}(h:uG b g d aq f ra rc sp i)(a:aG b c):uG c g d aq f ra rc sp i:=
 ⟨h.xu.T a id,h.zH.T a (fun _ _=>id) (fun _ _=>id),h.aH.T a (fun _ _=>id) (fun _ _=>id)⟩
theorem uG.round{i l B0 r o aq q ra rc sp s}(h:uG i r o aq q ra rc sp s)(x:B0<=aq)(k:zJ B0 i l):uG l r o aq q ra rc sp s:=by have⟨S,b,d,p⟩:=k.only;refine⟨h.xu.T b (d _ _ h.xu.aZ ae ae ae ae),?_,h.aH.T b (fun c f=>d c _ f ae ae ae ae) (fun c f=>d c _ f ae ae ae ae)⟩;have m:=h.zH;refine⟨m.aZ.T b (d _ _ m.aZ ae ae ae ae),fun j a=>b.T (m.cell j a) (d _ _ m.aZ ae ae ae ae),fun j a=>(m.jB j a).T b (p _ E (m.jB j a)),fun j t a g=>?_⟩;have n:=p (aq+j) E (m.jB j a);exact⟨b.T (m.aD j t a g).1 n,b.aE (m.aD j t a g).1 (m.aD j t a g).2 n⟩
theorem BJ(a6 sp g j aq p ra rc B0)(c5:a6.length<=1000)(c1:∀f∈a6,f.dG.length<=1000)(M:sp.length<=1000000)(c4:∀f∈a6,1<=f.bF/\f.bF<=9\/(f.aF≠2/\f.aF≠3))(l J S)(q3:Al 258 B0 J)(cb:Al 258 B0 S)(bz:∀pre f U,J pre U->(pre++[f]) <+:dw sp a6->YieldAt Fence.wide 0 prog l #[.agg (f.map Z).toArray] U fun e q=>(e=.returned (.bool true)/\J (pre++[f]) q/\zJ B0 U q)\/(e=.returned (.bool false)/\S (pre++[f]) q))(G)(d:uG G g j aq p ra rc sp a6)(it:B0<=aq)(nO:B0<=g)(av:J [] G):CallsIn Fence.wide 0 prog 191 #[az g,.func (.yield l) #[] #[]] G fun e q=>(∃v,e=.returned v)/\ ((∃ys,ys=dw sp a6/\J ys q)\/(∃pre,(pre <+:dw sp a6/\pre≠ [])/\S pre q)):=by refine callsIn_of_wp func191 rfl trivial ?_ rfl;simp only[ntmps191,VS,V4,Wx,Nat.reduceAdd,Nat.reduceSub,V7,Array.replicate_zero,Wj,We,Wy,Ws];have an:=jJ g j aq a6.length sp.length p ra rc (gO sp a6) G d.xu d.zH (eZ sp a6) (mG sp a6) (fun t _=>n7 sp a6 t) M 0 E;gi_wp2;refine⟨trivial,rfl,(callsIn_wide.2 an).mono ?_⟩;clear an;rintro e c8 ⟨rfl,a3,bk⟩;have bi:(prog.info? 219).map (·.size)=some 20:=bK;have b2:Hid _:=bi;clear bi;have ba:Hid (dw sp a6= []++gI (eZ sp a6) (eF (bY sp a6) a6) (2*sp.length+3) (bD (eZ sp a6) 0) (-1)):=by{show _=_;rfl};have X:Hid (bD (eZ sp a6) 0= -1\/∃k:Nat,bD (eZ sp a6) 0=k/\k<=sp.length/\gO sp a6 0 k≠ -1):=by{rcases jX sp a6 0 E with h |⟨k,i,_,B,C⟩;{exact VI h};{exact VL ⟨k,i,B,C⟩}};have b1:Hid (A.left sp.length (-1) (bD (eZ sp a6) 0)<=2*sp.length+3):=by{show _<=_;rcases X.out with h |⟨k,h,_,_⟩;{rw[h,uY];omega};{rw[h,mB];split <;> omega}};have b6:=d.step a3 bk;have b3:J [] c8:=q3 _ _ _ av (a3.mono (fun c _ e=>by subst e;exact⟨d.xu.aZ,nO⟩));clear a3 bk d av;generalize bD (eZ sp a6) 0=bx at*;gi_wp2;gi_loopw [4,5] (fun v u wr=>∃(pre:List (List Int)) (k:Nat) (dt at_:Int),v=Z dt/\u=Z at_/\Hid (dw sp a6=pre++gI (eZ sp a6) (eF (bY sp a6) a6) k at_ dt)/\Hid (A.left sp.length dt at_<=k)/\Hid (at_= -1\/∃k:Nat,at_=k/\k<=sp.length/\gO sp a6 0 k≠ -1)/\Hid (uG wr g j aq p ra rc sp a6)/\Hid (J pre wr)) (fun v u wr=>TW sp.length v u);(case atStart=>exact ⟨[],_, -1,bx,rfl,rfl,ba,b1,X,b6,b3⟩);case round=>clear ba b1 X b6 b3;obtain⟨pre,k,dt,at_,rfl,rfl,dN,a0,W,i,b0⟩:=hrel;have d:=i;have a1:=b0;clear i b0;rcases W.out with rfl |⟨a,rfl,H,bb⟩;{have c2:Hid (dw sp a6=pre):=by{show _=_;rw[dN.out];cases k <;> simp[gI]};clear dN a0 W;gi_wp2;go_end0;exact⟨⟨_,rfl⟩,.inl ⟨pre,c2.out.symm,a1⟩⟩};{have ca:((a:Int) != -1)=true:=aK;have ao:=zZ a6 g j aq wr p ra rc sp.length d.xu d.aH c5 c1 sp rfl M c4 d.zH a H bb;have L:=vV (bY sp a6) a6 a;have bc:=px (bY sp a6) a6 a;obtain⟨hX,a8,c6,c7⟩:=yW sp a6 a H bb;have bp:=JD sp a6 k a dt H a0.out;have bq:=FO sp a6 k a dt H a0.out hX a8 c6 c7;have O:=Y bp;have P:=Y bq;clear bp bq W;generalize cc:eF (bY sp a6) a6 a=m at*;gi_wp2;refine⟨trivial,rfl,(callsIn_wide.2 ao).mono ?_⟩;clear ao;rintro e b ⟨rfl,a4,bl⟩;have b7:=d.step a4 bl;have b4:J pre b:=q3 _ _ _ a1 (a4.mono (fun c _ e=>by subst e;exact⟨d.xu.aZ,nO⟩));clear a4 bl d a1;have bh:(prog.info? 219).map (·.size)=some (m.map (V0 .i64)).toArray.size:=by{rw[VS,VV,L];exact b2.out};have bs:((m.map (V0 .i64)).toArray.all (·.oneCell'))=true:=all_oneCell_toArray GN;have a2:=fg.cG b;have a7:=a2.there;rw[show (20:Nat)=(m.map (V0 .i64)).toArray.size by rw[VS,VV,L]]at a7;have ad:=Y bh;have al:=Y a7;clear bh a7;gi_wp2_with (refine wpListIn_store_mid rfl aV 219 _ _ aV b.heap.size 0 (m.map (V0 .i64)).toArray aV aV al.o ad.o bs ?_);have D:=a2.store m L;have N:aG b ((b.alloc (.cells dL 219)).setCells b.heap.size 0 (m.map Z)):=by{refine((R.refl _ b).alloc _).t (gM b.heap.size _ _ 0)};unfold dL at D N;generalize ((b.alloc (.cells _ 219)).setCells b.heap.size 0 (m.map Z))=ab at*;have b9:=b7.quiet N;have b5:=q3 _ _ _ b4 (N.mono (fun _ _ e=>e.elim));have bv:ab.c b.heap.size 0=some (Z a):=by{have:=D.cells 0 (Z a) (by rw[Wk,<-bc,V1,V3 E];rfl);rwa [VU]at this};have aa:ab.c b.heap.size 1=some (Z hX):=by{have:=D.cells 1 (Z hX) (by rw[Wk,<-a8,V1,V3 E];rfl);rwa [VU]at this};clear a2 N al ad bs b7 b4;have ap:=DA b.heap.size a hX ab bv aa;refine⟨trivial,rfl,(callsIn_wide.2 ap).mono ?_⟩;clear ap;rintro e bw ⟨rfl,F⟩;have q2:=b9.quiet F;have t2:=q3 _ _ _ b5 (F.mono (fun _ _ e=>e.elim));have od:=D.T F id;have x0:=F.T aa id;clear b9 b5 D bv aa F;by_cases I:(a:Int)=hX/\(a:Int)=dt;{obtain⟨n,r⟩:=I;have x:((a:Int)==hX)=true:=by{simp[n]};have am:((a:Int)==dt)=true:=by{simp[r]};obtain⟨k',s,y,z⟩:=O.o (by rw[bc,a8,n]) r;rw[x];have c0:decide ((a:Int)=dt)=true:=by{simp[r]};have ce:WB.wrap ((a:Int)+1)=(a:Int)+1:=fF;have kk:=jJ g j aq a6.length sp.length p ra rc (gO sp a6) bw q2.xu q2.zH (eZ sp a6) (mG sp a6) (fun t _=>n7 sp a6 t) M (a+1) E;rw[show (((a+1:Nat)):Int)=(a:Int)+1 by omega]at kk;have x3:Hid (bD (eZ sp a6) (a+1)= -1\/∃k:Nat,bD (eZ sp a6) (a+1)=k/\k<=sp.length/\gO sp a6 0 k≠ -1):=by{rcases jX sp a6 (a+1) E with h |⟨k,i,_,B,C⟩;{exact VI h};{exact VL ⟨k,i,B,C⟩}};have tE:=Y s;have tv:=Y y;have ts:=Y z;clear s y z n r O P;generalize bD (eZ sp a6) (a+1)=kf at*;gi_wp2;refine⟨trivial,rfl,(callsIn_wide.2 kk).mono ?_⟩;clear kk;rintro e cp ⟨rfl,a5,bm⟩;have ol:=q2.step a5 bm;have rd:J pre cp:=q3 _ _ _ t2 (a5.mono (fun c _ e=>by subst e;exact⟨q2.xu.aZ,nO⟩));clear a5 bm q2 t2;gi_wp2;go_roundw;(case rel=>exact ⟨pre,k',dt,kf,rfl,rfl,by show _=_;rw[dN.out,tE.out],tv,x3,ol,rd⟩);case measure=>exact ts.out};{obtain⟨k',s,y,z⟩:=P.o I;have a9:(pre++[m]) <+:dw sp a6:=⟨gI (eZ sp a6) (eF (bY sp a6) a6) k' (bD (eZ sp a6) hX) hX,by rw[dN.out,s];simp⟩;have bA:=bz pre m bw t2 a9;obtain⟨fn,tmps,assign,body,hl,c9⟩:=bA;have bE:(((a:Int)==hX)=true/\((a:Int)==dt)=false)\/((a:Int)==hX)=false:=by{by_cases n:(a:Int)=hX;{exact VI ⟨by simp[n],by simp;exact fun r=>I ⟨n,r⟩⟩};{exact VL (by simp[n])}};have kk:=fun (cp:World) (ol:uG cp g j aq p ra rc sp a6)=>jJ g j aq a6.length sp.length p ra rc (gO sp a6) cp ol.xu ol.zH (eZ sp a6) (mG sp a6) (fun t _=>n7 sp a6 t) M hX E;have x3:Hid (bD (eZ sp a6) hX= -1\/∃k:Nat,bD (eZ sp a6) hX=k/\k<=sp.length/\gO sp a6 0 k≠ -1):=by{rcases jX sp a6 hX E with h |⟨k,i,_,B,C⟩;{exact VI h};{exact VL ⟨k,i,B,C⟩}};have be:(prog.info? 219).map (·.size)=some (m.map (V0 .i64)).length:=by{rw[VV,L];exact b2.out};have ac:=Y be;have tt:=od.cells;have tE:=Y s;have tv:=Y y;have ts:=Y z;have h6:=Y a9;clear s y z O P be a9 I;rcases bE with ⟨x,am⟩|x;{rw[x];have c0:decide ((a:Int)=dt)=false:=bS am;gi_wp2_with (refine wpListIn_load_mid rfl aV 219 _ aV b.heap.size 0 aV (m.map (V0 .i64)) _ tt underlying219 aV ac.o ?_);exact QK};{rw[x];gi_wp2_with (refine wpListIn_load_mid rfl aV 219 _ aV b.heap.size 0 aV (m.map (V0 .i64)) _ tt underlying219 aV ac.o ?_);exact QK}}}
theorem Ea(b sp k m g ra rc)(x:b.length<=1000)(s:∀a∈b,a.dG.length<=1000)(y:sp.length<=1000000)(L:∀a∈b,1<=a.bF/\a.bF<=9\/(a.aF≠2/\a.aF≠3))(o p l J i B0)(r:Al 258 B0 J)(F:Al 258 B0 i)(I:∀pre a j,J pre j->(pre++[a]) <+:dw sp b->YieldAt Fence.wide 0 prog l #[.agg (a.map Z).toArray] j fun e f=>(e=.returned (.bool true)/\J (pre++[a]) f/\zJ B0 j f)\/(e=.returned (.bool false)/\i (pre++[a]) f))(d)(U:B0<=d.heap.size)(P:d.c o 0=some (.pointer (some ⟨k,m,none⟩)))(S:d.c p 0=some (.slice ra sp.length rc))(M:d.c k m=some g)(t:fK d g b)(N:cU d ra sp)(D:J [] d):CallsIn Fence.wide 0 prog 190 (#[.func (.yield l) #[] #[]]++#[az o,az p]) d fun e f=>(∃v,e=.returned v)/\ ((∃ys,ys=dw sp b/\J ys f)\/(∃pre,(pre <+:dw sp b/\pre≠ [])/\i pre f)):=by refine callsIn_of_wp func190 rfl trivial ?_ rfl;simp only[ntmps190,VS,V4,Wx,Nat.reduceAdd,Nat.reduceSub,V7,Array.replicate_zero,Wj,We,Wy,Ws];gi_wp2;refine⟨trivial,rfl,(callsIn_wide.2 (ub b k m d g M t x s ra rc sp N y)).mono ?_⟩;rintro e C ⟨B,n,aq,rfl,O,H,z,W,X⟩;have G:uG C B n aq g ra rc sp b:=⟨O,H,t.T z (fun _ _=>id) (fun _ _=>id)⟩;have q:=BJ b sp B n aq g ra rc B0 x s y L l J i r F I C G E E (r _ _ _ D (z.mono (fun _ _ e=>e.elim)));gi_wp2;refine⟨trivial,rfl,q.mono ?_⟩;clear q;rintro e a0 ⟨⟨v,rfl⟩,h⟩;gi_wp2;go_end0;exact⟨⟨_,rfl⟩,h⟩
theorem Ab(f g ra n rc w):aO 164 #[.pointer (some ⟨f,g,none⟩),.slice ra n rc] w fun e d=>∃a b,e=.returned (.func (.func 190) #[] #[az a,az b])/\ d.c a 0=some (.pointer (some ⟨f,g,none⟩))/\d.c b 0=some (.slice ra n rc)/\w.heap.size<=a/\w.heap.size<=b/\aG w d:=by go_enter func164,ntmps164;go_wp2;go_ret;refine⟨_,_,rfl,by simp[go_sem],by simp[go_sem],aK,aK,((R.refl _ w).alloc _).alloc _⟩
namespace A
theorem sD(b zH):∀(k:Nat) (a e:Int),(gI b zH k a e).length<=k
 |0,_,_=>by simp[gI]
 |k+1,a,e=>by
  unfold gI;split
  ·simp
  ·simp only[]
   split
   ·exact Wl (sD b zH k _ _)
   ·have:=sD b zH k (bD b ((zH a.toNat).getD 1 0).toNat) ((zH a.toNat).getD 1 0)
    simp only[V4];omega
theorem jY(sp a):(dw sp a).length<=2*sp.length+3:=sD _ _ _ _ _
def dU(sp:List Int)(dc:Int)(all:Bool)(ps:List kj):List (List Int)->Int->Nat->List Int->Bool->Nat×List Int×Bool
 |[],_,k,ch,f=>(k,ch,f)
 |m::ms,n,k,ch,f=>
  if n+1<dc then dU sp dc all ps ms (n+1) k ch f
  else if all then dU sp dc all ps ms (n+1) (m.getD 1 0).toNat ((ch++nJ sp k (m.getD 0 0))++dB sp m ps) true
  else ((m.getD 1 0).toNat,(ch++nJ sp k (m.getD 0 0))++dB sp m ps,true)
def subst(sp:List Int)(c:fZ):List Int:=
 let r:=dU sp c.dc c.all c.cx (dw sp c.fk.aH) 0 0 [] false
 if r.2.2 then r.2.1++sp.drop r.1 else sp
def uh(sp:List Int)(dc:Int)(all:Bool)(ps:List kj):List (List Int)->Int->Nat->List Int->Prop
 |[],_,k,ch=>k<=sp.length/\ch.length<=1000000000
 |m::ms,n,k,ch=>
  m.length=20/\yC k (m.getD 0 0) sp.length/\yC (m.getD 0 0) (m.getD 1 0) sp.length/\ch.length<=1000000000/\k<=sp.length/\
  if n+1<dc then uh sp dc all ps ms (n+1) k ch
  else (∀p∈ps,nU m sp.length p)/\(dB sp m ps).length<=1000000000/\((ch++nJ sp k (m.getD 0 0))++dB sp m ps).length<=1000000000/\
   (all=true->uh sp dc all ps ms (n+1) (m.getD 1 0).toNat ((ch++nJ sp k (m.getD 0 0))++dB sp m ps))
end A
structure rM(w:World)(cb co:Nat)(c:fZ):Prop where
 aZ:aR w cb 167
 aH:∃iv,w.cell? ⟨cb,co,none⟩=some iv/\fK w iv c.fk.aH
 RY:∃pa pc,w.cell? ⟨cb,co+2,none⟩=some (.slice pa c.cx.length pc)/\lg w (.slice pa c.cx.length pc) c.cx
 all:w.cell? ⟨cb,co+3,none⟩=some (.bool c.all)
 ay:w.cell? ⟨cb,co+4,none⟩=some (.bool c.ay)
 dc:w.cell? ⟨cb,co+5,none⟩=some (.int .i64 c.dc)
theorem rM.T{S w f cb d c}(h:rM w cb d c)(a:R S w f)(g:∀b,aR w b 167->¬S b)(i:∀b,aR w b 270->¬S b)(j:∀b,aR w b 284->¬S b)(k:∀b,aR w b 240->¬S b):rM f cb d c:=by have⟨m,l,i2⟩:=h.aH;have⟨q,r,o,p⟩:=h.RY;have n:=g _ h.aZ;exact⟨h.aZ.T a n,⟨m,a.T l n,i2.T a i j⟩,⟨q,r,a.T o n,p.T a k⟩,a.T h.all n,a.T h.ay n,a.T h.dc n⟩
theorem rM.quiet{w b cb a c}(h:rM w cb a c)(d:aG w b):rM b cb a c:=h.T d (fun _ _=>id) (fun _ _=>id) (fun _ _=>id) (fun _ _=>id)
structure ke(W:World)(B eb cb co:Nat)(a:Option Addr)(N c:Nat)(k num:Int)(f:Bool):Prop where
 t0:aR W B 98
 c0:W.cell? ⟨B,0,none⟩=some (.pointer (some ⟨eb,0,none⟩))
 t1:aR W (B+1) 190
 c1:W.cell? ⟨B+1,0,none⟩=some (.pointer (some ⟨cb,co,none⟩))
 t2:aR W (B+1+1) 103
 c2:W.cell? ⟨B+1+1,0,none⟩=some (.slice a N c)
 f2:W.frozen? ⟨B+1+1,0,none⟩=false
 t3:aR W (B+1+1+1) 3
 c3:W.cell? ⟨B+1+1+1,0,none⟩=some (.int .i64 k)
 f3:W.frozen? ⟨B+1+1+1,0,none⟩=false
 t4:aR W (B+1+1+1+1) 3
 c4:W.cell? ⟨B+1+1+1+1,0,none⟩=some (.int .i64 num)
 f4:W.frozen? ⟨B+1+1+1+1,0,none⟩=false
 t5:aR W (B+1+1+1+1+1) 4
 c5:W.cell? ⟨B+1+1+1+1+1,0,none⟩=some (.bool f)
 f5:W.frozen? ⟨B+1+1+1+1+1,0,none⟩=false
theorem ke.T{S i j B eb cb l a g c k num m}(h:ke i B eb cb l a g c k num m)(f:R S i j)(d:∀b,B<=b->b<=B+5->¬S b):ke j B eb cb l a g c k num m:=
 ⟨h.t0.T f (d _ E E),f.T h.c0 (d _ aK aK),h.t1.T f (d _ E E),f.T h.c1 (d _ aK aK),
  h.t2.T f (d _ E E),f.T h.c2 (d _ bQ aK),f.aE h.c2 h.f2 (d _ bQ aK),
  h.t3.T f (d _ E E),f.T h.c3 (d _ bQ aK),f.aE h.c3 h.f3 (d _ bQ aK),
  h.t4.T f (d _ E E),f.T h.c4 (d _ bQ aK),f.aE h.c4 h.f4 (d _ bQ aK),
  h.t5.T f (d _ E E),f.T h.c5 (d _ bQ aK),f.aE h.c5 h.f5 (d _ bQ aK)⟩
theorem dh{a:World}{b c v u}(h:a.cell? ⟨c,0,none⟩=some v)(d:c≠b):(a.setCell ⟨b,0,none⟩ u).cell? ⟨c,0,none⟩=some v:=by rwa [World.cell?_setCell_other a ⟨b,0,none⟩ ⟨c,0,none⟩ _ aK]
theorem dY{a:World}{p q u}(h:a.frozen? q=false):(a.setCell p u).frozen? q=false:=by rw[World.frozen?_setCell];exact h
theorem ke.UX{d B eb cb g a j c k num i}(h:ke d B eb cb g a j c k num i)(f b c'):ke (d.s (B+1+1) 0 (.slice f b c')) B eb cb g f b c' k num i:=
 ⟨h.t0.setCell _ _,dh h.c0 E,h.t1.setCell _ _,dh h.c1 E,h.t2.setCell _ _,VQ _ _ _ h.c2,dY h.f2,h.t3.setCell _ _,dh h.c3 E,dY h.f3,h.t4.setCell _ _,dh h.c4 E,dY h.f4,h.t5.setCell _ _,dh h.c5 E,dY h.f5⟩
theorem ke.OD{d B eb cb f a b c k num g}(h:ke d B eb cb f a b c k num g)(k'):ke (d.s (B+1+1+1) 0 (Z k')) B eb cb f a b c k' num g:=
 ⟨h.t0.setCell _ _,dh h.c0 E,h.t1.setCell _ _,dh h.c1 E,h.t2.setCell _ _,dh h.c2 E,dY h.f2,h.t3.setCell _ _,VQ _ _ _ h.c3,dY h.f3,h.t4.setCell _ _,dh h.c4 E,dY h.f4,h.t5.setCell _ _,dh h.c5 E,dY h.f5⟩
theorem ke.Ah{d B eb cb f a b c k num g}(h:ke d B eb cb f a b c k num g)(i):ke (d.s (B+1+1+1+1) 0 (Z i)) B eb cb f a b c k i g:=
 ⟨h.t0.setCell _ _,dh h.c0 E,h.t1.setCell _ _,dh h.c1 E,h.t2.setCell _ _,dh h.c2 E,dY h.f2,h.t3.setCell _ _,dh h.c3 E,dY h.f3,h.t4.setCell _ _,VQ _ _ _ h.c4,dY h.f4,h.t5.setCell _ _,dh h.c5 E,dY h.f5⟩
theorem ke.UY{d B eb cb f a b c k num i}(h:ke d B eb cb f a b c k num i)(g):ke (d.s (B+1+1+1+1+1) 0 (.bool g)) B eb cb f a b c k num g:=
 ⟨h.t0.setCell _ _,dh h.c0 E,h.t1.setCell _ _,dh h.c1 E,h.t2.setCell _ _,dh h.c2 E,dY h.f2,h.t3.setCell _ _,dh h.c3 E,dY h.f3,h.t4.setCell _ _,dh h.c4 E,dY h.f4,h.t5.setCell _ _,VQ _ _ _ h.c5,dY h.f5⟩
structure SI(w W:World)(B Bl eb cb co:Nat)(num:Int)(k:Nat)(ch:List Int)(f:Bool)(a:Option Addr)(N c:Nat):Prop where
 box:ke W B eb cb co a N c k num f
 row:W.ownsRow B 21 1 (.slice a N c) N (ch.map (.int .i32))
 len:N=ch.length
 own:∀b,(VF a N c).ownBlock=some b->Bl+1<b
 only:R (fun _=>False) w W
theorem SI.zX{w f m B d eb cb o num k n p a j c}(h:SI w f B d eb cb o num k n p a j c)(C:w.heap.size=B)(D:B+5<d)(i:R (fun b=>(aR f b 258/\d<=b)\/b=d\/b=d+1) f m):SI w m B d eb cb o num k n p a j c:=by have x:∀ {b:Nat} {l:TypeId},aR f b l->l≠258->b≠d->b≠d+1->¬((aR f b 258/\d<=b)\/b=d\/b=d+1):=fun r q s t e=>by{rcases e with e|e|e;{exact q (r.eH e.1)};{exact s e};{exact t e}};refine⟨h.box.T i (fun b y z e=>?_),ax h.row i (fun b g=>x (aR.aJ h.row g) ae (bV (h.own b g)) (bV (h.own b g))),h.len,h.own,h.only.trans i (fun _ e=>e) (fun b g e=>?_)⟩;{omega};{omega}
theorem SI.jM{w f i B g eb cb l b num s}{k k':Nat}{o t p a j c}(h:SI w f B g eb cb l num k o t a j c)(D:w.heap.size=B)(F:B+5<g)(m:R (·=b) f i)(z:B<=b)(C:b<=B+5)(d:aR f b 3\/aR f b 4)(x:ke i B eb cb l a j c k' s p):SI w i B g eb cb l s k' o p a j c/\zJ g f i:=by have y:∀c',aR f c' 21->¬c'=b:=fun c' r e=>by{subst e;rcases d with d|d;{exact absurd (r.eH d) ae};{exact absurd (r.eH d) ae}};refine⟨⟨x,ax h.row m (fun n q=>y n (aR.aJ h.row q)),h.len,h.own,h.only.trans m (fun _ e=>e) (fun n q e=>E)⟩,(·=b),m,fun c' e=>?_⟩;subst e;rcases d with d|d;{grind};{grind}
theorem SI.quiet{w g i B d eb cb l num k j m a f c}(h:SI w g B d eb cb l num k j m a f c)(b:aG g i):SI w i B d eb cb l num k j m a f c:=
 ⟨h.box.T b (fun _ _ _=>id),gp h.row b,h.len,h.own,h.only.t b⟩
theorem SI.append{w m l B i eb cb q num k z n r a f j c d g}(h:SI w m B i eb cb q num k z r a j c)(H:w.heap.size=B)(L:B+5<i)(p:R (fun b=>(VF a j c).ownBlock=some b) m l)(y:l.ownsRow B 21 1 (.slice f d g) d (n.map (.int .i32)))(C:d=n.length)(I:∀b,(VF f d g).ownBlock=some b->(VF a j c).ownBlock=some b\/i+1<b):SI w (l.s (B+1+1) 0 (.slice f d g)) B i eb cb q num k n r f d g/\zJ i m (l.s (B+1+1) 0 (.slice f d g)):=by have D:=h.own;have x:=h.box.T p (fun b F G e=>by have:=D b e;omega);have os:=ah l (B+1+1) 0 (.slice f d g);refine⟨⟨x.UX f d g,ax y os (fun b o e=>by subst e;exact absurd ((aR.aJ y o).eH x.t2) ae),C,fun b o=>?_,?_⟩,fun c'=>(VF a j c).ownBlock=some c'\/c'=B+1+1,p.t os,fun c' e=>?_⟩;{grind};{exact(h.only.trans (p.t os:R (fun b=>(VF a j c).ownBlock=some b\/b=B+1+1) m _) (fun _ e=>e) (fun b o e=>by rcases e with e|e;{grind};{omega}))};{rcases e with e|e;{exact VL (VI (aR.aJ h.row e))};{subst e;exact VI ⟨E,VL (VL h.box.t2)⟩}}
end
section
end
section
open Go.RowKit
attribute [local go_sem] Oper.semAt_some
theorem OG{l:List Value}{j v}(h:l[j]? =some v):l.set j v=l:=by apply Wm;intro i;by_cases e:j=i;{grind};{simp_all}
theorem Sl.aJ{w aq a b c k}(h:w.ownsRow aq 21 1 (.slice a b c) b (k.map (.int .i32))):Sl w a k/\b<=c:=by rcases h.2 with ⟨e,q⟩ |⟨g,cD,bI,o,_,m,n,_,s,t⟩;{injection e with f l i;subst f;subst l;subst i;have d:=h.1;simp at d;exact⟨VI ⟨rfl,d⟩,VH _⟩};{injection o with f l i;subst f;subst i;have d:=h.1;rw[VV,Wu]at d;refine⟨VL ⟨g,0,rfl,⟨bI,(0,0),m⟩,fun j r=>?_⟩,n⟩;rw[cell_of_row _ g (0+j) bI _ (0,0) m,VU];have p:(bI.toList.take (b*1))[j]? =some (.int .i32 (k.getD j 0)):=by{simp_all};rwa [V2,if_pos E,Array.getElem?_toList]at p}
theorem Ju(w:World)(eb cb f):ke ((((((w.alloc (.cells #[az eb] 98)).alloc (.cells #[.pointer (some ⟨cb,f,none⟩)] 190)).alloc (.cells #[aM] 103)).alloc (.cells #[aB] 3)).alloc (.cells #[aB] 3)).alloc (.cells #[.bool false] 4)) w.heap.size eb cb f none 0 0 0 0 false:=by have g:∀(u:World) (v:Value) (d:TypeId) (b:Nat),b=u.heap.size->aR (u.alloc (.cells #[v] d)) b d/\(u.alloc (.cells #[v] d)).c b 0=some v/\(u.alloc (.cells #[v] d)).frozen? ⟨b,0,none⟩=false:=fun u v d b e=>by{subst e;exact⟨aR.cG _ _ _ _,((aX.cG u #[v] d) 0 v rfl).1,((aX.cG u #[v] d) 0 v rfl).2⟩};have a:∀(u:World) (i:Obj) {d:TypeId} {b:Nat} {v:Value},(aR u b d/\u.c b 0=some v/\u.frozen? ⟨b,0,none⟩=false)->(aR (u.alloc i) b d/\(u.alloc i).c b 0=some v/\(u.alloc i).frozen? ⟨b,0,none⟩=false):=fun u i d b v h=>by{have oo:aG u (u.alloc i):=(R.refl _ u).alloc i;exact⟨h.1.T oo id,oo.T h.2.1 id,oo.aE h.2.1 h.2.2 id⟩};have n:=a _ (.cells #[.bool false] 4) (a _ (.cells #[aB] 3) (a _ (.cells #[aB] 3) (a _ (.cells #[aM] 103) (a _ (.cells #[.pointer (some ⟨cb,f,none⟩)] 190) (g w (az eb) 98 w.heap.size rfl)))));have o:=a _ (.cells #[.bool false] 4) (a _ (.cells #[aB] 3) (a _ (.cells #[aB] 3) (a _ (.cells #[aM] 103) (g (w.alloc (.cells #[az eb] 98)) (.pointer (some ⟨cb,f,none⟩)) 190 (w.heap.size+1) aK))));have j:=a _ (.cells #[.bool false] 4) (a _ (.cells #[aB] 3) (a _ (.cells #[aB] 3) (g ((w.alloc (.cells #[az eb] 98)).alloc (.cells #[.pointer (some ⟨cb,f,none⟩)] 190)) aM 103 (w.heap.size+1+1) aK)));have k:=a _ (.cells #[.bool false] 4) (a _ (.cells #[aB] 3) (g (((w.alloc (.cells #[az eb] 98)).alloc (.cells #[.pointer (some ⟨cb,f,none⟩)] 190)).alloc (.cells #[aM] 103)) aB 3 (w.heap.size+1+1+1) aK));have l:=a _ (.cells #[.bool false] 4) (g ((((w.alloc (.cells #[az eb] 98)).alloc (.cells #[.pointer (some ⟨cb,f,none⟩)] 190)).alloc (.cells #[aM] 103)).alloc (.cells #[aB] 3)) aB 3 (w.heap.size+1+1+1+1) aK);have m:=g (((((w.alloc (.cells #[az eb] 98)).alloc (.cells #[.pointer (some ⟨cb,f,none⟩)] 190)).alloc (.cells #[aM] 103)).alloc (.cells #[aB] 3)).alloc (.cells #[aB] 3)) (.bool false) 4 (w.heap.size+1+1+1+1+1) aK;exact⟨n.1,n.2.1,o.1,o.2.1,j.1,j.2.1,j.2.2,k.1,k.2.1,k.2.2,l.1,l.2.1,l.2.2,m.1,m.2.1,m.2.2⟩
end
section
end
section
open Go.RowKit
theorem ft(w a c sp)(h:Sl w a sp):(convert 103 9 (.slice a sp.length c)).run prog w=.ok (.string (runesBytes sp)) w:=by rcases h with ⟨rfl,rfl⟩ |⟨f,g,rfl,i,b⟩;{exact run_convert_runes_nil w _ _ 21 0 c underlying103 underlying21 underlying9};{have:=run_convert_runes (P:=prog) w 103 9 21 ⟨f,g,none⟩ sp.length c sp (VH _) underlying103 underlying21 underlying9 (fun j d=>by rw[Addr.add_mid];exact b j d);rwa [Wr]at this}
theorem pX(eb w l out)(h:Ed w eb l out)(s)(C:out.length+s.size<=100000000000):aO 138 #[.pointer (some ⟨eb,13,none⟩),.string s] w fun e o=>(∃v,e=.returned v)/\Ed o eb l (out++s.data.toList)/\R (fun b=>b=eb\/(aR w b 5/\eb<=b)) w o:=by have⟨i0,t,x,y,z⟩:=info_parts DW;have bs:=h.len;go_enter func138,ntmps138;go_wp21;refine(pP eb w l out h).k fun G ⟨⟨a,c,j,c0⟩,av,c4,ih⟩=>?_;have i:=j 14 (.slice a out.length c) (by rw[VK aU]);have n:=i.1;go_wp2_with (at_builtin;refine Lib.wpList_append_own_string _ rfl _ _ 64 9 rfl eb 5 i0 underlying64 underlying9 t x y z _ _ _ rfl c0 s rfl ?c3 ?c4 ?c5 ?_);(case c3=>unfold maxLen;omega);(case c4=>have:=ih.lt;omega);(case c5=>have:=ih.lt;omega);intro v' g f m _;have dn:=R.bT m;have hB:¬(VF a out.length c).ownBlock=some eb:=fun e=>absurd ((aR.aJ c0 e).eH ih) ae;obtain⟨c6,am,rfl⟩:=bG f;have D:=dn.T n hB;have F:=dn.aE n i.2 hB;have hs:=(j.T dn hB).set 14 (.slice c6 (out.length+s.size) am);rw[Wi]at hs;have B:∀b,(VF c6 (out.length+s.size) am).ownBlock=some b->¬b=eb:=fun b e d=>by{subst d;exact absurd ((aR.aJ f e).eH (ih.T dn hB)) ae};have oD:=ax f (ah g eb 14 (.slice c6 (out.length+s.size) am)) B;have a9:out.length+s.size=(out++s.data.toList).length:=aK;have d:VP out++Lib.strCells s=VP (out++s.data.toList):=by{rw[Lib.strCells_eq,V8]};have q:Hid (Ed (g.s eb 14 (.slice c6 (out.length+s.size) am)) eb l (out++s.data.toList)):=by{rw[a9,d]at oD;rw[a9]at hs;exact RT};have r:Hid (R (fun b=>b=eb\/(aR w b 5/\eb<=b)) w (g.s eb 14 (.slice c6 (out.length+s.size) am))):=by{refine R.setCell (p:=⟨eb,14,none⟩) (av.trans dn (fun _ e=>VI e) (fun b a5 e=>?_)) (fun _=>VI rfl) _;by_cases rS:b=eb;{exact VI rS};{obtain⟨bI,tR,hC⟩:=aR.aJ c0 e;exact Na}};clear a9 d hs oD f m dn;go_wp2;go_ret2;exact⟨⟨_,rfl⟩,q,r⟩
theorem xY(eb w)(s:eb<=w.heap.size)(a c out)(g:w.ownsRow eb 5 1 (.slice a out.length c) out.length (VP out))(y:out.length<=100000000000):aO 167 #[.slice a out.length c,.int .i32 10] w fun e j=>∃d f,e=.returned (.slice d (out.length+1) f)/\j.ownsRow eb 5 1 (.slice d (out.length+1) f) (out.length+1) (VP (out++[10]))/\R (fun b=>(VF a out.length c).ownBlock=some b) w j:=by have⟨i0,m,o,p,q⟩:=info_parts DW;have i:aG w (w.alloc (.cells #[.int .u8 10] 5)):=(R.refl _ w).alloc _;have k:=gp g i;go_enter func167,ntmps167;go_wp2_with (at_builtin;refine OZ m o p q k (heap_alloc_new w (.cells #[.int .u8 10] 5)) (w.heap.size+1) aK ?_;intro r cD B n l x z);go_ret;exact⟨_,_,rfl,by rw[V8];exact n,i.t (R.bT l)⟩
theorem sw(eb w l out)(h:Ed w eb l out)(r:out.length<=100000000000):aO 139 #[.pointer (some ⟨eb,13,none⟩),.int .i32 10] w fun e m=>(∃v,e=.returned v)/\Ed m eb l (out++[10])/\R (fun b=>b=eb\/(aR w b 5/\eb<=b)) w m:=by have bs:=h.len;go_enter func139,ntmps139;go_wp21;refine(pP eb w l out h).k fun x ⟨⟨a,c,i,c0⟩,av,c4,ih⟩=>?_;have g:=i 14 (.slice a out.length c) (by rw[VK aU]);have j:=g.1;go_wp21;refine(xY eb x (Nat.le_of_lt ih.lt) a c out c0 r).mono ?_;rintro e f ⟨c6,am,rfl,d,dn⟩;have hB:¬(VF a out.length c).ownBlock=some eb:=fun e=>absurd ((aR.aJ c0 e).eH ih) ae;have y:=dn.T j hB;have z:=dn.aE j g.2 hB;have hs:=(i.T dn hB).set 14 (.slice c6 (out.length+1) am);rw[Wi]at hs;have t:∀b,(VF c6 (out.length+1) am).ownBlock=some b->¬b=eb:=fun b e q=>by{subst q;exact absurd ((aR.aJ d e).eH (ih.T dn hB)) ae};have oD:=ax d (ah f eb 14 (.slice c6 (out.length+1) am)) t;have a9:out.length+1=(out++[(10:UInt8)]).length:=aK;have n:Hid (Ed (f.s eb 14 (.slice c6 (out.length+1) am)) eb l (out++[10])):=by{rw[a9]at oD hs;exact RT};have o:Hid (R (fun b=>b=eb\/(aR w b 5/\eb<=b)) w (f.s eb 14 (.slice c6 (out.length+1) am))):=by{refine R.setCell (p:=⟨eb,14,none⟩) (av.trans dn (fun _ e=>VI e) (fun b a5 e=>?_)) (fun _=>VI rfl) _;by_cases rS:b=eb;{omega};{have⟨bI,tR,hC⟩:=aR.aJ c0 e;exact Na}};clear a9 hs oD d dn;go_wp2;go_ret2;exact⟨⟨_,rfl⟩,n,o⟩
theorem Oh(eb w l out)(h:Ed w eb l out)(r:l[15]? =some aB)(s)(F:out.length+s.size+1<=8000):aO 97 #[az eb,.string s] w fun e i=>(∃v,e=.returned v)/\Ed i eb l ((out++s.data.toList)++[10])/\R (fun b=>b=eb\/(aR w b 5/\eb<=b)) w i:=by go_enter func97,ntmps97;go_wp21;refine(eR eb w 0 ((h.get 15 E _ r).1)).mono ?_;rintro e y ⟨rfl,rfl⟩;go_wp21;refine(pX eb y l out h s E).mono ?_;rintro e z ⟨⟨v1,rfl⟩,q,t⟩;go_wp21;have j:(out++s.data.toList).length=out.length+s.size:=aK;have d:=Y j;refine(sw eb z l _ q (by rw[d.o];omega)).mono ?_;rintro e B ⟨⟨v2,rfl⟩,g,x⟩;have⟨p,a,c,m,C,D⟩:=g.cells;have f:=(m 14 _ (by rw[VK cr])).1;have k:((out++s.data.toList)++[(10:UInt8)]).length=out.length+s.size+1:=by{rw[VM,d.o];rfl};rw[k]at f;generalize out.length+s.size+1=n at*;go_wp21;refine(nQ eb n c a B f).mono ?_;rintro e G ⟨rfl,rfl⟩;go_wp2;go_end0;exact⟨⟨_,rfl⟩,g,rG h.aZ t x⟩
theorem Ed.eq{w eb l a out b}(h:Ed w eb l out)(c:l=a)(d:out=b):Ed w eb a b:=by subst c;subst d;exact h
theorem Eu(eb w l out a)(h:Ed w eb l out)(d:l[15]? =some (Z a))(f:a≠0)(s):aO 97 #[az eb,.string s] w fun e g=>(∃v,e=.returned v)/\g=w:=by have c:=bP f;have b:=eR eb w a ((h.get 15 E _ d).1);rw[c]at b;go_enter func97,ntmps97;go_wp21;refine b.kk ?_;go_wp2;refine bodyPost_ret (results_none rfl _ _ _) rfl ?_;exact⟨⟨_,rfl⟩,rfl⟩
theorem Kv(eb w l out)(h:Ed w eb l out)(i:l[15]? =some aB)(s)(H:out.length+s.size<=10000000000)(G:8000<out.length+s.size+1):aO 97 #[az eb,.string s] w fun e j=>(∃v,e=.returned v)/\Ed j eb (l.set 15 (Z 11)) ((out++s.data.toList)++[10])/\R (fun b=>b=eb\/(aR w b 5/\eb<=b)) w j:=by go_enter func97,ntmps97;go_wp21;refine(eR eb w 0 ((h.get 15 E _ i).1)).mono ?_;rintro e B ⟨rfl,rfl⟩;go_wp21;refine(pX eb B l out h s E).mono ?_;rintro e C ⟨⟨v1,rfl⟩,x,y⟩;go_wp21;have q:(out++s.data.toList).length=out.length+s.size:=aK;have f:=Y q;refine(sw eb C l _ x (by rw[f.o];omega)).mono ?_;rintro e k ⟨⟨v2,rfl⟩,d,z⟩;have⟨p,a,c,t,D,F⟩:=d.cells;have g:=(t 14 _ (by rw[VK cr])).1;have r:((out++s.data.toList)++[(10:UInt8)]).length=out.length+s.size+1:=by{rw[VM,f.o];rfl};rw[r]at g;have I:=d.get 15 E _ i;have m:Hid (Ed (k.s eb 15 (Z 11)) eb (l.set 15 (Z 11)) ((out++s.data.toList)++[10])):=d.set 15 E _;generalize out.length+s.size+1=n at*;go_wp21;refine(nQ eb n c a k g).mono ?_;rintro e L ⟨rfl,rfl⟩;go_wp2;go_end0;exact⟨⟨_,rfl⟩,m.o,(rG h.aZ y z).setCell (p:=⟨eb,15,none⟩) (fun _=>VI rfl) _⟩
def SK(a:Int)(out:List UInt8)(s:ByteArray):Int:=if a=0 then (if 8000<out.length+s.size+1 then 11 else 0)else a
def Ub(a:Int)(out:List UInt8)(s:ByteArray):List UInt8:=if a=0 then (out++s.data.toList)++[10]else out
theorem AT(eb w l out c)(h:Ed w eb l out)(d:l[15]? =some (Z c))(s)(n:out.length+s.size<=10000000000):aO 97 #[az eb,.string s] w fun e g=>(∃v,e=.returned v)/\Ed g eb (l.set 15 (Z (SK c out s))) (Ub c out s)/\R (fun b=>b=eb\/(aR w b 5/\eb<=b)) w g:=by have m:∀v,l[15]? =some v->l.set 15 v=l:=fun v o=>by{have⟨a,f⟩:=List.getElem?_eq_some_iff.1 o;rw[<-f];exact List.set_getElem_self a};by_cases i:c=0;{subst i;by_cases k:8000<out.length+s.size+1;{refine(Kv eb w l out h d s n k).mono ?_;rintro e g ⟨a,f,j⟩;exact⟨a,f.eq (by unfold SK;rw[if_pos rfl,if_pos k]) rfl,j⟩};{refine(Oh eb w l out h d s E).mono ?_;rintro e g ⟨a,f,j⟩;exact⟨a,f.eq (by unfold SK;rw[if_pos rfl,if_neg k];exact(m _ d).symm) rfl,j⟩}};{refine(Eu eb w l out c h d i s).mono ?_;rintro e g ⟨a,rfl⟩;exact⟨a,h.eq (by unfold SK;rw[if_neg i];exact(m _ d).symm) (by unfold Ub;rw[if_neg i]),R.refl _ _⟩}
theorem Ls(w s)(k:s.size<=1000000):∃c b,(convert 9 103 (.string s)).run prog w=.ok (bJ w.heap.size (A.bL s).length c) b/\b.ownsRow w.heap.size 21 1 (bJ w.heap.size (A.bL s).length c) (A.bL s).length ((A.bL s).map (.int .i32))/\aG w b:=by have a:=qU s;have j:=og s;have f:=run_runes_of_string (P:=prog) w 9 103 21 s underlying9 underlying103 underlying21 E;have d:=grownCap_ge w (Conv.runesFrom s s.size 0 #[]).size 0 21;have g:=grownCap_le_maxLen w (Conv.runesFrom s s.size 0 #[]).size 0 21 (by rw[a];unfold maxLen;omega);generalize i:grownCap w (Conv.runesFrom s s.size 0 #[]).size 0 21=cD at*;rw[a]at f d;refine⟨cD,_,f,⟨by rw[VV,Wu],VL ⟨w.heap.size,cD,_,rfl,VH _,by rw[<-a];exact(heap_alloc_new w.drew (.cells (Conv.runesFrom s s.size 0 #[]++Ww (cD-(Conv.runesFrom s s.size 0 #[]).size) (.int .i32 0)) 21)),d,g,?_,?_⟩⟩,((R.refl _ w).drew).alloc _⟩;{simp_all};{rw[Array.toList_append,nH,Wu,List.take_left' aK]}
namespace A
structure Fx where
 cv:Value
 q:Bool
 la:Option Addr
 lc:Nat
 aT:List ByteArray
 ov:Value
 lo:Nat
end A
def sW(w:World)(eb:Nat)(b:Option Addr)(a:List ByteArray):Prop:=a= []\/∃lb,b=some ⟨lb,0,none⟩/\lb<eb/\lb<w.heap.size/\∀k (c:k<a.length),w.cell? ⟨lb,k,none⟩=some (.string a[k])
theorem sW.T{S w g eb c d}(h:sW w eb c d)(f:R S w g)(m:∀b,b<eb->¬S b):sW g eb c d:=by rcases h with h |⟨lb,e,a,i,j⟩;{exact VI h};{exact VL ⟨lb,e,a,Nat.lt_of_lt_of_le i f.size,fun k l=>f.T (j k l) (m lb a)⟩}
def sX(w:World)(eb:Nat)(X:A.Fx)(l:List Bool):Prop:=l= []\/∃ob c,X.ov=.slice (some ⟨ob,0,none⟩) l.length c/\ob<eb/\X.lo<=ob/\aR w ob 4/\∀k b,l[k]? =some b->w.cell? ⟨ob,k,none⟩=some (.bool b)/\w.frozen? ⟨ob,k,none⟩=false
theorem sX.T{S w j eb X l}(h:sX w eb X l)(i:R S w j)(g:∀b,b<eb->¬S b):sX j eb X l:=by rcases h with h |⟨ob,c,e,a,m,n,d⟩;{exact VI h};{exact VL ⟨ob,c,e,a,m,n.T i (g ob a),fun k b f=>⟨i.T (d k b f).1 (g ob a),i.aE (d k b f).1 (d k b f).2 (g ob a)⟩⟩}
end
section
end
section
open Go.RowKit
namespace A
end A
theorem Qh{w aq b a n c d}(h:w.ownsRow aq b 1 (.slice a n c) n d)(f:0<n):∃g,a=some ⟨g,0,none⟩/\aq<=g/\aR w g b/\∀k v,d[k]? =some v->w.cell? ⟨g,k,none⟩=some v:=by exact Q4
end
section
end
section
open Go.RowKit
structure Ur(w:World)(g o:Nat)(c:fZ):Prop where
 ag:w.cell? ⟨g,o,none⟩=some (.int .i32 c.ag)
 bN:∃aa ac,w.cell? ⟨g,o+1,none⟩=some (.slice aa c.bN.length ac)
 neg:w.cell? ⟨g,o+2,none⟩=some (.bool c.neg)
 text:w.cell? ⟨g,o+3,none⟩=some (.string ⟨c.text.toArray⟩)
theorem SD(eb g n cD at_ w)(f:w.c eb 0=some (bJ g n cD))(j:at_<n)(k:n<=500)(a b)(i:w.c g (at_*14+1)=some (.slice a 0 b)):aO 95 #[az eb,Z at_] w fun e d=>e=.returned (.bool true)/\d=w:=by go_enter func95,ntmps95;go_wp2;go_ret;exact⟨rfl,rfl⟩
end
section
end
section
open Go.RowKit
theorem En{a w c eb S}(h:aG a w)(f:R S w c)(g:a.heap.size<=eb)(d:∀b,S b->eb<=b):aG a c:=
 h.trans f (fun _ e=>e) (fun b i e=>by have:=d b e;omega)
end
section
namespace Rm
structure It where
 aF:Int
 cP:List Int
 neg:Bool
 fO:Int
 bF:Int
end Rm
namespace Rr
structure RA where
 aF:Int:=0
 n:Int:=0
 ys:List Rm.It:= []
 af:Nat:=0
structure RC where
 a:RA:={}
 b:RA:={}
 neg:Bool:=false
 ag:Int:=0
 text:List Int:= []
 ys:List Rm.It:= []
 af:Nat:=0
 fL:List Int:= []
 all:Bool:=false
 ay:Bool:=false
 dc:Int:=0
 iY:List Int:= []
 cG:List Int:= []
 dx:Nat:=0
 next:Nat:=0
end Rr
namespace Rm
def nU:List Int->Bool->Int->Bool
 |a::b::t,neg,c=>if a<=c/\c<=b then !neg else nU t neg c
 |_,neg,_=>neg
def lK(y:It):List Int->Nat
 |[]=>0
 |c::t=>if nU y.cP y.neg c then lK y t+1 else 0
def gu(y:It)(sp:List Int)(p:Nat):Nat:=if y.fO=49\/y.fO=63 then min 1 (lK y (sp.drop p))else lK y (sp.drop p)
def kQ(y:It):Nat:=if y.fO=42\/y.fO=63 then 0 else 1
def j8(sp:List Int):List It->Nat->Bool
 |[],_=>true
 |y::ys,p=>
  if y.aF=94 then (p==0) && j8 sp ys p
  else if y.aF=36 then (p==sp.length) && j8 sp ys p
  else if y.aF≠120 then j8 sp ys p
  else (WA (gu y sp p+1)).any fun k=>decide (kQ y<=k) && j8 sp ys (p+k)
def ji(B:Nat->Bool)(t:Nat):Nat->Nat
 |0=>0
 |k+1=>if B (t+(k+1))then k+1 else ji B t k
theorem ri(B t):∀m,ji B t m<=m
 |0=>VH _
 |m+1=>by
  unfold ji;split
  ·omega
  ·exact Wl (ri B t m)
theorem xE(B t k):∀m,k<=m->B (t+k)=true->B (t+ji B t m)=true/\k<=ji B t m
 |0,h,hb=>by
  have:k=0:=E;subst this;exact⟨hb,VH _⟩
 |m+1,h,hb=>by
  unfold ji;by_cases e:B (t+(m+1))=true
  ·simp_all
  ·rw[if_neg e]
   have a:k<=m:=by
    grind
   exact xE B t k m a hb
theorem uP(B t):∀m,ji B t (m+1)=if B (t+1+ji B (t+1) m)then ji B (t+1) m+1 else 0
 |0=>by
  rfl
 |m+1=>by
  show(if B (t+(m+1+1))then m+1+1 else ji B t (m+1))=if B (t+1+(if B (t+1+(m+1))then m+1 else ji B (t+1) m))then (if B (t+1+(m+1))then m+1 else ji B (t+1) m)+1 else 0
  have e:t+(m+1+1)=t+1+(m+1):=E;rw[e];by_cases h:B (t+1+(m+1))=true
  ·simp_all
  ·rw[if_neg h,if_neg h,uP B t m]
def R8(b:Int->Prop)(a:gq)(y:It):Prop:=
 (a.aF=0/\y.aF=94)\/(a.aF=1/\y.aF=36)\/(a.aF=2/\y.aF=40/\a.bF=y.bF)\/(a.aF=3/\y.aF=41/\a.bF=y.bF)\/
 ((a.aF=4\/a.aF=5\/a.aF=6)/\y.aF=120/\(∀r,b r->kL a r=nU y.cP y.neg r)/\((a.ck=0/\y.fO=49)\/(a.ck=1/\y.fO=42)\/(a.ck=2/\y.fO=43)\/(a.ck=3/\y.fO=63)))
theorem wT{b}(h:b.aF=4\/b.aF=5\/b.aF=6)(a n):cd b a n=(b.ck==1 || b.ck==3):=by unfold cd;rcases h with h|h|h <;> rw[h] <;> rfl
theorem Kg{y sp t}(h:sp.length<=t):gu y sp t=0:=by unfold gu;rw[VR h];unfold lK;split <;> rfl
theorem EH{y}{sp:List Int}{t}(h:t<sp.length):lK y (sp.drop t)=if nU y.cP y.neg (sp.getD t 0)then lK y (sp.drop (t+1))+1 else 0:=by rw[VN h];have:sp.getD t 0=sp[t]:=by{simp[h]};rw[this];rfl
theorem LY(G:Int->Prop)(a:gq)(y:It)(sp:List Int)(U:∀t,t<sp.length->G (sp.getD t 0))(f:a.aF=4\/a.aF=5\/a.aF=6)(X:∀r,G r->kL a r=nU y.cP y.neg r)
 (bv:(a.ck=0/\y.fO=49)\/(a.ck=1/\y.fO=42)\/(a.ck=2/\y.fO=43)\/(a.ck=3/\y.fO=63)) (e b:Nat->Int)
 (a1:∀t,t<sp.length->e t=fi a (some (sp.getD t 0)) t sp.length (e (t+1)) (b (t+1)) (b t)) (W:e sp.length=fi a none sp.length sp.length 0 0 (b sp.length)):
 ∀d t,t+d=sp.length->(e t≠ -1↔∃k,kQ y<=k/\k<=gu y sp t/\(b (t+k) != -1)=true)/\(e t≠ -1->e t=((t+ji (fun p=>b p != -1) t (gu y sp t):Nat):Int))
 |0,t,h=>by
  have ac:t=sp.length:=E;subst ac;rw[W,Kg (VH _)];unfold fi;simp only[wT f]
  have kb:∀c:Bool,(if (c && b sp.length != -1)=true then (sp.length:Int)else -1)≠ -1↔(c=true/\(b sp.length != -1)=true):=by
   simp
  exact QQ
 |d+1,t,h=>by
  have O:t<sp.length:=E;obtain⟨x,a2⟩:=LY G a y sp U f X bv e b a1 W d (t+1) E;rw[a1 t O];have l:=EH (y:=y) O;have ad:=X _ (U t O);unfold fi;simp only[wT f];rw[ad]
  cases a0:nU y.cP y.neg (sp.getD t 0)with
  |false=>
   rw[a0]at l
   have a9:gu y sp t=0:=by
    unfold gu;rw[l];split <;> rfl
   rw[a9];simp only[VE,if_false]
   have kb:∀c:Bool,(if (c && b t != -1)=true then (t:Int)else -1)≠ -1↔(c=true/\(b t != -1)=true):=by
    simp
   exact QQ
  |true=>
   rw[a0,if_pos rfl]at l;simp only[if_true];have aa:eV a=(a.ck==1 || a.ck==2):=rfl;rw[aa]
   rcases bv with ⟨dS,c6⟩ |⟨dS,c6⟩ |⟨dS,c6⟩ |⟨dS,c6⟩
   ·have i:gu y sp t=1:=by unfold gu;rw[if_pos (VI c6),l];omega
    have F:kQ y=1:=Cm;rw[dS,i,F];have n:((0:Int)==1 || (0:Int)==2)=false:=rfl;have q:((0:Int)==1 || (0:Int)==3)=false:=rfl;rw[n,q];simp only[V9,VE,if_false]
    cases g:(b (t+1) != -1)with
    |true=>
     simp only[if_true];refine⟨⟨fun _=>⟨1,VH _,VH _,g⟩,fun _=>by omega⟩,fun _=>?_⟩;have:ji (fun p=>b p != -1) t 1=1:=by show(if (b (t+(0+1)) != -1)=true then 0+1 else 0)=1;rw[if_pos g]
     rw[this];rfl
    |false=>
     simp only[VE,if_false];refine⟨⟨fun h=>absurd rfl h,fun⟨k,o,a4,ab⟩=>?_⟩,fun h=>absurd rfl h⟩;have:k=1:=E;subst this;rw[g]at ab;cases ab
   ·have i:gu y sp t=gu y sp (t+1)+1:=by
     unfold gu;rw[if_neg E,if_neg E,l]
    have D:kQ y=0:=Cm;rw[D]at x;rw[dS,i,D];have n:((1:Int)==1 || (1:Int)==2)=true:=rfl;have q:((1:Int)==1 || (1:Int)==3)=true:=rfl;rw[n,q];simp only[Wg];rw[uP];generalize gu y sp (t+1)=m at*
    cases B:(e (t+1) != -1)with
    |true=>
     have j:e (t+1)≠ -1:=bS B;obtain⟨k,am,P,C⟩:=x.1 j;have hd:=xE (fun p=>b p != -1) (t+1) k m P C;have H:=a2 j;simp only[if_true];rw[if_pos hd.1];refine⟨⟨fun _=>⟨k+1,VX _,E,by rw[<-C];congr 2;omega⟩,fun _=>j⟩,fun _=>?_⟩;rw[H];congr 1;omega
    |false=>
     have M:e (t+1)= -1:=bS B
     have s:∀k,k<=m->(b (t+1+k) != -1)=false:=fun k f=>by
      cases L:(b (t+1+k) != -1)with
      |false=>rfl
      |true=>exact absurd M (x.2 ⟨k,VX _,f,L⟩)
     have g:=s 0 (VX _);simp only[VE,if_false,g];have a6:(b (t+1+ji (fun p=>b p != -1) (t+1) m) != -1)=false:=s _ (ri _ _ _);rw[a6];simp only[VE,if_false]
     cases o3:(b t != -1)with
     |true=>
      exact Mr
     |false=>
      simp only[VE,if_false];refine⟨⟨fun h=>absurd rfl h,fun⟨k,o,a4,ab⟩=>?_⟩,fun h=>absurd rfl h⟩
      cases k with
      |zero=>rw [Nat.add_zero,o3]at ab;cases ab
      |succ k=>
       have:=s k E;have I:t+1+k=t+(k+1):=E;rw[I,ab]at this;cases this
   ·have i:gu y sp t=gu y sp (t+1)+1:=by
     unfold gu;rw[if_neg E,if_neg E,l]
    have F:kQ y=1:=Cm;rw[F]at x;rw[dS,i,F];have n:((2:Int)==1 || (2:Int)==2)=true:=rfl;have q:((2:Int)==1 || (2:Int)==3)=false:=rfl;rw[n,q];simp only[Wg,V9,VE,if_false];rw[uP];generalize gu y sp (t+1)=m at*
    cases B:(e (t+1) != -1)with
    |true=>
     have j:e (t+1)≠ -1:=bS B;obtain⟨k,am,P,C⟩:=x.1 j;have hd:=xE (fun p=>b p != -1) (t+1) k m P C;have H:=a2 j;simp only[if_true];rw[if_pos hd.1];refine⟨⟨fun _=>⟨k+1,E,E,by rw[<-C];congr 2;omega⟩,fun _=>j⟩,fun _=>?_⟩;rw[H];congr 1;omega
    |false=>
     have M:e (t+1)= -1:=bS B
     have s:∀k,1<=k->k<=m->(b (t+1+k) != -1)=false:=fun k N f=>by
      cases L:(b (t+1+k) != -1)with
      |false=>rfl
      |true=>exact absurd M (x.2 ⟨k,N,f,L⟩)
     have a7:ji (fun p=>b p != -1) (t+1) m=0:=by
      have an:=ri (fun p=>b p != -1) (t+1) m;by_cases S:ji (fun p=>b p != -1) (t+1) m=0
      ·exact S
      ·exfalso
       have a3:∀z,z<=m->ji (fun p=>b p != -1) (t+1) z=0:=by
        intro z
        induction z with
        |zero=>intro _;rfl
        |succ z al=>
         intro a8;unfold ji;rw[if_neg (by rw[s (z+1) E a8];exact Bool.false_ne_true)];exact al E
       exact S (a3 m (VH _))
     simp only[VE,if_false];rw[a7]
     cases g:(b (t+1) != -1)with
     |true=>
      simp only[if_true];exact⟨⟨fun _=>⟨1,VH _,E,g⟩,fun _=>by omega⟩,fun _=>rfl⟩
     |false=>
      simp only[VE,if_false];refine⟨⟨fun h=>absurd rfl h,fun⟨k,o,a4,ab⟩=>?_⟩,fun h=>absurd rfl h⟩;by_cases N:k=1
      ·subst N;rw[g]at ab;cases ab
      ·have:=s (k-1) E E
       have I:t+1+(k-1)=t+k:=E;rw[I,ab]at this;cases this
   ·have i:gu y sp t=1:=by unfold gu;rw[if_pos (VL c6),l];omega
    have D:kQ y=0:=Cm;rw[dS,i,D];have n:((3:Int)==1 || (3:Int)==2)=false:=rfl;have q:((3:Int)==1 || (3:Int)==3)=true:=rfl;rw[n,q];simp only[Wg,V9,VE,if_false];have a5:ji (fun p=>b p != -1) t 1=if (b (t+1) != -1)=true then 1 else 0:=rfl
    rw[a5]
    cases g:(b (t+1) != -1)with
    |true=>
     simp only[if_true];exact⟨⟨fun _=>⟨1,VX _,VH _,g⟩,fun _=>by omega⟩,fun _=>rfl⟩
    |false=>
     simp only[VE,if_false]
     cases o3:(b t != -1)with
     |true=>
      exact Mr
     |false=>
      simp only[VE,if_false];refine⟨⟨fun h=>absurd rfl h,fun⟨k,o,a4,ab⟩=>?_⟩,fun h=>absurd rfl h⟩;have f:k=0\/k=1:=E
      rcases f with f|f
      ·subst f;rw[Nat.add_zero,o3]at ab;cases ab
      ·subst f;rw[g]at ab;cases ab
end Rm
namespace Rm
structure nN(V:Int->Prop)(xs:List gq)(ys:List It):Prop where
 len:xs.length=ys.length
 my:∀(i:Nat) (h:i<xs.length) (h':i<ys.length),R8 V xs[i] ys[i]
theorem Hu{a}(h:a.aF=0\/a.aF=1\/a.aF=2\/a.aF=3)(r):kL a r=false:=by unfold kL;rcases h with h|h|h|h <;> rw[h] <;> rfl
theorem oK{b}(h:b.aF=0\/b.aF=1\/b.aF=2\/b.aF=3)(d a n g f c):fi b d a n g f c=if cd b a n && c != -1 then a else -1:=by unfold fi;cases d with|none=>rfl|some r=>simp only [Hu h r,VE,if_false]
theorem DI(sp a i t)(b:i<a.length)(d:t<=sp.length)(h:a[i].aF=0\/a[i].aF=1\/a[i].aF=2\/a[i].aF=3):gO sp a i t=if cd a[i] t sp.length && gO sp a (i+1) t != -1 then (t:Int)else -1:=by by_cases c:t<sp.length;{rw[F7 sp a i t b c,oK h]};{have:t=sp.length:=E;subst this;rw[F6 sp a i b,oK h]}
theorem QH(c)(t:Nat):(if c=true then (t:Int)else -1)≠ -1↔c=true:=by simp
theorem mw(sp y ys p):j8 sp (y::ys) p=if y.aF=94 then (p==0) && j8 sp ys p else if y.aF=36 then (p==sp.length) && j8 sp ys p else if y.aF≠120 then j8 sp ys p else (WA (gu y sp p+1)).any fun k=>decide (kQ y<=k) && j8 sp ys (p+k):=rfl
theorem xB(n sp)(F:∀t,t<sp.length->n (sp.getD t 0))(a ys)(j:nN n a ys):∀d i,i+d=a.length->
 (∀t,t<=sp.length->(gO sp a i t≠ -1↔j8 sp (ys.drop i) t=true))/\
 (∀(h:i<ys.length) (t:Nat),t<=sp.length->gO sp a i t≠ -1->gO sp a i t=((if ys[i].aF=120 then t+ji (j8 sp (ys.drop (i+1))) t (gu ys[i] sp t)else t:Nat):Int))
 |0,i,h=>by
  have f:i=a.length:=E;subst f;refine⟨fun t b=>?_,fun C=>bV j.len⟩;rw[DH sp a t b,VR (by rw[j.len];exact VH _)];unfold j8;simp
 |d+1,i,h=>by
  have f:i<a.length:=E;have G:i<ys.length:=by rw[<-j.len];exact f
  obtain⟨I,_⟩:=xB n sp F a ys j d (i+1) E;have a0:=j.my i f G
  have r:∀t,t<=sp.length->(gO sp a (i+1) t != -1)=j8 sp (ys.drop (i+1)) t:=fun t b=>by
   cases P:j8 sp (ys.drop (i+1)) t with
   |true=>have:=(I t b).2 P;simpa using this
   |false=>
    cases W:(gO sp a (i+1) t != -1)with
    |false=>rfl
    |true=>exact absurd ((I t b).1 (bS W)) aU
  rw[(VN G)]
  have x:∀(z:a[i].aF=0\/a[i].aF=1\/a[i].aF=2\/a[i].aF=3) (H:ys[i].aF≠120),(∀t,t<=sp.length->j8 sp (ys[i]::ys.drop (i+1)) t=(cd a[i] t sp.length && j8 sp (ys.drop (i+1)) t))->
   (∀t,t<=sp.length->(gO sp a i t≠ -1↔j8 sp (ys[i]::ys.drop (i+1)) t=true))/\(∀(h:i<ys.length) (t:Nat),t<=sp.length->gO sp a i t≠ -1->gO sp a i t=((if ys[i].aF=120 then t+ji (j8 sp (ys.drop (i+1))) t (gu ys[i] sp t)else t:Nat):Int)):=by
   intro z H S;refine⟨fun t b=>?_,fun C t b s=>?_⟩
   ·rw[DI sp a i t f b z,QH,r t b,S t b]
   ·rw[if_neg H]
    rw[DI sp a i t f b z]at s ⊢;rw[if_pos ((QH _ _).1 s)]
  rcases a0 with ⟨b1,g⟩ |⟨b1,g⟩ |⟨b1,g,_⟩ |⟨b1,g,_⟩ |⟨b1,g,a3,a4⟩
  ·refine x (VI b1) E (fun t b=>?_)
   unfold cd;rw[mw,if_pos g,b1];have:((t:Int)==0)=(t==0):=by cases t <;> rfl
   simp only[this,beq_self_eq_true,if_true]
  ·refine x (VL (VI b1)) E (fun t b=>?_)
   unfold cd;rw[mw,if_neg E,if_pos g,b1]
   have:((t:Int)==(sp.length:Int))=(t==sp.length):=by
    by_cases e:t=sp.length
    ·subst e;simp
    ·have N:¬(t:Int)=(sp.length:Int):=E
     rw[beq_eq_false_iff_ne.2 N,beq_eq_false_iff_ne.2 e]
   have q:((1:Int)==0)=false:=rfl;simp only[this,q,VE,beq_self_eq_true,if_true,if_false]
  ·refine x (VL (VL (VI b1))) E (fun t b=>?_)
   exact Nf
  ·refine x (VL (VL (VL b1))) E (fun t b=>?_)
   exact Nf
  ·have key:=LY n a[i] ys[i] sp F b1 a3 a4 (gO sp a i) (gO sp a (i+1)) (fun t b=>F7 sp a i t f b) (F6 sp a i f)
   have X:∀l:List Int,lK ys[i] l<=l.length:=by
    intro l
    induction l with
    |nil=>exact VH _
    |cons c l a1=>
     unfold lK;split
     ·exact Nat.succ_le_succ a1
     ·exact VX _
   have B:∀t,t<=sp.length->t+gu ys[i] sp t<=sp.length:=fun t b=>by
    have:=X (sp.drop t);rw[List.length_drop]at this;unfold gu;split <;> omega
   have U:∀t m,t+m<=sp.length->ji (fun p=>gO sp a (i+1) p != -1) t m=ji (j8 sp (ys.drop (i+1))) t m:=by
    intro t m
    induction m with
    |zero=>intro _;rfl
    |succ m a2=>
     intro a6;unfold ji;rw[r (t+(m+1)) E,a2 E]
   refine⟨fun t b=>?_,fun C t b s=>?_⟩
   ·obtain⟨L,_⟩:=key (sp.length-t) t E
    rw[L,mw,if_neg E,if_neg E,if_neg E,List.any_eq_true];constructor
    ·rintro⟨k,y,o,D⟩
     have O:=B t b;refine⟨k,Wa.2 E,?_⟩;rw[r (t+k) E]at D;rw[D,decide_eq_true y];rfl
    ·rintro⟨k,y,o⟩
     have O:=B t b;have a5:=Wa.1 y;rw[VW,decide_eq_true_eq]at o;exact⟨k,o.1,E,by rw[r (t+k) E];exact o.2⟩
   ·obtain⟨_,M⟩:=key (sp.length-t) t E
    rw[if_pos g,M s,U t _ (B t b)]
def lT(y:It)(m:List Int)(p:Int):List Int:=if y.aF=40 then m.set (2*y.bF.toNat) p else if y.aF=41 then m.set (2*y.bF.toNat+1) p else m
def fw(sp:List Int):List It->List Int->Nat->List Int×Nat
 |[],m,p=>(m,p)
 |y::ys,m,p=>fw sp ys (lT y m p) (if y.aF=120 then p+ji (j8 sp ys) p (gu y sp p)else p)
theorem uC(m:List Int)(i k a):(m.set i a).take k=(m.take k).set i a:=by apply Wm;intro j;rw[V2,Wn,Wn,V2,List.length_take];by_cases b:j<k;{grind};{grind}
theorem NW{f d y}(h:R8 f d y)(m K p):lT y (m.take K) p=(A.mark d m p).take K:=by unfold lT A.mark;rcases h with ⟨a,b⟩ |⟨a,b⟩ |⟨a,b,c⟩ |⟨a,b,c⟩ |⟨a,b,c,g⟩;{simp_all};{simp_all};{rw[if_pos b,if_pos a,uC,c,Wo]};{rw[if_neg E,if_pos b,if_neg E,if_pos a,uC,c,Wo]};{grind}
theorem yq(c sp)(j:∀t,t<sp.length->c (sp.getD t 0))(a ys)(b:nN c a ys)(K):∀d i,i+d=a.length->∀(m:List Int) (p:Nat),p<=sp.length->gO sp a i p≠ -1->
 fw sp (ys.drop i) (m.take K) p=((kt (bY sp a) (a.drop i) i m p).1.take K,(kt (bY sp a) (a.drop i) i m p).2)
 |0,i,h,m,p,hpl,hne=>by
  rw[VR (by rw[<-b.len];omega),VR E]
  rfl
 |d+1,i,h,m,p,hpl,hne=>by
  have f:i<a.length:=E;have g:i<ys.length:=by rwa [<-b.len]
  have s:=(xB c sp j a ys b (d+1) i h).2 g p hpl hne;obtain⟨e,k,q,l,n⟩:=oF sp a i f p hpl hne;rw[VN g,VN f];simp only[fw,kt];rw[NW (b.my i f g) m K p];have r:((bY sp a).getD i []).getD p 0=gO sp a i p:=rfl
  have o:(((bY sp a).getD i []).getD p 0).toNat=(if ys[i].aF=120 then p+ji (j8 sp (ys.drop (i+1))) p (gu ys[i] sp p)else p):=by
   omega
  rw[<-o,k,VO];exact yq c sp j a ys b K d (i+1) E _ e l n
def jO(sp:List Int)(ys:List It):Nat->Nat->Option Nat
 |0,_=>none
 |n+1,p=>if j8 sp ys p then some p else jO sp ys n (p+1)
def jC(sp:List Int)(ys:List It)(af a:Nat):Option (List Int):=
 (jO sp ys (sp.length+1-a) a).map fun p=>(((fw sp ys (Wb (2*af+2) 0) p).1.set 0 p).set 1 (fw sp ys (Wb (2*af+2) 0) p).2)
theorem Ax(b sp)(f:∀t,t<sp.length->b (sp.getD t 0))(a ys)(g:nN b a ys):∀n p,p+n=sp.length+1->
 bD (eZ sp a) p=match jO sp ys n p with|some q=>(q:Int)|none=> -1
 |0,p,h=>by
  rw[lq _ _ Cn]
  rfl
 |n+1,p,h=>by
  have d:=(xB b sp f a ys g a.length 0 E).1 p E;rw[Wc]at d;unfold jO;by_cases c:j8 sp ys p=true
  ·rw[if_pos c,nB _ _ Cn (by rw[n7];exact d.2 c)]
  ·rw[if_neg c,mz _ _ Cn (by
    rw[n7];by_cases e:gO sp a 0 p= -1
    ·exact e
    ·exact absurd (d.1 e) c)]
   exact Ax b sp f a ys g n (p+1) E
theorem oO(sp ys):∀n p q,jO sp ys n p=some q->j8 sp ys q=true/\p<=q/\q<p+n
 |0,p,q,h=>by cases h
 |n+1,p,q,h=>by
  unfold jO at h;by_cases b:j8 sp ys p=true
  ·simp_all
  ·rw[if_neg b]at h
   have⟨a,c,d⟩:=oO sp ys n (p+1) q h;exact⟨a,E,E⟩
theorem AI(c sp)(d:∀t,t<sp.length->c (sp.getD t 0))(a ys)(f:nN c a ys)(af)(o:af<=9)(b)(n:b<=sp.length+1):jC sp ys af b=if bD (eZ sp a) b= -1 then none else some ((eF (bY sp a) a (bD (eZ sp a) b).toNat).take (2*af+2)):=by rw[Ax c sp d a ys f (sp.length+1-b) b E];unfold jC;cases j:jO sp ys (sp.length+1-b) b with|none=>rfl|some q=>have⟨k,l,m⟩:=oO sp ys _ _ _ j;have i:=((xB c sp d a ys f a.length 0 E).1 q E).2 aU;have g:=yq c sp d a ys f (2*af+2) a.length 0 E (Wb 20 0) q E i;rw[Wc,Wc,List.take_replicate,Nat.min_eq_left E]at g;simp only[Option.map_some];rw[if_neg E,g,VO];unfold eF;simp only;rw[uC,uC]
end Rm
namespace Rm
def fj(sp:List Int)(ys:List It)(af:Nat):Nat->Nat->Int->List (List Int)
 |0,_,_=>[]
 |k+1,from_,fE=>
  if from_<=sp.length then
   match jC sp ys af from_ with
   |none=>[]
   |some m=>if m.getD 0 0=m.getD 1 0/\m.getD 0 0=fE then fj sp ys af k ((m.getD 1 0).toNat+1) fE else m::fj sp ys af k (m.getD 1 0).toNat (m.getD 1 0)
  else []
theorem jy(m:List Int)(i k)(h:i<k):(m.take k).getD i 0=m.getD i 0:=by simp_all
theorem yj(c sp)(g:∀t,t<sp.length->c (sp.getD t 0))(a ys)(l:nN c a ys)(af)(j:af<=9):∀(k b:Nat) (fE:Int),b<=sp.length+1->
 fj sp ys af k b fE=(gI (eZ sp a) (eF (bY sp a) a) k (bD (eZ sp a) b) fE).map (fun m=>m.take (2*af+2))
 |0,b,fE,i=>rfl
 |k+1,b,fE,i=>by
  unfold fj gI;by_cases n:b<=sp.length
  ·rw[if_pos n,AI c sp g a ys l af j b i]
   rcases jX sp a b i with h |⟨p,o,x,q,r⟩
   ·rw[h,if_pos rfl,if_pos rfl]
    rfl
   ·rw[o,if_neg E,if_neg E,VO]
    have⟨d,s,y,z⟩:=yW sp a p q r;simp only;rw[jy _ 0 _ E,jy _ 1 _ E,(px (bY sp a) a p),s,VO];by_cases f:(p:Int)=(d:Int)/\(p:Int)=fE
    ·rw[if_pos f,if_pos f,yj c sp g a ys l af j k (d+1) fE E]
     have:d=p:=E;rw[this]
    ·rw[if_neg f,if_neg f,yj c sp g a ys l af j k d d E]
     rfl
  ·rw[if_neg n]
   have:bD (eZ sp a) b= -1:=lq _ _ Cn;rw[this,if_pos rfl]
   rfl
theorem vW(a sp)(c:∀t,t<sp.length->a (sp.getD t 0))(b ys)(f:nN a b ys)(af)(d:af<=9):
 fj sp ys af (2*sp.length+3) 0 (-1)=(dw sp b).map (fun m=>m.take (2*af+2)):=
 yj a sp c b ys f af d (2*sp.length+3) 0 (-1) (VX _)
end Rm
namespace Rm
def lR(sp m:List Int)(v:Int):List Int:=if -1-v<0 then [v]else nJ sp (m.getD (2*(-1-v).toNat) 0) (m.getD (2*(-1-v).toNat+1) 0)
def pN(sp m fL:List Int):List Int:=fL.flatMap (lR sp m)
def jF(sp:List Int)(dc:Int)(all:Bool)(fL:List Int):List (List Int)->Int->Nat->List Int->Bool->Nat×List Int×Bool
 |[],_,k,ch,f=>(k,ch,f)
 |m::ms,n,k,ch,f=>
  if n+1<dc\/(f=true/\all=false)then jF sp dc all fL ms (n+1) k ch f
  else jF sp dc all fL ms (n+1) (m.getD 1 0).toNat ((ch++nJ sp k (m.getD 0 0))++pN sp m fL) true
def lY(sp:List Int)(ys:List It)(af:Nat)(dc:Int)(all:Bool)(fL:List Int):List Int×Bool:=
 let r:=jF sp dc all fL (fj sp ys af (2*sp.length+3) 0 (-1)) 0 0 [] false
 if r.2.2 then (r.2.1++sp.drop r.1,true)else (sp,false)
def uJ(af:Nat)(ps:List kj)(fL:List Int):Prop:=
 fL=ps.flatMap (fun p=>if p.aF=0 then A.bL ⟨p.text.toArray⟩else if p.aF=1 then [-1]else [-1-p.bF])/\
 ∀p∈ps,(p.aF=0/\∀r∈A.bL ⟨p.text.toArray⟩,0<=r)\/p.aF=1\/(p.aF=2/\1<=p.bF/\p.bF<=af)
theorem vE(sp m):∀l:List Int,(∀r∈l,0<=r)->l.flatMap (lR sp m)=l
 |[],_=>rfl
 |a::l,h=>by
  have c:=h a (Wh);rw[VT,vE sp m l (fun r b=>h r (Wd _ b))];unfold lR;rw[if_pos E]
  rfl
theorem rh(sp m)(af:Nat):∀(ps:List kj),(∀p∈ps,(p.aF=0/\∀r∈A.bL ⟨p.text.toArray⟩,0<=r)\/p.aF=1\/(p.aF=2/\1<=p.bF/\p.bF<=af))->
 dB sp m ps=pN sp (m.take (2*af+2)) (ps.flatMap (fun p=>if p.aF=0 then A.bL ⟨p.text.toArray⟩else if p.aF=1 then [-1]else [-1-p.bF]))
 |[],_=>rfl
 |p::ps,h=>by
  have f:=rh sp m af ps (fun q d=>h q (Wd _ d));unfold dB pN at*
  rw[VT,VT,VY,f];congr 1;unfold pT
  rcases h p (Wh)with ⟨a,c⟩|a |⟨a,c,g⟩
  ·rw[if_pos a,if_pos a,vE _ _ _ c]
  ·rw[if_neg E,if_pos a,if_neg E,if_pos a]
   unfold lR;simp only[VT,Wt,Wz];rw[if_neg ae];have b:2*(-1-(-1):Int).toNat=0:=rfl;rw[b,jy _ 0 _ E,jy _ 1 _ E]
  ·rw[if_neg E,if_neg E,if_pos a,if_neg E,if_neg E]
   unfold lR;simp only[VT,Wt,Wz];rw[if_neg E];have b:(-1-(-1-p.bF)).toNat=p.bF.toNat:=E;rw[b,jy _ _ _ E,jy _ _ _ E,Wo 2]
theorem vF(sp dc fL):∀(b:List (List Int)) (n:Int) (k:Nat) (a:List Int),jF sp dc false fL b n k a true=(k,a,true)
 |[],n,k,a=>rfl
 |m::b,n,k,a=>by
  unfold jF;rw[if_pos (VL ⟨rfl,rfl⟩)];exact vF sp dc fL b (n+1) k a
theorem sB(sp dc all ps fL af)(d:uJ af ps fL):∀(c:List (List Int)) (n:Int) (k:Nat) (b:List Int) (a:Bool),(a=true->all=true)->
 dU sp dc all ps c n k b a=jF sp dc all fL (c.map fun m=>m.take (2*af+2)) n k b a
 |[],n,k,b,a,hf=>rfl
 |m::c,n,k,b,a,hf=>by
  rw[List.map_cons];unfold dU jF;by_cases f:n+1<dc
  ·rw[if_pos f,if_pos (VI f)]
   exact sB sp dc all ps fL af d c (n+1) k b a hf
  ·have i:¬(n+1<dc\/(a=true/\all=false)):=by
    rintro(h |⟨j,l⟩)
    ·exact f h
    ·simp_all
   rw[if_neg f,if_neg i,jy _ 0 _ E,jy _ 1 _ E];have g:pN sp (m.take (2*af+2)) fL=dB sp m ps:=by rw[d.1];exact(rh sp m af ps d.2).symm
   rw[g]
   cases all with
   |true=>
    rw[if_pos rfl];exact sB sp dc true ps fL af d c (n+1) _ _ true (fun _=>rfl)
   |false=>
    rw[if_neg ae,vF]
theorem vx(a sp)(b:∀t,t<sp.length->a (sp.getD t 0))(c ys af)(f:af<=9)(g:nN a c.fk.aH ys)(fL)(d:uJ af c.cx fL):(lY sp ys af c.dc c.all fL).1=A.subst sp c/\(lY sp ys af c.dc c.all fL).2=(dU sp c.dc c.all c.cx (dw sp c.fk.aH) 0 0 [] false).2.2:=by unfold lY A.subst;simp only;rw[vW a sp b c.fk.aH ys g af f,<-sB sp c.dc c.all c.cx fL af d (dw sp c.fk.aH) 0 0 [] false (fun h=>by cases h)];cases i:(dU sp c.dc c.all c.cx (dw sp c.fk.aH) 0 0 [] false).2.2 with|true=>rw [if_pos rfl,if_pos rfl];exact⟨rfl,rfl⟩|false=>rw [if_neg ae,if_neg ae];exact⟨rfl,rfl⟩
end Rm
end
section
open Go.RowKit
theorem BR(s:ByteArray)(i):(s.extract i s.size).data.toList=s.data.toList.drop i:=by rw[ByteArray.data_extract,Array.toList_extract,List.extract_eq_take_drop];exact List.take_of_length_le aK
end
section
end
section
open Go.RowKit
structure Jk(w:World):Prop where
 f:w.cell? ⟨0,195,none⟩=some (.int .u8 2)
 r0:w.cell? ⟨1,0,none⟩=some (.int .u8 128)
 r1:w.cell? ⟨1,1,none⟩=some (.int .u8 191)
 m:∃m,w.cell? ⟨2,0,none⟩=some (.int .i64 m)
theorem Jk.T{w b}(h:Jk w)(a:aG w b):Jk b:=by have⟨m,c⟩:=h.m;exact⟨a.T h.f id,a.T h.r0 id,a.T h.r1 id,⟨m,a.T c id⟩⟩
theorem rI(eb w l out)(h:Ed w eb l out):aO 47 #[.pointer (some ⟨eb,13,none⟩)] w fun e S=>e=.returned (.string ⟨out.toArray⟩)/\R (fun b=>eb<=b) w S:=by have⟨p,a,c,F,X,s⟩:=h.cells;have a3:=h.len;have m:=(F 14 _ (by rw[VK aU])).1;by_cases t:out= [];{subst t;simp at m;have o:=m;have C:∃q i,(Builtin.unsafeSliceData_ #[64] 142 #[.slice a 0 c]).run prog w.drew=.ok (.pointer q) i/\i.c eb 14=some (.slice a 0 c)/\aG w i:=by{rcases s.2 with ⟨e,_⟩ |⟨g,cD,bI,z,_,x,a0,_,a6,_⟩;{injection e with d B f;subst d;subst f;exact⟨none,_,Lib.run_unsafeSliceData_nil _ _ _ _ _,o,(R.refl _ w).drew⟩};{injection z with d B f;subst d;subst f;by_cases D:c=0;{subst D;have y:w.drew.heap[g]? =some (.cells bI 5 (0,0)):=x;have:=Lib.run_unsafeSliceData_zero (P:=prog) w.drew #[64] 142 5 underlying142 ⟨g,0,none⟩ 0 (5,bI.size) (by simp[Wp,y]);have n:aG w (w.drew.alloc (.view ⟨g,0,none⟩ 5)):=((R.refl _ w).drew).alloc _;exact⟨_,_,this,n.T m id,n⟩};{exact⟨some ⟨g,0,none⟩,_,VZ _ _ _ _ _ _ D,o,(R.refl _ w).drew⟩}}};obtain⟨q,i,a5,W,n⟩:=C;have G:=Lib.run_unsafeString_none (P:=prog) i 142 3 9 q;go_enter func47,ntmps47;go_wp21;go_region;all_goals(go_wp2;go_ret;exact⟨rfl,n.mono (fun _ _ e=>e.elim)⟩)};{have I:out.length≠0:=bS t;obtain⟨g,cD,bI,z,O,x,a4,H,a1,a7⟩:∃g cD bI,VF a out.length c=bJ g out.length cD/\eb<=g/\w.heap[g]? =some (.cells bI 5 (0,0))/\out.length<=cD/\cD<=maxLen/\bI.size=cD*1/\bI.toList.take (out.length*1)=VP out:=by{rcases s.2 with ⟨_,a8⟩|r;{omega};{exact r}};injection z with d B f;subst d;subst f;have o:=m;have C:(Builtin.unsafeSliceData_ #[64] 142 #[bJ g out.length c]).run prog w.drew=.ok (az g) w.drew:= VZ _ _ _ _ _ _ E;have G:(Builtin.unsafeString_ #[142,3] 9 #[az g,Z out.length]).run prog w.drew=.ok (.string ⟨out.toArray⟩) (w.drew.freeze ⟨g,0,none⟩ out.length):=by{refine Lib.run_unsafeString_row w.drew 142 3 9 5 underlying142 bK g bI.size (by have y:w.drew.heap[g]? =some (.cells bI 5 (0,0)):=x;simp[Wp,y]) out t E (by unfold maxLen at H;omega) ?_;intro j U M;exact s.cells (g:=g) rfl j (.int .u8 U.toNat) (by simp[VP,M])};have N:R (·=g) w (w.drew.freeze ⟨g,0,none⟩ out.length):=by{unfold World.freeze;rw[if_neg I];exact⟨rfl,rfl,rfl,aK,fun k a2 L=>by simp only[Array.getElem?_modify];rw[if_neg (fun e=>L e.symm)];rfl⟩};go_enter func47,ntmps47;go_wp21;go_region;all_goals(go_wp2;go_ret;exact⟨rfl,N.mono (fun b _ e=>by subst e;exact O)⟩)}
end
section
end
section
open Go.RowKit
theorem Sf(u:World)(v0 v1 v2 v7):Ed (u.alloc (.cells #[v0,v1,v2,aB,aM,aM,aM,v7,.bool false,aB,.bool false,.bool false,aB,.pointer none,aM,aB] 108)) u.heap.size [v0,v1,v2,aB,aM,aM,aM,v7,.bool false,aB,.bool false,.bool false,aB,.pointer none,aM,aB] []:=by have a:=aX.cG u #[v0,v1,v2,aB,aM,aM,aM,v7,.bool false,aB,.bool false,.bool false,aB,.pointer none,aM,aB] 108;refine⟨⟨.pointer none,none,0,a,VI rfl,World.ownsRow_nil _ _ _ _⟩,?_,aR.cG _ _ _ _,rfl⟩;unfold Wp;rw[heap_alloc_new];rfl
end
section
end
section
open Go.RowKit
def Es(s:ByteArray):Nat->Nat->List Int
 |0,i=>[(i:Int)]
 |b+1,i=>if i<s.size then (i:Int)::Es s b (i+(Wv s i).2)else [(i:Int)]
def nY(s:ByteArray):List Int:=Es s s.size 0
def Jd(s:ByteArray)(L pl:List Int)(k:Nat):Bool:=
 decide (0<=aD pl k) && decide (0<=aD pl (k+1)) && decide ((aD pl k).toNat<s.size) && decide (((Wv s (aD pl k).toNat).1:Int)=aj L k) && decide ((aD pl k).toNat+(Wv s (aD pl k).toNat).2=(aD pl (k+1)).toNat) &&
 decide (0<=aj L k) && decide (aj L k<=1114111) && decide (aj L k≠65533) && Lib.validRune (aj L k)
def Pp(s:ByteArray)(L pl:List Int):Bool:=
 decide (pl.length=L.length+1) && decide (aD pl 0=0) && decide (aD pl L.length=s.size) && decide (s.size<=500) && decide (L.length<=500) && (WA L.length).all (Jd s L pl)
theorem Lt{s L pl}(h:Pp s L pl=true):U8 s L pl:=by simp only[Pp,VW,decide_eq_true_eq]at h;have⟨⟨⟨⟨⟨m,n⟩,o⟩,p⟩,q⟩,r⟩:=h;have a:∀k,k<L.length->Jd s L pl k=true:=fun k a=>List.all_eq_true.1 r k (Wa.2 a);refine⟨m,n,o,fun k b=>?_,p,q,fun k b=>?_⟩;{have:=a k b;simp only[Jd,VW,decide_eq_true_eq]at this;have⟨⟨⟨⟨⟨⟨⟨⟨t,x⟩,c⟩,d⟩,f⟩,_⟩,_⟩,_⟩,_⟩:=this;exact⟨(aD pl k).toNat,(aD pl (k+1)).toNat,E,E,c,d,f⟩};{have:=a k b;simp only[Jd,VW,decide_eq_true_eq]at this;have⟨⟨⟨⟨_,g⟩,i⟩,j⟩,l⟩:=this;exact⟨g,i,j,l⟩}
def tz(a:ByteArray):fZ:=
 match kq (A.bL a) (nY a) ⟨0,[],[],[]⟩with
 | .ok p=>p.au.headD {}
 | .error _=>{}
end
section
open Go.RowKit
attribute [local go_sem ↓] Go.wp_at_zero Go.wp_at_succ
def Df(g:CG)(pp n:Nat)(c:fZ)(i:Nat)(c':fZ)(d:Nat):Prop:=
 ∀(w:World) (cb:Nat) (at_:Int),dD g w i->fM g pp w->Ic pp w n->eP w cb c->
  Calls prog 103 #[.pointer (some ⟨pp,0,none⟩),.pointer (some ⟨cb,0,none⟩),.int .i64 at_] w fun e a=>e=.returned (.pointer none)/\eP a cb c'/\dD g a d/\R (fun b=>b=g.c\/b=cb) w a
def sx(g:CG)(pp:Nat)(i:Nat)(c:fZ)(l:Nat):Prop:=
 ∀(w:World),dD g w i->fM g pp w->
  Calls prog 100 #[.pointer (some ⟨pp,0,none⟩)] w fun e a=>∃b f j d k,e=.returned (.tuple #[.agg #[.int .i32 c.ag,b,.bool c.neg,.string ⟨c.text.toArray⟩,.string ⟨c.name.toArray⟩,.int .i64 c.cM,f,.int .i64 c.fk.af,j,.bool c.all,.bool c.ay,.int .i64 c.dc,d,k],.pointer none])/\Deep a c b f j d k/\dD g a l/\R (·=g.c) w a
theorem Pe(g pp n i c)(b:c.ag=115)(c' a)(j:cI g.L g.pl c i=.ok (c',a)):Df g pp n c i c' a:=fun w cb at_ h f k d=>
 Li g pp cb n w i at_ h f k c d b c' a j
theorem Pd(g pp n i c)(aa:aQ c.ag=some 0):Df g pp n c i c i:=fun w cb at_ h o d a=>by have⟨hc,r,g2⟩:=d.map;have⟨j,p,s,k,t,f,dd⟩:=a.ij;have q:=bC f 0;have l:∀m,(Instr.lookup 115 (.map (some hc)) (.int .i32 c.ag) false).run prog (w.drewN m)=.ok aB (w.drewN m):=fun m=>by{exact sk};generalize c.ag=x at*;go_enter func103,ntmps103;go_wp21;go_quiet (fail);go_wp2;go_ret;have b:R (·=g.c) w (w.drewN nq):=(R.refl _ w).drewN nq;exact⟨rfl,a.T b h.ct (a.aZ.ne h.tc ae),h.drewN nq,b.mono (fun _ _ e=>VI e)⟩
end
section
end
section
open Go.RowKit
def Hz(g:CG)(pp:Nat)(s d:A.Ps):Prop:=aj g.L s.i≠ -1/\
 ∀aq w,iP g pp aq w s->Calls prog 52 #[.pointer (some ⟨pp,0,none⟩)] w fun e a=>e=.returned (.pointer none)/\iP g pp aq a d/\R (fun b=>b=g.c\/b=pp\/aq<=b+1) w a
theorem LJ(g pp s r)(b:aj g.L s.i=r)(h:bU r=true\/(bU r=false/\(r=10\/r=59))):Hz g pp s {s with i:=s.i+1}:=by have f:r≠ -1:=by{rcases h with h |⟨_,h⟩;{intro e;subst e;simp[bU]at h};{omega}};have ad:s.i<g.L.length:=cJ E;refine⟨E,fun aq w bl=>?_⟩;have j:=bl.dp.iU;have gN:=Y b;rcases h with h |⟨h,a⟩;{have n9:=Y h;exact QU};{have n9:=Y h;have d:((r==10)=true)\/((r==10)=false/\(r==59)=true):=by{grind};have c:=a;rcases c with e|e;all_goals(subst e;exact QU)}
theorem LI(g pp s f r)(C:aj g.L s.i=r)(z:bU r=false)(p:r≠10)(y:r≠59)(q:r≠125)(I:r≠ -1)(B:∀aq w,iP g pp aq w s->aO 77 #[az pp] w fun e j=>e=.returned (.pointer none)/\iP g pp aq j f/\R (fun b=>b=g.c\/b=pp\/aq<=b+1) w j):Hz g pp s f:=by refine⟨E,fun aq w a=>?_⟩;have M:=a.dp.iU;have m:=Y C;have l:=Y z;have F:=bP p;have G:=bP y;have H:=bP q;go_enter func52,ntmps52;go_wp21;refine(aL g w s.i a.bI).kd fun n=>?_;rw[m.o];go_wp21;refine(fx _ _).kk ?_;rw[l.o];go_wp21;have d:R (·=g.c) w (w.drewN n):=(R.refl _ w).drewN n;refine(B aq _ (a.aw (a.bI.drewN n) d (VH _))).k fun N ⟨x,D⟩=>?_;go_wp2;go_ret;exact⟨rfl,x,d.t D⟩
end
end Go.Proofs.YtbiobhghnldckaaGreatDoor
