/- Proved: adzeref's Runes: any text is runes and places to its end, or to its first bad byte. Conditions: the text has at most 500 bytes. -/
import Derived.Test.YtbiobhghnldckaaGreatDoorS31
import Derived.Test.YtbiobhghnldckaaGreatDoorS20
namespace Go.Proofs.YtbiobhghnldckaaGreatDoor
set_option linter.unusedVariables false
set_option maxRecDepth 100000
set_option maxHeartbeats 6400000
section
open Go.RowKit
attribute [local go_sem ↓] Go.wp_at_zero Go.wp_at_succ
def Ng (s:ByteArray) (w:World) (e:Ending) (w':World):Prop:=
 ae (fun _=>False) w w'∧
 ((∃L pl la lc pa pc,Runs s 0 L pl s.size∧e=.returned (.tuple #[.slice la L.length lc,.slice pa (L.length+1) pc,.int .i64 (-1)])∧w'.ownsRow w.heap.size 3 1 (.slice la L.length lc) L.length (L.map (.int .i64))∧w'.ownsRow w.heap.size 3 1 (.slice pa (L.length+1) pc) (L.length+1) (pl.map (.int .i64))∧(L= []→la=none∧lc=0))∨
  (∃L pl a v1 v2,Runs s 0 L pl a∧a<s.size∧(Utf8.decode s a).1=65533∧cL s a=false∧e=.returned (.tuple #[v1,v2,.int .i64 (a:Int)])))
def vW (s:ByteArray) (p:Nat) (L pl:List Int):Prop:=pl.length=L.length∧L.length≤p∧∀L' ru e,Runs s p L' ru e→Runs s 0 (L++L') (pl++ru) e
theorem CC (s:ByteArray):vW s 0 [] []:=⟨rfl,Nat.le_refl _,fun L' ru e h=>h⟩
theorem vW.step {s:ByteArray}{p:Nat}{L pl:List Int} (h:vW s p L pl) (hp:p<s.size) (hs:(Utf8.decode s p).1=65533→cL s p=true):vW s (p+(Utf8.decode s p).2) (L++ [((Utf8.decode s p).1:Int)]) (pl++ [(p:Int)]):=by
 refine⟨by simp[h.1],?_,fun L' ru e k=> ?_⟩
 ·have:=h.2.1
  have:=(fA s p hp).1;simp;omega
 ·have:=h.2.2 _ _ _ (k.cons hp hs)
  simpa using this
theorem xr (w:World) (s:ByteArray) (hs:s.size≤500):
 Calls Tryz.prog 33 #[.string s] w (Ng s w):=by
 obtain⟨i0,dZ,nj,nk,ns⟩:=info_parts eY;go_enter Tryz.func33,Tryz.ntmps33;go_wp2_with fail
 go_loopg [5,6,7] s.size (fun k vl va vi wr=>∃(p:Nat) (L pl:List Int) (la:Option Addr) (lc:Nat) (pa:Option Addr) (pc:Nat),vl=.slice la L.length lc∧va=.slice pa L.length pc∧vi=.int .i64 (p:Int)∧Hid (p≤s.size∧p+k=s.size∧vW s p L pl)∧Hid (wr.ownsRow w.heap.size 3 1 (.slice la L.length lc) L.length (L.map (.int .i64)))∧Hid (wr.ownsRow w.heap.size 3 1 (.slice pa L.length pc) L.length (pl.map (.int .i64)))∧Hid ((∀b,(Value.slice la L.length lc).ownBlock=some b→(Value.slice pa L.length pc).ownBlock≠some b)∧(L= []→la=none∧lc=0))∧Hid (ae (fun _=>False) w wr))
 case atStart=>exact ⟨0,[],[],none,0,none,0,rfl,rfl,rfl,⟨Nat.zero_le _,by omega,CC s⟩,World.ownsRow_nil _ _ _ _,World.ownsRow_nil _ _ _ _,⟨fun b e=>(by cases e),fun _=>⟨rfl,rfl⟩⟩,ae.refl _ _⟩
 case round=>
  obtain⟨p,L,pl,la,lc,pa,pc,rfl,rfl,rfl,HI,Qp,L4,L2,HO⟩:=hrel;obtain⟨hp,hk,hU⟩:=HI.out;have T0:=hU.2.1;have Wp:L.length≤500:=by omega
  have HU:Hid _:=hU;have HK:Hid _:=hk;clear hU HI hk T0;by_cases aw:p<s.size
  ·have uD:(p:Int)<(s.size:Int):=by omega
   have ME:=vo wr s (by omega) p aw;have O2:=fun c n h=>zZ s p aw c n h;have qu:=fA s p aw;have iD:=vz s p hp;go_wp2_with fail;refine ME.mono ?_;rintro e w1 ⟨c,n,rfl,N6,rfl⟩
   rcases O2 c n N6 with ⟨n0,x1,x2⟩ |⟨n1,n2,n3,n4⟩
   ·subst n0
    have Tb:Hid (cL s p=false):=by
     show cL s p=false
     cases hc:cL s p with
     | false=>rfl
     | true=>
      exfalso;obtain⟨q1,q2,q3,q4⟩:=iD.1 hc;have hd:=Lib.decode_at s p;have e0:(s.get! p).toNat=239:=q2;have e1:(s.get! (p+1)).toNat=191:=q3;have e2:(s.get! (p+2)).toNat=189:=q4;rw[e0,e1,e2] at hd;unfold Lib.decodeN at hd;rw[if_neg (by omega),if_neg (by omega),if_pos ⟨by omega,⟨by omega,by omega⟩,by omega,by omega⟩,if_pos (by omega)] at hd;rw[hd] at x2
      cases x2
    have hf:Hid (∀v1 v2,Ng s w (.returned (.tuple #[v1,v2,.int .i64 (p:Int)])) w1):=fun v1 v2=>⟨HO.out,Or.inr ⟨L,pl++ [(p:Int)],p,v1,v2,by have:=HU.out.2.2 _ _ _ (Runs.nil s p hp);simpa using this,aw,x1,Tb.out,rfl⟩⟩;clear N6 x1 x2 qu iD O2;go_wp2;go_ret3;exact hf.out _ _
   ·have Uc:Hid (vW s (p+(Utf8.decode s p).2) (L++ [c]) (pl++ [(p:Int)])):=by
     have:=vW.step HU.out aw (fun e=>iD.2 (n4 e));rw[←n3] at this;exact this
    have MD:p+(Utf8.decode s p).2≤s.size:=qu.2.1;have UY:1≤(Utf8.decode s p).2:=qu.1;have bn:(n==0)=false:=by simp;omega
    subst n1;clear N6 n3 n4 qu iD O2 HU;generalize (Utf8.decode s p).2=dn at*
    have Vb:=HO.out.size;have Mq:=Qp.out;have IS:=L4.out;go_upto_region 8 with (fail)
    have FJ:(w1.alloc (.cells #[.int .i64 (c)] 3)).heap.size=w1.heap.size+1:=by simp
    have Se:ae (fun _=>False) w1 (w1.alloc (.cells #[.int .i64 (c)] 3)):=(ae.refl _ w1).alloc _;have LR:=ag Mq Se (fun _ _=>id);go_upto_region 9 with (at_builtin;refine wpList_append_lies _ (by rfl) _ _ _ (by rfl) w.heap.size 3 i0 _ 1 8 Tryz.underlying35 dZ nj nk ns rfl (by omega) (.slice la L.length lc) L.length (L.map (.int .i64)) (by rfl) LR ⟨w1.heap.size,0,none⟩ 1 1 [.int .i64 (c)] (by rfl) (by rfl) (World.news_of_block (cs:= #[.int .i64 (c)]) (t:=3) (fr:=(0,0)) (heap_alloc_new _ _)) (by simp[Value.oneCell']) (by omega) (by unfold maxLen;omega) (by omega) (by rw[FJ];omega) (w1.heap.size+1) FJ ?_;intro Mh QF EZ br GX DF eG)
    have PK:ae (fun b=>(Value.slice la L.length lc).ownBlock=some b) w1 EZ:=Se.trans (ae.of_grown GX) (fun _ e=>e.elim) (fun _ _ e=>e);have N5:=ag IS PK (fun b hb e=>L2.out.1 b e hb);have lG:=PK.size;have FK:(EZ.alloc (.cells #[.int .i64 ((p:Int))] 3)).heap.size=EZ.heap.size+1:=by simp
    have Sf:ae (fun _=>False) EZ (EZ.alloc (.cells #[.int .i64 ((p:Int))] 3)):=(ae.refl _ EZ).alloc _;have LS:=ag N5 Sf (fun _ _=>id);go_wp2_with (at_builtin;refine wpList_append_lies _ (by rfl) _ _ _ (by rfl) w.heap.size 3 i0 _ 1 8 Tryz.underlying35 dZ nj nk ns rfl (by omega) (.slice pa L.length pc) L.length (pl.map (.int .i64)) (by rfl) LS ⟨EZ.heap.size,0,none⟩ 1 1 [.int .i64 ((p:Int))] (by rfl) (by rfl) (World.news_of_block (cs:= #[.int .i64 ((p:Int))]) (t:=3) (fr:=(0,0)) (heap_alloc_new _ _)) (by simp[Value.oneCell']) (by omega) (by unfold maxLen;omega) (by omega) (by rw[FK];omega) (EZ.heap.size+1) FK ?_;intro QJ NA Sv ay ao bH dM);have Sc:ae (fun b=>(Value.slice pa L.length pc).ownBlock=some b) EZ Sv:=Sf.trans (ae.of_grown ao) (fun _ e=>e.elim) (fun _ _ e=>e)
    have Ha:∀b,(Value.slice (some ⟨Mh,0,none⟩) (L.length+1) QF).ownBlock=some b→(Value.slice pa L.length pc).ownBlock≠some b:=fun b e e2=>by
     have e1:Mh=b:=by injection e
     rcases DF with h9 | h9
     ·exact L2.out.1 b (by rw[h9,e1]) e2
     ·have:=(IS.lt b e2).2;omega
    have N1:=ag br Sc (fun b hb e=>Ha b hb e);have NZ:ae (fun _=>False) w Sv:=(HO.out.trans PK (U:=fun _=>False) (fun _ e=>e) (fun b hb e=>by have:=(Mq.lt b e).1;omega)).trans Sc (fun _ e=>e) (fun b hb e=>by have:=(IS.lt b e).1;omega)
    have Lg:∀b,(Value.slice (some ⟨Mh,0,none⟩) (L.length+1) QF).ownBlock=some b→(Value.slice (some ⟨QJ,0,none⟩) (L.length+1) NA).ownBlock≠some b:=fun b e e2=>by
     have e1:Mh=b:=by injection e
     have e3:QJ=b:=by injection e2
     rcases bH with h9 | h9
     ·exact Ha b e (by rw[h9,e3])
     ·have:=(br.lt b e).2;omega
    go_roundg (s.size - (p+dn))
    case measure=>have:=HK.out;omega
    case rel=>exact ⟨p+dn,L++ [c],pl++ [(p:Int)],_,_,_,_,by rw[List.length_append];rfl,by rw[List.length_append];rfl,by simp,⟨MD,by omega,Uc.out⟩,by rw[List.length_append,List.map_append];exact N1,by rw[List.length_append,List.map_append];exact ay,by rw[List.length_append];exact⟨Lg,fun e=>absurd e (by simp)⟩,NZ⟩
  ·have wP:¬(p:Int)<(s.size:Int):=by omega
   have Hi:p=s.size:=by omega
   have hR:Runs s 0 L (pl++ [(s.size:Int)]) s.size:=by
    have:=HU.out.2.2 _ _ _ (Runs.nil s p hp);rw[Hi] at this;simpa using this
   have HR:Hid _:=hR;have Vb:=HO.out.size;have Mq:=Qp.out;have IS:=L4.out;clear hR Hi;go_upto_region 11 with (fail)
   have FL:(wr.alloc (.cells #[.int .i64 ((s.size:Int))] 3)).heap.size=wr.heap.size+1:=by simp
   have Sh:ae (fun _=>False) wr (wr.alloc (.cells #[.int .i64 ((s.size:Int))] 3)):=(ae.refl _ wr).alloc _;have LU:=ag IS Sh (fun _ _=>id);go_wp2_with (at_builtin;refine wpList_append_lies _ (by rfl) _ _ _ (by rfl) w.heap.size 3 i0 _ 1 8 Tryz.underlying35 dZ nj nk ns rfl (by omega) (.slice pa L.length pc) L.length (pl.map (.int .i64)) (by rfl) LU ⟨wr.heap.size,0,none⟩ 1 1 [.int .i64 ((s.size:Int))] (by rfl) (by rfl) (World.news_of_block (cs:= #[.int .i64 ((s.size:Int))]) (t:=3) (fr:=(0,0)) (heap_alloc_new _ _)) (by simp[Value.oneCell']) (by omega) (by unfold maxLen;omega) (by omega) (by rw[FL];omega) (wr.heap.size+1) FL ?_;intro TV TG P7 ix GY zh G7);have Sd:ae (fun b=>(Value.slice pa L.length pc).ownBlock=some b) wr P7:=Sh.trans (ae.of_grown GY) (fun _ e=>e.elim) (fun _ _ e=>e);have N4:=ag Mq Sd (fun b hb e=>L2.out.1 b hb e);have DB:ae (fun _=>False) w P7:=HO.out.trans Sd (fun _ e=>e) (fun b hb e=>by have:=(IS.lt b e).1;omega);have hf:Hid (Ng s w (.returned (.tuple #[.slice la L.length lc,.slice (some ⟨TV,0,none⟩) (L.length+1) TG,.int .i64 (-1)])) P7):=⟨DB,Or.inl ⟨L,pl++ [(s.size:Int)],la,lc,_,_,HR.out,rfl,N4,by rw[List.map_append];exact ix,L2.out.2⟩⟩;go_wp2;go_ret3;exact hf.out
end
section
theorem Runs.good' {s:ByteArray}{pos:Nat}{L pl:List Int}{e:Nat} (h:Runs s pos L pl e):Rf.Good L:=fun j hj=>(h.good j hj).1
theorem Runs.mono {s:ByteArray}{pos:Nat}{L pl:List Int}{e:Nat} (h:Runs s pos L pl e):∀a b,a≤b→b≤L.length→Adz.place pl a≤Adz.place pl b:=by
 intro a b zg
 induction zg with
 | refl=>intro _;exact Int.le_refl _
 | step hm ih=>
  rename_i m
  intro hl;have h1:=ih (by omega);obtain⟨p,q,e1,e2,e3,e4,e5⟩:=h.step m (by omega);have h2:Adz.place pl m≤Adz.place pl (m+1):=by rw[e1,e2];omega
  exact Int.le_trans h1 h2
theorem Runs.read {s:ByteArray}{L pl:List Int} (h:Runs s 0 L pl s.size):
 (∀f,Adz.readAll L pl=.error f→(Rf.readAll L pl).e=f.1∧(Rf.readAll L pl).p=f.2∧f.1≠0)∧(∀cs,Adz.readAll L pl=.ok cs→(Rf.readAll L pl).e=0∧(Rf.readAll L pl).p=0):=
 Rf.readAll_agr h.good' h.mono h.nn
def F8 (s:ByteArray) (e:Nat):Prop:=e=s.size∨(e<s.size∧(Utf8.decode s e).1=65533∧cL s e=false)
theorem Runs.agree {s:ByteArray}{pos:Nat}{L pl L' ru:List Int}{e e':Nat} (h:Runs s pos L pl e) (h':Runs s pos L' ru e'):∀k,k≤L.length→k≤L'.length→Adz.place pl k=Adz.place ru k
 | 0,_,_=>h.zero.trans h'.zero.symm
 | k+1,h1,h2=>by
  have ih:=h.agree h' k (by omega) (by omega);obtain⟨p,q,a1,a2,a3,a4,a5⟩:=h.step k (by omega);obtain⟨p',q',b1,b2,b3,b4,b5⟩:=h'.step k (by omega);have hp:p=p':=by rw[a1,b1] at ih;omega
  subst hp;rw[a2,b2,←a5,←b5]
theorem Runs.peeks {s:ByteArray}{pos:Nat}{L pl L' ru:List Int}{e e':Nat} (h:Runs s pos L pl e) (h':Runs s pos L' ru e') (k:Nat) (h1:k<L.length) (h2:k<L'.length):Adz.peek L k=Adz.peek L' k:=by
 have ih:=h.agree h' k (by omega) (by omega);obtain⟨p,q,a1,a2,a3,a4,a5⟩:=h.step k h1;obtain⟨p',q',b1,b2,b3,b4,b5⟩:=h'.step k h2;have hp:p=p':=by rw[a1,b1] at ih;omega
 subst hp;rw[←a4,←b4]
theorem Runs.lenle {s:ByteArray}{pos:Nat}{L pl L' ru:List Int}{e e':Nat} (h:Runs s pos L pl e) (h':Runs s pos L' ru e') (fe:F8 s e):L'.length≤L.length:=by
 by_cases hc:L'.length≤L.length
 ·exact hc
 ·have hl:L.length<L'.length:=by omega
  have ih:=h.agree h' L.length (Nat.le_refl _) (by omega);rw[h.last] at ih;obtain⟨p',q',b1,b2,b3,b4,b5⟩:=h'.step L.length hl;have hp:e=p':=by rw[b1] at ih;omega
  subst hp
  rcases fe with fe |⟨f1,f2,f3⟩
  ·omega
  ·have:=h'.sp L.length hl (by rw[←b4];omega) e b1
   rw[this] at f3
   cases f3
theorem Runs.uniq {s:ByteArray}{pos:Nat}{L pl L' ru:List Int}{e e':Nat} (h:Runs s pos L pl e) (h':Runs s pos L' ru e') (fe:F8 s e) (TO:F8 s e'):L=L'∧pl=ru∧e=e':=by
 have hl:L.length=L'.length:=Nat.le_antisymm (h'.lenle h TO) (h.lenle h' fe)
 have e1:L=L':=List.ext_getElem hl (fun k h1 h2=>by
  have:=h.peeks h' k h1 h2;unfold Adz.peek at this;rw[List.getD_eq_getElem?_getD,List.getD_eq_getElem?_getD,List.getElem?_eq_getElem h1,List.getElem?_eq_getElem h2] at this;simpa using this)
 have eX:pl.length=ru.length:=by rw[h.len,h'.len,hl]
 have e2:pl=ru:=List.ext_getElem eX (fun k h1 h2=>by
  have:=h.agree h' k (by have:=h.len;omega) (by have:=h'.len;omega);unfold Adz.place at this;rw[List.getD_eq_getElem?_getD,List.getD_eq_getElem?_getD,List.getElem?_eq_getElem h1,List.getElem?_eq_getElem h2] at this;simpa using this)
 refine⟨e1,e2,?_⟩;have l1:=h.last;have l2:=h'.last;subst e1;subst e2;rw[l1] at l2;omega
def Nf (s:ByteArray) (f p:Int):Prop:=
 (500<s.size∧f=1∧p=0)∨(s.size≤500∧∃L pl a,Runs s 0 L pl a∧a<s.size∧(Utf8.decode s a).1=65533∧cL s a=false∧f=2∧p=(a:Int))∨(s.size≤500∧∃L pl,Runs s 0 L pl s.size∧f=(Rf.readAll L pl).e∧((Rf.readAll L pl).e≠0→p=(Rf.readAll L pl).p)∧((Rf.readAll L pl).e=0→p=0))
theorem Nf.agr {s:ByteArray}{f p:Int}{r:Except Adz.Flt (List Adz.Cmd)} (h:Nf s f p) (hp:Xk s r):(∀fl,r=.error fl→f=fl.1∧p=fl.2∧fl.1≠0)∧(∀cs,r=.ok cs→f=0∧p=0):=by
 rcases hp with ⟨hl,rfl⟩ |⟨L,pl,a,hl,hr,h1,h2,h3,rfl⟩ |⟨L,pl,hl,hr,rfl⟩
 ·rcases h with ⟨_,h2,h3⟩ |⟨h1,_⟩ |⟨h1,_⟩
  ·refine⟨fun fl e=> ?_,fun cs e=>by cases e⟩
   injection e with e;subst e;exact⟨h2,h3,by decide⟩
  ·omega
  ·omega
 ·rcases h with ⟨h4,_⟩ |⟨_,L',ru,a',k1,k2,k3,k4,k5,k6⟩ |⟨_,L',ru,k1,_⟩
  ·omega
  ·refine⟨fun fl e=> ?_,fun cs e=>by cases e⟩
   injection e with e;subst e;obtain⟨_,_,e3⟩:=hr.uniq k1 (Or.inr ⟨h1,h2,h3⟩) (Or.inr ⟨k2,k3,k4⟩);subst e3;exact⟨k5,k6,by show(2:Int)≠0;decide⟩
  ·obtain⟨_,_,e3⟩:=hr.uniq k1 (Or.inr ⟨h1,h2,h3⟩) (Or.inl rfl)
   omega
 ·rcases h with ⟨h4,_⟩ |⟨_,L',ru,a',k1,k2,k3,k4,k5,k6⟩ |⟨_,L',ru,k1,k2,k3,k4⟩
  ·omega
  ·obtain⟨_,_,e3⟩:=hr.uniq k1 (Or.inl rfl) (Or.inr ⟨k2,k3,k4⟩)
   omega
  ·obtain⟨e1,e2,_⟩:=hr.uniq k1 (Or.inl rfl) (Or.inl rfl)
   subst e1;subst e2;obtain⟨x1,x2⟩:=hr.read;refine⟨fun fl e=> ?_,fun cs e=> ?_⟩
   ·obtain⟨y1,y2,y3⟩:=x1 fl e
    exact⟨by rw[k2,y1],by rw[k3 (by rw[y1];exact y3),y2],y3⟩
   ·obtain⟨y1,y2⟩:=x2 cs e
    exact⟨by rw[k2,y1],k4 y1⟩
def E8 (s:ByteArray) (w:World) (e:Ending) (w':World):Prop:=
 ae (fun _=>False) w w'∧∃a n c k f p,e=.returned (.tuple #[.slice a n c,.int .i64 k,.int .i64 f,.int .i64 p])∧Nf s f p
def AJ:Prop:=∀s:ByteArray,s.size≤9223372036854775807→∀w,Calls Tryz.prog 29 #[.string s] w (E8 s w)
end
section
open Go.RowKit
theorem SFl.new {s:ByteArray}{w1:World}{base e:Nat}{L pl:List Int}{la pa:Option Addr}{lc pc:Nat} (hR:Runs s 0 L pl e) (hs:L.length≤500) (hL:w1.ownsRow base 3 1 (.slice la L.length lc) L.length (L.map (.int .i64))) (hP:w1.ownsRow base 3 1 (.slice pa (L.length+1) pc) (L.length+1) (pl.map (.int .i64))) (hn:L= []→la=none∧lc=0):
 ∃g:SG,g.x=w1.heap.size∧g.L=L∧g.pl=pl∧g.lv=.slice none 0 0∧g.jv=.slice none 0 0∧SFl g (w1.alloc (.cells #[.slice la L.length lc,.slice pa (L.length+1) pc,.int .i64 0,.int .i64 0,.int .i64 0,.int .i64 0,.slice none 0 0,.slice none 0 0] 79)) (w1.heap.size+1) (w1.heap.size+1) ⟨⟨0,0,0,0⟩,[],[]⟩:=by
 obtain⟨pb,rfl,iB,tp,hp⟩:=pQ hP (by omega)
 have zq:∃lb,(L= []→la=none)∧(L≠ []→la=some ⟨lb,0,none⟩∧aq w1 lb 3∧∀k v,(L.map (Value.int .i64))[k]? =some v→w1.cell? ⟨lb,k,none⟩=some v):=by
  by_cases he:L= []
  ·exact⟨0,fun _=>(hn he).1,fun h=>absurd he h⟩
  ·have h0:0<L.length:=List.length_pos_iff.2 he
   obtain⟨lb,e1,_,t1,h1⟩:=pQ hL h0;exact⟨lb,fun h=>absurd h he,fun _=>⟨e1,t1,h1⟩⟩
 obtain⟨lb,l1,l2⟩:=zq
 have ct:L.length≤lc:=by
  rcases hL.2 with ⟨e1,e2⟩ |⟨g,cap,cur,e1,_,_,e2,_⟩
  ·omega
  ·injection e1 with _ _ e3
   omega
 generalize ho:(Obj.cells #[.slice la L.length lc,.slice (some ⟨pb,0,none⟩) (L.length+1) pc,.int .i64 0,.int .i64 0,.int .i64 0,.int .i64 0,.slice none 0 0,.slice none 0 0] 79:Obj)=ob;have oa:ae (fun _=>False) w1 (w1.alloc ob):=(ae.refl _ w1).alloc _;have hT:aq (w1.alloc ob) w1.heap.size 79:=by rw[←ho];exact aq.new _ _ _ _
 have hC:ai (w1.alloc ob) w1.heap.size [.slice la L.length lc,.slice (some ⟨pb,0,none⟩) (L.length+1) pc,.int .i64 0,.int .i64 0,.int .i64 0,.int .i64 0,.slice none 0 0,.slice none 0 0]:=by rw[←ho];exact ai.new w1 _ _
 refine⟨⟨w1.heap.size,lb,pb,L,pl,.slice none 0 0,.slice none 0 0,lc⟩,rfl,rfl,rfl,rfl,rfl,⟨⟨hT,⟨la,pc,hC,l1,fun h=>(l2 h).1⟩,fun j hj=> ?_,fun j hj=> ?_,fun h=> ?_,?_,Nat.zero_le _,hs,fun j hj=>(hR.good j hj).1,ct,fun h=>(hn h).2⟩,⟨none,0,[],rfl,World.ownsRow_nil _ _ _ _,fun i nm h=>by simp at h⟩,⟨none,0,[],rfl,World.ownsRow_nil _ _ _ _,fun i j h=>by simp at h⟩,?_,fun h=> ?_,?_,?_⟩⟩
 ·have KV:j<L.length:=hj
  have aJ:L≠ []:=fun e=>by rw[e] at KV;simp at KV
  refine oa.keeps ((l2 aJ).2.2 j _ ?_) id;show(L.map (Value.int .i64))[j]? =some (.int .i64 (Adz.peek L j));unfold Adz.peek;rw[List.getElem?_map,List.getD_eq_getElem?_getD,List.getElem?_eq_getElem KV]
  rfl
 ·have KV:j<pl.length:=by have h1:=hR.len;have h2:j≤L.length:=hj;omega
  refine oa.keeps (hp j _ ?_) id;show(pl.map (Value.int .i64))[j]? =some (.int .i64 (Adz.place pl j));unfold Adz.place;rw[List.getElem?_map,List.getD_eq_getElem?_getD,List.getElem?_eq_getElem KV]
  rfl
 ·exact Nat.ne_of_lt (l2 h).2.1.lt
 ·exact Nat.ne_of_lt tp.lt
 ·exact Nat.lt_succ_self _
 ·exact Nat.lt_succ_of_lt (l2 h).2.1.lt
 ·exact Nat.lt_succ_of_lt tp.lt
 ·simp
end
section
open Go.RowKit
attribute [local go_sem ↓] Go.wp_at_zero Go.wp_at_succ
theorem eD {fn:Func}{t u v x:Tmp} (h:fn.results= #[.tmp t,.tmp u,.tmp v,.tmp x]) (tmps:Array Value) (P:Program) (w:World):
 (results fn tmps).run P w=.ok (.tuple #[tmps.getD t undef,tmps.getD u undef,tmps.getD v undef,tmps.getD x undef]) w:=by
 simp[results,h]
theorem xq (s:ByteArray) (h:500<s.size) (hs:s.size≤9223372036854775807) (w:World):Calls Tryz.prog 29 #[.string s] w (E8 s w):=by
 have OD:(500:Int)<(s.size:Int):=by omega
 go_enter Tryz.func29,Tryz.ntmps29;go_wp2
 try simp only[Exit.inBlock,Exit.then]
 refine bodyPost_ret (eD rfl _ _ _) rfl ?_;exact⟨ae.refl _ _,none,0,0,0,1,0,rfl,Or.inl ⟨h,rfl,rfl⟩⟩
theorem sR {s:ByteArray}{w w':World}{L pl:List Int} (hs:s.size≤500) (hR:Runs s 0 L pl s.size) (o:ae (fun _=>False) w w') {T:SS} (hT:Rf.readAll L pl=T) (a:Option Addr) (n c:Nat) (k p:Int) (h1:T.e≠0→p=T.p) (h2:T.e=0→p=0):E8 s w (.returned (.tuple #[.slice a n c,.int .i64 k,.int .i64 T.e,.int .i64 p])) w':=
 ⟨o,a,n,c,k,T.e,p,rfl,Or.inr (Or.inr ⟨hs,L,pl,hR,by rw[hT],by rw[hT];exact h1,by rw[hT];exact h2⟩)⟩
theorem vm (s:ByteArray) (hs:s.size≤500) (vL:∀f,f≤501→rG f 0) (w:World):Calls Tryz.prog 29 #[.string s] w (E8 s w):=by
 have WB:¬(500:Int)<(s.size:Int):=by omega
 have ME:=xr w s hs;have HC:Hid _:=vL;clear vL;go_enter Tryz.func29,Tryz.ntmps29;go_wp2_with fail;refine ME.mono ?_;rintro e w1 ⟨o1,h1⟩;clear ME
 rcases h1 with ⟨L,pl,la,lc,pa,pc,hR,rfl,hL,hP,hn⟩ |⟨L,pl,a,v1,v2,hR,ha,hd,iD,rfl⟩
 ·have jV:=hR.few
  have qy:L.length≤500:=by omega
  obtain⟨g,ex,eL,Dn,JX,QH,S0⟩:=SFl.new hR qy hL hP hn;have JH:Hid _:=hR;have Qr:Hid _:=S0;have hZ:Rf.Cnt ⟨⟨0,0,0,0⟩,[],[]⟩:=⟨by decide,by decide,by decide,by decide⟩;have dm:=fun (W:World) (hW:W.heap.size=w1.heap.size+1) (S:SFl g W (w1.heap.size+1) (w1.heap.size+1) ⟨⟨0,0,0,0⟩,[],[]⟩)=>HC.out (L.length+1) (by omega) g W (w1.heap.size+1) ⟨⟨0,0,0,0⟩,[],[]⟩ (by rw[hW];exact S) hZ (fun _=>by rw[eL];show L.length<0+(L.length+1);omega);rw[ex,eL,Dn] at dm;have KB:=(Rf.commands_cm L pl (L.length+1) 0 ⟨⟨0,0,0,0⟩,[],[]⟩ hZ).2;obtain⟨T,hT⟩:∃T,Rf.readAll L pl=T:=⟨_,rfl⟩;have Mr:=hT;unfold Rf.readAll at Mr;simp only at Mr;generalize Rf.commands L pl (L.length+1) 0 ⟨⟨0,0,0,0⟩,[],[]⟩=R0 at*
  have Jr:Hid _:=dm;have IG:Hid _:=hT;have Td:Hid _:=Mr;have AE:Hid _:=KB;have Fq:w.heap.size≤w1.heap.size:=o1.size
  have Qo:Hid (∀b,Own g b→w1.heap.size≤b):=fun b e=>by
   rcases e with e | e | e
   ·omega
   ·rw[JX] at e;cases e
   ·rw[QH] at e;cases e
  have E1:Hid _:=ex;have Qf:Hid _:=eL;have Qg:Hid _:=Dn;clear dm hT Mr KB S0 hR hL hP hn ex eL Dn JX QH hZ HC;go_upto_region 7 with (fail)
  generalize nW:w1.alloc _=w0;have kH:w0.heap.size=w1.heap.size+1:=by rw[←nW];simp
  have o0:ae (fun _=>False) w w0:=by rw[←nW];exact o1.alloc _
  have Qv:SFl g w0 (w1.heap.size+1) (w1.heap.size+1) ⟨⟨0,0,0,0⟩,[],[]⟩:=by rw[←nW];exact Qr.out
  clear nW Qr;have dm:=Jr.out w0 kH Qv;obtain⟨xb,RO⟩:∃xb,w1.heap.size=xb:=⟨_,rfl⟩;rw[RO] at dm ⊢;go_wp2_with fail;refine dm.mono ?_;rintro e w2 ⟨ra,rn,rc,g2,rfl,sg,S2,own,o2⟩;have Ra:ae (fun _=>False) w w2:=o0.trans o2 (fun _ e=>e) (fun b hb e=>by have:=Qo.out b e;omega);have HX:Hid (g2.x=xb):=by show g2.x=xb;rw[sg.x,E1.out,RO]
  have V3:Hid (g2.L=L):=by show g2.L=L;rw[sg.L,Qf.out]
  have JE:Hid (g2.pl=pl):=by show g2.pl=pl;rw[sg.pl,Qg.out]
  obtain⟨s0,labs,jumps⟩:=R0;have zq:labs.length≤1000:=by have h1:=AE.out.2.1;have h2:=AE.out.2.2.1;simp only at h1 h2;omega
  have IZ:jumps.length≤1000:=by have h1:=AE.out.2.1;have h2:=AE.out.2.2.2;simp only at h1 h2;omega
  have Tc:Hid _:=S2;have SQ:Hid _:=Ra;clear S2 Ra sg own o2 dm Qv o0 kH Jr Qo E1 Qf Qg AE;generalize xb+1=B at*
  have HW:Hid (w.heap.size≤xb):=by show w.heap.size≤xb;omega
  clear o1 Fq;go_wp2_with fail
  go_loopg [11] jumps.length (fun k v wr=>∃(i:Nat) (sj:SS),v=.int .i64 (i:Int)∧Hid (i+k=jumps.length)∧Hid (SFl g2 wr B w2.heap.size ⟨sj,labs,jumps⟩)∧Hid (Rf.jumpsOk pl labs (jumps.drop i) sj=T)∧Hid (ae (fun _=>False) w wr))
  case atStart=>exact ⟨0,s0,rfl,by show 0+jumps.length=jumps.length;omega,Tc.out,Td.out,SQ.out⟩
  case round=>
   obtain⟨i,sj,rfl,HI,HS,HT,HO⟩:=hrel;have S:=HS.out;have cU:=S.scn;obtain⟨Vy,Sn,k1,k2⟩:=cU.cells;have c3:=(k1 3 _ rfl).1;have c4:=(k1 4 _ rfl).1;have c5:=(k1 5 _ rfl).1;have c7:=(k1 7 _ rfl).1;obtain⟨ja,jc,qj,NI,q1,q2⟩:=S.jmp;rw[NI] at c7;simp only[HX.out] at c3 c4 c5 c7;clear k1 k2;by_cases aw:i<jumps.length
   ·have uD:(i:Int)<(jumps.length:Int):=by omega
    by_cases he:sj.e=0
    ·have b0:(sj.e==0)=true:=by simpa using he
     have hj:jumps[i]? =some jumps[i]:=List.getElem?_eq_getElem aw;have KG:jumps.drop i=jumps[i]::jumps.drop (i+1):=List.drop_eq_getElem_cons aw;have oU:=HT.out;rw[KG] at oU;unfold Rf.jumpsOk at oU;rw[if_pos he] at oU;obtain⟨cb,what,tx,a,p,n,x1,x2,x3,x4,x5⟩:=q2 i _ hj;generalize jumps[i]=jj at*
     obtain⟨nm,at_⟩:=jj;simp only at x3 x4 x5 oU;have oZ:=kP g2 wr sj cU B labs S.lab zq tx nm x4;have UT:=x4.len;obtain⟨Xf,Xg,rfl,_⟩:=x4;obtain⟨jb,rfl,_,_,cR⟩:=pQ q1 (by show 0<jumps.length;omega);have cj:=cR i (.pointer (some ⟨cb,0,none⟩)) (by rw[List.getElem?_map,x1];rfl);obtain⟨_,tH,pZ,_,_,_⟩:=x3.known;have eO:=fun W (hW:Scn g2 W sj)=>aB g2 W sj hW 7 at_ x5;simp only[HX.out,JE.out] at oZ eO;have SN:Hid _:=eO;have AH:Hid _:=cU;have Hb:nm.length≤9000:=by have:=cU.small;omega
     clear eO KG hj q2 q1 cR x3 x1 x2 cU
     cases KX:labs.contains nm with
     | true=>
      rw[KX] at oZ oU;rw[if_neg (fun e=>by cases e.1)] at oU;have E7:Hid _:=oU;clear oU he KX;go_wp2_with fail;refine oZ.mono ?_;rintro e w3 ⟨rfl,n3,rfl⟩;go_wp2;go_roundg (gk - 1)
      case measure=>have:=HI.out;omega
      case rel=>exact ⟨i+1,sj,rfl,by have:=HI.out;show i+1+(gk - 1)=jumps.length;omega,(S.keeps sj (AH.out.drewN n3) ((ae.refl (fun _=>False) wr).drewN n3) (fun _ _=>id) (fun _ _=>id) (fun _ _ _=>id)),E7.out,HO.out.drewN n3⟩
     | false=>
      rw[KX] at oZ oU;by_cases hz:0<nm.length
      ·rw[if_pos ⟨rfl,hz⟩] at oU
       have Lw:(0:Int)<(nm.length:Int):=by omega
       have E7:Hid _:=oU;clear oU he KX;go_wp2_with fail;refine oZ.mono ?_;rintro e w3 ⟨rfl,n3,rfl⟩;go_wp2_with fail;refine(SN.out _ (AH.out.drewN n3)).mono ?_;rintro e w4 ⟨rfl,h4,o4⟩;have Sb:ae (·=g2.x) wr w4:=by rw[HX.out];exact((ae.refl (·=xb) wr).drewN n3).trans o4 (fun _ e=>e) (fun _ _ e=>e)
       go_wp2;go_roundg (gk - 1)
       case measure=>have:=HI.out;omega
       case rel=>exact ⟨i+1,_,rfl,by have:=HI.out;show i+1+(gk - 1)=jumps.length;omega,S.moved h4 Sb,E7.out,HO.out.trans Sb (fun _ e=>e) (fun b hb e=>by rw[HX.out] at e;have:=HW.out;omega)⟩
      ·rw[if_neg (fun e=>hz e.2)] at oU
       have Lw:¬(0:Int)<(nm.length:Int):=by omega
       have E7:Hid _:=oU;clear oU he KX;go_wp2_with fail;refine oZ.mono ?_;rintro e w3 ⟨rfl,n3,rfl⟩;go_wp2;go_roundg (gk - 1)
       case measure=>have:=HI.out;omega
       case rel=>exact ⟨i+1,sj,rfl,by have:=HI.out;show i+1+(gk - 1)=jumps.length;omega,(S.keeps sj (AH.out.drewN n3) ((ae.refl (fun _=>False) wr).drewN n3) (fun _ _=>id) (fun _ _=>id) (fun _ _ _=>id)),E7.out,HO.out.drewN n3⟩
    ·have b0:(sj.e==0)=false:=by simpa using he
     have b1:(sj.e !=0)=true:=by unfold bne;rw[b0];rfl
     have oU:sj=T:=by
      have h1:=HT.out;rw[List.drop_eq_getElem_cons aw] at h1;unfold Rf.jumpsOk at h1;rw[if_neg he] at h1;exact h1
     have HF:Hid (∀n,E8 s w (.returned (.tuple #[.slice none 0 0,.int .i64 0,.int .i64 sj.e,.int .i64 sj.p])) (wr.drewN n)):=fun n=>by
      have h1:=IG.out;rw[←oU] at h1;exact sR hs JH.out (HO.out.drewN n) h1 none 0 0 0 sj.p (fun _=>rfl) (fun e=>absurd e he)
     clear oU he HT IG S cU q2 q1;go_wp2_with fail
     go_quiet (fail)
     go_wp2
     try simp only[Exit.inBlock,Exit.then]
     refine bodyPost_ret (eD rfl _ _ _) rfl ?_;exact HF.out _
   ·have uD:¬(i:Int)<(jumps.length:Int):=by omega
    have oU:sj=T:=by
     have h1:=HT.out;rw[List.drop_eq_nil_of_le (by omega)] at h1;exact h1
    by_cases he:sj.e=0
    ·have b0:(sj.e==0)=true:=by simpa using he
     have b1:(sj.e !=0)=false:=by unfold bne;rw[b0];rfl
     have HF:Hid (∀n k,E8 s w (.returned (.tuple #[.slice ra rn rc,.int .i64 k,.int .i64 0,.int .i64 0])) (wr.drewN n)):=fun n k=>by
      have h1:=IG.out;rw[←oU] at h1;have h2:=sR hs JH.out (HO.out.drewN n) h1 ra rn rc k 0 (fun e=>absurd he e) (fun _=>rfl);rw[he] at h2;exact h2
     clear oU he HT IG S cU q2 q1;go_wp2_with fail
     go_quiet (fail)
     go_wp2
     try simp only[Exit.inBlock,Exit.then]
     refine bodyPost_ret (eD rfl _ _ _) rfl ?_;exact HF.out _ _
    ·have b0:(sj.e==0)=false:=by simpa using he
     have b1:(sj.e !=0)=true:=by unfold bne;rw[b0];rfl
     have HF:Hid (∀n,E8 s w (.returned (.tuple #[.slice none 0 0,.int .i64 0,.int .i64 sj.e,.int .i64 sj.p])) (wr.drewN n)):=fun n=>by
      have h1:=IG.out;rw[←oU] at h1;exact sR hs JH.out (HO.out.drewN n) h1 none 0 0 0 sj.p (fun _=>rfl) (fun e=>absurd e he)
     clear oU he HT IG S cU q2 q1;go_wp2_with fail
     go_quiet (fail)
     go_wp2
     try simp only[Exit.inBlock,Exit.then]
     refine bodyPost_ret (eD rfl _ _ _) rfl ?_;exact HF.out _
 ·have Fs:(0:Int)≤(a:Int):=by omega
  have HF:Hid (E8 s w (.returned (.tuple #[.slice none 0 0,.int .i64 0,.int .i64 2,.int .i64 (a:Int)])) w1):=⟨o1,none,0,0,0,2,a,rfl,Or.inr (Or.inl ⟨hs,L,pl,a,hR,ha,hd,iD,rfl,rfl⟩)⟩;clear hR hd iD;go_wp2
  try simp only[Exit.inBlock,Exit.then]
  refine bodyPost_ret (eD rfl _ _ _) rfl ?_;exact HF.out
theorem sO (g:SG) (w:World) (B cb:Nat) (r:Rf.RS) (h:SFl g w B cb r) (what:Int) (at_:Nat) (tx:Value) (hc:CmB w cb what at_ tx false false 0) (uu:B≤cb) (bJ:at_≤g.L.length) (As:r.labs.length≤900) (Ar:r.jumps.length≤900) (h0:what=98∨what=116):
 Calls Tryz.prog 85 #[.pointer (some ⟨g.x,0,none⟩),.pointer (some ⟨cb,0,none⟩)] w fun e w'=>e=.returned (.tuple #[])∧rF g w B cb (Rf.behind g.L g.pl what at_ r) w':=by
 obtain⟨y9,tH,pZ,_,_,_⟩:=hc.known;have fF:cb≠g.x:=by have:=h.hx;omega
 have cR:g.L≠ []→cb≠g.lb:=fun e=>by have:=h.hl e;omega
 have jT:cb≠g.pb:=by have:=h.hp;omega
 have hle:=h.scn.le;have dy:=h.scn.small;obtain⟨R,hR⟩:∃R,Rf.behind g.L g.pl what at_ r=R:=⟨_,rfl⟩;rw[hR];unfold Rf.behind at hR;rw[if_neg (by omega),if_neg (by omega),if_pos h0] at hR;unfold Rf.askLab at hR;simp only at hR;have O8:=bf g w r.s h.scn false;generalize Rf.skip g.L r.s false=s1 at*
 have dx:=fun W (hW:Scn g W s1)=>mH g W s1 hW;generalize Rf.name g.L g.pl s1=s2 at*
 generalize Rf.letters g.L s1=nm at*
 have Gd:Hid _:=dx;obtain⟨i0,dZ,nj,nk,ns⟩:=info_parts uO;have HR:Hid _:=hR;clear dx hR
 rcases h0 with rfl | rfl
 all_goals
  go_enter Tryz.func85,Tryz.ntmps85;go_wp2_with fail;refine O8.mono ?_;rintro e w1 ⟨rfl,h1,o1⟩;have cC:=hc.keeps o1 fF;go_wp2_with fail;refine(Gd.out _ h1).mono ?_;rintro e w2 ⟨nv,rfl,fq,h2,o2⟩;have aL:=cC.keeps o2 fF;obtain⟨na,nc,rfl,_⟩:=id fq;obtain⟨PZ,t21,t22⟩:=aL.at 11 (by decide);have dJ:=aL.set 11 (.slice na nm.length nc) (what':=_) (at':=_) (tx':=.slice na nm.length nc) (all':=_) (print':=_) (nth':=_) rfl rfl rfl rfl rfl rfl;have h3:Scn g (w2.setCell ⟨cb,11,none⟩ (.slice na nm.length nc)) s2:=h2.cmdSet fF cR jT (ae.refl _ _) 11 _;have o3:ae (fun b=>b=g.x∨b=cb) w (w2.setCell ⟨cb,11,none⟩ (.slice na nm.length nc)):=(aW o1 o2).trans (af _ cb 11 _) (fun _ e=>Or.inl e) (fun _ _ e=>Or.inr e);have S3:SFl g (w2.setCell ⟨cb,11,none⟩ (.slice na nm.length nc)) B cb {r with s:=s2}:=h.moved2 h3 hc.typ o3;clear cC aL h1 h2 o1 o2;go_upto_region 17 with (fail)
  generalize w2.setCell ⟨cb,11,none⟩ (.slice na nm.length nc)=w3 at*
  clear t21 t22 y9 tH pZ;obtain⟨ja,jc,qj,ej,q1,q2⟩:=S3.jmp;have EA:w3.ownsRow B 88 1 (.slice ja r.jumps.length jc) r.jumps.length (qj.map fun b=> .pointer (some ⟨b,0,none⟩)):=q1;have Md:g.jv=.slice ja r.jumps.length jc:=ej;have hlen:qj.length=r.jumps.length:=by have:=EA.1;simpa using this
  have c7:w3.cell? ⟨g.x,7,none⟩=some (.slice ja r.jumps.length jc)∧w3.frozen? ⟨g.x,7,none⟩=false:=by
   obtain⟨MI,VM,k1,k2⟩:=h3.cells;have:=k1 7 _ rfl;rw[Md] at this;exact this
  have Nv:=c7.1;have QD:=c7.2;clear q1 ej c7;have CR:=S3.bs;have Pr:g.x<w3.heap.size:=h3.typ.lt;have bu:(Value.slice ja r.jumps.length jc).ownBlock≠some g.x:=fun e=>by have:=(EA.lt _ e).1;have:=h.hx;omega
  have aO:(w3.alloc (.cells #[.pointer (some ⟨cb,0,none⟩)] 88)).heap.size=w3.heap.size+1:=by simp
  have oa:ae (fun _=>False) w3 (w3.alloc (.cells #[.pointer (some ⟨cb,0,none⟩)] 88)):=(ae.refl _ w3).alloc _;have cq:=ag EA oa (fun _ _=>id);have gD:=oa.keeps Nv id;have gE:=oa.keepsFrozen Nv QD id;go_upto_region 30 with (at_builtin;refine wpList_append_lies _ (by rfl) _ _ _ (by rfl) B 88 i0 _ 1 8 Tryz.underlying53 dZ nj nk ns rfl (by omega) (.slice ja r.jumps.length jc) r.jumps.length (qj.map fun b=> .pointer (some ⟨b,0,none⟩)) (by rfl) cq ⟨w3.heap.size,0,none⟩ 1 1 [.pointer (some ⟨cb,0,none⟩)] (by rfl) (by rfl) (World.news_of_block (cs:= #[.pointer (some ⟨cb,0,none⟩)]) (t:=88) (fr:=(0,0)) (heap_alloc_new _ _)) (by simp[Value.oneCell']) (by omega) (by unfold maxLen;omega) (by omega) (by rw[aO];omega) (w3.heap.size+1) aO ?_;intro g2 aT w4 ay ao bH dM;have gq:=(ao.cell_far ⟨g.x,7,none⟩ (by rw[aO];show g.x<_;omega) (Ne.symm bu)).trans gD;have sA:=(ao.frozen_far ⟨g.x,7,none⟩ (by rw[aO];show g.x<_;omega) (Ne.symm bu)).trans gE)
  have oA:ae (fun b=>(Value.slice ja r.jumps.length jc).ownBlock=some b) w3 w4:=oa.trans (ae.of_grown ao) (fun _ e=>e.elim) (fun _ _ e=>e);have S5:=SFl.jump (r:= {r with s:=s2}) S3 dJ uu fq bJ Md q2 hlen oA ay;have Pf:w.heap.size≤w3.heap.size:=o3.size;have oT:ae (fun b=>Own g b∨b=cb) w (w4.setCell ⟨g.x,7,none⟩ (.slice (some ⟨g2,0,none⟩) (r.jumps.length+1) aT)):=((o3.mono (fun b _ e=>by rcases e with e | e;exact Or.inl (Or.inl e);exact Or.inr e):ae (fun b=>Own g b∨b=cb) w w3).trans oA (fun _ e=>e) (fun b _ e=>Or.inl (Or.inr (Or.inr (by rw[Md];exact e))))).trans (af _ g.x 7 _) (fun _ e=>e) (fun _ _ e=>Or.inl (Or.inl e))
  have key:∃gg:SG,gg.x=g.x∧gg.L=g.L∧gg.pl=g.pl∧Sg g gg∧SFl gg (w4.setCell ⟨g.x,7,none⟩ (.slice (some ⟨g2,0,none⟩) (r.jumps.length+1) aT)) B (cb+1) ⟨s2,r.labs,r.jumps++ [(nm,at_)]⟩∧(∀b,Own gg b→Own g b∨w.heap.size≤b):=by
   refine⟨{g with jv:=.slice (some ⟨g2,0,none⟩) (r.jumps.length+1) aT},rfl,rfl,rfl,⟨rfl,rfl,rfl,rfl,rfl,rfl⟩,S5,fun b hb=> ?_⟩
   rcases hb with e | e | e
   ·exact Or.inl (Or.inl e)
   ·exact Or.inl (Or.inr (Or.inl e))
   ·have e2:(some g2:Option Nat)=some b:=e
    injection e2 with e2
    rcases bH with h9 | h9
    ·exact Or.inl (Or.inr (Or.inr (by rw[Md,h9,e2])))
    ·right
     omega
  obtain⟨gg,ex,eL,Dn,Lj,S6,Bg⟩:=key;have j6:Scn gg (w4.setCell ⟨g.x,7,none⟩ (.slice (some ⟨g2,0,none⟩) (r.jumps.length+1) aT)) s2:=S6.scn
  have cu:Hid (∀W',Scn gg W' (Rf.tailEnd g.L g.pl s2)→ae (·=g.x) (w4.setCell ⟨g.x,7,none⟩ (.slice (some ⟨g2,0,none⟩) (r.jumps.length+1) aT)) W'→rF g w B cb R W'):=fun W' hs o=>by
   rw[←HR.out];exact⟨gg,Lj,S6.moved hs (by rw[ex];exact o),Bg,oT.trans o (fun _ e=>e) (fun _ _ e=>Or.inl (Or.inl e))⟩
  generalize w4.setCell ⟨g.x,7,none⟩ (.slice (some ⟨g2,0,none⟩) (r.jumps.length+1) aT)=w5 at*
  clear S3 S5 S6 oT oA ay ao gq sA cq oa EA q2 Nv QD gD gE h3 o3 dJ h hc Lj Bg bH;have EX:Hid _:=ex;have EL:Hid _:=eL;have EP:Hid _:=Dn;clear ex eL Dn;have ld:=bf gg w5 s2 j6 false;rw[EX.out,EL.out] at ld;have bC:=cu.out;unfold Rf.tailEnd at bC;simp only at bC;generalize Rf.skip g.L s2 false=s9 at*
  have ng:=j6.small;rw[EL.out] at ng;go_wp2_with fail;refine ld.mono ?_;rintro e w8 ⟨rfl,h8,o8⟩;have ey:=az gg w8 s9 h8;rw[EX.out,EL.out] at ey;have iC:=h8.le;rw[EL.out] at iC;obtain⟨Ji,Jk,rj,zF⟩:=h8.cells;have Ff:=(rj 2 _ rfl).1;rw[EX.out] at Ff;clear rj zF;by_cases dG:0≤Rf.now g.L s9∧Rf.now g.L s9≠59∧Rf.now g.L s9≠10∧Rf.now g.L s9≠125
  ·rw[if_pos dG] at bC
   obtain⟨e0,e1,e2,e3⟩:=dG;have b1:(Rf.now g.L s9==59)=false:=by simpa using e1
   have b2:(Rf.now g.L s9==10)=false:=by simpa using e2
   have b3:(Rf.now g.L s9==125)=false:=by simpa using e3
   have Df:(Rf.now g.L s9 !=59)=true:=by unfold bne;rw[b1];rfl
   have Dg:(Rf.now g.L s9 !=10)=true:=by unfold bne;rw[b2];rfl
   have AL:(Rf.now g.L s9 !=125)=true:=by unfold bne;rw[b3];rfl
   clear e1 e2 e3;have lh:Hid _:=bC;clear bC cu;generalize Rf.now g.L s9=r9 at*
   go_wp2_with fail;refine ey.mono ?_;rintro e w9 ⟨rfl,n9,rfl⟩;go_wp2_with fail;have BL:=aB gg _ _ (h8.drewN n9) 3 s9.i (by rw[EL.out];exact iC);rw[EX.out,EP.out] at BL;refine BL.mono ?_;rintro e Jo ⟨rfl,dQ,zM⟩;go_wp2;go_end0;exact⟨rfl,lh.out _ dQ (o8.trans (((ae.refl (·=g.x) w8).drewN n9).trans zM (fun _ e=>e) (fun _ _ e=>e)) (fun _ e=>e) (fun _ _ e=>e))⟩
  ·rw[if_neg dG] at bC
   have lh:Hid _:=bC;have dm:Rf.now g.L s9<0∨Rf.now g.L s9=59∨Rf.now g.L s9=10∨Rf.now g.L s9=125:=by omega
   clear bC cu dG
   rcases dm with hr | hr | hr | hr
   all_goals
    first
     | rw[hr] at ey
     | generalize Rf.now g.L s9=r9 at*
    go_wp2_with fail;refine ey.mono ?_;rintro e w9 ⟨rfl,n9,rfl⟩;go_wp2;go_end0;exact⟨rfl,lh.out _ (h8.drewN n9) (o8.drewN n9)⟩
theorem qI (g:SG) (w:World) (B cb:Nat) (r:Rf.RS) (h:SFl g w B cb r) (what:Int) (at_:Nat) (tx:Value) (hc:CmB w cb what at_ tx false false 0) (uu:B≤cb) (bJ:at_≤g.L.length) (As:r.labs.length≤900) (Ar:r.jumps.length≤900) (h0:what=58):
 Calls Tryz.prog 85 #[.pointer (some ⟨g.x,0,none⟩),.pointer (some ⟨cb,0,none⟩)] w fun e w'=>e=.returned (.tuple #[])∧rF g w B cb (Rf.behind g.L g.pl what at_ r) w':=by
 obtain⟨y9,tH,pZ,_,_,_⟩:=hc.known;have fF:cb≠g.x:=by have:=h.hx;omega
 have cR:g.L≠ []→cb≠g.lb:=fun e=>by have:=h.hl e;omega
 have jT:cb≠g.pb:=by have:=h.hp;omega
 have hle:=h.scn.le;have dy:=h.scn.small;obtain⟨R,hR⟩:∃R,Rf.behind g.L g.pl what at_ r=R:=⟨_,rfl⟩;rw[hR];unfold Rf.behind at hR;subst h0;rw[if_neg (by omega),if_pos rfl] at hR;unfold Rf.setLab at hR;simp only at hR;have dx:=mH g w r.s h.scn;generalize Rf.name g.L g.pl r.s=s2 at*
 generalize Rf.letters g.L r.s=nm at*
 obtain⟨s3,CZ⟩:∃s3,(if nm.length=0 then Rf.no g.pl s2 3 s2.i else s2)=s3:=⟨_,rfl⟩;rw[CZ] at hR;obtain⟨s4,mn⟩:∃s4,(if r.labs.contains nm=true then Rf.no g.pl s3 7 at_ else s3)=s4:=⟨_,rfl⟩;rw[mn] at hR;obtain⟨i0,dZ,nj,nk,ns⟩:=info_parts B4;have HR:Hid _:=hR;clear hR;go_enter Tryz.func85,Tryz.ntmps85;go_wp2_with fail;refine dx.mono ?_;rintro e w2 ⟨nv,rfl,fq,h2,o2⟩;have aL:=hc.keeps o2 fF;obtain⟨na,nc,rfl,_⟩:=id fq;obtain⟨PZ,t21,t22⟩:=aL.at 11 (by decide);have dJ:CmB (w2.setCell ⟨cb,11,none⟩ (.slice na nm.length nc)) cb 58 at_ (.slice na nm.length nc) false false 0:=aL.set 11 (.slice na nm.length nc) rfl rfl rfl rfl rfl rfl;have h3:Scn g (w2.setCell ⟨cb,11,none⟩ (.slice na nm.length nc)) s2:=h2.cmdSet fF cR jT (ae.refl _ _) 11 _;have o3:ae (fun b=>b=g.x∨b=cb) w (w2.setCell ⟨cb,11,none⟩ (.slice na nm.length nc)):=o2.trans (af _ cb 11 _) (fun _ e=>Or.inl e) (fun _ _ e=>Or.inr e);have S3:SFl g (w2.setCell ⟨cb,11,none⟩ (.slice na nm.length nc)) B cb {r with s:=s2}:=h.moved2 h3 hc.typ o3;clear aL h2 o2;go_upto_region 7 with (fail)
 generalize w2.setCell ⟨cb,11,none⟩ (.slice na nm.length nc)=w3 at*
 clear t21 t22 y9 tH pZ;have pZ:=dJ.known.2.2.1;have Hb:=fq.len;obtain⟨la,pc,k1,k2⟩:=h3.cells;have c2:=(k1 2 _ rfl).1;have K4:=h3.le;clear k1 k2;by_cases hz:nm.length=0
 all_goals first
  | (rw[if_pos hz] at CZ
     have bz:((nm.length:Int)==0)=true:=by simp[hz]
     have HZ:Hid _:=hz;clear hz;go_wp2_with fail;refine(aB g _ _ h3 3 s2.i K4).mono ?_;rintro e w4 ⟨rfl,h4,o4⟩;rw[CZ] at h4;have eu:=dJ.keeps o4 fF;have S4:=S3.moved h4 o4;have o5:ae (fun b=>b=g.x∨b=cb) w w4:=o3.trans o4 (fun _ e=>e) (fun _ _ e=>Or.inl e);clear pZ c2 h3 o3 S3 dJ o4 bz HZ;go_upto_region 9 with (fail))
  | (rw[if_neg hz] at CZ
     have bz:((nm.length:Int)==0)=false:=beq_eq_false_iff_ne.2 (by omega);have h4:Scn g w3 s3:=by rw[←CZ];exact h3
     have S4:SFl g w3 B cb {r with s:=s3}:=by rw[←CZ];exact S3
     have eu:=dJ;have o5:=o3;obtain⟨w4,Hr⟩:∃w4,w4=w3:=⟨_,rfl⟩;rw[←Hr] at h4 S4 eu o5;go_upto_region 9 with (fail)
     rw[←Hr];clear pZ c2 h3 o3 S3 dJ bz hz Hr)
 all_goals
  have pZ:=eu.known.2.2.1;have oZ:=kP g w4 s3 h4 B r.labs S4.lab (by omega) _ nm fq;clear CZ;by_cases hk:r.labs.contains nm=true
 all_goals first
  | (rw[if_pos hk] at mn
     rw[hk] at oZ;have tH:=eu.known.2.1;clear hk;go_wp2_with fail;refine oZ.mono ?_;rintro e w5 ⟨rfl,n5,rfl⟩;go_wp2_with fail;refine(aB g _ _ (h4.drewN n5) 7 at_ bJ).mono ?_;rintro e w6 ⟨rfl,h6,o6⟩;rw[mn] at h6;have MM:ae (·=g.x) w4 w6:=((ae.refl (·=g.x) w4).drewN n5).trans o6 (fun _ e=>e) (fun _ _ e=>e);have p8:=eu.keeps MM fF;have S6:=S4.moved h6 MM;have o7:ae (fun b=>b=g.x∨b=cb) w w6:=o5.trans MM (fun _ e=>e) (fun _ _ e=>Or.inl e);clear pZ tH h4 S4 eu o5 o6 MM oZ;go_upto_region 12 with (fail))
  | (have FA:r.labs.contains nm=false:=by simpa using hk
     rw[if_neg hk] at mn;rw[FA] at oZ;clear hk FA;go_wp2_with fail;refine oZ.mono ?_;rintro e w5 ⟨rfl,n5,rfl⟩;have h6:Scn g (w4.drewN n5) s4:=by rw[←mn];exact h4.drewN n5
     have p8:=eu.drewN n5;have S6:SFl g (w4.drewN n5) B cb {r with s:=s4}:=S4.moved h6 ((ae.refl _ _).drewN n5);have o7:ae (fun b=>b=g.x∨b=cb) w (w4.drewN n5):=o5.drewN n5;go_upto_region 12 with (fail)
     generalize w4.drewN n5=w6 at*
     clear pZ h4 S4 eu o5 oZ)
 all_goals
  have pZ:=p8.known.2.2.1;obtain⟨la,lc,vs,el,q1,q2⟩:=S6.lab;have EA:w6.ownsRow B 35 1 (.slice la r.labs.length lc) r.labs.length vs:=q1;have Me:g.lv=.slice la r.labs.length lc:=el;have hlen:vs.length=r.labs.length:=by have:=EA.1;omega
  have c6:w6.cell? ⟨g.x,6,none⟩=some (.slice la r.labs.length lc)∧w6.frozen? ⟨g.x,6,none⟩=false:=by
   obtain⟨MI,VM,k1,k2⟩:=h6.cells;have:=k1 6 _ rfl;rw[Me] at this;exact this
  have QB:=c6.1;have QC:=c6.2;clear q1 el c6;have CR:=S6.bs;have Pr:g.x<w6.heap.size:=h6.typ.lt;have bu:(Value.slice la r.labs.length lc).ownBlock≠some g.x:=fun e=>by have:=(EA.lt _ e).1;have:=h.hx;omega
  have p7:∀o:Obj,(w6.alloc o).cell? ⟨g.x,6,none⟩=some (.slice la r.labs.length lc):=fun o=>by rw[World.cell?_alloc_past _ _ _ Pr];exact QB
  have p6:∀o:Obj,(w6.alloc o).frozen? ⟨g.x,6,none⟩=false:=fun o=>by rw[World.frozen?_alloc_past _ _ _ Pr];exact QC
  have oa:ae (fun _=>False) w6 (w6.alloc (.cells #[.slice na nm.length nc] 35)):=(ae.refl _ w6).alloc _;have cq:=ag EA oa (fun _ _=>id)
  go_region_law
   ((refine step_append_lies _ (by rfl) _ _ _ (by rfl) B 35 i0 _ 1 24 Tryz.underlying77 dZ nj nk ns rfl (by omega) (.slice la r.labs.length lc) r.labs.length vs (by rfl) (cq.drew) ⟨w6.heap.size,0,none⟩ 1 1 [.slice na nm.length nc] (by rfl) (by rfl) (World.news_of_block (cs:= #[.slice na nm.length nc]) (t:=35) (fr:=(0,0)) (heap_alloc_new w6 _)) (by simp[Value.oneCell']) (by omega) (by unfold maxLen;omega) (by omega) (by simp;omega) (w6.heap.size+1) (by simp) ?_;intro g2 aT w7 ay ao bH dM;have gq:=(ao.cell_far ⟨g.x,6,none⟩ (by simp;omega) (Ne.symm bu)).trans (p7 _);have sA:=(ao.frozen_far ⟨g.x,6,none⟩ (by simp;omega) (Ne.symm bu)).trans (p6 _)))
  all_goals
   have oA:ae (fun b=>(Value.slice la r.labs.length lc).ownBlock=some b) w6 w7:=(oa.drew).trans (ae.of_grown ao) (fun _ e=>e.elim) (fun _ _ e=>e);have S8:=SFl.label (r:= {r with s:=s4}) S6 fq Me q2 hlen oA ay;have Pf:w.heap.size≤w6.heap.size:=o7.size;have oT:ae (fun b=>Own g b∨b=cb) w (w7.setCell ⟨g.x,6,none⟩ (.slice (some ⟨g2,0,none⟩) (r.labs.length+1) aT)):=((o7.mono (fun b _ e=>by rcases e with e | e;exact Or.inl (Or.inl e);exact Or.inr e):ae (fun b=>Own g b∨b=cb) w w6).trans oA (fun _ e=>e) (fun b _ e=>Or.inl (Or.inr (Or.inl (by rw[Me];exact e))))).trans (af _ g.x 6 _) (fun _ e=>e) (fun _ _ e=>Or.inl (Or.inl e))
   have key:∃gg:SG,gg.x=g.x∧gg.L=g.L∧gg.pl=g.pl∧Sg g gg∧SFl gg (w7.setCell ⟨g.x,6,none⟩ (.slice (some ⟨g2,0,none⟩) (r.labs.length+1) aT)) B cb ⟨s4,r.labs++ [nm],r.jumps⟩∧(∀b,Own gg b→Own g b∨w.heap.size≤b):=by
    refine⟨{g with lv:=.slice (some ⟨g2,0,none⟩) (r.labs.length+1) aT},rfl,rfl,rfl,⟨rfl,rfl,rfl,rfl,rfl,rfl⟩,S8,fun b hb=> ?_⟩
    rcases hb with e | e | e
    ·exact Or.inl (Or.inl e)
    ·have e2:(some g2:Option Nat)=some b:=e
     injection e2 with e2
     rcases bH with h9 | h9
     ·exact Or.inl (Or.inr (Or.inl (by rw[Me,h9,e2])))
     ·right
      omega
    ·exact Or.inl (Or.inr (Or.inr e))
   obtain⟨gg,ex,eL,Dn,Lj,S9,Bg⟩:=key;have j6:Scn gg (w7.setCell ⟨g.x,6,none⟩ (.slice (some ⟨g2,0,none⟩) (r.labs.length+1) aT)) s4:=S9.scn
   have cu:Hid (∀W',Scn gg W' (Rf.tailEnd g.L g.pl s4)→ae (·=g.x) (w7.setCell ⟨g.x,6,none⟩ (.slice (some ⟨g2,0,none⟩) (r.labs.length+1) aT)) W'→rF g w B cb R W'):=fun W' hs o=>by
    rw[←HR.out];exact⟨gg,Lj,(S9.moved hs (by rw[ex];exact o)).more (Nat.le_succ cb),Bg,oT.trans o (fun _ e=>e) (fun _ _ e=>Or.inl (Or.inl e))⟩
   generalize w7.setCell ⟨g.x,6,none⟩ (.slice (some ⟨g2,0,none⟩) (r.labs.length+1) aT)=VS at*
   clear S6 S8 S9 oT oA ay ao gq sA cq oa EA q2 QB QC p7 p6 h6 o7 p8 h hc Lj Bg bH pZ;have EX:Hid _:=ex;have EL:Hid _:=eL;have EP:Hid _:=Dn;clear ex eL Dn;have ld:=bf gg VS s4 j6 false;rw[EX.out,EL.out] at ld;have bC:=cu.out;unfold Rf.tailEnd at bC;simp only at bC;generalize Rf.skip g.L s4 false=s9 at*
   have ng:=j6.small;rw[EL.out] at ng;go_wp2_with fail;refine ld.mono ?_;rintro e w8 ⟨rfl,h8,o8⟩;have ey:=az gg w8 s9 h8;rw[EX.out,EL.out] at ey;have iC:=h8.le;rw[EL.out] at iC;obtain⟨Ji,Jk,rj,zF⟩:=h8.cells;have Ff:=(rj 2 _ rfl).1;rw[EX.out] at Ff;clear rj zF;by_cases dG:0≤Rf.now g.L s9∧Rf.now g.L s9≠59∧Rf.now g.L s9≠10∧Rf.now g.L s9≠125
   ·rw[if_pos dG] at bC
    obtain⟨e0,e1,e2,e3⟩:=dG;have b1:(Rf.now g.L s9==59)=false:=by simpa using e1
    have b2:(Rf.now g.L s9==10)=false:=by simpa using e2
    have b3:(Rf.now g.L s9==125)=false:=by simpa using e3
    have Df:(Rf.now g.L s9 !=59)=true:=by unfold bne;rw[b1];rfl
    have Dg:(Rf.now g.L s9 !=10)=true:=by unfold bne;rw[b2];rfl
    have AL:(Rf.now g.L s9 !=125)=true:=by unfold bne;rw[b3];rfl
    clear e1 e2 e3;have lh:Hid _:=bC;clear bC cu;generalize Rf.now g.L s9=r9 at*
    go_wp2_with fail;refine ey.mono ?_;rintro e w9 ⟨rfl,n9,rfl⟩;go_wp2_with fail;have BL:=aB gg _ _ (h8.drewN n9) 3 s9.i (by rw[EL.out];exact iC);rw[EX.out,EP.out] at BL;refine BL.mono ?_;rintro e Jo ⟨rfl,dQ,zM⟩;go_wp2;go_end0;exact⟨rfl,lh.out _ dQ (o8.trans (((ae.refl (·=g.x) w8).drewN n9).trans zM (fun _ e=>e) (fun _ _ e=>e)) (fun _ e=>e) (fun _ _ e=>e))⟩
   ·rw[if_neg dG] at bC
    have lh:Hid _:=bC;have dm:Rf.now g.L s9<0∨Rf.now g.L s9=59∨Rf.now g.L s9=10∨Rf.now g.L s9=125:=by omega
    clear bC cu dG
    rcases dm with hr | hr | hr | hr
    all_goals
     first
      | rw[hr] at ey
      | generalize Rf.now g.L s9=r9 at*
     go_wp2_with fail;refine ey.mono ?_;rintro e w9 ⟨rfl,n9,rfl⟩;go_wp2;go_end0;exact⟨rfl,lh.out _ (h8.drewN n9) (o8.drewN n9)⟩
end
end Go.Proofs.YtbiobhghnldckaaGreatDoor
