/- Proved: the editor's small functions, where nothing is wrong. Conditions: the editor lies in memory as 'Ed' says. -/
import Derived.Test.YtbiobhghnldckaaGreatDoorS16
namespace Go.Proofs.YtbiobhghnldckaaGreatDoor
set_option linter.unusedVariables false
set_option maxRecDepth 100000
set_option maxHeartbeats 6400000
section
open Go.RowKit
theorem gi (eb:Nat) (w:World) (l:List Value) (out:List UInt8) (h:Ed w eb l out) (tz:l[15]? =some (.int .i64 0)) (ra ha:Option Addr) (n m rc hc:Nat) (h4:l[4]? =some (.slice ra n rc)) (h5:l[5]? =some (.slice ha m hc)) (hn:n≤400) (hm:m≤400):
 Calls Tryz.prog 93 #[.pointer (some ⟨eb,0,none⟩)] w fun e w'=>(∃v,e=.returned v)∧ae (fun _=>False) w w':=by
 have Fc:=(h.get 15 (by omega) _ tz).1;have c4:=(h.get 4 (by omega) _ h4).1;have c5:=(h.get 5 (by omega) _ h5).1;have hg:∀k,Calls Tryz.prog 44 #[.pointer (some ⟨eb,0,none⟩)] (w.drewN k) fun e w'=>e=.returned (.bool true)∧w'=w.drewN k:=fun k=>bP eb (w.drewN k) 0 Fc;have d2:decide ((400:Int)<max (n:Int) m)=false:=by simp;omega
 go_enter Tryz.func93,Tryz.ntmps93;go_wp2_with fail
 go_quiet ((go_at_call 44;exact(hg _).mono (fun e w1 ⟨he,da⟩=>⟨he,_,da⟩)))
 go_wp2;go_end0;exact⟨⟨_,rfl⟩,(ae.refl _ w).drewN _⟩
theorem rQ (eb:Nat) (w:World) (l:List Value) (out:List UInt8) (h:Ed w eb l out) (tz:l[15]? =some (.int .i64 0)) (st:Nat) (J5:l[12]? =some (.int .i64 st)) (bZ:st<5000):
 Calls Tryz.prog 94 #[.pointer (some ⟨eb,0,none⟩)] w fun e w'=>(∃v,e=.returned v)∧Ed w' eb (l.set 12 (.int .i64 ((st:Int)+1))) out∧ae (·=eb) w w':=by
 have Qz:=h.get 12 (by omega) _ J5;have q1:=Qz.1;have q2:=Qz.2;have hw:IntKind.i64.wrap ((st:Int)+1)=(st:Int)+1:=by rw[IntKind.wrap_i64];omega
 have hE:=h.set 12 (by omega) (.int .i64 ((st:Int)+1));have Fc:=(hE.get 15 (by omega) (.int .i64 0) (by rw[List.getElem?_set_ne (by omega)];exact tz)).1;have d1:decide ((5000:Int)<(st:Int)+1)=false:=by simp;omega
 have hO:=af w eb 12 (.int .i64 ((st:Int)+1));go_enter Tryz.func94,Tryz.ntmps94;go_wp2_with fail;refine(bP eb _ 0 Fc).mono ?_;rintro e w1 ⟨rfl,rfl⟩;go_wp2;go_end0;exact⟨⟨_,rfl⟩,hE,hO⟩
theorem ji (eb:Nat) (w:World) (l:List Value) (out:List UInt8) (h:Ed w eb l out) (c:Nat) (a:Option Addr) (h6:l[6]? =some (.slice a 0 c)):
 Calls Tryz.prog 98 #[.pointer (some ⟨eb,0,none⟩)] w fun e w'=>(∃v,e=.returned v)∧Ed w' eb (l.set 6 (.slice none 0 0)) out∧ae (·=eb) w w':=by
 have c6:=h.get 6 (by omega) _ h6;have q1:=c6.1;have q2:=c6.2;have hE:=h.set 6 (by omega) (.slice none 0 0);have hO:=af w eb 6 (.slice none 0 0);go_enter Tryz.func98,Tryz.ntmps98;go_wp2_with fail
 go_loopg [9] 0 (fun k v wr=>v=.int .i64 0∧wr=w)
 case atStart=>exact ⟨rfl,rfl⟩
 case round=>
  obtain⟨rfl,rfl⟩:=hrel;go_wp2;go_end0;exact⟨⟨_,rfl⟩,hE,hO⟩
theorem Sl.of_space {w:World}{b:Nat}{sp:List Int} (h:bY w (some ⟨b,0,none⟩) sp) (ht:aq w b 21):Sl w (some ⟨b,0,none⟩) sp:=by
 refine Or.inr ⟨b,0,rfl,ht,fun j hj=> ?_⟩;obtain⟨rb,ro,e,_,hc⟩:=h (by intro e;simp[e] at hj);injection e with e;injection e with e1 e2;subst e1;subst e2;exact hc j hj
theorem eQ (w:World) (a:Option Addr) (c:Nat) (sp:List Int) (h:Sl w a sp):(convert 103 9 (.slice a sp.length c)).run Tryz.prog w=.ok (.string (runesBytes sp)) w:=by
 rcases h with ⟨rfl,rfl⟩ |⟨rb,ro,rfl,ht,hc⟩
 ·exact run_convert_runes_nil w _ _ 21 0 c Tryz.underlying103 Tryz.underlying21 Tryz.underlying9
 ·have:=run_convert_runes (P:=Tryz.prog) w 103 9 21 ⟨rb,ro,none⟩ sp.length c sp (Nat.le_refl _) Tryz.underlying103 Tryz.underlying21 Tryz.underlying9 (fun j hj=>by rw[Addr.add_mid];exact hc j hj)
  rwa [List.take_length] at this
theorem Gv (eb:Nat) (w:World) (l:List Value) (out:List UInt8) (h:Ed w eb l out) (tz:l[15]? =some (.int .i64 0)) (h1:l[1]? =some (.bool false)) (ra ha qa:Option Addr) (m rc hc qc:Nat) (sp:List Int) (h4:l[4]? =some (.slice ra sp.length rc)) (fq:Sl w ra sp) (h5:l[5]? =some (.slice ha m hc)) (h6:l[6]? =some (.slice qa 0 qc)) (hn:sp.length≤400) (hm:m≤400) (hlen:out.length+(runesBytes sp).size+1≤8000):
 Calls Tryz.prog 72 #[.pointer (some ⟨eb,0,none⟩)] w fun e w'=>(∃v,e=.returned v)∧Ed w' eb (l.set 6 (.slice none 0 0)) ((out++(runesBytes sp).data.toList)++ [10])∧ae (fun b=>b=eb∨(aq w b 5∧eb≤b)) w w':=by
 have KC:=fun (u:World) (hu:Sl u ra sp)=>eQ u ra rc sp hu;generalize runesBytes sp=tx at*
 go_enter Tryz.func72,Tryz.ntmps72;go_wp2_with fail;refine(gi eb w l out h tz ra ha sp.length m rc hc h4 h5 hn hm).mono ?_;rintro e w1 ⟨⟨v1,rfl⟩,o1⟩;have uo:=h.keeps o1 id (fun _ _=>id);have c1:=(uo.get 1 (by omega) _ h1).1;have c4:=(uo.get 4 (by omega) _ h4).1;have lG:=fq.keeps o1 (fun _ _ _=>id);have On:=KC w1 lG;clear KC;go_wp2_with fail;refine(Cq eb w1 l out uo tz tx hlen).mono ?_;rintro e w2 ⟨⟨v2,rfl⟩,qV,o2⟩;go_wp2_with fail;refine(ji eb w2 l _ qV qc qa h6).mono ?_;rintro e w3 ⟨⟨v3,rfl⟩,qp,o3⟩;go_wp2;go_end0;have yt:ae (fun b=>b=eb∨(aq w b 5∧eb≤b)) w w2:=yD h.typ (o1.mono (fun _ _ e=>e.elim)) o2;exact⟨⟨_,rfl⟩,qp,yt.trans o3 (fun _ e=>e) (fun _ _ e=>Or.inl e)⟩
theorem yU (eb:Nat) (w:World) (l:List Value) (out:List UInt8) (h:Ed w eb l out) (tz:l[15]? =some (.int .i64 0)) (h1:l[1]? =some (.bool true)) (ra ha qa:Option Addr) (n m rc hc qc:Nat) (h4:l[4]? =some (.slice ra n rc)) (h5:l[5]? =some (.slice ha m hc)) (h6:l[6]? =some (.slice qa 0 qc)) (hn:n≤400) (hm:m≤400):
 Calls Tryz.prog 72 #[.pointer (some ⟨eb,0,none⟩)] w fun e w'=>(∃v,e=.returned v)∧Ed w' eb (l.set 6 (.slice none 0 0)) out∧ae (fun b=>b=eb∨(aq w b 5∧eb≤b)) w w':=by
 go_enter Tryz.func72,Tryz.ntmps72;go_wp2_with fail;refine(gi eb w l out h tz ra ha n m rc hc h4 h5 hn hm).mono ?_;rintro e w1 ⟨⟨v1,rfl⟩,o1⟩;have uo:=h.keeps o1 id (fun _ _=>id);have c1:=(uo.get 1 (by omega) _ h1).1;go_wp2_with fail;refine(ji eb w1 l _ uo qc qa h6).mono ?_;rintro e w3 ⟨⟨v3,rfl⟩,qp,o3⟩;go_wp2;go_end0;exact⟨⟨_,rfl⟩,qp,o1.trans o3 (fun _ e=>e.elim) (fun _ _ e=>Or.inl e)⟩
theorem EB (eb:Nat) (w:World) (l:List Value) (out:List UInt8) (h:Ed w eb l out) (lb lo n c k:Nat) (s:ByteArray) (h2:l[2]? =some (.slice (some ⟨lb,lo,none⟩) n c)) (h3:l[3]? =some (.int .i64 k)) (r8:Bool) (h8:l[8]? =some (.bool r8)) (hk:k<n) (hn:n≤4000) (hl:w.cell? ⟨lb,lo+k,none⟩=some (.string s)) (hs:s.size≤3000):
 Calls Tryz.prog 70 #[.pointer (some ⟨eb,0,none⟩)] w fun e w'=>∃b rc,e=.returned (.slice (some ⟨b,0,none⟩) (Adz.runes s).length rc)∧Sl w' (some ⟨b,0,none⟩) (Adz.runes s)∧(Adz.runes s).length≤rc∧Ed w' eb ((l.set 3 (.int .i64 ((k:Int)+1))).set 8 (.bool false)) out∧ae (·=eb) w w':=by
 have c2:=(h.get 2 (by omega) _ h2).1;have c3:=h.get 3 (by omega) _ h3;have q3:=c3.1;have f3:=c3.2;have hw:IntKind.i64.wrap ((k:Int)+1)=(k:Int)+1:=by rw[IntKind.wrap_i64];omega
 have DO:(k:Int)<n:=by omega
 go_enter Tryz.func70,Tryz.ntmps70;go_wp2_with fail
 go_quiet (fail)
 have Dw:=h.keeps (S:=fun _=>False) ((ae.refl _ w).drewN nq) id (fun _ _=>id);have Mp:ae (fun _=>False) w (w.drewN nq):=(ae.refl _ w).drewN nq;generalize w.drewN nq=u at*
 have Xc:=(Dw.get 3 (by omega) _ h3).1;have Mf:=(Dw.get 3 (by omega) _ h3).2;have uo:=Dw.set 3 (by omega) (.int .i64 ((k:Int)+1));have QN:(l.set 3 (.int .i64 ((k:Int)+1)))[8]? =some (.bool r8):=by rw[List.getElem?_set_ne (by omega)];exact h8
 have q8:=(uo.get 8 (by omega) _ QN).1;have f8:=(uo.get 8 (by omega) _ QN).2;have qV:=uo.set 8 (by omega) (.bool false);have NZ:ae (·=eb) w ((u.setCell ⟨eb,3,none⟩ (.int .i64 ((k:Int)+1))).setCell ⟨eb,8,none⟩ (.bool false)):=aW ((Mp.trans (af u eb 3 (.int .i64 ((k:Int)+1))) (fun _ e=>e.elim) (fun _ _ e=>e))) (af _ eb 8 (.bool false));obtain⟨rc,w4,iT,Lm,dg,Kw,Pg⟩:=oL ((u.setCell ⟨eb,3,none⟩ (.int .i64 ((k:Int)+1))).setCell ⟨eb,8,none⟩ (.bool false)) s (by omega);have hz:((u.setCell ⟨eb,3,none⟩ (.int .i64 ((k:Int)+1))).setCell ⟨eb,8,none⟩ (.bool false)).heap.size=u.heap.size:=by simp[World.setCell]
 have Qt:Hid _:=Lm;clear Lm;have DE:=Qt.out;rw[hz] at DE Pg;have M7:Hid _:=Sl.of_space DE Pg;clear DE Qt Pg;go_wp2;go_ret;exact⟨_,rc,rfl,M7.out,Kw,qV.keeps dg id (fun _ _=>id),NZ.trans dg (fun _ e=>e) (fun _ _ e=>e.elim)⟩
namespace Adz
theorem line_step {L:List Int}{j:Nat} (hj:j<L.length) (h:peek L j≠10):lineOf L j=peek L j::lineOf L (j+1):=by
 unfold lineOf;have e:L.drop j=L[j]::L.drop (j+1):=List.drop_eq_getElem_cons hj;have hp:peek L j=L[j]:=by simp[peek,List.getElem?_eq_getElem hj]
 rw[hp] at h ⊢;rw[e,List.takeWhile_cons,if_pos (by simpa using h)]
theorem line_stop {L:List Int}{j:Nat} (h:peek L j=10∨L.length≤j):lineOf L j= []:=by
 unfold lineOf;by_cases hj:j<L.length
 ·have e:L.drop j=L[j]::L.drop (j+1):=List.drop_eq_getElem_cons hj
  have hp:peek L j=L[j]:=by simp[peek,List.getElem?_eq_getElem hj]
  rcases h with h | h
  ·rw[hp] at h
   rw[e,List.takeWhile_cons,if_neg (by simp[h])]
  ·omega
 ·rw[List.drop_eq_nil_of_le (by omega)];rfl
theorem line_take (L:List Int) (i:Nat):lineOf L i=(L.drop i).take (lineOf L i).length:=by
 unfold lineOf;exact(List.prefix_iff_eq_take.1 (List.takeWhile_prefix _))
theorem line_len (L:List Int) (i:Nat) (hi:i≤L.length):i+(lineOf L i).length≤L.length:=by
 have h:=congrArg List.length (line_take L i);rw[List.length_take,List.length_drop] at h;omega
end Adz
theorem rA {g:CG}{w:World}{i:Nat} (h:Cur g w i) (h0:g.L.length≠0) (f n:Nat) (hn:f+n≤g.L.length) (c:Nat):
 (convert 103 9 (.slice (some ⟨g.rb,f,none⟩) n c)).run Tryz.prog w=.ok (.string (runesBytes ((g.L.drop f).take n))) w:=by
 have hl:((g.L.drop f).take n).length=n:=by rw[List.length_take,List.length_drop];omega
 have key:Sl w (some ⟨g.rb,f,none⟩) ((g.L.drop f).take n):=by
  refine Or.inr ⟨g.rb,f,rfl,h.tr h0,fun j hj=> ?_⟩;rw[h.rs (f+j) (by omega)];congr 2;rw[hl] at hj;simp[Adz.peek,hj];rw[List.getElem?_eq_getElem (by omega)]
  rfl
 have:=eQ w (some ⟨g.rb,f,none⟩) c _ key;rw[hl] at this;exact this
theorem Ef (g:CG) (w:World) (i:Nat) (h:Cur g w i) (h0:g.L.length≠0) (ct:g.L.length≤g.rcap):
 Calls Tryz.prog 170 #[.pointer (some ⟨g.c,0,none⟩)] w fun e w'=>e=.returned (.string (runesBytes (Adz.lineOf g.L i)))∧Cur g w' (i+(Adz.lineOf g.L i).length)∧ae (·=g.c) w w':=by
 have c2:=h.c2;have hle:=h.le;have dy:=h.small;have hlen:=Adz.line_len g.L i hle;go_enter Tryz.func170,Tryz.ntmps170;go_wp2_with fail
 go_loopg [] (g.L.length - i) (fun k wr=>∃j,Hid (Cur g wr j)∧Hid (j+k=g.L.length∧i≤j∧i+(Adz.lineOf g.L i).length=j+(Adz.lineOf g.L j).length)∧Hid (ae (·=g.c) w wr))
 case atStart=>exact ⟨i,h,⟨by omega,Nat.le_refl _,rfl⟩,ae.refl _ _⟩
 case round=>
  obtain⟨j,hc,hk,ho⟩:=hrel;have aU:Cur g wr j:=hc;have cP:=fun u:World=>fun n=>ah g (wr.drewN n) j (aU.drewN n);by_cases BC:j<g.L.length∧Adz.peek g.L j≠10
  ·obtain⟨hj,dQ⟩:=BC
   have gz:=(aU.runes j hj).1;have b1:(Adz.peek g.L j != -1)=true:=by simp;omega
   have b2:(Adz.peek g.L j !=10)=true:=by simpa using dQ
   have HS:Hid _:=Adz.line_step hj dQ;go_wp2_with fail;refine(ah g wr j aU).mono ?_;rintro e w1 ⟨rfl,n1,rfl⟩;go_wp2_with fail;refine(ah g _ j (aU.drewN n1)).mono ?_;rintro e w2 ⟨rfl,n2,rfl⟩;go_wp2_with fail;refine(ax g _ j (aU.drewN _) hj).mono ?_;rintro e w3 ⟨rfl,dJ,uF⟩;go_wp2;go_roundg (gk - 1)
   case measure=>have:=hk.out.1;omega
   case rel=>exact ⟨j+1,dJ,⟨by have:=hk.out.1;omega,by have:=hk.out.2.1;omega,by rw[hk.out.2.2,HS.out];simp;omega⟩,(ho.out.drewN _).trans uF (fun _ e=>e) (fun _ _ e=>e)⟩
  ·have yf:=Adz.line_stop (L:=g.L) (j:=j) (by
    by_cases hj:j<g.L.length
    ·exact Or.inl (Classical.byContradiction fun e=>BC ⟨hj,e⟩)
    ·exact Or.inr (by omega))
   have hn:i+(Adz.lineOf g.L i).length=j:=by rw[hk.out.2.2,yf];rfl
   have hcut:(g.L.drop i).take (j - i)=Adz.lineOf g.L i:=by
    have e:=Adz.line_take g.L i;rw[show j - i=(Adz.lineOf g.L i).length by omega];exact e.symm
   have IY:=hk.out.2.1
   have jq:∀m,(convert 103 9 (.slice (some ⟨g.rb,i,none⟩) (j - i) (g.rcap - i))).run Tryz.prog (wr.drewN m)=.ok (.string (runesBytes (Adz.lineOf g.L i))) (wr.drewN m):=fun m=>by
    rw[←hcut];exact rA (aU.drewN m) h0 i (j - i) (by have:=aU.le;omega) _
   have CS:g.rcap=i→∀m,(convert 103 9 (.slice (some ⟨g.rb,0,none⟩) 0 0)).run Tryz.prog (wr.drewN m)=.ok (.string (runesBytes (Adz.lineOf g.L i))) (wr.drewN m):=fun e m=>by
    have K4:=aU.le;have e2:j - i=0:=by omega
    rw[←hcut,e2];have:=rA (aU.drewN m) h0 0 0 (by omega) 0;simpa using this
   have d2:=aU.c2;obtain⟨a,d0,ha⟩:=aU.c0;obtain rfl:=ha h0;have ON:=aU.le;have HN:Hid _:=hn;clear hcut hn yf;generalize hT:runesBytes (Adz.lineOf g.L i)=T at*
   have HT:Hid _:=hT;clear hT;by_cases hj:j<g.L.length
   ·have dQ:Adz.peek g.L j=10:=Classical.byContradiction fun e=>BC ⟨hj,e⟩
    go_wp2_with fail;refine(ah g wr j aU).mono ?_;rintro e w1 ⟨rfl,n1,rfl⟩;rw[dQ];go_wp2_with fail;refine(ah g _ j (aU.drewN n1)).mono ?_;rintro e w2 ⟨rfl,n2,rfl⟩;rw[dQ];go_wp2_with fail
    go_quiet (fail)
    go_wp2;go_ret;rw[HN.out];exact⟨by rw[HT.out];rfl,(aU.drewN _).drewN _,(ho.out.drewN _).drewN _⟩
   ·have fO:=(i6 aU).2 (by omega)
    have Wy:j≤g.rcap:=by omega
    clear hj BC;by_cases U8:g.rcap=i
    ·have Uo:=CS U8
     clear CS jq;have Mz:j=i:=by omega
     subst Mz;go_wp2_with fail;refine(ah g wr j aU).mono ?_;rintro e w1 ⟨rfl,n1,rfl⟩;rw[fO];go_wp2_with fail
     go_quiet (fail)
     go_wp2;go_ret;rw[HN.out];exact⟨by rw[HT.out];rfl,(aU.drewN _).drewN _,(ho.out.drewN _).drewN _⟩
    ·clear CS
     go_wp2_with fail;refine(ah g wr j aU).mono ?_;rintro e w1 ⟨rfl,n1,rfl⟩;rw[fO];go_wp2_with fail
     go_quiet (fail)
     go_wp2;go_ret;rw[HN.out];exact⟨by rw[HT.out];rfl,(aU.drewN _).drewN _,(ho.out.drewN _).drewN _⟩
theorem qO (l:List Int):(⟨(Adz.enc l).toArray⟩:ByteArray)=runesBytes l:=by
 have key:∀(l:List Int) (a:ByteArray),(l.foldl (fun r n=>r++Utf8.encode n) a).data.toList=a.data.toList++Adz.enc l:=by
  intro l
  induction l with
  | nil=>intro a;simp[Adz.enc]
  | cons r l ih=>
   intro a;rw[List.foldl_cons,ih,ByteArray.data_append,Array.toList_append];simp[Adz.enc,Adz.utf8]
 have h:=key l ByteArray.empty
 have e:(runesBytes l).data.toList=Adz.enc l:=by
  unfold runesBytes;rw[h]
  rfl
 rw[←e]
theorem ET (g:CG) (pp cb:Nat) (w:World) (i:Nat) (h:Cur g w i) (hp:Lead g pp w) (c:Adz.Cmd) (hc:CmdAt w cb c) (ct:g.L.length≤g.rcap) (c':Adz.Cmd) (i':Nat) (hr:Adz.textOf g.L g.pl c i=.ok (c',i')):
 Calls Tryz.prog 147 #[.pointer (some ⟨pp,0,none⟩),.pointer (some ⟨cb,0,none⟩)] w fun e w'=>e=.returned (.pointer none)∧CmdAt w' cb c'∧Cur g w' i'∧ae (fun b=>b=g.c∨b=cb) w w':=by
 have q0:=hp.at0;have bM:cb≠g.c:=hc.typ.ne h.tc (by decide);have gH:pp≠cb:=hp.typ.ne hc.typ (by decide);unfold Adz.textOf at hr;simp only at hr;by_cases h1:Adz.peek g.L i=10∨Adz.peek g.L i= -1
 ·have b1:(Adz.peek g.L i==10 || Adz.peek g.L i== -1)=true:=by simpa using h1
  rw[b1] at hr;simp only[if_true,Except.ok.injEq,Prod.mk.injEq] at hr;obtain⟨rfl,rfl⟩:=hr;clear b1;have cP:=ah g w i h
  rcases h1 with h1 | h1
  all_goals
   rw[h1] at cP;go_enter Tryz.func147,Tryz.ntmps147;go_wp2_with fail;refine cP.mono ?_;rintro e w1 ⟨rfl,n1,rfl⟩;go_wp2;go_ret;have o1:ae (·=g.c) w (w.drewN n1):=(ae.refl _ w).drewN n1;exact⟨rfl,hc.keeps o1 h.spares bM,h.drewN n1,o1.mono (fun _ _ e=>Or.inl e)⟩
 ·have b1:(Adz.peek g.L i==10 || Adz.peek g.L i== -1)=false:=by simpa using h1
  rw[b1] at hr;simp only[Bool.false_eq_true,if_false] at hr
  cases hb:Adz.isBlank (Adz.peek g.L i) with
  | false=>rw [hb] at hr;simp at hr
  | true=>
   rw[hb] at hr;simp only[Bool.not_true,Bool.false_eq_true,if_false,Except.ok.injEq,Prod.mk.injEq] at hr;obtain⟨rfl,rfl⟩:=hr;have dQ:Adz.peek g.L i≠10:=fun e=>h1 (Or.inl e);have gz:Adz.peek g.L i≠ -1:=fun e=>h1 (Or.inr e);have Qy:(Adz.peek g.L i==10)=false:=by simpa using dQ
   have QE:(Adz.peek g.L i== -1)=false:=by simpa using gz
   have aw:i<g.L.length:=Nat.lt_of_not_le (fun e=>gz ((i6 h).2 e));have cP:=ah g w i h;have lC:=fun u=>bL (Adz.peek g.L i) u;have eP:=fun n=>ax g (w.drewN n) i (h.drewN n) aw;have HB:Hid (Adz.isBlank (Adz.peek g.L i)=true):=hb;clear h1 b1 hb dQ gz;generalize Adz.peek g.L i=r at*
   go_enter Tryz.func147,Tryz.ntmps147;go_wp2_with fail;refine cP.mono ?_;clear cP;rintro e w1 ⟨rfl,n1,rfl⟩;go_wp2_with fail;refine(lC _).mono ?_;clear lC;rintro e w1 ⟨rfl,rfl⟩;rw[HB.out];go_wp2_with fail;refine(eP n1).mono ?_;clear eP;rintro e w2 ⟨rfl,aL,aK⟩;have o2:ae (·=g.c) w w2:=((ae.refl (·=g.c) w).drewN n1).trans aK (fun _ e=>e) (fun _ _ e=>e);have l2:=hp.moved o2;have q2:=l2.at0;go_wp2_with fail;refine(Ef g w2 (i+1) aL (by omega) ct).mono ?_;rintro e w3 ⟨rfl,dJ,uF⟩;have o3:ae (·=g.c) w w3:=o2.trans uF (fun _ e=>e) (fun _ _ e=>e);have m3:=hc.keeps o3 h.spares bM;obtain⟨av,iv,rv,fv,tv,kk,dd⟩:=m3.deep;have k3:=(kk 3 _ rfl).1;have f3:=(kk 3 _ rfl).2;have o4:=af w3 cb 3 (.string (runesBytes (Adz.lineOf g.L (i+1))))
   have fw:ai (w3.setCell ⟨cb,3,none⟩ (.string (runesBytes (Adz.lineOf g.L (i+1))))) cb (aA {c with text:=Adz.enc (Adz.lineOf g.L (i+1))} av iv rv fv tv):=by
    have:=kk.set 3 (.string (runesBytes (Adz.lineOf g.L (i+1))));rw[←qO] at this ⊢;exact this
   have d4:=dd.keeps o4 (aS m3.typ (by decide));have HC:Hid _:=fw;clear fw kk;go_wp2;go_ret;exact⟨rfl,⟨m3.typ.set,av,iv,rv,fv,tv,HC.out,⟨d4.a,d4.i,d4.r,d4.f,d4.t⟩⟩,dJ.aside o4 m3.typ,o3.trans o4 (fun _ e=>Or.inl e) (fun _ _ e=>Or.inr e)⟩
theorem vY (g:CG) (pp n i:Nat) (c:Adz.Cmd) (ct:g.L.length≤g.rcap) (hk:Adz.behindKind c.what=some 2) (c':Adz.Cmd) (i':Nat) (hr:Adz.textOf g.L g.pl c i=.ok (c',i')):tI g pp n c i c' i':=fun w cb at_ h hp ht hc=>by
 obtain⟨mb,m1,m2⟩:=ht.map;obtain⟨av,iv,rv,fv,tv,kk,dd⟩:=hc.deep;have k0:=(kk 0 _ rfl).1;have q0:=hp.at0
 have kD:∀m,(Instr.lookup 115 (.map (some mb)) (.int .i32 c.what) false).run Tryz.prog (w.drewN m)=.ok (.int .i64 2) (w.drewN m):=fun m=>by
  have:=bj (w.drewN m) mb c.what m2;rw[hk] at this;exact this
 have HR:Hid _:=hr;have bF:=fun m=>ET g pp cb (w.drewN m) i (h.drewN m) (hp.drewN m) c (hc.keeps ((ae.refl (·=g.c) w).drewN m) h.spares (hc.typ.ne h.tc (by decide))) ct c' i' HR.out;clear kk dd hr;generalize c.what=wh at*
 go_enter Tryz.func103,Tryz.ntmps103;go_wp2_with fail
 go_quiet (fail)
 go_wp2_with fail;have o1:ae (·=g.c) w (w.drewN nq):=(ae.refl _ w).drewN nq;refine(bF nq).mono ?_;rintro e w2 ⟨rfl,aL,Hp,aK⟩;go_wp2;go_ret;exact⟨rfl,aL,Hp,o1.trans aK (fun _ e=>Or.inl e) (fun _ _ e=>e)⟩
end
section
open Go.RowKit
attribute [local go_sem ↓] Go.wp_at_zero Go.wp_at_succ
theorem mQ {W:World}{R:Nat}{x0 x1:Value}{tmps:Array Value} (h:tmps[4]? =some (.pointer (some ⟨R,0,none⟩))) (hR:ai W R [x0,x1]):
 (results Tryz.f173 tmps).run Tryz.prog W=.ok (.agg #[x0,x1]) W:=by
 simp[results,Tryz.results173,go_sem,h,(hR 0 _ rfl).1,(hR 1 _ rfl).1]
theorem jZ {w:World}{lb:Nat}{es:Array MapEntry}{n:Nat} (hl:w.heap[lb]? =some (.map es n)):Spares w (·=lb):=
 have key:∀ {b:Nat} {T:TypeId},aq w b T→¬b=lb:=fun t e=>dO t hl e.symm
 ⟨fun b t=>key t,fun b t=>key t,fun b t=>key t,fun b t=>key t,fun b t=>key t⟩
def tJ (g:CG) (pp i1:Nat) (s s':Adz.Ps) (c c':Adz.Cmd):Prop:=
 ∀(base:Nat) (u w:World) (cb:Nat),Par g pp base u s→ae (·=g.c) u w→Cur g w (i1+1)→s.i≤i1+1→CmdAt w cb c→u.heap.size≤cb→
  Calls Tryz.prog 103 #[.pointer (some ⟨pp,0,none⟩),.pointer (some ⟨cb,0,none⟩),.int .i64 (Adz.place g.pl i1)] w fun e w'=>e=.returned (.pointer none)∧CmdAt w' cb c'∧Par g pp base w' s'∧w'.cell? ⟨pp,2,none⟩=u.cell? ⟨pp,2,none⟩∧ae (fun b=>b=g.c∨b=pp∨base≤b+1) u w'
def jI (g:CG) (pp base:Nat) (s:Adz.Ps) (c:Adz.Cmd):Prop:=
 ∀(w:World) (cb:Nat),Par g pp base w s→CmdAt w cb c→
  Calls Tryz.prog 102 #[.pointer (some ⟨pp,0,none⟩),.pointer (some ⟨cb,0,none⟩)] w fun e w'=>e=.returned (.pointer none)∧CmdAt w' cb {c with what:=Adz.peek g.L s.i}∧Cur g w' (s.i+1)∧ae (fun b=>b=g.c∨b=cb) w w'
theorem ue {g:CG}{pp base:Nat}{w:World}{s:Adz.Ps} (h:Par g pp base w s) (c0:Adz.Cmd) (i1:Nat) (hH:fZ g pp s.i c0 i1) (Dt:s.i≤i1) (hW:jI g pp base {s with i:=i1} c0)
 (s3:Adz.Ps) (c:Adz.Cmd) (hB:tJ g pp i1 s s3 {c0 with what:=Adz.peek g.L i1} c) (zp:s3.cmds.length<s3.i) (i4:Nat) (ht:Adz.tail g.L g.pl s3.i=.ok i4) (mr:c.what≠123):
 Calls Tryz.prog 77 #[.pointer (some ⟨pp,0,none⟩)] w fun e w'=>e=.returned (.pointer none)∧Par g pp base w' {s3 with i:=i4,cmds:=s3.cmds++ [c]}∧ae (fun b=>b=g.c∨b=pp∨base≤b+1) w w':=by
 have HT:Hid (Adz.tail g.L g.pl s3.i=.ok i4):=ht;have jV:=h.few;have dy:=h.cur.small;have q0:=h.lead.at0;have cR:=h.cur.lt;obtain⟨i0,dZ,fQ,eJ,eF⟩:=info_parts ju;clear ht;go_enter Tryz.func77,Tryz.ntmps77;go_wp2_with fail;refine(hH w h.cur h.lead).mono ?_;rintro e w1 ⟨Ma,FX,om,Mg,MR,rfl,xJ,cC,bq⟩;obtain⟨⟨nG,nJ,nH,rfl⟩,⟨mu,nX,mv,rfl⟩,⟨n8,og,oe,rfl⟩,⟨nL,nN,nM,rfl⟩,⟨ot,ox,ow,rfl⟩⟩:=cH xJ;have h1:=h.moved cC bq Dt;have q1:=h1.lead.at0;have DX:pp<w1.heap.size:=h1.lead.lt;go_wp2_with fail;have ek:=h1.moved (cC.alloc (.cells #[.int .i32 c0.what,.slice nG nJ nH,.bool c0.neg,.string ⟨c0.text.toArray⟩,.string ⟨c0.name.toArray⟩,.int .i64 c0.goal,.slice mu nX mv,.int .i64 c0.pat.groups,.slice n8 og oe,.bool c0.all,.bool c0.print,.int .i64 c0.nth,.slice nL nN nM,.slice ot ox ow] 167)) ((ae.refl _ w1).alloc _) (Nat.le_refl _);have kc:CmdAt (w1.alloc (.cells #[.int .i32 c0.what,.slice nG nJ nH,.bool c0.neg,.string ⟨c0.text.toArray⟩,.string ⟨c0.name.toArray⟩,.int .i64 c0.goal,.slice mu nX mv,.int .i64 c0.pat.groups,.slice n8 og oe,.bool c0.all,.bool c0.print,.int .i64 c0.nth,.slice nL nN nM,.slice ot ox ow] 167)) w1.heap.size c0:=⟨aq.new _ _ _ _,_,_,_,_,_,ai.new w1 _ _,xJ.keeps ((ae.refl (fun _=>False) w1).alloc _) ⟨fun _ _=>id,fun _ _=>id,fun _ _=>id,fun _ _=>id,fun _ _=>id⟩⟩;have oa:ae (·=g.c) w (w1.alloc (.cells #[.int .i32 c0.what,.slice nG nJ nH,.bool c0.neg,.string ⟨c0.text.toArray⟩,.string ⟨c0.name.toArray⟩,.int .i64 c0.goal,.slice mu nX mv,.int .i64 c0.pat.groups,.slice n8 og oe,.bool c0.all,.bool c0.print,.int .i64 c0.nth,.slice nL nN nM,.slice ot ox ow] 167)):=bq.alloc _
 have dr:w.heap.size≤w1.heap.size:=bq.size;generalize iR:w1.heap.size=cb at*
 generalize w1.alloc (.cells #[.int .i32 c0.what,.slice nG nJ nH,.bool c0.neg,.string ⟨c0.text.toArray⟩,.string ⟨c0.name.toArray⟩,.int .i64 c0.goal,.slice mu nX mv,.int .i64 c0.pat.groups,.slice n8 og oe,.bool c0.all,.bool c0.print,.int .i64 c0.nth,.slice nL nN nM,.slice ot ox ow] 167)=w2 at*
 refine(ar g w2 i1 ek.cur).mono ?_;rintro e w3 ⟨rfl,n3,rfl⟩;have q2:=ek.lead.at0;have h3:=ek.moved (ek.cur.drewN n3) ((ae.refl _ w2).drewN n3) (Nat.le_refl _);have zG:=kc.keeps ((ae.refl (·=g.c) w2).drewN n3) ek.cur.spares (kc.typ.ne ek.cur.tc (by decide));go_wp2_with fail;refine(hW _ cb h3 zG).mono ?_;rintro e w4 ⟨rfl,HY,eu,dg⟩;have bM:cb≠g.c:=kc.typ.ne ek.cur.tc (by decide);have gH:pp≠cb:=h3.lead.typ.ne zG.typ (by decide);have o4:ae (·=g.c) w w4:=(oa.drewN n3).trans dg (fun _ e=>e) (fun b hb e=>by rcases e with e | e;exact e;omega);go_wp2_with fail;refine(hB base w w4 cb h o4 eu (by omega) HY dr).mono ?_;rintro e w5 ⟨rfl,B9,h5,uH,o5⟩;have Rv:=Adz.tail_le HT.out;obtain⟨qv,xs,c1,c2,c3⟩:=h5.cmds;obtain⟨av,iv,rv,fv,tv,kk,dd⟩:=B9.deep;obtain⟨⟨aa,an,ac,rfl⟩,⟨ia,FT,ic,rfl⟩,⟨ra,rn,rc,rfl⟩,⟨fa,fn,fc,rfl⟩,⟨ta,tn,tc,rfl⟩⟩:=cH dd;have k0:=(kk 0 _ rfl).1;have k1:=(kk 1 _ rfl).1;have k2:=(kk 2 _ rfl).1;have k3:=(kk 3 _ rfl).1;have k4:=(kk 4 _ rfl).1;have k5:=(kk 5 _ rfl).1;have k6:=(kk 6 _ rfl).1;have k7:=(kk 7 _ rfl).1;have k8:=(kk 8 _ rfl).1;have k9:=(kk 9 _ rfl).1;have RU:=(kk 10 _ rfl).1;have RW:=(kk 11 _ rfl).1;have B8:=(kk 12 _ rfl).1;have Jh:=(kk 13 _ rfl).1;have lr:pp<w5.heap.size:=h5.lead.lt;have JZ:=h5.f2;have aJ:qv.ownBlock≠some pp:=aG c2 h5.lead.typ (by decide);have CR:=h5.bs;have KR:=h5.cur.le;have Fw:=h5.few;have q5:=h5.lead.at0;have p7:∀o:Obj,(w5.alloc o).cell? ⟨pp,2,none⟩=some qv:=fun o=>by rw[World.cell?_alloc_past _ _ _ lr];exact c1
 have p6:∀o:Obj,(w5.alloc o).frozen? ⟨pp,2,none⟩=false:=fun o=>by rw[World.frozen?_alloc_past _ _ _ lr];exact JZ
 have bw:(c.what==123)=false:=by simpa using mr
 have GQ:qv.ownBlock≠some cb:=fun e=>by
  obtain⟨So,MU,e1,e2,_⟩:=h.cmds;have e3:=uH.trans e1;rw[c1] at e3
  cases e3
  have:=(e2.lt cb e).2;omega
 clear mr q0 q1 q2 uH;go_wp2_with fail
 go_region_law
  ((refine step_append_lies _ (by rfl) _ _ _ (by rfl) base 167 i0 _ 14 200 Tryz.underlying99 dZ fQ eJ eF rfl (by omega) qv s3.cmds.length xs (by rfl) ((c2.alloc _).drew)
     ⟨w5.heap.size,0,none⟩ 1 1 [.int .i32 c.what,.slice aa an ac,.bool c.neg,.string ⟨c.text.toArray⟩,.string ⟨c.name.toArray⟩,.int .i64 c.goal,.slice ia FT ic,.int .i64 c.pat.groups,.slice ra rn rc,.bool c.all,.bool c.print,.int .i64 c.nth,.slice fa fn fc,.slice ta tn tc] (by rfl) (by rfl) (World.news_of_block (cs:= #[.int .i32 c.what,.slice aa an ac,.bool c.neg,.string ⟨c.text.toArray⟩,.string ⟨c.name.toArray⟩,.int .i64 c.goal,.slice ia FT ic,.int .i64 c.pat.groups,.slice ra rn rc,.bool c.all,.bool c.print,.int .i64 c.nth,.slice fa fn fc,.slice ta tn tc]) (t:=167) (fr:=(0,0)) (heap_alloc_new w5 _)) (by simp[Value.oneCell'])
     (by omega) (by unfold maxLen;omega) (by omega) (by simp;omega) (w5.heap.size+1) (by simp) ?_;intro g1 cap w6 br aI bJ eG;have kc:=(aI.cell_far ⟨pp,2,none⟩ (by simp;omega) (Ne.symm aJ)).trans (p7 _);have kf:=(aI.frozen_far ⟨pp,2,none⟩ (by simp;omega) (Ne.symm aJ)).trans (p6 _)))
 all_goals
  have hv:(Value.slice (some ⟨g1,0,none⟩) (s3.cmds.length+1) cap).ownBlock≠some pp:=by
   rcases bJ with h | h
   ·intro e
    simp[Value.ownBlock] at e;exact aJ (by rw[h,e])
   ·intro e
    simp[Value.ownBlock] at e;omega
  obtain⟨u1,u2,u3,u4⟩:=bg (((ae.refl _ w5).alloc _).drew) aI kc br hv lr aJ;have h6:=h5.more c1 c2 c3 dd u1 u2 u3 u4 zp
  have LH:¬(cb=pp∨qv.ownBlock=some cb):=by
   rintro(e | e)
   ·exact gH e.symm
   ·exact GQ e
  have RT:=u3.keeps k0 LH;have q6:=h6.lead.at0;go_wp2_with fail;refine(ER g pp _ s3.i h6.cur h6.lead i4 HT.out).mono ?_;rintro e w8 ⟨rfl,GM,zx⟩;have h8:=h6.moved GM zx Rv;go_wp2;go_ret;refine⟨rfl,h8,?_⟩
  have o6:ae (fun b=>b=g.c∨b=pp∨base≤b+1) w _:=o5.trans u3 (fun _ e=>e) (fun b hb e=>by
   rcases e with e | e
   ·exact Or.inr (Or.inl e)
   ·have:=(c2.lt b e).1
    exact Or.inr (Or.inr (by omega)))
  exact o6.trans zx (fun _ e=>e) (fun _ _ e=>Or.inl e)
theorem ud {g:CG}{pp base:Nat}{w:World}{s:Adz.Ps} (h:Par g pp base w s) (c0:Adz.Cmd) (i1:Nat) (hH:fZ g pp s.i c0 i1) (Dt:s.i≤i1) (hW:jI g pp base {s with i:=i1} c0)
 (s3:Adz.Ps) (c:Adz.Cmd) (hB:tJ g pp i1 s s3 {c0 with what:=Adz.peek g.L i1} c) (zp:s3.cmds.length<s3.i) (mr:c.what=123):
 Calls Tryz.prog 77 #[.pointer (some ⟨pp,0,none⟩)] w fun e w'=>e=.returned (.pointer none)∧Par g pp base w' {s3 with cmds:=s3.cmds++ [c]}∧ae (fun b=>b=g.c∨b=pp∨base≤b+1) w w':=by
 have jV:=h.few;have dy:=h.cur.small;have q0:=h.lead.at0;have cR:=h.cur.lt;obtain⟨i0,dZ,fQ,eJ,eF⟩:=info_parts ju;go_enter Tryz.func77,Tryz.ntmps77;go_wp2_with fail;refine(hH w h.cur h.lead).mono ?_;rintro e w1 ⟨Ma,FX,om,Mg,MR,rfl,xJ,cC,bq⟩;obtain⟨⟨nG,nJ,nH,rfl⟩,⟨mu,nX,mv,rfl⟩,⟨n8,og,oe,rfl⟩,⟨nL,nN,nM,rfl⟩,⟨ot,ox,ow,rfl⟩⟩:=cH xJ;have h1:=h.moved cC bq Dt;have q1:=h1.lead.at0;have DX:pp<w1.heap.size:=h1.lead.lt;go_wp2_with fail;have ek:=h1.moved (cC.alloc (.cells #[.int .i32 c0.what,.slice nG nJ nH,.bool c0.neg,.string ⟨c0.text.toArray⟩,.string ⟨c0.name.toArray⟩,.int .i64 c0.goal,.slice mu nX mv,.int .i64 c0.pat.groups,.slice n8 og oe,.bool c0.all,.bool c0.print,.int .i64 c0.nth,.slice nL nN nM,.slice ot ox ow] 167)) ((ae.refl _ w1).alloc _) (Nat.le_refl _);have kc:CmdAt (w1.alloc (.cells #[.int .i32 c0.what,.slice nG nJ nH,.bool c0.neg,.string ⟨c0.text.toArray⟩,.string ⟨c0.name.toArray⟩,.int .i64 c0.goal,.slice mu nX mv,.int .i64 c0.pat.groups,.slice n8 og oe,.bool c0.all,.bool c0.print,.int .i64 c0.nth,.slice nL nN nM,.slice ot ox ow] 167)) w1.heap.size c0:=⟨aq.new _ _ _ _,_,_,_,_,_,ai.new w1 _ _,xJ.keeps ((ae.refl (fun _=>False) w1).alloc _) ⟨fun _ _=>id,fun _ _=>id,fun _ _=>id,fun _ _=>id,fun _ _=>id⟩⟩;have oa:ae (·=g.c) w (w1.alloc (.cells #[.int .i32 c0.what,.slice nG nJ nH,.bool c0.neg,.string ⟨c0.text.toArray⟩,.string ⟨c0.name.toArray⟩,.int .i64 c0.goal,.slice mu nX mv,.int .i64 c0.pat.groups,.slice n8 og oe,.bool c0.all,.bool c0.print,.int .i64 c0.nth,.slice nL nN nM,.slice ot ox ow] 167)):=bq.alloc _
 have dr:w.heap.size≤w1.heap.size:=bq.size;generalize iR:w1.heap.size=cb at*
 generalize w1.alloc (.cells #[.int .i32 c0.what,.slice nG nJ nH,.bool c0.neg,.string ⟨c0.text.toArray⟩,.string ⟨c0.name.toArray⟩,.int .i64 c0.goal,.slice mu nX mv,.int .i64 c0.pat.groups,.slice n8 og oe,.bool c0.all,.bool c0.print,.int .i64 c0.nth,.slice nL nN nM,.slice ot ox ow] 167)=w2 at*
 refine(ar g w2 i1 ek.cur).mono ?_;rintro e w3 ⟨rfl,n3,rfl⟩;have q2:=ek.lead.at0;have h3:=ek.moved (ek.cur.drewN n3) ((ae.refl _ w2).drewN n3) (Nat.le_refl _);have zG:=kc.keeps ((ae.refl (·=g.c) w2).drewN n3) ek.cur.spares (kc.typ.ne ek.cur.tc (by decide));go_wp2_with fail;refine(hW _ cb h3 zG).mono ?_;rintro e w4 ⟨rfl,HY,eu,dg⟩;have bM:cb≠g.c:=kc.typ.ne ek.cur.tc (by decide);have gH:pp≠cb:=h3.lead.typ.ne zG.typ (by decide);have o4:ae (·=g.c) w w4:=(oa.drewN n3).trans dg (fun _ e=>e) (fun b hb e=>by rcases e with e | e;exact e;omega);go_wp2_with fail;refine(hB base w w4 cb h o4 eu (by omega) HY dr).mono ?_;rintro e w5 ⟨rfl,B9,h5,uH,o5⟩;obtain⟨qv,xs,c1,c2,c3⟩:=h5.cmds;obtain⟨av,iv,rv,fv,tv,kk,dd⟩:=B9.deep;obtain⟨⟨aa,an,ac,rfl⟩,⟨ia,FT,ic,rfl⟩,⟨ra,rn,rc,rfl⟩,⟨fa,fn,fc,rfl⟩,⟨ta,tn,tc,rfl⟩⟩:=cH dd;have k0:=(kk 0 _ rfl).1;have k1:=(kk 1 _ rfl).1;have k2:=(kk 2 _ rfl).1;have k3:=(kk 3 _ rfl).1;have k4:=(kk 4 _ rfl).1;have k5:=(kk 5 _ rfl).1;have k6:=(kk 6 _ rfl).1;have k7:=(kk 7 _ rfl).1;have k8:=(kk 8 _ rfl).1;have k9:=(kk 9 _ rfl).1;have RU:=(kk 10 _ rfl).1;have RW:=(kk 11 _ rfl).1;have B8:=(kk 12 _ rfl).1;have Jh:=(kk 13 _ rfl).1;have lr:pp<w5.heap.size:=h5.lead.lt;have JZ:=h5.f2;have aJ:qv.ownBlock≠some pp:=aG c2 h5.lead.typ (by decide);have CR:=h5.bs;have KR:=h5.cur.le;have Fw:=h5.few;have q5:=h5.lead.at0;have p7:∀o:Obj,(w5.alloc o).cell? ⟨pp,2,none⟩=some qv:=fun o=>by rw[World.cell?_alloc_past _ _ _ lr];exact c1
 have p6:∀o:Obj,(w5.alloc o).frozen? ⟨pp,2,none⟩=false:=fun o=>by rw[World.frozen?_alloc_past _ _ _ lr];exact JZ
 have bw:(c.what==123)=true:=by simpa using mr
 have GQ:qv.ownBlock≠some cb:=fun e=>by
  obtain⟨So,MU,e1,e2,_⟩:=h.cmds;have e3:=uH.trans e1;rw[c1] at e3
  cases e3
  have:=(e2.lt cb e).2;omega
 clear mr q0 q1 q2 uH;go_wp2_with fail
 go_region_law
  ((refine step_append_lies _ (by rfl) _ _ _ (by rfl) base 167 i0 _ 14 200 Tryz.underlying99 dZ fQ eJ eF rfl (by omega) qv s3.cmds.length xs (by rfl) ((c2.alloc _).drew)
     ⟨w5.heap.size,0,none⟩ 1 1 [.int .i32 c.what,.slice aa an ac,.bool c.neg,.string ⟨c.text.toArray⟩,.string ⟨c.name.toArray⟩,.int .i64 c.goal,.slice ia FT ic,.int .i64 c.pat.groups,.slice ra rn rc,.bool c.all,.bool c.print,.int .i64 c.nth,.slice fa fn fc,.slice ta tn tc] (by rfl) (by rfl) (World.news_of_block (cs:= #[.int .i32 c.what,.slice aa an ac,.bool c.neg,.string ⟨c.text.toArray⟩,.string ⟨c.name.toArray⟩,.int .i64 c.goal,.slice ia FT ic,.int .i64 c.pat.groups,.slice ra rn rc,.bool c.all,.bool c.print,.int .i64 c.nth,.slice fa fn fc,.slice ta tn tc]) (t:=167) (fr:=(0,0)) (heap_alloc_new w5 _)) (by simp[Value.oneCell'])
     (by omega) (by unfold maxLen;omega) (by omega) (by simp;omega) (w5.heap.size+1) (by simp) ?_;intro g1 cap w6 br aI bJ eG;have kc:=(aI.cell_far ⟨pp,2,none⟩ (by simp;omega) (Ne.symm aJ)).trans (p7 _);have kf:=(aI.frozen_far ⟨pp,2,none⟩ (by simp;omega) (Ne.symm aJ)).trans (p6 _)))
 all_goals
  have hv:(Value.slice (some ⟨g1,0,none⟩) (s3.cmds.length+1) cap).ownBlock≠some pp:=by
   rcases bJ with h | h
   ·intro e
    simp[Value.ownBlock] at e;exact aJ (by rw[h,e])
   ·intro e
    simp[Value.ownBlock] at e;omega
  obtain⟨u1,u2,u3,u4⟩:=bg (((ae.refl _ w5).alloc _).drew) aI kc br hv lr aJ;have h6:=h5.more c1 c2 c3 dd u1 u2 u3 u4 zp
  have LH:¬(cb=pp∨qv.ownBlock=some cb):=by
   rintro(e | e)
   ·exact gH e.symm
   ·exact GQ e
  have RT:=u3.keeps k0 LH;go_wp2;go_ret;refine⟨rfl,h6,?_⟩
  exact o5.trans u3 (fun _ e=>e) (fun b hb e=>by
   rcases e with e | e
   ·exact Or.inr (Or.inl e)
   ·have:=(c2.lt b e).1
    exact Or.inr (Or.inr (by omega)))
theorem tW (cb:Nat) (w:World) (c:Adz.Cmd) (hc:CmdAt w cb c) (ha:c.addrs= []) (hn:c.neg=false):
 Calls Tryz.prog 146 #[.pointer (some ⟨cb,0,none⟩)] w fun e w'=>e=.returned (.bool true)∧∃n,w'=w.drewN n:=by
 obtain⟨av,iv,rv,fv,tv,kk,dd⟩:=hc.deep;obtain⟨⟨aa,an,ac,rfl⟩,_⟩:=cH dd;have k1:=(kk 1 _ rfl).1;have k2:=(kk 2 _ rfl).1
 have h0:an=0:=by
  obtain⟨gI,s1,_⟩:=dd.a;have:=ak s1;obtain⟨x,y,e⟩:=this;injection e with e1 e2 e3;rw[e2,ha];rfl
 subst h0;rw[hn] at k2;clear kk dd;go_enter Tryz.func146,Tryz.ntmps146;go_wp2;go_ret;exact⟨rfl,0,rfl⟩
theorem vI (g:CG) (pp base:Nat) (s:Adz.Ps) (c:Adz.Cmd) (hk:Adz.behindKind (Adz.peek g.L s.i)=some 3) (ha:c.addrs= []) (pd:c.neg=false) (hn:s.cmds.length≠40) (hl:s.i<g.L.length):jI g pp base s c:=fun w cb hP hc=>by
 have h:=hP.cur;have hp:=hP.lead;have ht:=hP.table;obtain⟨mb,m1,m2⟩:=ht.map;obtain⟨qa,qc,q2⟩:=ht.cmds;have q0:=hp.at0;have jV:=hP.few;have hle:=h.le;have dy:=h.small
 have kD:∀m,(Instr.lookup 115 (.map (some mb)) (.int .i32 (Adz.peek g.L s.i)) true).run Tryz.prog (w.drewN m)=.ok (.tuple #[.int .i64 3,.bool true]) (w.drewN m):=fun m=>by
  have:=eU (w.drewN m) mb (Adz.peek g.L s.i) m2;rw[hk] at this;exact this
 have CJ:((s.cmds.length:Int)==40)=false:=by simp;omega
 have bM:cb≠g.c:=hc.typ.ne h.tc (by decide);have gH:pp≠cb:=hp.typ.ne hc.typ (by decide);have mh:=fun n=>tW cb (w.drewN n) c (hc.keeps ((ae.refl (·=g.c) w).drewN n) h.spares bM) ha pd;clear hk;go_enter Tryz.func102,Tryz.ntmps102;go_wp2_with fail;refine(ar g w s.i h).mono ?_;rintro e w1 ⟨rfl,n1,rfl⟩;go_wp2_with fail
 go_quiet ((go_at_call 51;exact(ah g _ s.i (h.drewN _)).mono (fun e w1 ⟨he,m,da⟩=>⟨he,dD da⟩)))
 go_wp2_with fail;refine(mh _).mono ?_;clear mh;rintro e w1 ⟨rfl,n2,rfl⟩;go_wp2_with fail;refine(ax g _ s.i (by first | exact h.drewN _ | exact(h.drewN _).drewN _) hl).mono ?_;rintro e w2 ⟨rfl,aL,aK⟩;have o2:ae (·=g.c) w w2:=(by first | exact(ae.refl (·=g.c) w).drewN _ | exact((ae.refl (·=g.c) w).drewN _).drewN _:ae (·=g.c) w _).trans aK (fun _ e=>e) (fun _ _ e=>e);have ym:=hc.keeps o2 h.spares bM;obtain⟨av,iv,rv,fv,tv,kk,dd⟩:=ym.deep;have k0:=kk 0 _ rfl;go_wp2;go_ret;have o3:=af w2 cb 0 (.int .i32 (Adz.peek g.L s.i));have d3:=dd.keeps o3 (aS ym.typ (by decide));exact⟨rfl,⟨ym.typ.set,av,iv,rv,fv,tv,kk.set 0 _,⟨d3.a,d3.i,d3.r,d3.f,d3.t⟩⟩,aL.aside o3 ym.typ,o2.trans o3 (fun _ e=>Or.inl e) (fun _ _ e=>Or.inr e)⟩
theorem vH (g:CG) (pp base:Nat) (s:Adz.Ps) (c:Adz.Cmd) (hk:Adz.behindKind (Adz.peek g.L s.i)=some 1) (ho:s.opens.length≠5) (hn:s.cmds.length≠40) (hl:s.i<g.L.length) (OV:s.opens.length≤500):jI g pp base s c:=fun w cb hP hc=>by
 have h:=hP.cur;have hp:=hP.lead;have ht:=hP.table;obtain⟨mb,m1,m2⟩:=ht.map;obtain⟨qa,qc,q2⟩:=ht.cmds;obtain⟨ov,o1,o2⟩:=hP.op;obtain⟨oa,oc,rfl⟩:=ak o2;have q0:=hp.at0;have jV:=hP.few;have hle:=h.le;have dy:=h.small
 have kD:∀m,(Instr.lookup 115 (.map (some mb)) (.int .i32 (Adz.peek g.L s.i)) true).run Tryz.prog (w.drewN m)=.ok (.tuple #[.int .i64 1,.bool true]) (w.drewN m):=fun m=>by
  have:=eU (w.drewN m) mb (Adz.peek g.L s.i) m2;rw[hk] at this;exact this
 have CJ:((s.cmds.length:Int)==40)=false:=by simp;omega
 have b5:((s.opens.length:Int)==5)=false:=by simp;omega
 have bM:cb≠g.c:=hc.typ.ne h.tc (by decide);have gH:pp≠cb:=hp.typ.ne hc.typ (by decide);clear hk o2;go_enter Tryz.func102,Tryz.ntmps102;go_wp2_with fail;refine(ar g w s.i h).mono ?_;rintro e w1 ⟨rfl,n1,rfl⟩;go_wp2_with fail
 go_quiet ((go_at_call 51;exact(ah g _ s.i (h.drewN _)).mono (fun e w1 ⟨he,m,da⟩=>⟨he,dD da⟩)))
 go_wp2_with fail;refine(ax g _ s.i (h.drewN _) hl).mono ?_;rintro e w2 ⟨rfl,aL,aK⟩;have o2:ae (·=g.c) w w2:=((ae.refl (·=g.c) w).drewN _).trans aK (fun _ e=>e) (fun _ _ e=>e);have ym:=hc.keeps o2 h.spares bM;obtain⟨av,iv,rv,fv,tv,kk,dd⟩:=ym.deep;have k0:=kk 0 _ rfl;go_wp2;go_ret;have o3:=af w2 cb 0 (.int .i32 (Adz.peek g.L s.i));have d3:=dd.keeps o3 (aS ym.typ (by decide));exact⟨rfl,⟨ym.typ.set,av,iv,rv,fv,tv,kk.set 0 _,⟨d3.a,d3.i,d3.r,d3.f,d3.t⟩⟩,aL.aside o3 ym.typ,o2.trans o3 (fun _ e=>Or.inl e) (fun _ _ e=>Or.inr e)⟩
theorem vJ (g:CG) (pp base:Nat) (s:Adz.Ps) (c:Adz.Cmd) (k:Int) (hk:Adz.behindKind (Adz.peek g.L s.i)=some k) (h3:k≠3) (h1:k≠1) (hn:s.cmds.length≠40) (hl:s.i<g.L.length):jI g pp base s c:=fun w cb hP hc=>
 EY g pp cb s.cmds.length w s.i hP.cur hP.lead hP.table c hc k hk h3 h1 hn (by have:=hP.few;have:=hP.cur.le;have:=hP.cur.small;omega) hl
theorem Par.opens' {g:CG}{pp base:Nat}{w w':World}{s:Adz.Ps} (h:Par g pp base w s) {ov v':Value}{os:List Int}
 (cz:w.ownsRow base 3 1 ov s.opens.length (s.opens.map (Value.int .i64)))
 (q1:w'.cell? ⟨pp,3,none⟩=some v') (q2:w'.ownsRow base 3 1 v' os.length (os.map (Value.int .i64))) (q3:ae (fun b=>b=pp∨ov.ownBlock=some b) w w') (q4:Field pp 3 w w'):
 Par g pp base w' {s with opens:=os}:=by
 obtain⟨mb,m1,m2⟩:=h.map;obtain⟨qv,xs,c1,c2,c3⟩:=h.cmds;obtain⟨lb,l0,l1,l2⟩:=h.lab;have tp:=h.lead.typ
 have key:∀ {b:Nat} {T:TypeId},aq w b T→T≠119→T≠3→¬(b=pp∨ov.ownBlock=some b):=by
  rintro b T t n1 n2 (e | e)
  ·exact t.ne tp n1 e
  ·exact aG cz t n2 e
 have sp:Spares w (fun b=>b=pp∨ov.ownBlock=some b):=⟨fun b t=>key t (by decide) (by decide),fun b t=>key t (by decide) (by decide),fun b t=>key t (by decide) (by decide),fun b t=>key t (by decide) (by decide),fun b t=>key t (by decide) (by decide)⟩
 have mk:∀ {m:Nat} {es:Array MapEntry} {n:Nat},w.heap[m]? =some (.map es n)→¬(m=pp∨ov.ownBlock=some m):=by
  rintro m es n hm (e | e)
  ·exact dO tp hm e
  ·exact dO (aq.of_row cz e) hm rfl
 refine⟨h.cur.keeps q3 (key h.cur.tc (by decide) (by decide)) (fun hn=>key (h.cur.tr hn) (by decide) (by decide)) (by
  rintro(e | e)
  ·exact h.cur.tp.ne tp (by decide) e
  ·have:=(cz.lt _ e).1
   have:=h.pb;omega),⟨(q4.others 0 (by decide)).trans h.lead.at0,h.lead.ne,q4.typ _ tp⟩,
  ⟨mb,(q4.others 1 (by decide)).trans m1,aN m2 q3 (mk m2)⟩,⟨qv,xs,(q4.others 2 (by decide)).trans c1,ag c2 q3 (fun b hb=>key (aq.of_row c2 hb) (by decide) (by decide)),c3.keeps q3 sp⟩,⟨v',q1,q2⟩,
  ⟨lb,l0,(q4.others 4 (by decide)).trans l1,aN l2 q3 (mk l2)⟩,(q4.frozen 2).trans h.f2,(q4.frozen 3).trans h.f3,Nat.le_trans h.bs q3.size,h.pb,h.few⟩
theorem sX {w:World}{B g c N M:Nat}{T:TypeId}{xs:List Value} (h:w.ownsRow B T 1 (.slice (some ⟨g,0,none⟩) N c) N xs) (hM:M≤N):w.ownsRow B T 1 (.slice (some ⟨g,0,none⟩) M c) M (xs.take M):=by
 have hl:=h.1
 rcases h.2 with ⟨e,h0⟩ |⟨g',cap,cur,hv,hb,hg,ct,OS,dr,fH⟩
 ·cases e
 ·injection hv with e1 e2 e3
  injection e1 with e1;injection e1 with e1;subst e1;subst e3;refine⟨by rw[List.length_take];omega,Or.inr ⟨g,c,cur,rfl,hb,hg,by omega,OS,dr,?_⟩⟩;rw[←fH,List.take_take];congr 1;omega
theorem Cs {w:World}{B g c N:Nat}{T:TypeId}{xs:List Value} (h:w.ownsRow B T 14 (.slice (some ⟨g,0,none⟩) N c) N xs) (j:Nat) (hj:j<N*14) (r:Value):(w.setCell ⟨g,j,none⟩ r).ownsRow B T 14 (.slice (some ⟨g,0,none⟩) N c) N (xs.set j r):=by
 have hl:=h.1
 rcases h.2 with ⟨e,h0⟩ |⟨g',cap,cur,hv,hb,hg,ct,OS,dr,fH⟩
 ·cases e
 ·injection hv with e1 e2 e3
  injection e1 with e1;injection e1 with e1;subst e1;subst e3;refine⟨by rw[List.length_set];exact hl,Or.inr ⟨g,c,cur.setIfInBounds j r,rfl,hb,heap_setCell_same w g j cur _ _ hg,ct,OS,by simpa using dr,?_⟩⟩;rw[Array.toList_setIfInBounds,←fH];apply List.ext_getElem?;intro k;by_cases hk:k<N*14
  ·rw[List.getElem?_take,if_pos hk,List.getElem?_set,List.getElem?_set,List.getElem?_take,if_pos hk,List.length_take]
   by_cases e:j=k
   ·subst e
    rw[if_pos rfl,if_pos rfl,if_pos (by simp;omega),if_pos (by simp;omega)]
   ·rw[if_neg e,if_neg e]
  ·rw[List.getElem?_take,if_neg hk,List.getElem?_set,List.getElem?_take,if_neg hk,List.length_take]
   by_cases e:j=k
   ·omega
   ·rw[if_neg e]
theorem l8 {w:World} (v:Int):∀ {cs:List Adz.Cmd}{xs:List Value},di w cs xs→∀j (hj:j<cs.length),di w (cs.set j {cs[j] with goal:=v}) (xs.set (j*14+5) (.int .i64 v))
 | [],[],_,j,hj=>by simp at hj
 | c::cs,x0::x1::x2::x3::x4::x5::x6::x7::x8::x9::ke::kg::jG::jH::xs,h,0,_=>by
  obtain⟨⟨av,iv,rv,fv,tv,e,d⟩,r⟩:=h;refine⟨⟨av,iv,rv,fv,tv,?_,⟨d.a,d.i,d.r,d.f,d.t⟩⟩,r⟩;have e2:=congrArg (fun l=>l.set 5 (Value.int .i64 v)) e;exact e2
 | c::cs,x0::x1::x2::x3::x4::x5::x6::x7::x8::x9::ke::kg::jG::jH::xs,h,j+1,hj=>by
  have ih:=l8 v h.2 j (by simpa using hj);have e:(j+1)*14+5=j*14+5+1+1+1+1+1+1+1+1+1+1+1+1+1+1:=by omega
  rw[e];exact⟨h.1,ih⟩
theorem yM (g:CG) (pp i1:Nat) (s:Adz.Ps) (c:Adz.Cmd) (hw:c.what=123) (I5:s.opens.length≤5):
 tJ g pp i1 s {s with i:=i1+1,opens:=s.opens++ [(s.cmds.length:Int)]} c c:=fun base u w cb h o hC hi hc iR=>by
 have hP:=h.moved hC o hi;obtain⟨mb,m1,m2⟩:=hP.map;obtain⟨av,iv,rv,fv,tv,kk,dd⟩:=hc.deep;have k0:=(kk 0 _ rfl).1;rw[hw] at k0;have q0:=hP.lead.at0;have kD:∀m,(Instr.lookup 115 (.map (some mb)) (.int .i32 123) false).run Tryz.prog (w.drewN m)=.ok (.int .i64 1) (w.drewN m):=fun m=>bj (w.drewN m) mb 123 m2;clear kk dd;go_enter Tryz.func103,Tryz.ntmps103;go_wp2_with fail
 go_quiet (fail)
 have oq:ae (·=g.c) w (w.drewN nq):=(ae.refl _ w).drewN nq;have hP:=hP.moved (hC.drewN nq) oq (Nat.le_refl _);have hc:=hc.keeps oq hC.spares (hc.typ.ne hC.tc (by decide));have o:=o.drewN nq;have q0:=hP.lead.at0;clear oq kD m1 m2 k0 hC;generalize w.drewN nq=wq at*
 obtain⟨qv,xs,c1,c2,c3⟩:=hP.cmds;obtain⟨qa,qc,rfl⟩:=ak c2;obtain⟨ov,p1,p2⟩:=hP.op;obtain⟨i0,dZ,fQ,eJ,eF⟩:=info_parts eY;have lr:=hP.lead.lt;have f3:=hP.f3;have CR:=hP.bs;have jV:=hP.few;have hle:=hP.cur.le;have dy:=hP.cur.small;have aJ:ov.ownBlock≠some pp:=aG p2 hP.lead.typ (by decide);have Bs:=hc.typ.lt;simp only at c1 p1 p2 jV hle;have p7:∀o:Obj,(wq.drew.alloc o).cell? ⟨pp,3,none⟩=some ov:=fun o=>(World.cell?_alloc_past (w:=wq.drew) _ _ _ (show pp<wq.drew.heap.size from lr)).trans p1;have p6:∀o:Obj,(wq.drew.alloc o).frozen? ⟨pp,3,none⟩=false:=fun o=>(World.frozen?_alloc_past (w:=wq.drew) _ _ _ (show pp<wq.drew.heap.size from lr)).trans f3;go_wp2_with fail
 go_region_law
  ((refine step_append_lies _ (by rfl) _ _ _ (by rfl) base 3 i0 _ 1 8 Tryz.underlying35 dZ fQ eJ eF rfl (by omega) ov s.opens.length (s.opens.map (Value.int .i64)) (by rfl) ((p2.drew).alloc _)
     ⟨wq.heap.size,0,none⟩ 1 1 [.int .i64 s.cmds.length] (by rfl) (by rfl) (World.news_of_block (cs:= #[.int .i64 s.cmds.length]) (t:=3) (fr:=(0,0)) (heap_alloc_new wq.drew _)) (by simp[Value.oneCell'])
     (by omega) (by unfold maxLen;omega) (by omega) (by simp;omega) (wq.heap.size+1) (by simp) ?_;intro g1 cap w6 br aI bJ eG;have kc:=(aI.cell_far ⟨pp,3,none⟩ (by simp;omega) (Ne.symm aJ)).trans (p7 _);have kf:=(aI.frozen_far ⟨pp,3,none⟩ (by simp;omega) (Ne.symm aJ)).trans (p6 _)))
 all_goals
  have hv:(Value.slice (some ⟨g1,0,none⟩) (s.opens.length+1) cap).ownBlock≠some pp:=by
   rcases bJ with h | h
   ·intro e
    simp[Value.ownBlock] at e;exact aJ (by rw[h,e])
   ·intro e
    simp[Value.ownBlock] at e;omega
  obtain⟨u1,u2,u3,u4⟩:=bg (((ae.refl _ wq).drew).alloc _) aI kc br hv lr aJ;have h6:=hP.opens' (os:=s.opens++ [(s.cmds.length:Int)]) p2 u1 (by rw[List.length_append,List.map_append];exact u2) u3 u4
  have sp:Spares wq (fun b=>b=pp∨ov.ownBlock=some b):=by
   have key:∀ {b:Nat} {T:TypeId},aq wq b T→T≠119→T≠3→¬(b=pp∨ov.ownBlock=some b):=by
    rintro b T t n1 n2 (e | e)
    ·exact t.ne hP.lead.typ n1 e
    ·exact aG p2 t n2 e
   exact⟨fun b t=>key t (by decide) (by decide),fun b t=>key t (by decide) (by decide),fun b t=>key t (by decide) (by decide),fun b t=>key t (by decide) (by decide),fun b t=>key t (by decide) (by decide)⟩
  have Vw:=hc.keeps u3 sp (by
   rintro(e | e)
   ·exact hc.typ.ne hP.lead.typ (by decide) e
   ·exact aG p2 hc.typ (by decide) e)
  have RH:=(u4.others 2 (by decide)).trans (o.cell (p:=⟨pp,2,none⟩) h.lead.lt h.lead.ne)
  have VJ:ae (fun b=>b=g.c∨b=pp∨base≤b+1) u _:=o.trans u3 (fun _ e=>Or.inl e) (fun b hb e=>by
   rcases e with e | e
   ·exact Or.inr (Or.inl e)
   ·have:=(p2.lt b e).1
    exact Or.inr (Or.inr (by omega)))
  have SW:Hid _:=RH;clear RH;go_wp2;go_ret;exact⟨rfl,Vw,h6,SW.out,VJ⟩
end
end Go.Proofs.YtbiobhghnldckaaGreatDoor
