/- Proved: nothing; plain Lean functions: what each function of adzeref that reads scripts computes, on lists of numbers. No condition. -/
import Derived.Test.YtbiobhghnldckaaGreatDoorSSpec
import Derived.WalkKit
import Derived.Deep.Draws
import Derived.Test.YtbiobhghnldckaaGreatDoorProg
import Derived.Test.YtbiobhghnldckaaGreatDoorShelf
import Derived.WalkLawsBesides
import Derived.BigQuiet
import Derived.Deep.QuietTactic
import Derived.Deep.LoopGhost
import Derived.Deep.RegionHeld3
import Derived.Deep.AppendLies
import Derived.Deep.RegionLaw
import Derived.Deep.DrawnRows
namespace Go.Proofs.YtbiobhghnldckaaGreatDoor
set_option linter.unusedVariables false
set_option maxRecDepth 100000
set_option maxHeartbeats 6400000
section
structure SS where
 i:Nat
 e:Int:=0
 p:Int:=0
 count:Int:=0
namespace Rf
def now (L:List Int) (s:SS):Int:=if s.e=0 then Adz.peek L s.i else -1
def no (pl:List Int) (s:SS) (x:Int) (a:Nat):SS:=if s.e=0 then {s with e:=x,p:=Adz.place pl a} else s
def next (L pl:List Int) (s:SS):Int×SS:=if now L s<0 then (-1,no pl s 3 s.i) else (now L s,{s with i:=s.i+1})
def take (L:List Int) (s:SS) (c:Int):Bool×SS:=if now L s=c then (true,{s with i:=s.i+1}) else (false,s)
def gap (gaps:Bool) (c:Int):Bool:=c==32 || c==9 || (gaps && (c==10 || c==59))
def skip (L:List Int) (s:SS) (gaps:Bool):SS:=if s.e=0 then {s with i:=s.i+((L.drop s.i).takeWhile (gap gaps)).length} else s
def fold (ds:List Int):Int:=ds.foldl (fun n d=>min (n*10+(d - 48)) 10000) 0
def number (L pl:List Int) (s:SS):Int×SS:=
 if s.e=0 then
  (fold (Adz.digitsOf L s.i),if fold (Adz.digitsOf L s.i)<1∨9999<fold (Adz.digitsOf L s.i) then no pl {s with i:=s.i+(Adz.digitsOf L s.i).length} 4 s.i else {s with i:=s.i+(Adz.digitsOf L s.i).length})
 else (0,s)
def letters (L:List Int) (s:SS):List Int:=if s.e=0 then Adz.lettersOf L s.i else []
def name (L pl:List Int) (s:SS):SS:=
 if 8<(letters L s).length then no pl {s with i:=s.i+(letters L s).length} 4 s.i else {s with i:=s.i+(letters L s).length}
def escaped (L pl:List Int) (may:List Int) (s:SS):Int×SS:=
 if (next L pl s).1=110 then (10,(next L pl s).2)
 else ((next L pl s).1,if may.contains (next L pl s).1 then (next L pl s).2 else no pl (next L pl s).2 3 s.i)
def plain (L pl:List Int) (but:List Int) (s:SS):Int×SS:=
 if (next L pl s).1=92 then escaped L pl Adz.escapable (next L pl s).2
 else ((next L pl s).1,if but.contains (next L pl s).1 then no pl (next L pl s).2 3 s.i else (next L pl s).2)
def setBut:List Int:= [93,94,45,91,47,10]
def pieceBut:List Int:= [91,40,41,42,43,63,94,36,47,10]
def upto (L pl:List Int) (lo:Int×SS):Int×SS:=
 if (take L lo.2 45).1 then plain L pl setBut (take L lo.2 45).2 else (lo.1,(take L lo.2 45).2)
def member (L pl:List Int) (s:SS):SS:=
 if (upto L pl (plain L pl setBut s)).1<(plain L pl setBut s).1 then no pl (upto L pl (plain L pl setBut s)).2 4 s.i else (upto L pl (plain L pl setBut s)).2
def members (L pl:List Int):Nat→Bool→SS→SS
 | 0,_,s=>s
 | n+1,more,s=>
  if s.e=0 then
   if more=true∧now L s=93 then {s with i:=s.i+1}
   else members L pl n true (member L pl s)
  else s
def single (L pl:List Int) (s:SS):SS:=
 if now L s=46 then {s with i:=s.i+1}
 else if now L s=91 then members L pl (L.length+1) false (take L {s with i:=s.i+1} 94).2
 else (plain L pl pieceBut s).2
def many (L:List Int) (s:SS):SS:=if now L s=42∨now L s=43∨now L s=63 then {s with i:=s.i+1} else s
def piece (L pl:List Int) (s:SS):SS:=many L (single L pl s)
structure PS where
 s:SS
 n:Nat
 groups:Nat
 opens:Nat
def pend (pl:List Int) (first:Nat) (t:PS):SS:=
 let s1:=if 30<t.n then no pl {t.s with i:=t.s.i+1} 4 first else {t.s with i:=t.s.i+1}
 if 0<t.opens then no pl s1 8 first else s1
def pstep (L pl:List Int) (first:Nat) (t:PS):PS:=
 if now L t.s=94∧t.s.i=first then {t with s:= {t.s with i:=t.s.i+1},n:=t.n+1}
 else if now L t.s=40 then {s:=if 9<t.groups+1 then no pl {t.s with i:=t.s.i+1} 8 t.s.i else {t.s with i:=t.s.i+1},n:=t.n+1,groups:=t.groups+1,opens:=t.opens+1}
 else if now L t.s=41 then
  if t.opens=0 then {t with s:=no pl t.s 8 t.s.i}
  else {t with s:= {t.s with i:=t.s.i+1},n:=t.n+1,opens:=t.opens - 1}
 else if now L t.s=36 then {t with s:=if now L {t.s with i:=t.s.i+1}=47 then {t.s with i:=t.s.i+1} else no pl {t.s with i:=t.s.i+1} 3 (t.s.i+1),n:=t.n+1}
 else {t with s:=piece L pl t.s,n:=t.n+1}
def pattern (L pl:List Int) (first:Nat):Nat→PS→PS
 | 0,t=>t
 | n+1,t=>
  if t.s.e=0 then
   if now L t.s=47 then {t with s:=pend pl first t}
   else pattern L pl first n (pstep L pl first t)
  else t
def pat (L pl:List Int) (s:SS):PS:=pattern L pl s.i (L.length+1) ⟨s,0,0,0⟩
def rstep (L pl:List Int) (groups:Nat) (s:SS):SS:=
 let c:=(next L pl s).1
 let s1:=if c=10 then no pl (next L pl s).2 3 s.i else (next L pl s).2
 if c=38 then s1
 else if c=92∧Adz.isDigit (now L s1)=true∧now L s1≠48 then
  if (groups:Int)<now L s1 - 48 then no pl {s1 with i:=s1.i+1} 8 s.i else {s1 with i:=s1.i+1}
 else if c=92 then (escaped L pl Adz.replSpecial s1).2
 else s1
def replacement (L pl:List Int) (groups:Nat):Nat→SS→SS
 | 0,s=>s
 | n+1,s=>
  if s.e=0 then
   if now L s=47 then {s with i:=s.i+1} else replacement L pl groups n (rstep L pl groups s)
  else s
def ustep (L pl:List Int) (s:SS):Int×SS:=
 let c:=(next L pl s).1
 let s1:=if c=10 then no pl (next L pl s).2 3 s.i else (next L pl s).2
 if c=92 then escaped L pl Adz.sideSpecial s1 else (c,s1)
def runes (L pl:List Int):Nat→List Int→SS→List Int×SS
 | 0,l,s=>(l,s)
 | n+1,l,s=>
  if s.e=0 then
   if now L s=47 then (l,{s with i:=s.i+1}) else runes L pl n (l++ [(ustep L pl s).1]) (ustep L pl s).2
  else (l,s)
def address (L pl:List Int) (s:SS):Int×SS:=
 if Adz.isDigit (now L s)=true then (110,(number L pl s).2)
 else if now L s=36 then (36,{s with i:=s.i+1})
 else if now L s=47 then (47,(pat L pl {s with i:=s.i+1}).s)
 else (0,s)
def must (L pl:List Int) (s:SS) (c:Int):SS:=if now L s=c then {s with i:=s.i+1} else no pl s 3 s.i
def line (L:List Int) (s:SS):SS:=if s.e=0 then {s with i:=s.i+(Adz.lineOf L s.i).length} else s
def text (L pl:List Int) (s:SS):SS:=
 let s1:=if 0≤now L s∧now L s≠32∧now L s≠9∧now L s≠10 then no pl s 3 s.i else s
 line L (if now L s=32∨now L s=9 then {s1 with i:=s1.i+1} else s1)
structure FgS where
 s:SS
 all:Bool
 print:Bool
 nth:Int
def flags (L pl:List Int):Nat→FgS→FgS
 | 0,f=>f
 | n+1,f=>
  if f.s.e=0 then
   if now L f.s=103∧f.all=false then flags L pl n {f with all:=true,s:= {f.s with i:=f.s.i+1}}
   else if now L f.s=112∧f.print=false then flags L pl n {f with print:=true,s:= {f.s with i:=f.s.i+1}}
   else if Adz.isDigit (now L f.s)=true∧f.nth=0 then flags L pl n {f with nth:=(number L pl f.s).1,s:=(number L pl f.s).2}
   else f
  else f
structure RS where
 s:SS
 labs:List (List Int):= []
 jumps:List (List Int×Nat):= []
def tailEnd (L pl:List Int) (s:SS):SS:=
 let s1:=skip L s false
 if 0≤now L s1∧now L s1≠59∧now L s1≠10∧now L s1≠125 then no pl s1 3 s1.i else s1
def setLab (L pl:List Int) (at_:Nat) (r:RS):RS:=
 let nm:=letters L r.s
 let s0:=name L pl r.s
 let s1:=if nm.length=0 then no pl s0 3 s0.i else s0
 {r with s:=if r.labs.contains nm then no pl s1 7 at_ else s1,labs:=r.labs++ [nm]}
def askLab (L pl:List Int) (at_:Nat) (r:RS):RS:=
 let s0:=skip L r.s false
 {r with s:=name L pl s0,jumps:=r.jumps++ [(letters L s0,at_)]}
def subst (L pl:List Int) (s:SS):SS:=
 let p:=pat L pl (must L pl s 47)
 (flags L pl (L.length+1) ⟨replacement L pl p.groups (L.length+1) p.s,false,false,0⟩).s
def exch (L pl:List Int) (at_:Nat) (s:SS):SS:=
 let a:=runes L pl (L.length+1) [] (must L pl s 47)
 let b:=runes L pl (L.length+1) [] a.2
 if Adz.hasTwice a.1=true∨a.1.length≠b.1.length then no pl b.2 4 at_ else b.2
def behind (L pl:List Int) (what:Int) (at_:Nat) (r:RS):RS:=
 if what=97∨what=99∨what=105 then {r with s:=text L pl r.s}
 else
  let r1:RS:=if what=58 then setLab L pl at_ r
   else if what=98∨what=116 then askLab L pl at_ r
   else if what=115 then {r with s:=subst L pl r.s}
   else if what=121 then {r with s:=exch L pl at_ r.s}
   else r
  {r1 with s:=tailEnd L pl r1.s}
def second (L pl:List Int) (s:SS):SS:=
 if now L s=44 then
  let b:=address L pl (skip L {s with i:=s.i+1} false)
  skip L (if b.1=0 then no pl b.2 3 b.2.i else b.2) false
 else s
def whats:List Int:= [61,100,68,103,71,104,72,110,78,112,80,113,120,97,99,105,58,98,116,115,121,123]
structure Hd where
 what:Int
 at_:Nat
 s:SS
def head (L pl:List Int) (nest:Nat) (s:SS):Hd:=
 let a:=address L pl s
 let s1:=skip L a.2 false
 let s2:=if a.1=0 then s1 else second L pl s1
 let n:=take L s2 33
 let s3:=skip L n.2 false
 let c:=next L pl s3
 let s4:=if whats.contains c.1=false∨(c.1=58∧(a.1≠0∨n.1=true)) then no pl c.2 3 s3.i else c.2
 let s5:=if 40≤s4.count then no pl s4 5 s3.i else s4
 ⟨c.1,s3.i,if c.1=123∧5≤nest then no pl s5 6 s3.i else s5⟩
def commands (L pl:List Int):Nat→Nat→RS→RS
 | 0,_,r=>r
 | f+1,nest,r=>
  if r.s.e=0 then
   let s1:=skip L r.s true
   if now L s1<0 then {r with s:=if 0<nest then no pl s1 3 L.length else s1}
   else if 0<nest∧now L s1=125 then {r with s:= {s1 with i:=s1.i+1}}
   else
    let h:=head L pl nest s1
    let r1:RS:= {r with s:= {h.s with count:=h.s.count+1}}
    commands L pl f nest (if h.s.e=0 then (if h.what=123 then commands L pl f (nest+1) r1 else behind L pl h.what h.at_ r1) else {r with s:=h.s})
  else r
def jumpsOk (pl:List Int) (labs:List (List Int)):List (List Int×Nat)→SS→SS
 | [],s=>s
 | j::js,s=>if s.e=0 then jumpsOk pl labs js (if labs.contains j.1=false∧0<j.1.length then no pl s 7 j.2 else s) else s
def readAll (L pl:List Int):SS:=
 let r:=commands L pl (L.length+1) 0 {s:=⟨0,0,0,0⟩}
 jumpsOk pl r.labs r.jumps r.s
end Rf
end
section
open Go.RowKit
structure ae (S:Nat→Prop) (w w':World):Prop where
 os:w'.os=w.os
 tape:w'.tape=w.tape
 output:w'.output=w.output
 size:w.heap.size≤w'.heap.size
 block:∀k,k<w.heap.size→¬S k→w'.heap[k]? =w.heap[k]?
theorem ae.refl (S:Nat→Prop) (w:World):ae S w w:=⟨rfl,rfl,rfl,Nat.le_refl _,fun _ _ _=>rfl⟩
theorem ae.trans {S T U:Nat→Prop}{a b c:World} (h:ae S a b) (k:ae T b c) (hs:∀x,S x→U x) (ht:∀x,x<a.heap.size→T x→U x):ae U a c:=
 ⟨k.os.trans h.os,k.tape.trans h.tape,k.output.trans h.output,Nat.le_trans h.size k.size,
  fun i hi hu=>(k.block i (Nat.lt_of_lt_of_le hi h.size) (fun e=>hu (ht i hi e))).trans (h.block i hi (fun e=>hu (hs i e)))⟩
theorem ae.mono {S U:Nat→Prop}{a b:World} (h:ae S a b) (hs:∀x,x<a.heap.size→S x→U x):ae U a b:=
 ⟨h.os,h.tape,h.output,h.size,fun i hi hu=>h.block i hi (fun e=>hu (hs i hi e))⟩
theorem ae.drew {S:Nat→Prop}{a w:World} (h:ae S a w):ae S a w.drew:=⟨h.os,h.tape,h.output,h.size,h.block⟩
theorem ae.drewN {S:Nat→Prop}{a w:World} (h:ae S a w) (n:Nat):ae S a (w.drewN n):=⟨h.os,h.tape,h.output,h.size,h.block⟩
theorem ae.alloc {S:Nat→Prop}{a w:World} (h:ae S a w) (o:Obj):ae S a (w.alloc o):=
 ⟨h.os,h.tape,h.output,Nat.le_trans h.size (by simp),fun k hk hs=>(Below.heap_alloc _ _ _ (Nat.lt_of_lt_of_le hk h.size)).trans (h.block k hk hs)⟩
theorem ae.setCell {S:Nat→Prop}{a w:World} (h:ae S a w) {p:Addr} (hp:p.block<a.heap.size→S p.block) (u:Value):ae S a (w.setCell p u):=
 ⟨h.os,h.tape,h.output,Nat.le_trans h.size (by simp[World.setCell]),fun k hk hs=>
  (Below.heap_setCell _ _ _ _ (fun e=>hs (by subst e;exact hp hk))).trans (h.block k hk hs)⟩
theorem ae.cell {S:Nat→Prop}{w w':World} (h:ae S w w') {p:Addr} (hp:p.block<w.heap.size) (hs:¬S p.block):w'.cell? p=w.cell? p:=
 World.cell?_of_block (w:=w) (h.block p.block hp hs)
theorem ae.frozen {S:Nat→Prop}{w w':World} (h:ae S w w') {p:Addr} (hp:p.block<w.heap.size) (hs:¬S p.block):w'.frozen? p=w.frozen? p:=
 World.frozen?_of_block (w:=w) (h.block p.block hp hs)
theorem ae.keeps {S:Nat→Prop}{w w':World} (h:ae S w w') {p:Addr}{v:Value} (hc:w.cell? p=some v) (hs:¬S p.block):w'.cell? p=some v:=
 (h.cell (World.block_lt_of_cell? _ _ hc) hs).trans hc
theorem ae.keepsFrozen {S:Nat→Prop}{w w':World} (h:ae S w w') {p:Addr}{v:Value} (hc:w.cell? p=some v) (hf:w.frozen? p=false) (hs:¬S p.block):w'.frozen? p=false:=
 (h.frozen (World.block_lt_of_cell? _ _ hc) hs).trans hf
theorem ae.of_grown {w w':World}{row:Option Nat} (h:w.grownBy w' row):ae (fun k=>row=some k) w w':=
 ⟨h.os,h.tape,h.output,h.size,fun k hk hs=>h.block k hk (fun e=>hs e.symm)⟩
def aq (w:World) (b:Nat) (T:TypeId):Prop:=∃cur fz,w.heap[b]? =some (.cells cur T fz)
theorem aq.lt {w:World}{b:Nat}{T:TypeId} (h:aq w b T):b<w.heap.size:=by
 obtain⟨c,f,h⟩:=h;exact(Array.getElem?_eq_some_iff.1 h).1
theorem aq.one {w:World}{b:Nat}{T U:TypeId} (h:aq w b T) (k:aq w b U):T=U:=by
 obtain⟨c,f,h⟩:=h;obtain⟨c',f',k⟩:=k;rw[h] at k;simp at k;exact k.2.1
theorem aq.ne {w:World}{b c:Nat}{T U:TypeId} (h:aq w b T) (k:aq w c U) (hn:T≠U):b≠c:=fun e=>by subst e;exact hn (h.one k)
theorem aq.keeps {S:Nat→Prop}{w w':World}{b:Nat}{T:TypeId} (h:aq w b T) (o:ae S w w') (hs:¬S b):aq w' b T:=by
 obtain⟨c,f,h⟩:=h;exact⟨c,f,(o.block b (Array.getElem?_eq_some_iff.1 h).1 hs).trans h⟩
theorem aq.drewN {w:World}{b:Nat}{T:TypeId} (h:aq w b T) (n:Nat):aq (w.drewN n) b T:=h
theorem aq.alloc {w:World}{b:Nat}{T:TypeId} (h:aq w b T) (o:Obj):aq (w.alloc o) b T:=by
 have hl:=h.lt;obtain⟨c,f,h⟩:=h;exact⟨c,f,(Below.heap_alloc _ _ _ hl).trans h⟩
theorem aq.new (w:World) (c:Array Value) (T:TypeId) (fz:Nat×Nat):aq (w.alloc (.cells c T fz)) w.heap.size T:=⟨c,fz,heap_alloc_new w _⟩
theorem aq.setCell {w:World}{b:Nat}{T:TypeId} (h:aq w b T) (p:Addr) (v:Value):aq (w.setCell p v) b T:=by
 obtain⟨c,f,h⟩:=h;by_cases e:b=p.block
 ·subst e
  refine⟨if p.spot.isSome then c else c.setIfInBounds p.off v,f,?_⟩;simp only[World.setCell,Array.getElem?_modify,if_pos,h,Option.map_some]
 ·exact⟨c,f,(Below.heap_setCell _ _ _ _ e).trans h⟩
theorem aq.of_row {w:World}{base:Nat}{e:TypeId}{size:Nat}{v:Value}{n:Nat}{xs:List Value} (h:w.ownsRow base e size v n xs) {b:Nat} (hb:v.ownBlock=some b):aq w b e:=by
 rcases h.2 with ⟨rfl,_⟩ |⟨g,cap,cur,rfl,_,hg,_⟩
 ·simp[Value.ownBlock] at hb
 ·simp[Value.ownBlock] at hb
  subst hb;exact⟨cur,(0,0),hg⟩
theorem aG {w:World}{base:Nat}{e:TypeId}{size:Nat}{v:Value}{n:Nat}{xs:List Value} (h:w.ownsRow base e size v n xs) {b:Nat}{T:TypeId} (t:aq w b T) (hn:T≠e):v.ownBlock≠some b:=
 fun hb=>hn (t.one (aq.of_row h hb))
theorem ag {S:Nat→Prop}{w w':World}{base:Nat}{e:TypeId}{size:Nat}{v:Value}{n:Nat}{xs:List Value} (h:w.ownsRow base e size v n xs) (o:ae S w w') (hs:∀b,v.ownBlock=some b→¬S b):w'.ownsRow base e size v n xs:=by
 refine⟨h.1,?_⟩
 rcases h.2 with hn |⟨g,cap,cur,rfl,hb,DK,rest⟩
 ·exact .inl hn
 ·refine .inr ⟨g,cap,cur,rfl,hb,?_,rest⟩
  rw[o.block g (Array.getElem?_eq_some_iff.1 DK).1 (hs g rfl)];exact DK
structure Field (fb fo:Nat) (w w':World):Prop where
 others:∀o,o≠fo→w'.cell? ⟨fb,o,none⟩=w.cell? ⟨fb,o,none⟩
 frozen:∀o,w'.frozen? ⟨fb,o,none⟩=w.frozen? ⟨fb,o,none⟩
 typ:∀T,aq w fb T→aq w' fb T
theorem Field.setCell (w:World) (fb fo:Nat) (v:Value):Field fb fo w (w.setCell ⟨fb,fo,none⟩ v):=
 ⟨fun o ho=>World.cell?_setCell_other _ _ _ _ (by simp),fun o=>World.frozen?_setCell _ _ _ _,fun _ h=>h.setCell _ _⟩
theorem bg {w wb w1:World}{fb fo:Nat}{iv v':Value}{e:TypeId}{size M base:Nat}{ys:List Value} (hb:ae (fun _=>False) w wb) (aI:wb.grownBy w1 iv.ownBlock)
 (kc:w1.cell? ⟨fb,fo,none⟩=some iv) (cz:w1.ownsRow base e size v' M ys) (hv:v'.ownBlock≠some fb) (aw:fb<w.heap.size) (aJ:iv.ownBlock≠some fb):
 (w1.setCell ⟨fb,fo,none⟩ v').cell? ⟨fb,fo,none⟩=some v'∧(w1.setCell ⟨fb,fo,none⟩ v').ownsRow base e size v' M ys∧ae (fun b=>b=fb∨iv.ownBlock=some b) w (w1.setCell ⟨fb,fo,none⟩ v')∧
   Field fb fo w (w1.setCell ⟨fb,fo,none⟩ v'):=by
 have o1:ae (fun b=>iv.ownBlock=some b) w w1:=ae.trans hb (ae.of_grown aI) (fun x h=>h.elim) (fun x _ h=>h);have f:=Field.setCell w1 fb fo v';refine⟨World.cell?_setCell_same _ _ _ kc,?_,?_,?_⟩
 ·exact ag cz (ae.setCell (S:=(·=fb)) (p:=⟨fb,fo,none⟩) (ae.refl _ w1) (fun _=>rfl) v') (fun b h e=>hv (by rw[h,e]))
 ·exact ae.setCell (S:=fun b=>b=fb∨iv.ownBlock=some b) (p:=⟨fb,fo,none⟩) (o1.mono (fun x _ h=>Or.inr h)) (fun _=>Or.inl rfl) v'
 ·exact⟨fun o ho=>(f.others o ho).trans (o1.cell (p:=⟨fb,o,none⟩) aw aJ),fun o=>(f.frozen o).trans (o1.frozen (p:=⟨fb,o,none⟩) aw aJ),fun T h=>f.typ T (h.keeps o1 aJ)⟩
def ai (w:World) (b:Nat) (l:List Value):Prop:=∀j v,l[j]? =some v→w.cell? ⟨b,j,none⟩=some v∧w.frozen? ⟨b,j,none⟩=false
theorem ai.new (w:World) (c:Array Value) (T:TypeId):ai (w.alloc (.cells c T)) w.heap.size c.toList:=by
 intro j v hv;have hb:=heap_alloc_new w (.cells c T);refine⟨?_,?_⟩
 ·rw[cell_of_row _ w.heap.size j c T (0,0) hb]
  simpa using hv
 ·unfold World.frozen?
  rw[hb];simp
theorem ai.keeps {S:Nat→Prop}{w w':World}{b:Nat}{l:List Value} (h:ai w b l) (o:ae S w w') (hs:¬S b):ai w' b l:=fun j v hv=>
 ⟨o.keeps (h j v hv).1 hs,o.keepsFrozen (h j v hv).1 (h j v hv).2 hs⟩
theorem ai.drewN {w:World}{b:Nat}{l:List Value} (h:ai w b l) (n:Nat):ai (w.drewN n) b l:=h
theorem ai.alloc {w:World}{b:Nat}{l:List Value} (h:ai w b l) (o:Obj):ai (w.alloc o) b l:=
 h.keeps (S:=fun _=>False) ((ae.refl _ w).alloc o) id
def set4 (w:World) (b:Nat) (v0 v1 v2 v3:Value):World:=(((w.setCell ⟨b,0,none⟩ v0).setCell ⟨b,1,none⟩ v1).setCell ⟨b,2,none⟩ v2).setCell ⟨b,3,none⟩ v3
theorem eR (w:World) (b:Nat) (v0 v1 v2 v3:Value):ae (·=b) w (set4 w b v0 v1 v2 v3):=
 ae.setCell (S:=(·=b)) (p:=⟨b,3,none⟩) (ae.setCell (S:=(·=b)) (p:=⟨b,2,none⟩) (ae.setCell (S:=(·=b)) (p:=⟨b,1,none⟩) (ae.setCell (S:=(·=b)) (p:=⟨b,0,none⟩) (ae.refl _ w) (fun _=>rfl) _) (fun _=>rfl) _) (fun _=>rfl) _) (fun _=>rfl) _
theorem Ac (w:World) (b:Nat) (v0 v1 v2 v3:Value):(set4 w b v0 v1 v2 v3).heap.size=w.heap.size:=by simp[set4,World.setCell]
theorem ai.at {w:World}{b:Nat}{l:List Value} (h:ai w b l) (j:Nat) (v:Value) (hv:l[j]? =some v):w.cell? ⟨b,j,none⟩=some v:=(h j v hv).1
theorem ak {w:World}{base:Nat}{e:TypeId}{size:Nat}{v:Value}{n:Nat}{xs:List Value} (h:w.ownsRow base e size v n xs):∃a cap,v=.slice a n cap:=by
 rcases h.2 with ⟨rfl,rfl⟩ |⟨g,cap,cur,rfl,_⟩
 ·exact⟨_,_,rfl⟩
 ·exact⟨_,_,rfl⟩
theorem ug (r:Int) (h1:128≤r):∃E:ByteArray,Utf8.encode r=E∧2≤E.size∧E.size≤4∧∀h:E.size - 1<E.size,128≤E[E.size - 1].toNat:=by
 refine⟨_,rfl,?_⟩;unfold Utf8.encode;have hc:∀c:Nat,c % 64<64:=fun c=>Nat.mod_lt _ (by omega)
 have key:∀c:Nat,128≤(UInt8.ofNat (128+c % 64)).toNat:=fun c=>by
  have:=hc c;simp[UInt8.toNat_ofNat];omega
 generalize jq:(if Utf8.valid r=true then r.toNat else Utf8.runeError)=c
 have wP:128≤c:=by
  rw[←jq];split
  ·omega
  ·decide
 simp only[show ¬c<0x80 by omega,if_false];split
 ·exact⟨by simp[ByteArray.size],by simp[ByteArray.size],fun h=>key c⟩
 ·split
  ·exact⟨by simp[ByteArray.size],by simp[ByteArray.size],fun h=>key c⟩
  ·exact⟨by simp[ByteArray.size],by simp[ByteArray.size],fun h=>key c⟩
theorem px (l:List UInt8) (c:UInt8) (h:∀b∈l,b≠c):Lib.indexByte l c= -1:=by
 induction l with
 | nil=>rfl
 | cons b l ih=>
  have hb:=h b (by simp);have:=ih (fun x hx=>h x (by simp[hx]));simp[Lib.indexByte,hb,this]
theorem uj {s:ByteArray}{a b:Nat}{x:UInt8} (h:x∈(s.extract a b).data.toList):x∈s.data.toList:=by
 rw[Lib.extract_data] at h;exact List.mem_of_mem_drop (List.mem_of_mem_take h)
theorem pz (s:ByteArray) (r:Int) (w:World) (h1:128≤r) (h2:r≤1114111) (h3:r≠65533) (h4:Lib.validRune r=true)
 (dr:s.size≤1000) (wM:∀b∈s.data.toList,b.toNat<128):
 Calls Tryz.prog 233 #[.string s,.int .i32 r] w fun e w'=>e=.returned (.int .i64 (-1))∧∃n,w'=w.drewN n:=by
 obtain⟨E,hE,e1,e2,e3⟩:=ug r h1;obtain⟨m,hm⟩:∃m,E.size=m+1:=⟨E.size - 1,by omega⟩
 have e3:∀h:m<E.size,128≤E[m].toNat:=by
  intro h;have:=e3 (by omega);simp only[hm,Nat.add_sub_cancel] at this;exact this
 have b1:decide (0≤r)=true:=by simp;omega
 have b2:decide (r<128)=false:=by simp;omega
 have b3:(r==65533)=false:=by simp;omega
 have HV:Hid (Lib.validRune r=true):=h4;clear h4 h3;go_enter Tryz.func233,Tryz.ntmps233;go_wp2_with fail;refine(Tryz.utf8_ValidRune r w).mono ?_;rintro e w' ⟨rfl,rfl⟩;rw[HV.out];go_wp2_with fail
 go_step3
 go_wp2_with fail
 go_loopg [9,10] 0 (fun k a b wr=>k=0∧a=.int .i64 m∧b=.int .i64 0∧wr=w')
 case atStart=>exact ⟨rfl,rfl,rfl,rfl⟩
 case round=>
  obtain⟨rfl,rfl,rfl,rfl⟩:=hrel;have UL:m<E.size:=by omega
  have WA:m≤4:=by omega
  have hw:IntKind.i64.wrap ((m:Int)+1)=(m:Int)+1:=by rw[IntKind.wrap_i64];omega
  clear hm e1 e2;by_cases aw:m<s.size
  ·have aJ:((s[m].toNat:Int) !=(E[m].toNat:Int))=true:=by
    have q1:=wM s[m] (Array.mem_toList_iff.2 (Array.getElem_mem aw));have q2:=e3 (by omega);rw[bne_iff_ne];omega
   have fq:∀wx,(Instr.slice 9 (.string s) (some (.int .i64 ((m:Int)+1))) none none).run Tryz.prog wx=.ok (.string (s.extract (m+1) s.size)) wx:=fun wx=>by
    rw[run_slice_string_l wx _ s Tryz.underlying9 .i64 _ (by omega) (by omega)]
    rfl
   have bF:∀wx,Calls Tryz.prog 237 #[.string (s.extract (m+1) s.size),.int .u8 (E[m].toNat:Int)] wx fun e w'=>e=.returned (.int .i64 (-1))∧w'=wx:=fun wx=>by
    have:=Tryz.strings_IndexByte (s.extract (m+1) s.size) (E[m].toNat:Int) wx;rw[px _ _ (fun b hb=> ?_)] at this
    ·exact this
    ·have q1:=wM b (uj hb)
     have q2:=e3 UL;intro e;subst e;simp at q1;omega
   go_wp2_with fail
   go_step3
   go_wp2_with fail
   go_quiet (fail)
   go_wp2_with fail
   go_quiet ((go_at_call 237;exact(bF _).mono (fun e w1 ⟨he,da⟩=>⟨he,_,da⟩)))
   go_wp2_with fail;rw[Exit.noGoto_ret];go_wp2;rw[Exit.noGoto_ret];go_ret;exact⟨rfl,_,rfl⟩
  ·go_wp2
   rw[Exit.noGoto_ret];go_ret;exact⟨rfl,0,rfl⟩
theorem oK (l:List UInt8) (r:Int) (h0:0≤r) (h1:r<256):decide (0≤Lib.indexByte l r.toNat.toUInt8)=(l.map (fun b=>(b.toNat:Int))).contains r:=by
 have hr:(r.toNat.toUInt8).toNat=r.toNat:=by simp[Nat.toUInt8];omega
 induction l with
 | nil=>simp [Lib.indexByte]
 | cons b l ih=>
  have wP:=Lib.indexByte_ge l r.toNat.toUInt8;by_cases hb:b=r.toNat.toUInt8
  ·have e:(b.toNat:Int)=r:=by rw[hb,hr];omega
   simp[Lib.indexByte,←hb,e]
  ·have e:¬r=(b.toNat:Int):=by
    intro e;exact hb (UInt8.toNat_inj.1 (by rw[hr];omega))
   have e2:(r==(b.toNat:Int))=false:=by simp[e]
   rw[List.map_cons,List.contains_cons,e2,Bool.false_or,←ih];simp only[Lib.indexByte,beq_iff_eq,hb,if_false];by_cases h9:Lib.indexByte l r.toNat.toUInt8= -1
   ·simp[h9]
   ·simp only[h9,if_false]
    exact decide_eq_decide.2 ⟨by omega,by omega⟩
theorem dA (w:World) (k:Nat) (s:ByteArray) (p:Nat):ae (·=k) w (w.iterAt k s p):=
 ⟨rfl,rfl,rfl,by rw[Lib.iterAt_size];exact Nat.le_refl _,fun j _ hj=>Lib.iterAt_other w k j s p hj⟩
theorem py (s:ByteArray) (w:World) (dr:s.size≤1000) (wM:∀b∈s.data.toList,b.toNat<128):
 Calls Tryz.prog 233 #[.string s,.int .i32 65533] w fun e w'=>e=.returned (.int .i64 (-1))∧ae (fun _=>False) w w':=by
 have KS:=World.iter_heap w s 0;have oi:ae (fun _=>False) w (w.iter s 0):=(ae.refl _ w).alloc _
 have bJ:∀m,m<s.size→∃b:Nat,b<128∧Utf8.decode s m=(b,1):=fun m hm=>by
  have hb:=wM (s.get! m) (by
   have G8:m<s.data.toList.length:=by rw[Array.length_toList];exact hm
   have:s.get! m=s.data.toList[m]:=by
    show s.data[m]! =_;rw[getElem!_pos s.data m hm,Array.getElem_toList]
   rw[this];exact List.getElem_mem G8)
  refine⟨(s.get! m).toNat,hb,?_⟩;unfold Utf8.decode;simp only[Nat.add_zero];rw[if_pos hb]
 go_enter Tryz.func233,Tryz.ntmps233;go_wp2_with fail;have Rw:w.heap.size≤w.heap.size:=Nat.le_refl _;obtain⟨ib,OF⟩:∃ib,w.heap.size=ib:=⟨_,rfl⟩;rw[OF] at KS ⊢;generalize w.iter s 0=wI at*
 go_loopg [] s.size (fun k wq=>∃m:Nat,m≤s.size∧Hid (m+k=s.size∧wq.heap[ib]? =some (.stringIter s m)∧ae (fun _=>False) w wq))
 case atStart=>exact ⟨0,by omega,⟨by omega,KS,oi⟩⟩
 case round=>
  obtain⟨m,hm,G⟩:=hrel;by_cases RC:m<s.size
  ·obtain⟨b,hb,mW⟩:=bJ m RC
   have eP:∀ty,(Instr.next (.pointer (some ⟨ib,0,none⟩)) true ty).run Tryz.prog wr=.ok (.tuple #[.bool true,.int .i64 (m:Int),.int .i32 (b:Int)]) (wr.iterAt ib s (m+1)):=fun ty=>by
    have:=Lib.run_next_any_at (P:=Tryz.prog) wr ib s m ty G.out.2.1 RC;rw[mW] at this;simpa using this
   have o1:=dA wr ib s (m+1);have DN:=Lib.iterAt_heap wr ib s _ (m+1) G.out.2.1;have HX:Hid ((wr.iterAt ib s (m+1)).heap[ib]? =some (.stringIter s (m+1))∧ae (fun _=>False) w (wr.iterAt ib s (m+1))):=⟨DN,G.out.2.2.trans o1 (fun _ e=>e) (fun b hb e=>by omega)⟩;clear DN o1;generalize wr.iterAt ib s (m+1)=wn at*
   have bb:((b:Int)==65533)=false:=by simp;omega
   have HG:Hid (m+gk=s.size):=G.out.1;clear bJ mW G;go_wp2;go_roundg (gk - 1)
   case measure=>have:=HG.out;omega
   case rel=>exact ⟨m+1,by omega,⟨by have:=HG.out;omega,HX.out.1,HX.out.2⟩⟩
  ·have UN:m=s.size:=by omega
   subst UN
   have fO:∀ty,(Instr.next (.pointer (some ⟨ib,0,none⟩)) true ty).run Tryz.prog wr=.ok (.tuple #[.bool false]) wr:=fun ty=>
    Lib.run_next_end_at (P:=Tryz.prog) wr ib s _ ty G.out.2.1 (Nat.lt_irrefl _)
   clear bJ;go_wp2;go_ret;exact⟨rfl,G.out.2.2⟩
theorem pA (s:ByteArray) (w:World):
 Calls Tryz.prog 233 #[.string s,.int .i32 (-1)] w fun e w'=>e=.returned (.int .i64 (-1))∧w'=w:=by
 have hv:Lib.validRune (-1)=false:=by decide
 have HV:Hid (Lib.validRune (-1)=false):=hv;clear hv;go_enter Tryz.func233,Tryz.ntmps233;go_wp2_with fail;refine(Tryz.utf8_ValidRune (-1) w).mono ?_;rintro e w' ⟨rfl,rfl⟩;rw[HV.out];go_wp2;go_ret;exact⟨rfl,rfl⟩
theorem cZ (s:ByteArray) (may:List Int) (r:Int) (w:World) (hs:s.data.toList.map (fun b=>(b.toNat:Int))=may) (wM:∀c∈may,0≤c∧c<128) (dr:may.length≤1000)
 (h4:r= -1∨(0≤r∧r≤1114111∧Lib.validRune r=true)):
 Calls Tryz.prog 227 #[.string s,.int .i32 r] w fun e w'=>e=.returned (.bool (may.contains r))∧ae (fun _=>False) w w':=by
 by_cases h1:0≤r∧r<128
 ·refine(Tryz.strings_ContainsRune_ascii s r w h1.1 h1.2).mono ?_
  rintro e w' ⟨rfl,rfl⟩;rw[oK _ r h1.1 (by omega),hs];exact⟨rfl,ae.refl _ _⟩
 ·have hf:may.contains r=false:=by
   rw[List.contains_eq_any_beq,List.any_eq_false];intro c hc;have:=wM c hc;simp;omega
  have Lp:s.size≤1000:=by
   have e:s.data.toList.length=may.length:=by rw[←hs,List.length_map]
   have e2:s.data.toList.length=s.data.size:=Array.length_toList;show s.data.size≤1000;omega
  have hb:∀b∈s.data.toList,b.toNat<128:=by
   intro b hb;have:=wM (b.toNat:Int) (by rw[←hs];exact List.mem_map_of_mem hb);omega
  rw[hf]
  have UA:Calls Tryz.prog 233 #[.string s,.int .i32 r] w fun e w'=>e=.returned (.int .i64 (-1))∧ae (fun _=>False) w w':=by
   rcases h4 with rfl |⟨h0,h2,h4⟩
   ·exact(pA s w).mono fun e w' ⟨he,hw⟩=>⟨he,by rw[hw];exact ae.refl _ _⟩
   ·by_cases h3:r=65533
    ·subst h3
     exact py s w Lp hb
    ·exact(pz s r w (by omega) h2 h3 h4 Lp hb).mono fun e w' ⟨he,n,hw⟩=>⟨he,by rw[hw];exact(ae.refl _ w).drewN n⟩
  go_enter Tryz.func227,Tryz.ntmps227;go_wp2_with fail;refine UA.mono ?_;rintro e w' ⟨rfl,o1⟩;go_wp2;go_ret;exact⟨rfl,o1⟩
structure CG where
 c:Nat
 rb:Nat
 rcap:Nat
 pb:Nat
 pcap:Nat
 L:List Int
 pl:List Int
structure Cur (g:CG) (w:World) (i:Nat):Prop where
 c0:∃a,w.cell? ⟨g.c,0,none⟩=some (.slice a g.L.length g.rcap)∧(g.L.length≠0→a=some ⟨g.rb,0,none⟩)
 c1:w.cell? ⟨g.c,1,none⟩=some (.slice (some ⟨g.pb,0,none⟩) (g.L.length+1) g.pcap)
 c2:w.cell? ⟨g.c,2,none⟩=some (.int .i64 i)
 f2:w.frozen? ⟨g.c,2,none⟩=false
 rs:∀j,j<g.L.length→w.cell? ⟨g.rb,j,none⟩=some (.int .i32 (Adz.peek g.L j))
 ps:∀j,j≤g.L.length→w.cell? ⟨g.pb,j,none⟩=some (.int .i64 (Adz.place g.pl j))
 tc:aq w g.c 144
 tr:g.L.length≠0→aq w g.rb 21
 tp:aq w g.pb 3
 rc:g.rb≠g.c
 pc:g.pb≠g.c
 le:i≤g.L.length
 small:g.L.length≤500
 runes:∀j,j<g.L.length→0≤Adz.peek g.L j∧Adz.peek g.L j≤1114111∧Lib.validRune (Adz.peek g.L j)=true
theorem i6 {g:CG}{w:World}{i:Nat} (h:Cur g w i):Adz.peek g.L i= -1↔g.L.length≤i:=by
 constructor
 ·intro e
  by_cases hl:i<g.L.length
  ·have:=(h.runes i hl).1;omega
  ·omega
 ·intro hl
  simp[Adz.peek,List.getElem?_eq_none hl]
theorem Cur.keeps {g:CG}{S:Nat→Prop}{w w':World}{i:Nat} (h:Cur g w i) (o:ae S w w') (s0:¬S g.c) (s1:g.L.length≠0→¬S g.rb) (s2:¬S g.pb):Cur g w' i:=by
 obtain⟨a,h0,ha⟩:=h.c0;exact⟨⟨a,o.keeps h0 s0,ha⟩,o.keeps h.c1 s0,o.keeps h.c2 s0,o.keepsFrozen h.c2 h.f2 s0,fun j hj=>o.keeps (h.rs j hj) (s1 (by omega)),fun j hj=>o.keeps (h.ps j hj) s2,h.tc.keeps o s0,fun e=>(h.tr e).keeps o (s1 e),h.tp.keeps o s2,h.rc,h.pc,h.le,h.small,h.runes⟩
theorem Cur.drewN {g:CG}{w:World}{i:Nat} (h:Cur g w i) (n:Nat):Cur g (w.drewN n) i:=
 h.keeps (S:=fun _=>False) ((ae.refl _ _).drewN n) id (fun _=>id) id
theorem Cur.lt {g:CG}{w:World}{i:Nat} (h:Cur g w i):g.c<w.heap.size:=h.tc.lt
theorem Cur.alloc {g:CG}{w:World}{i:Nat} (h:Cur g w i) (o:Obj):Cur g (w.alloc o) i:=
 h.keeps (S:=fun _=>False) ((ae.refl _ _).alloc o) id (fun _=>id) id
theorem ij (w:World) (a b:Addr) (v:Value) (h:a.block≠b.block):(w.setCell b v).cell? a=w.cell? a:=
 World.cell?_of_block (w:=w) (Below.heap_setCell _ _ _ _ h)
theorem Cur.step {g:CG}{w:World}{i:Nat} (h:Cur g w i) (i':Nat) (hl:i'≤g.L.length):Cur g (w.setCell ⟨g.c,2,none⟩ (.int .i64 i')) i':=by
 obtain⟨a,h0,ha⟩:=h.c0;refine⟨⟨a,?_,ha⟩,?_,?_,?_,fun j hj=> ?_,fun j hj=> ?_,h.tc.setCell _ _,fun e=>(h.tr e).setCell _ _,h.tp.setCell _ _,h.rc,h.pc,hl,h.small,h.runes⟩
 ·rw[World.cell?_setCell_other _ _ _ _ (by simp)];exact h0
 ·rw[World.cell?_setCell_other _ _ _ _ (by simp)];exact h.c1
 ·rw[World.cell?_setCell_same _ _ _ h.c2]
 ·rw[World.frozen?_setCell];exact h.f2
 ·rw[ij _ _ _ _ (by simpa using h.rc)];exact h.rs j hj
 ·rw[ij _ _ _ _ (by simpa using h.pc)];exact h.ps j hj
theorem ah (g:CG) (w:World) (i:Nat) (h:Cur g w i):
 Calls Tryz.prog 51 #[.pointer (some ⟨g.c,0,none⟩)] w fun e w'=>e=.returned (.int .i32 (Adz.peek g.L i))∧∃n,w'=w.drewN n:=by
 obtain⟨a,h0,ha⟩:=h.c0;have h2:=h.c2;have hs:=h.small;have hle:=h.le;by_cases aw:i<g.L.length
 ·obtain rfl:=ha (by omega)
  have hr:=h.rs i aw;clear ha h;go_enter Tryz.func51,Tryz.ntmps51;go_wp2_with fail
  go_quiet (fail)
  go_wp2_with fail
  go_quiet (fail)
  go_wp2;go_ret;exact⟨rfl,_,World.drewN_drewN _ _ _⟩
 ·have he:=(i6 h).2 (by omega)
  rw[he];clear ha h he;go_enter Tryz.func51,Tryz.ntmps51;go_wp2_with fail
  go_quiet (fail)
  go_wp2;go_ret;exact⟨rfl,_,rfl⟩
theorem ax (g:CG) (w:World) (i:Nat) (h:Cur g w i) (hl:i<g.L.length):
 Calls Tryz.prog 75 #[.pointer (some ⟨g.c,0,none⟩)] w fun e w'=>e=.returned (.int .i32 (Adz.peek g.L i))∧Cur g w' (i+1)∧ae (·=g.c) w w':=by
 have h2:=h.c2;have f2:=h.f2;have hs:=h.small;have hp:=(h.runes i hl).1;have aJ:(Adz.peek g.L i != -1)=true:=by rw[bne_iff_ne];omega
 go_enter Tryz.func75,Tryz.ntmps75;go_wp2_with fail;refine(ah g w i h).mono ?_;rintro e w' ⟨rfl,n,rfl⟩;go_wp2;go_ret;refine⟨rfl,?_,?_⟩
 ·have:=(h.drewN n).step (i+1) (by omega)
  rw[show ((i+1:Nat):Int)=(i:Int)+1 from by omega] at this;exact this
 ·exact ae.setCell (S:=(·=g.c)) (p:=⟨g.c,2,none⟩) ((ae.refl _ w).drewN n) (fun _=>rfl) _
theorem aC (g:CG) (w:World) (i:Nat) (r:Int) (h:Cur g w i) (hp:Adz.peek g.L i=r) (hr:0≤r):
 Calls Tryz.prog 144 #[.pointer (some ⟨g.c,0,none⟩),.int .i32 r] w fun e w'=>e=.returned (.bool true)∧Cur g w' (i+1)∧ae (·=g.c) w w':=by
 have hl:i<g.L.length:=by
  have:=(i6 h);omega
 subst hp;go_enter Tryz.func144,Tryz.ntmps144;go_wp2_with fail;refine(ah g w i h).mono ?_;rintro e w' ⟨rfl,n,rfl⟩;go_wp2_with fail;refine(ax g _ i (h.drewN n) hl).mono ?_;rintro e w' ⟨rfl,hc,ho⟩;go_wp2;go_ret;exact⟨rfl,hc,((ae.refl _ w).drewN n).trans ho (fun _ e=>e) (fun _ _ e=>e)⟩
theorem aH (g:CG) (w:World) (i:Nat) (r:Int) (h:Cur g w i) (hp:Adz.peek g.L i≠r):
 Calls Tryz.prog 144 #[.pointer (some ⟨g.c,0,none⟩),.int .i32 r] w fun e w'=>e=.returned (.bool false)∧∃n,w'=w.drewN n:=by
 have aJ:(Adz.peek g.L i !=r)=true:=by rw[bne_iff_ne];exact hp
 go_enter Tryz.func144,Tryz.ntmps144;go_wp2_with fail;refine(ah g w i h).mono ?_;rintro e w' ⟨rfl,n,rfl⟩;go_wp2;go_ret;exact⟨rfl,n,rfl⟩
theorem ar (g:CG) (w:World) (i:Nat) (h:Cur g w i):
 Calls Tryz.prog 101 #[.pointer (some ⟨g.c,0,none⟩)] w fun e w'=>e=.returned (.int .i64 (Adz.place g.pl i))∧∃n,w'=w.drewN n:=by
 have h1:=h.c1;have h2:=h.c2;have hp:=h.ps i h.le;have hl:=h.le;have hs:=h.small;clear h;go_enter Tryz.func101,Tryz.ntmps101;go_wp2_with fail
 go_quiet (fail)
 go_wp2;go_ret;exact⟨rfl,_,rfl⟩
theorem bL (r:Int) (w:World):Calls Tryz.prog 74 #[.int .i32 r] w fun e w'=>e=.returned (.bool (Adz.isBlank r))∧w'=w:=by
 by_cases h:r=32
 ·have hb:(r==32)=true:=by simp[h]
  subst h;go_enter Tryz.func74,Tryz.ntmps74;go_wp2;go_ret;exact⟨rfl,rfl⟩
 ·have hb:(r==32)=false:=by simp[h]
  have e:Adz.isBlank r=(r==9):=by simp[Adz.isBlank,hb]
  rw[e];go_enter Tryz.func74,Tryz.ntmps74;go_wp2;go_ret;exact⟨rfl,rfl⟩
theorem aE (r:Int) (w:World):Calls Tryz.prog 168 #[.int .i32 r] w fun e w'=>e=.returned (.bool (Adz.isDigit r))∧w'=w:=by
 by_cases h:48≤r
 ·have hb:decide (48≤r)=true:=by simp[h]
  have e:Adz.isDigit r=decide (r≤57):=by simp[Adz.isDigit,h]
  rw[e];go_enter Tryz.func168,Tryz.ntmps168;go_wp2;go_ret;exact⟨rfl,rfl⟩
 ·have hb:decide (48≤r)=false:=by simp[h]
  have e:Adz.isDigit r=false:=by simp[Adz.isDigit,h]
  rw[e];go_enter Tryz.func168,Tryz.ntmps168;go_wp2;go_ret;exact⟨rfl,rfl⟩
theorem cf (r:Int) (w:World):Calls Tryz.prog 171 #[.int .i32 r] w fun e w'=>e=.returned (.bool (Adz.isLetter r))∧w'=w:=by
 by_cases h:97≤r
 ·have hb:decide (97≤r)=true:=by simp[h]
  have e:Adz.isLetter r=decide (r≤122):=by simp[Adz.isLetter,h]
  rw[e];go_enter Tryz.func171,Tryz.ntmps171;go_wp2;go_ret;exact⟨rfl,rfl⟩
 ·have hb:decide (97≤r)=false:=by simp[h]
  have e:Adz.isLetter r=false:=by simp[Adz.isLetter,h]
  rw[e];go_enter Tryz.func171,Tryz.ntmps171;go_wp2;go_ret;exact⟨rfl,rfl⟩
theorem aV (a b:Int) (w:World):Calls Tryz.prog 48 #[.int .i64 a,.int .i64 b] w fun e w'=>
 e=.returned (.pointer (some ⟨w.heap.size,0,none⟩))∧w'=w.alloc (.cells #[.int .i64 a,.int .i64 b] 73):=by
 go_enter Tryz.func48,Tryz.ntmps48;go_wp2;go_ret;exact⟨rfl,rfl⟩
theorem bO (g:CG) (w:World) (i:Nat) (h:Cur g w i):
 Calls Tryz.prog 145 #[.pointer (some ⟨g.c,0,none⟩)] w fun e w'=>e=.returned (.tuple #[])∧Cur g w' (Adz.blanks g.L i)∧ae (·=g.c) w w':=by
 go_enter Tryz.func145,Tryz.ntmps145;go_wp2_with fail
 go_loopg [] (g.L.length - i) (fun k wr=>∃j,Hid (Cur g wr j)∧j+k=g.L.length∧Hid (Adz.blanks g.L j=Adz.blanks g.L i)∧Hid (ae (·=g.c) w wr))
 case atStart=>exact ⟨i,h,by have:=h.le;omega,rfl,ae.refl _ _⟩
 case round=>
  obtain⟨j,hc,hk,hb,ho⟩:=hrel;have HK:Hid (j+gk=g.L.length):=hk;clear hk;by_cases lC:Adz.isBlank (Adz.peek g.L j)=true
  ·have hl:j<g.L.length:=Adz.lt_of_blank lC
   go_wp2_with fail;refine(ah g wr j hc).mono ?_;rintro e w' ⟨rfl,n,rfl⟩;go_wp2_with fail;refine(bL _ _).mono ?_;rintro e w' ⟨rfl,rfl⟩;go_wp2_with fail;refine(ax g _ j (Cur.drewN hc n) hl).mono ?_;rintro e w' ⟨rfl,aU,UU⟩;go_wp2;go_roundg (gk - 1)
   case measure=>have:=HK.out;omega
   case rel=>exact ⟨j+1,aU,by have:=HK.out;omega,(Adz.blanks_step lC).symm.trans hb,(ae.drewN ho n).trans UU (fun _ e=>e) (fun _ _ e=>e)⟩
  ·have GL:Adz.isBlank (Adz.peek g.L j)=false:=by simpa using lC
   go_wp2_with fail;refine(ah g wr j hc).mono ?_;rintro e w' ⟨rfl,n,rfl⟩;go_wp2_with fail;refine(bL _ _).mono ?_;rintro e w' ⟨rfl,rfl⟩;go_wp2;go_end0;refine⟨rfl,?_,ae.drewN ho n⟩;rw[←Hid.out hb,Adz.blanks_stop GL];exact Cur.drewN hc n
structure Asc (s:ByteArray) (may:List Int):Prop where
 eq:s.data.toList.map (fun b=>(b.toNat:Int))=may
 asc:∀c∈may,0≤c∧c<128
 len:may.length≤1000
theorem gP (g:CG) (w:World) (i:Nat) (s:ByteArray) (may:List Int) (hs:Asc s may) (h:Cur g w i) (r:Int) (i':Nat) (hr:Adz.escaped g.L g.pl may i=.ok (r,i')):
 Calls Tryz.prog 216 #[.pointer (some ⟨g.c,0,none⟩),.string s] w fun e w'=>e=.returned (.tuple #[.int .i32 r,.pointer none])∧Cur g w' i'∧ae (·=g.c) w w':=by
 unfold Adz.escaped at hr;by_cases hn:Adz.peek g.L i=110
 ·simp[hn] at hr
  obtain⟨rfl,rfl⟩:=hr;go_enter Tryz.func216,Tryz.ntmps216;go_wp2_with fail;refine(aC g w i 110 h hn (by omega)).mono ?_;rintro e w' ⟨rfl,hc,ho⟩;go_wp2;go_ret2;exact⟨rfl,hc,ho⟩
 ·have hb:(Adz.peek g.L i==110)=false:=by simp[hn]
  rw[hb] at hr;by_cases hm:may.contains (Adz.peek g.L i)=true
  ·rw[hm] at hr
   simp at hr;obtain⟨rfl,rfl⟩:=hr;have au:Adz.peek g.L i∈may:=by simpa using hm
   have hl:i<g.L.length:=Adz.lt_of_peek (by have:=(hs.asc _ au).1;omega);obtain⟨q0,q1,q3⟩:=h.runes i hl;have HM:Hid (may.contains (Adz.peek g.L i)=true):=hm;have HV:Hid (Lib.validRune (Adz.peek g.L i)=true):=q3;clear hm q3 hb;go_enter Tryz.func216,Tryz.ntmps216;go_wp2_with fail;refine(aH g w i 110 h hn).mono ?_;rintro e w' ⟨rfl,n,rfl⟩;go_wp2_with fail;refine(ah g _ i (h.drewN n)).mono ?_;rintro e w' ⟨rfl,n2,rfl⟩;go_wp2_with fail;refine(cZ s may _ _ hs.eq hs.asc hs.len (Or.inr ⟨q0,q1,HV.out⟩)).mono ?_;rintro e w3 ⟨rfl,o3⟩;rw[HM.out];have h3:=(h.drewN (n+n2)).keeps o3 id (fun _=>id) id;have kM:ae (·=g.c) w w3:=((ae.refl (·=g.c) w).drewN (n+n2)).trans o3 (fun _ e=>e) (fun _ _ e=>e.elim);go_wp2_with fail;refine(ax g _ i h3 hl).mono ?_;rintro e w' ⟨rfl,hc,ho⟩;go_wp2;go_ret2;exact⟨rfl,hc,kM.trans ho (fun _ e=>e) (fun _ _ e=>e)⟩
  ·simp only[Bool.not_eq_true] at hm
   rw[hm] at hr;simp at hr
theorem pM (g:CG) (w:World) (i:Nat) (s:ByteArray) (but:List Int) (hs:Asc s but) (h:Cur g w i) (r:Int) (i':Nat) (hr:Adz.plain g.L g.pl but i=.ok (r,i')):
 Calls Tryz.prog 215 #[.pointer (some ⟨g.c,0,none⟩),.string s] w fun e w'=>e=.returned (.tuple #[.int .i32 r,.pointer none])∧Cur g w' i'∧ae (·=g.c) w w':=by
 unfold Adz.plain at hr
 by_cases cl:(Adz.peek g.L i== -1 || Adz.peek g.L i==10 || but.contains (Adz.peek g.L i))=true
 ·rw[if_pos cl] at hr
  cases hr
 ·rw[if_neg cl] at hr
  simp only[Except.ok.injEq,Prod.mk.injEq] at hr;obtain⟨rfl,rfl⟩:=hr;simp only[Bool.not_eq_true,Bool.or_eq_false_iff] at cl;obtain⟨⟨b1,b2⟩,b3⟩:=cl;have hl:i<g.L.length:=Adz.lt_of_peek (by simpa using b1);obtain⟨q0,q1,q3⟩:=h.runes i hl;have HM:Hid (but.contains (Adz.peek g.L i)=false):=b3;have HV:Hid (Lib.validRune (Adz.peek g.L i)=true):=q3;clear b3 q3;go_enter Tryz.func215,Tryz.ntmps215;go_wp2_with fail;refine(ah g w i h).mono ?_;rintro e w' ⟨rfl,n,rfl⟩;go_wp2_with fail;refine(cZ s but _ _ hs.eq hs.asc hs.len (Or.inr ⟨q0,q1,HV.out⟩)).mono ?_;rintro e w3 ⟨rfl,o3⟩;rw[HM.out];have h3:=(h.drewN n).keeps o3 id (fun _=>id) id;have kM:ae (·=g.c) w w3:=((ae.refl (·=g.c) w).drewN n).trans o3 (fun _ e=>e) (fun _ _ e=>e.elim);go_wp2_with fail;refine(ax g _ i h3 hl).mono ?_;rintro e w' ⟨rfl,hc,ho⟩;go_wp2;go_ret2;exact⟨rfl,hc,kM.trans ho (fun _ e=>e) (fun _ _ e=>e)⟩
end
section
open Go.RowKit
attribute [local go_sem ↓] Go.wp_at_zero Go.wp_at_succ
theorem B5:(Tryz.prog.info? 270).map (fun i=>(i.zero,i.size,i.bytes))=some (some (.agg #[.int .i64 0,.int .i64 0,.slice none 0 0,.int .i64 0]),4,48):=by kernel_rfl
theorem eY:(Tryz.prog.info? 3).map (fun i=>(i.zero,i.size,i.bytes))=some (some (.int .i64 0),1,8):=by kernel_rfl
theorem yI (rd base:Nat) (iv:Value) (n:Nat) (xs:List Value) (k gr t:Int) (sa:Option Addr) (sl sc:Nat) (w:World)
 (h1:w.cell? ⟨rd,1,none⟩=some iv) (f1:w.frozen? ⟨rd,1,none⟩=false) (cz:w.ownsRow base 270 4 iv n xs) (Rl:base≤w.heap.size) (hn:n≤1000) (aJ:iv.ownBlock≠some rd):
 Calls Tryz.prog 210 #[.pointer (some ⟨rd,0,none⟩),.agg #[.int .i64 k,.int .i64 gr,.slice sa sl sc,.int .i64 t]] w fun e w'=>
  e=.returned (.tuple #[])∧∃g cap,w'.cell? ⟨rd,1,none⟩=some (.slice (some ⟨g,0,none⟩) (n+1) cap)∧w'.ownsRow base 270 4 (.slice (some ⟨g,0,none⟩) (n+1) cap) (n+1) (xs++ [.int .i64 k,.int .i64 gr,.slice sa sl sc,.int .i64 t])∧
   ae (fun b=>b=rd∨iv.ownBlock=some b) w w'∧Field rd 1 w w':=by
 obtain⟨i0,dZ,fQ,eJ,eF⟩:=info_parts B5;have lr:=World.block_lt_of_cell? w _ h1;have RI:w.heap.size≠rd:=by simp at lr;omega
 have p7:∀o1 o2:Obj,((w.alloc o1).alloc o2).cell? ⟨rd,1,none⟩=some iv:=fun o1 o2=>by rw[World.cell?_alloc_past _ _ _ (by simp at lr ⊢;omega),World.cell?_alloc_past _ _ _ lr];exact h1
 have TM:∀o:Obj,(w.alloc o).frozen? ⟨rd,1,none⟩=false:=fun o=>by rw[World.frozen?_alloc_past _ _ _ lr];exact f1
 have p6:∀o1 o2:Obj,((w.alloc o1).alloc o2).frozen? ⟨rd,1,none⟩=false:=fun o1 o2=>by rw[World.frozen?_alloc_past _ _ _ (by simp at lr ⊢;omega)];exact TM _
 have ur:∀o1 o2:Obj,((w.alloc o1).alloc o2).heap[w.heap.size+1]? =some o2:=fun o1 o2=>by
  have:=heap_alloc_new (w.alloc o1) o2;simpa using this
 have bW:iv.ownBlock≠some w.heap.size:=fun e=>by have:=(cz.lt _ e).2;omega
 go_enter Tryz.func210,Tryz.ntmps210;go_wp2_with fail
 go_region_law
  ((refine step_append_lies _ (by rfl) _ _ _ (by rfl) base 270 i0 _ 4 48 Tryz.underlying158 dZ fQ eJ eF rfl (by omega) iv n xs (by rfl) (((cz.alloc _).alloc _).drew)
     ⟨w.heap.size+1,0,none⟩ 1 1 [.int .i64 k,.int .i64 gr,.slice sa sl sc,.int .i64 t] (by rfl) (by rfl) (World.news_of_block (cs:= #[.int .i64 k,.int .i64 gr,.slice sa sl sc,.int .i64 t]) (t:=270) (fr:=(0,0)) (ur _ _)) (by simp[Value.oneCell'])
     (by omega) (by unfold maxLen;omega) (by omega) (by simp;omega) (w.heap.size+2) (by simp) ?_;intro g cap w1 br aI bJ aw;have kc:=(aI.cell_far ⟨rd,1,none⟩ (by simp;omega) (Ne.symm aJ)).trans (p7 _ _);have kf:=(aI.frozen_far ⟨rd,1,none⟩ (by simp;omega) (Ne.symm aJ)).trans (p6 _ _)))
 all_goals
  have hv:(Value.slice (some ⟨g,0,none⟩) (n+1) cap).ownBlock≠some rd:=by
   rcases bJ with h | h
   ·intro e
    simp[Value.ownBlock] at e;exact aJ (by rw[h,e])
   ·intro e
    simp[Value.ownBlock] at e;omega
  obtain⟨q1,q2,q3,q4⟩:=bg ((((ae.refl _ w).alloc _).alloc _).drew) aI kc br hv lr aJ;go_wp2;go_end0;exact⟨rfl,g,cap,q1,q2,q3,q4⟩
end
end Go.Proofs.YtbiobhghnldckaaGreatDoor
