/- Proved: nothing; plain Lean functions: what each function of the program that reads scripts computes, on lists of numbers. No condition. -/
import GoSem.Core.Utf8
namespace Go.Proofs.YtbiobhghnldckaaGreatDoor.Adz
abbrev Flt:=Int×Int
structure Item where
 kind:Int
 group:Int
 spans:List (Int×Int)
 times:Int
structure Pat where
 items:List Item
 groups:Int
structure Ad where
 kind:Int
 number:Int
 pat:Pat
structure Part where
 kind:Int
 text:List UInt8
 group:Int
structure Cmd where
 what:Int:=0
 addrs:List Ad:= []
 neg:Bool:=false
 text:List UInt8:= []
 name:List UInt8:= []
 goal:Int:=0
 pat:Pat:=⟨[],0⟩
 repl:List Part:= []
 all:Bool:=false
 print:Bool:=false
 nth:Int:=0
 old:List Int:= []
 new:List Int:= []
def isBlank (r:Int):Bool:=r==32 || r==9
def isDigit (r:Int):Bool:=decide (48≤r) && decide (r≤57)
def isLetter (r:Int):Bool:=decide (97≤r) && decide (r≤122)
def utf8 (r:Int):List UInt8:=(Go.Utf8.encode r).data.toList
def enc (l:List Int):List UInt8:=l.flatMap utf8
section
variable (L:List Int) (pl:List Int)
def peek (i:Nat):Int:=L.getD i (-1)
def place (i:Nat):Int:=pl.getD i 0
def wrong (i:Nat):Flt:=(3,place pl i)
def blanks (i:Nat):Nat:=i+((L.drop i).takeWhile isBlank).length
def lineOf (i:Nat):List Int:=(L.drop i).takeWhile (fun r=>r !=10)
def escaped (may:List Int) (i:Nat):Except Flt (Int×Nat):=
 if peek L i==110 then .ok (10,i+1)
 else if may.contains (peek L i) then .ok (peek L i,i+1)
 else .error (wrong pl i)
def plain (but:List Int) (i:Nat):Except Flt (Int×Nat):=
 if peek L i== -1 || peek L i==10 || but.contains (peek L i) then .error (wrong pl i)
 else .ok (peek L i,i+1)
def escapable:List Int:= [92,46,91,93,40,41,42,43,63,94,36,47,45]
def notAPiece:List Int:= [92,46,91,40,41,42,43,63,94,36,47]
def notAMember:List Int:= [92,93,94,45,91,47]
def character (but:List Int) (i:Nat):Except Flt (Int×Nat):=
 if peek L i==92 then escaped L pl escapable (i+1) else plain L pl but i
def times (i:Nat):Int×Nat:=
 if peek L i==42 then (1,i+1) else if peek L i==43 then (2,i+1) else if peek L i==63 then (3,i+1) else (0,i)
def member (i:Nat):Except Flt ((Int×Int)×Nat):=
 match character L pl notAMember i with
 | .error f=> .error f
 | .ok (first,i1)=>
  if peek L i1==45 then
   match character L pl notAMember (i1+1) with
   | .error f=> .error f
   | .ok (last,i2)=>if last<first then .error (4,place pl i) else .ok ((first,last),i2)
  else .ok ((first,first),i1)
def members:Nat→List (Int×Int)→Nat→Except Flt (List (Int×Int)×Nat)
 | 0,_,_=> .error (0,0)
 | n+1,sp,i=>
  if sp.isEmpty || peek L i !=93 then
   match member L pl i with
   | .error f=> .error f
   | .ok (m,i1)=>members n (sp++ [m]) i1
  else .ok (sp,i+1)
def setOf (i:Nat):Except Flt (Item×Nat):=
 match members L pl (L.length+1) [] (if peek L i==94 then i+1 else i) with
 | .error f=> .error f
 | .ok (sp,i2)=> .ok (⟨if peek L i==94 then 6 else 5,0,sp,0⟩,i2)
def single (i:Nat):Except Flt (Item×Nat):=
 if peek L i==46 then .ok (⟨4,0,[],0⟩,i+1)
 else if peek L i==91 then setOf L pl (i+1)
 else match character L pl notAPiece i with
  | .error f=> .error f
  | .ok (c,i1)=> .ok (⟨5,0,[(c,c)],0⟩,i1)
structure Rd where
 i:Nat
 items:List Item
 groups:Int
 opens:List Int
def ended (items:List Item):Bool:=match items.getLast? with | some x=>x.kind==1 | none=>false
def item (s:Rd):Except Flt Rd:=
 if ended s.items then .error (wrong pl s.i)
 else
  let c:=peek L s.i
  if c==94 then
   if s.items.isEmpty then .ok {s with i:=s.i+1,items:=s.items++ [⟨0,0,[],0⟩]} else .error (wrong pl s.i)
  else if c==36 then .ok {s with i:=s.i+1,items:=s.items++ [⟨1,0,[],0⟩]}
  else if c==40 then
   if s.groups==9 then .error (8,place pl s.i)
   else .ok {i:=s.i+1,items:=s.items++ [⟨2,s.groups+1,[],0⟩],groups:=s.groups+1,opens:=s.opens++ [s.groups+1]}
  else if c==41 then
   match s.opens.getLast? with
   | none=> .error (8,place pl s.i)
   | some g=> .ok {s with i:=s.i+1,items:=s.items++ [⟨3,g,[],0⟩],opens:=s.opens.dropLast}
  else
   match single L pl s.i with
   | .error f=> .error f
   | .ok (x,i1)=>let t:=times L i1;.ok {s with i:=t.2,items:=s.items++ [{x with times:=t.1}]}
def items:Nat→Rd→Except Flt Rd
 | 0,_=> .error (0,0)
 | n+1,s=>
  if peek L s.i==47 then .ok s
  else match item L pl s with
   | .error f=> .error f
   | .ok s1=>items n s1
def patRead (i:Nat):Except Flt (Pat×Nat):=
 match items L pl (L.length+1) ⟨i,[],0,[]⟩ with
 | .error f=> .error f
 | .ok s=>
  if s.items.length>30 then .error (4,place pl i)
  else if s.opens.length>0 then .error (8,place pl i)
  else .ok (⟨s.items,s.groups⟩,s.i+1)
def digitsOf (i:Nat):List Int:=(L.drop i).takeWhile isDigit
def number (i:Nat):Except Flt (Int×Nat):=
 let ds:=digitsOf L i
 let n:=ds.foldl (fun n d=>min (n*10+(d - 48)) 10000) 0
 if n==0 || decide (9999<n) then .error (4,place pl i) else .ok (n,i+ds.length)
def atAddress (i:Nat):Bool:=isDigit (peek L i) || peek L i==36 || peek L i==47
def address (i:Nat):Except Flt (Ad×Nat):=
 if !atAddress L i then .error (wrong pl i)
 else if peek L i==36 then .ok (⟨1,0,⟨[],0⟩⟩,blanks L (i+1))
 else if peek L i==47 then
  match patRead L pl (i+1) with
  | .error f=> .error f
  | .ok (p,i1)=> .ok (⟨2,0,p⟩,blanks L i1)
 else match number L pl i with
  | .error f=> .error f
  | .ok (n,i1)=> .ok (⟨0,n,⟨[],0⟩⟩,blanks L i1)
def addresses (i:Nat):Except Flt (List Ad×Nat):=
 match address L pl i with
 | .error f=> .error f
 | .ok (a,i1)=>
  if peek L i1==44 then
   match address L pl (blanks L (i1+1)) with
   | .error f=> .error f
   | .ok (b,i2)=> .ok ([a,b],i2)
  else .ok ([a],i1)
def head (i:Nat):Except Flt (Cmd×Nat):=
 match (if atAddress L i then addresses L pl i else .ok ([],i)) with
 | .error f=> .error f
 | .ok (as,i1)=>
  if peek L i1==33 then .ok ({addrs:=as,neg:=true},blanks L (i1+1))
  else .ok ({addrs:=as},i1)
def behTable:List (Int×Int):= [(123,1),(61,0),(100,0),(68,0),(103,0),(71,0),(104,0),(72,0),(110,0),(78,0),(112,0),(80,0),(113,0),(120,0),(97,2),(99,2),(105,2),(58,3),(98,4),(116,4),(115,5),(121,6)]
def behindKind (c:Int):Option Int:=(behTable.find? (fun p=>c==p.1)).map (·.2)
structure Lab where
 name:List UInt8
 set:Int
 asked:Int
structure Ps where
 i:Nat
 cmds:List Cmd
 opens:List Int
 labs:List Lab
def what (s:Ps) (c:Cmd) (i:Nat):Except Flt (Cmd×Nat):=
 match behindKind (peek L i) with
 | none=> .error (wrong pl i)
 | some k=>
  if k==3 && !(c.addrs.isEmpty && !c.neg) then .error (wrong pl i)
  else if s.cmds.length==40 then .error (5,place pl i)
  else if k==1 && s.opens.length==5 then .error (6,place pl i)
  else .ok ({c with what:=peek L i},i+1)
def textOf (c:Cmd) (i:Nat):Except Flt (Cmd×Nat):=
 let r:=peek L i
 if r==10 || r== -1 then .ok (c,i)
 else if !isBlank r then .error (wrong pl i)
 else let l:=lineOf L (i+1);.ok ({c with text:=enc l},i+1+l.length)
def lettersOf (i:Nat):List Int:=(L.drop i).takeWhile isLetter
def nameOf (i:Nat):Except Flt (List UInt8×Nat):=
 let l:=lettersOf L i
 if l.length>8 then .error (4,place pl i) else .ok (enc l,i+l.length)
def useOf (labs:List Lab) (n:List UInt8):Lab:=match labs.find? (fun x=>x.name==n) with | some x=>x | none=>⟨n, -1, -1⟩
def putLab (labs:List Lab) (x:Lab):List Lab:=if labs.any (fun y=>y.name==x.name) then labs.map (fun y=>if y.name==x.name then x else y) else labs++ [x]
def setLabel (s:Ps) (c:Cmd) (at_:Int) (i:Nat):Except Flt (Cmd×List Lab×Nat):=
 if !isLetter (peek L i) then .error (wrong pl i)
 else match nameOf L pl i with
  | .error f=> .error f
  | .ok (n,i1)=>
   let u:=useOf s.labs n
   if u.set != -1 then .error (7,at_) else .ok ({c with name:=n},putLab s.labs {u with set:=s.cmds.length},i1)
def askLabel (s:Ps) (c:Cmd) (at_:Int) (i:Nat):Except Flt (Cmd×List Lab×Nat):=
 let i0:=blanks L i
 if !isLetter (peek L i0) then .ok (c,s.labs,i0)
 else match nameOf L pl i0 with
  | .error f=> .error f
  | .ok (n,i1)=>
   let u:=useOf s.labs n
   .ok ({c with name:=n},putLab s.labs (if u.asked== -1 then {u with asked:=at_} else u),i1)
def literal:Except Flt (Int×Nat)→Except Flt (Part×Nat)
 | .error f=> .error f
 | .ok (r,i)=> .ok (⟨0,utf8 r,0⟩,i)
def replSpecial:List Int:= [47,92,38]
def part (groups:Int) (i:Nat):Except Flt (Part×Nat):=
 if peek L i==38 then .ok (⟨1,[],0⟩,i+1)
 else if peek L i !=92 then literal (plain L pl replSpecial i)
 else
  let r:=peek L (i+1)
  if r==48 || !isDigit r then literal (escaped L pl replSpecial (i+1))
  else if r - 48>groups then .error (8,place pl i)
  else .ok (⟨2,[],r - 48⟩,i+2)
def replacement (groups:Int):Nat→List Part→Nat→Except Flt (List Part×Nat)
 | 0,_,_=> .error (0,0)
 | n+1,ps,i=>
  if peek L i==47 then .ok (ps,i+1)
  else match part L pl groups i with
   | .error f=> .error f
   | .ok (p,i1)=>replacement groups n (ps++ [p]) i1
def flags:Nat→Cmd→Nat→Except Flt (Cmd×Nat)
 | 0,_,_=> .error (0,0)
 | n+1,c,i=>
  let r:=peek L i
  if r==103 && !c.all then flags n {c with all:=true} (i+1)
  else if r==112 && !c.print then flags n {c with print:=true} (i+1)
  else if isDigit r && c.nth==0 then
   match number L pl i with
   | .error f=> .error f
   | .ok (k,i1)=>flags n {c with nth:=k} i1
  else .ok (c,i)
def substitution (c:Cmd) (i:Nat):Except Flt (Cmd×Nat):=
 if peek L i !=47 then .error (wrong pl i)
 else match patRead L pl (i+1) with
  | .error f=> .error f
  | .ok (p,i1)=>
   match replacement L pl p.groups (L.length+1) [] i1 with
   | .error f=> .error f
   | .ok (r,i2)=>flags L pl (L.length+1) {c with pat:=p,repl:=r} i2
def sideSpecial:List Int:= [47,92]
def sideRune (i:Nat):Except Flt (Int×Nat):=
 if peek L i==92 then escaped L pl sideSpecial (i+1) else plain L pl sideSpecial i
def side:Nat→List Int→Nat→Except Flt (List Int×Nat)
 | 0,_,_=> .error (0,0)
 | n+1,rs,i=>
  if peek L i==47 then .ok (rs,i+1)
  else match sideRune L pl i with
   | .error f=> .error f
   | .ok (r,i1)=>side n (rs++ [r]) i1
def hasTwice:List Int→Bool
 | []=>false
 | r::l=>l.contains r || hasTwice l
def exchange (c:Cmd) (at_:Int) (i:Nat):Except Flt (Cmd×Nat):=
 if peek L i !=47 then .error (wrong pl i)
 else match side L pl (L.length+1) [] (i+1) with
  | .error f=> .error f
  | .ok (a,i1)=>
   match side L pl (L.length+1) [] i1 with
   | .error f=> .error f
   | .ok (b,i2)=>if a.length !=b.length || hasTwice a then .error (4,at_) else .ok ({c with old:=a,new:=b},i2)
def behind (s:Ps) (c:Cmd) (at_:Int) (i:Nat):Except Flt (Cmd×List Int×List Lab×Nat):=
 match behindKind c.what with
 | some 1=> .ok (c,s.opens++ [(s.cmds.length:Int)],s.labs,i)
 | some 2=>match textOf L pl c i with | .error f=> .error f | .ok (c,i)=> .ok (c,s.opens,s.labs,i)
 | some 3=>match setLabel L pl s c at_ i with | .error f=> .error f | .ok (c,l,i)=> .ok (c,s.opens,l,i)
 | some 4=>match askLabel L pl s c at_ i with | .error f=> .error f | .ok (c,l,i)=> .ok (c,s.opens,l,i)
 | some 5=>match substitution L pl c i with | .error f=> .error f | .ok (c,i)=> .ok (c,s.opens,s.labs,i)
 | some 6=>match exchange L pl c at_ i with | .error f=> .error f | .ok (c,i)=> .ok (c,s.opens,s.labs,i)
 | _=> .ok (c,s.opens,s.labs,i)
def tail (i:Nat):Except Flt Nat:=
 let i1:=blanks L i
 let r:=peek L i1
 if r==59 || r==10 || r==125 || r== -1 then .ok i1 else .error (wrong pl i1)
def command (s:Ps):Except Flt Ps:=
 match head L pl s.i with
 | .error f=> .error f
 | .ok (c,i1)=>
  match what L pl s c i1 with
  | .error f=> .error f
  | .ok (c,i2)=>
   match behind L pl s c (place pl i1) i2 with
   | .error f=> .error f
   | .ok (c,os,ls,i3)=>
    let s1:Ps:= {i:=i3,cmds:=s.cmds++ [c],opens:=os,labs:=ls}
    if c.what==123 then .ok s1
    else match tail L pl i3 with
     | .error f=> .error f
     | .ok i4=> .ok {s1 with i:=i4}
def setGoal (cs:List Cmd) (k:Nat) (g:Int):List Cmd:=cs.modify k (fun c=> {c with goal:=g})
def gapOrCommand (s:Ps):Except Flt Ps:=
 let r:=peek L s.i
 if isBlank r || r==10 || r==59 then .ok {s with i:=s.i+1}
 else if r==125 then
  match s.opens.getLast? with
  | none=> .error (wrong pl s.i)
  | some k=> .ok {s with i:=s.i+1,cmds:=setGoal s.cmds k.toNat s.cmds.length,opens:=s.opens.dropLast}
 else command L pl s
def gaps:Nat→Ps→Except Flt Ps
 | 0,_=> .error (0,0)
 | n+1,s=>
  if peek L s.i== -1 then .ok s
  else match gapOrCommand L pl s with
   | .error f=> .error f
   | .ok s1=>gaps n s1
def missing (labs:List Lab):Int:=
 labs.foldl (fun first u=>if u.set== -1 && (first== -1 || decide (u.asked<first)) then u.asked else first) (-1)
def setGoals (labs:List Lab) (cs:List Cmd):List Cmd:=
 cs.map fun c=>
  if behindKind c.what==some 4 then
   {c with goal:=if c.name.isEmpty then cs.length else (useOf labs c.name).set}
  else c
def finish (s:Ps):Except Flt (List Cmd):=
 if s.opens.length>0 then .error (wrong pl s.i)
 else
  let m:=missing s.labs
  if m != -1 then .error (7,m) else .ok (setGoals s.labs s.cmds)
def readAll:Except Flt (List Cmd):=
 match gaps L pl (L.length+1) ⟨0,[],[],[]⟩ with
 | .error f=> .error f
 | .ok s=>finish pl s
end
end Go.Proofs.YtbiobhghnldckaaGreatDoor.Adz
namespace Go.Proofs.YtbiobhghnldckaaGreatDoor.Adz
theorem peek_lt {L:List Int}{i:Nat} (h:i<L.length):peek L i=L[i]:=by simp[peek,h]
theorem peek_ge {L:List Int}{i:Nat} (h:L.length≤i):peek L i= -1:=by simp[peek,List.getElem?_eq_none h]
theorem drop_peek {L:List Int}{i:Nat} (h:i<L.length):L.drop i=peek L i::L.drop (i+1):=by
 rw[peek_lt h];exact List.drop_eq_getElem_cons h
theorem lt_of_peek {L:List Int}{i:Nat} (h:peek L i≠ -1):i<L.length:=by
 by_cases hl:i<L.length
 ·exact hl
 ·exact absurd (peek_ge (by omega)) h
theorem lt_of_blank {L:List Int}{i:Nat} (h:isBlank (peek L i)=true):i<L.length:=
 lt_of_peek (fun e=>by rw[e] at h;simp[isBlank] at h)
theorem lt_of_digit {L:List Int}{i:Nat} (h:isDigit (peek L i)=true):i<L.length:=
 lt_of_peek (fun e=>by rw[e] at h;simp[isDigit] at h)
theorem lt_of_letter {L:List Int}{i:Nat} (h:isLetter (peek L i)=true):i<L.length:=
 lt_of_peek (fun e=>by rw[e] at h;simp[isLetter] at h)
theorem blanks_step {L:List Int}{j:Nat} (h:isBlank (peek L j)=true):blanks L j=blanks L (j+1):=by
 unfold blanks;rw[drop_peek (lt_of_blank h),List.takeWhile_cons_of_pos h];simp;omega
theorem takeWhile_stop {L:List Int}{j:Nat}{p:Int→Bool} (h:p (peek L j)=false):(L.drop j).takeWhile p= []:=by
 by_cases hl:j<L.length
 ·rw[drop_peek hl,List.takeWhile_cons_of_neg (by simp[h])]
 ·simp[List.drop_eq_nil_of_le (show L.length≤j by omega)]
theorem blanks_stop {L:List Int}{j:Nat} (h:isBlank (peek L j)=false):blanks L j=j:=by
 unfold blanks;rw[takeWhile_stop h];simp
end Go.Proofs.YtbiobhghnldckaaGreatDoor.Adz
namespace Go.Proofs.YtbiobhghnldckaaGreatDoor.Adz
theorem oM {L pl may:List Int}{i i':Nat}{r:Int} (h:escaped L pl may i=.ok (r,i')):i'=i+1:=by
 unfold escaped at h;split at h
 ·simp at h;omega
 ·split at h
  ·simp at h;omega
  ·cases h
theorem vf {L pl may:List Int}{i i':Nat}{r:Int} (h:plain L pl may i=.ok (r,i')):i'=i+1:=by
 unfold plain at h;split at h
 ·cases h
 ·simp at h;omega
theorem gM {L pl may:List Int}{i i':Nat}{r:Int} (h:character L pl may i=.ok (r,i')):i<i':=by
 unfold character at h;split at h
 ·have:=oM h;omega
 ·have:=vf h;omega
theorem member_lt {L pl:List Int}{i i':Nat}{m:Int×Int} (h:member L pl i=.ok (m,i')):i<i':=by
 unfold member at h;split at h
 ·cases h
 ·rename_i hc
  have h1:=gM hc;split at h
  ·split at h
   ·cases h
   ·rename_i aL
    have h2:=gM aL;split at h
    ·cases h
    ·simp at h;omega
  ·simp at h;omega
theorem pF {L pl:List Int}:∀ {n:Nat}{sp F7:List (Int×Int)}{i i':Nat},members L pl n sp i=.ok (F7,i')→i<i'
 | 0,_,_,_,_,h=>by cases h
 | n+1,sp,F7,i,i',h=>by
  unfold members at h;split at h
  ·split at h
   ·cases h
   ·rename_i hm
    have h1:=member_lt hm;have h2:=pF h;omega
  ·simp at h;omega
theorem Cu {L pl:List Int}{i i':Nat}{x:Item} (h:setOf L pl i=.ok (x,i')):i<i':=by
 unfold setOf at h;split at h
 ·cases h
 ·rename_i hm
  have h1:=pF hm;simp at h;split at h1 <;> omega
theorem single_lt {L pl:List Int}{i i':Nat}{x:Item} (h:single L pl i=.ok (x,i')):i<i':=by
 unfold single at h;split at h
 ·simp at h;omega
 ·split at h
  ·have:=Cu h;omega
  ·split at h
   ·cases h
   ·rename_i hc
    simp at h;have:=gM hc;omega
theorem times_le (L:List Int) (i:Nat):i≤(times L i).2:=by
 unfold times;split
 ·simp
 ·split
  ·simp
  ·split <;> simp
theorem item_lt {L pl:List Int}{s s':Rd} (h:item L pl s=.ok s'):s.i<s'.i:=by
 unfold item at h;split at h
 ·cases h
 ·simp only at h
  split at h
  ·split at h
   ·simp at h;subst h;simp
   ·cases h
  ·split at h
   ·simp at h;subst h;simp
   ·split at h
    ·split at h
     ·cases h
     ·simp at h;subst h;simp
    ·split at h
     ·split at h
      ·cases h
      ·simp at h;subst h;simp
     ·split at h
      ·cases h
      ·rename_i hs
       simp at h;subst h;have h1:=single_lt hs;exact Nat.lt_of_lt_of_le h1 (times_le L _)
end Go.Proofs.YtbiobhghnldckaaGreatDoor.Adz
namespace Go.Proofs.YtbiobhghnldckaaGreatDoor.Adz
def numFrom (m:Int) (ds:List Int):Int:=ds.foldl (fun n d=>min (n*10+(d - 48)) 10000) m
theorem number_parts {L pl:List Int}{i i':Nat}{n:Int} (h:number L pl i=.ok (n,i')):numFrom 0 (digitsOf L i)=n∧n≠0∧n≤9999∧i'=i+(digitsOf L i).length:=by
 unfold number at h;simp only at h;split at h
 ·cases h
 ·rename_i hb
  simp only[Except.ok.injEq,Prod.mk.injEq] at h;obtain⟨rfl,rfl⟩:=h;simp only[Bool.or_eq_true,beq_iff_eq,decide_eq_true_eq,not_or] at hb;exact⟨rfl,hb.1,by omega,rfl⟩
theorem digits_step {L:List Int}{j:Nat} (h:isDigit (peek L j)=true):digitsOf L j=peek L j::digitsOf L (j+1):=by
 unfold digitsOf;rw[drop_peek (lt_of_digit h),List.takeWhile_cons_of_pos h]
theorem digits_stop {L:List Int}{j:Nat} (h:isDigit (peek L j)=false):digitsOf L j= []:=takeWhile_stop h
theorem digit_range {r:Int} (h:isDigit r=true):48≤r∧r≤57:=by simpa[isDigit] using h
theorem pE {x:Except Flt (Int×Nat)}{p:Part}{i:Nat} (h:literal x=.ok (p,i)):∃r,x=.ok (r,i):=by
 cases x with
 | error f=>cases h
 | ok q=>
  obtain⟨r,j⟩:=q;simp[literal] at h;exact⟨r,by rw[h.2]⟩
theorem part_lt {L pl:List Int}{gr:Int}{i i':Nat}{p:Part} (h:part L pl gr i=.ok (p,i')):i<i':=by
 unfold part at h;split at h
 ·simp at h;omega
 ·split at h
  ·obtain⟨r,hr⟩:=pE h
   have:=vf hr;omega
  ·simp only at h
   split at h
   ·obtain⟨r,hr⟩:=pE h
    have:=oM hr;omega
   ·split at h
    ·cases h
    ·simp at h;omega
theorem number_lt {L pl:List Int}{i i':Nat}{n:Int} (h:number L pl i=.ok (n,i')) (hd:isDigit (peek L i)=true):i<i':=by
 obtain⟨_,_,_,rfl⟩:=number_parts h;rw[digits_step hd];simp
theorem flags_same {L pl:List Int}:∀ {n:Nat}{c c':Cmd}{i i':Nat},flags L pl n c i=.ok (c',i')→c'= {c with all:=c'.all,print:=c'.print,nth:=c'.nth}
 | 0,c,c',i,i',h=>by cases h
 | n+1,c,c',i,i',h=>by
  unfold flags at h;simp only at h;split at h
  ·have:=flags_same h
   simpa using this
  ·split at h
   ·have:=flags_same h
    simpa using this
   ·split at h
    ·split at h
     ·cases h
     ·have:=flags_same h
      simpa using this
    ·simp at h
     rw[h.1]
end Go.Proofs.YtbiobhghnldckaaGreatDoor.Adz
namespace Go.Proofs.YtbiobhghnldckaaGreatDoor.Adz
theorem uQ {L pl:List Int}:∀ {n:Nat}{s s':Rd},items L pl n s=.ok s'→s.i≤s'.i
 | 0,s,s',h=>by cases h
 | n+1,s,s',h=>by
  unfold items at h;split at h
  ·simp at h;rw[h];exact Nat.le_refl _
  ·split at h
   ·cases h
   ·rename_i hi
    have h1:=item_lt hi;have h2:=uQ h;omega
theorem patRead_lt {L pl:List Int}{i i':Nat}{p:Pat} (h:patRead L pl i=.ok (p,i')):i<i':=by
 unfold patRead at h;split at h
 ·cases h
 ·rename_i hi
  have h1:=uQ hi;split at h
  ·cases h
  ·split at h
   ·cases h
   ·simp at h1 h
    omega
theorem jd {L pl:List Int}{gr:Int}:∀ {n:Nat}{ps dP:List Part}{i i':Nat},replacement L pl gr n ps i=.ok (dP,i')→i<i'
 | 0,ps,dP,i,i',h=>by cases h
 | n+1,ps,dP,i,i',h=>by
  unfold replacement at h;split at h
  ·simp at h;omega
  ·split at h
   ·cases h
   ·rename_i hp
    have h1:=part_lt hp;have h2:=jd h;omega
theorem kx {L pl:List Int}:∀ {n:Nat}{c c':Cmd}{i i':Nat},flags L pl n c i=.ok (c',i')→i≤i'
 | 0,c,c',i,i',h=>by cases h
 | n+1,c,c',i,i',h=>by
  unfold flags at h;simp only at h;split at h
  ·have:=kx h;omega
  ·split at h
   ·have:=kx h;omega
   ·split at h
    ·split at h
     ·cases h
     ·rename_i hn
      have h1:=kx h;obtain⟨_,_,_,e⟩:=number_parts hn;omega
    ·simp at h;omega
theorem substitution_lt {L pl:List Int}{c c':Cmd}{i i':Nat} (h:substitution L pl c i=.ok (c',i')):i<i':=by
 unfold substitution at h;split at h
 ·cases h
 ·split at h
  ·cases h
  ·rename_i hp
   split at h
   ·cases h
   ·rename_i hr
    have h1:=patRead_lt hp;have h2:=jd hr;have h3:=kx h;omega
theorem blanks_le (L:List Int) (i:Nat):i≤blanks L i:=by unfold blanks;omega
theorem tail_le {L pl:List Int}{i i':Nat} (h:tail L pl i=.ok i'):i≤i':=by
 unfold tail at h;simp only at h;split at h
 ·simp at h;rw[←h];exact blanks_le L i
 ·cases h
end Go.Proofs.YtbiobhghnldckaaGreatDoor.Adz
