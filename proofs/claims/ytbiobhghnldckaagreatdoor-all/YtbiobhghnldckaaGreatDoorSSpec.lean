/- Proved: steps on the way to the card. Conditions: as each states. -/
import GoSem.Core.Utf8
namespace Go.Proofs.YtbiobhghnldckaaGreatDoor.A
abbrev iD:=Int×Int
structure gq where
 aF:Int
 bF:Int
 dG:List (Int×Int)
 ck:Int
structure Ta where
 aH:List gq
 af:Int
structure Ad where
 aF:Int
 number:Int
 fk:Ta
structure kj where
 aF:Int
 text:List UInt8
 bF:Int
structure fZ where
 ag:Int:=0
 bN:List Ad:= []
 neg:Bool:=false
 text:List UInt8:= []
 name:List UInt8:= []
 cM:Int:=0
 fk:Ta:=⟨[],0⟩
 cx:List kj:= []
 all:Bool:=false
 ay:Bool:=false
 dc:Int:=0
 iY:List Int:= []
 cG:List Int:= []
def bU(r:Int):Bool:=r==32 || r==9
def br(r:Int):Bool:=decide (48<=r) && decide (r<=57)
def bZ(r:Int):Bool:=decide (97<=r) && decide (r<=122)
def iX(r:Int):List UInt8:=(Go.Utf8.encode r).data.toList
def cg(l:List Int):List UInt8:=l.flatMap iX
section
variable (L:List Int) (pl:List Int)
def aj(i:Nat):Int:=L.getD i (-1)
def aD(i:Nat):Int:=pl.getD i 0
def iS(i:Nat):iD:=(3,aD pl i)
def bB(i:Nat):Nat:=i+((L.drop i).takeWhile bU).length
def bd(i:Nat):List Int:=(L.drop i).takeWhile (fun r=>r !=10)
def cQ(may:List Int)(i:Nat):Except iD (Int×Nat):=
 if aj L i==110 then .ok (10,i+1)
 else if may.contains (aj L i)then .ok (aj L i,i+1)
 else .error (iS pl i)
def plain(but:List Int)(i:Nat):Except iD (Int×Nat):=
 if aj L i== -1 || aj L i==10 || but.contains (aj L i)then .error (iS pl i)
 else .ok (aj L i,i+1)
def kY:List Int:= [92,46,91,93,40,41,42,43,63,94,36,47,45]
def gB:List Int:= [92,46,91,40,41,42,43,63,94,36,47]
def fN:List Int:= [92,93,94,45,91,47]
def cT(but:List Int)(i:Nat):Except iD (Int×Nat):=
 if aj L i==92 then cQ L pl kY (i+1)else plain L pl but i
def ck(i:Nat):Int×Nat:=
 if aj L i==42 then (1,i+1)else if aj L i==43 then (2,i+1)else if aj L i==63 then (3,i+1)else (0,i)
def fG(i:Nat):Except iD ((Int×Int)×Nat):=
 match cT L pl fN i with
 | .error f=>.error f
 | .ok (first,i1)=>
  if aj L i1==45 then
   match cT L pl fN (i1+1)with
   | .error f=>.error f
   | .ok (fE,i2)=>if fE<first then .error (4,aD pl i)else .ok ((first,fE),i2)
  else .ok ((first,first),i1)
def df:Nat->List (Int×Int)->Nat->Except iD (List (Int×Int)×Nat)
 |0,_,_=>.error (0,0)
 |n+1,sp,i=>
  if sp.isEmpty || aj L i !=93 then
   match fG L pl i with
   | .error f=>.error f
   | .ok (m,i1)=>df n (sp++[m]) i1
  else .ok (sp,i+1)
def ux(i:Nat):Except iD (gq×Nat):=
 match df L pl (L.length+1) [] (if aj L i==94 then i+1 else i)with
 | .error f=>.error f
 | .ok (sp,i2)=>.ok (⟨if aj L i==94 then 6 else 5,0,sp,0⟩,i2)
def dv(i:Nat):Except iD (gq×Nat):=
 if aj L i==46 then .ok (⟨4,0,[],0⟩,i+1)
 else if aj L i==91 then ux L pl (i+1)
 else match cT L pl gB i with
  | .error f=>.error f
  | .ok (c,i1)=>.ok (⟨5,0,[(c,c)],0⟩,i1)
structure Rd where
 i:Nat
 aH:List gq
 af:Int
 ai:List Int
def dt(aH:List gq):Bool:=match aH.getLast? with|some a=>a.aF==1|none=>false
def jP(s:Rd):Except iD Rd:=
 if dt s.aH then .error (iS pl s.i)
 else
  let c:=aj L s.i
  if c==94 then
   if s.aH.isEmpty then .ok {s with i:=s.i+1,aH:=s.aH++[⟨0,0,[],0⟩]}else .error (iS pl s.i)
  else if c==36 then .ok {s with i:=s.i+1,aH:=s.aH++[⟨1,0,[],0⟩]}
  else if c==40 then
   if s.af==9 then .error (8,aD pl s.i)
   else .ok {i:=s.i+1,aH:=s.aH++[⟨2,s.af+1,[],0⟩],af:=s.af+1,ai:=s.ai++[s.af+1]}
  else if c==41 then
   match s.ai.getLast? with
   |none=>.error (8,aD pl s.i)
   |some g=>.ok {s with i:=s.i+1,aH:=s.aH++[⟨3,g,[],0⟩],ai:=s.ai.dropLast}
  else
   match dv L pl s.i with
   | .error f=>.error f
   | .ok (x,i1)=>let t:=ck L i1;.ok {s with i:=t.2,aH:=s.aH++[{x with ck:=t.1}]}
def aH:Nat->Rd->Except iD Rd
 |0,_=>.error (0,0)
 |n+1,s=>
  if aj L s.i==47 then .ok s
  else match jP L pl s with
   | .error f=>.error f
   | .ok s1=>aH n s1
def fA(i:Nat):Except iD (Ta×Nat):=
 match aH L pl (L.length+1) ⟨i,[],0,[]⟩with
 | .error f=>.error f
 | .ok s=>
  if s.aH.length>30 then .error (4,aD pl i)
  else if s.ai.length>0 then .error (8,aD pl i)
  else .ok (⟨s.aH,s.af⟩,s.i+1)
def cw(i:Nat):List Int:=(L.drop i).takeWhile br
def number(i:Nat):Except iD (Int×Nat):=
 let ds:=cw L i
 let n:=ds.foldl (fun n d=>min (n*10+(d-48)) 10000) 0
 if n==0 || decide (9999<n)then .error (4,aD pl i)else .ok (n,i+ds.length)
def cH(i:Nat):Bool:=br (aj L i) || aj L i==36 || aj L i==47
def bH(i:Nat):Except iD (Ad×Nat):=
 if !cH L i then .error (iS pl i)
 else if aj L i==36 then .ok (⟨1,0,⟨[],0⟩⟩,bB L (i+1))
 else if aj L i==47 then
  match fA L pl (i+1)with
  | .error f=>.error f
  | .ok (p,i1)=>.ok (⟨2,0,p⟩,bB L i1)
 else match number L pl i with
  | .error f=>.error f
  | .ok (n,i1)=>.ok (⟨0,n,⟨[],0⟩⟩,bB L i1)
def eu(i:Nat):Except iD (List Ad×Nat):=
 match bH L pl i with
 | .error f=>.error f
 | .ok (a,i1)=>
  if aj L i1==44 then
   match bH L pl (bB L (i1+1))with
   | .error f=>.error f
   | .ok (b,i2)=>.ok ([a,b],i2)
  else .ok ([a],i1)
def head(i:Nat):Except iD (fZ×Nat):=
 match (if cH L i then eu L pl i else .ok ([],i))with
 | .error f=>.error f
 | .ok (as,i1)=>
  if aj L i1==33 then .ok ({bN:=as,neg:=true},bB L (i1+1))
  else .ok ({bN:=as},i1)
def dW:List (Int×Int):= [(123,1),(61,0),(100,0),(68,0),(103,0),(71,0),(104,0),(72,0),(110,0),(78,0),(112,0),(80,0),(113,0),(120,0),(97,2),(99,2),(105,2),(58,3),(98,4),(116,4),(115,5),(121,6)]
def aQ(c:Int):Option Int:=(dW.find? (fun p=>c==p.1)).map (·.2)
structure pZ where
 name:List UInt8
 set:Int
 bX:Int
structure Ps where
 i:Nat
 au:List fZ
 ai:List Int
 ak:List pZ
def ag(s:Ps)(c:fZ)(i:Nat):Except iD (fZ×Nat):=
 match aQ (aj L i)with
 |none=>.error (iS pl i)
 |some k=>
  if k==3 && !(c.bN.isEmpty && !c.neg)then .error (iS pl i)
  else if s.au.length==40 then .error (5,aD pl i)
  else if k==1 && s.ai.length==5 then .error (6,aD pl i)
  else .ok ({c with ag:=aj L i},i+1)
def iM(c:fZ)(i:Nat):Except iD (fZ×Nat):=
 let r:=aj L i
 if r==10 || r== -1 then .ok (c,i)
 else if !bU r then .error (iS pl i)
 else let l:=bd L (i+1);.ok ({c with text:=cg l},i+1+l.length)
def aN(i:Nat):List Int:=(L.drop i).takeWhile bZ
def iB(i:Nat):Except iD (List UInt8×Nat):=
 let l:=aN L i
 if l.length>8 then .error (4,aD pl i)else .ok (cg l,i+l.length)
def cF(ak:List pZ)(n:List UInt8):pZ:=match ak.find? (fun a=>a.name==n)with|some a=>a|none=>⟨n, -1, -1⟩
def gi(ak:List pZ)(a:pZ):List pZ:=if ak.any (fun y=>y.name==a.name)then ak.map (fun y=>if y.name==a.name then a else y)else ak++[a]
def fm(s:Ps)(c:fZ)(at_:Int)(i:Nat):Except iD (fZ×List pZ×Nat):=
 if !bZ (aj L i)then .error (iS pl i)
 else match iB L pl i with
  | .error f=>.error f
  | .ok (n,i1)=>
   let u:=cF s.ak n
   if u.set != -1 then .error (7,at_)else .ok ({c with name:=n},gi s.ak {u with set:=s.au.length},i1)
def fh(s:Ps)(c:fZ)(at_:Int)(i:Nat):Except iD (fZ×List pZ×Nat):=
 let i0:=bB L i
 if !bZ (aj L i0)then .ok (c,s.ak,i0)
 else match iB L pl i0 with
  | .error f=>.error f
  | .ok (n,i1)=>
   let u:=cF s.ak n
   .ok ({c with name:=n},gi s.ak (if u.bX== -1 then {u with bX:=at_}else u),i1)
def pj:Except iD (Int×Nat)->Except iD (kj×Nat)
 | .error f=>.error f
 | .ok (r,i)=>.ok (⟨0,iX r,0⟩,i)
def dF:List Int:= [47,92,38]
def part(af:Int)(i:Nat):Except iD (kj×Nat):=
 if aj L i==38 then .ok (⟨1,[],0⟩,i+1)
 else if aj L i !=92 then pj (plain L pl dF i)
 else
  let r:=aj L (i+1)
  if r==48 || !br r then pj (cQ L pl dF (i+1))
  else if r-48>af then .error (8,aD pl i)
  else .ok (⟨2,[],r-48⟩,i+2)
def bO(af:Int):Nat->List kj->Nat->Except iD (List kj×Nat)
 |0,_,_=>.error (0,0)
 |n+1,ps,i=>
  if aj L i==47 then .ok (ps,i+1)
  else match part L pl af i with
   | .error f=>.error f
   | .ok (p,i1)=>bO af n (ps++[p]) i1
def ee:Nat->fZ->Nat->Except iD (fZ×Nat)
 |0,_,_=>.error (0,0)
 |n+1,c,i=>
  let r:=aj L i
  if r==103 && !c.all then ee n {c with all:=true} (i+1)
  else if r==112 && !c.ay then ee n {c with ay:=true} (i+1)
  else if br r && c.dc==0 then
   match number L pl i with
   | .error f=>.error f
   | .ok (k,i1)=>ee n {c with dc:=k} i1
  else .ok (c,i)
def cI(c:fZ)(i:Nat):Except iD (fZ×Nat):=
 if aj L i !=47 then .error (iS pl i)
 else match fA L pl (i+1)with
  | .error f=>.error f
  | .ok (p,i1)=>
   match bO L pl p.af (L.length+1) [] i1 with
   | .error f=>.error f
   | .ok (r,i2)=>ee L pl (L.length+1) {c with fk:=p,cx:=r} i2
def fW:List Int:= [47,92]
def fP(i:Nat):Except iD (Int×Nat):=
 if aj L i==92 then cQ L pl fW (i+1)else plain L pl fW i
def mN:Nat->List Int->Nat->Except iD (List Int×Nat)
 |0,_,_=>.error (0,0)
 |n+1,rs,i=>
  if aj L i==47 then .ok (rs,i+1)
  else match fP L pl i with
   | .error f=>.error f
   | .ok (r,i1)=>mN n (rs++[r]) i1
def dC:List Int->Bool
 |[]=>false
 |r::l=>l.contains r || dC l
def eQ(c:fZ)(at_:Int)(i:Nat):Except iD (fZ×Nat):=
 if aj L i !=47 then .error (iS pl i)
 else match mN L pl (L.length+1) [] (i+1)with
  | .error f=>.error f
  | .ok (a,i1)=>
   match mN L pl (L.length+1) [] i1 with
   | .error f=>.error f
   | .ok (b,i2)=>if a.length !=b.length || dC a then .error (4,at_)else .ok ({c with iY:=a,cG:=b},i2)
def bR(s:Ps)(c:fZ)(at_:Int)(i:Nat):Except iD (fZ×List Int×List pZ×Nat):=
 match aQ c.ag with
 |some 1=>.ok (c,s.ai++[(s.au.length:Int)],s.ak,i)
 |some 2=>match iM L pl c i with | .error f=>.error f | .ok (c,i)=>.ok (c,s.ai,s.ak,i)
 |some 3=>match fm L pl s c at_ i with | .error f=>.error f | .ok (c,l,i)=>.ok (c,s.ai,l,i)
 |some 4=>match fh L pl s c at_ i with | .error f=>.error f | .ok (c,l,i)=>.ok (c,s.ai,l,i)
 |some 5=>match cI L pl c i with | .error f=>.error f | .ok (c,i)=>.ok (c,s.ai,s.ak,i)
 |some 6=>match eQ L pl c at_ i with | .error f=>.error f | .ok (c,i)=>.ok (c,s.ai,s.ak,i)
 |_=>.ok (c,s.ai,s.ak,i)
def tail(i:Nat):Except iD Nat:=
 let i1:=bB L i
 let r:=aj L i1
 if r==59 || r==10 || r==125 || r== -1 then .ok i1 else .error (iS pl i1)
def kq(s:Ps):Except iD Ps:=
 match head L pl s.i with
 | .error f=>.error f
 | .ok (c,i1)=>
  match ag L pl s c i1 with
  | .error f=>.error f
  | .ok (c,i2)=>
   match bR L pl s c (aD pl i1) i2 with
   | .error f=>.error f
   | .ok (c,os,ls,i3)=>
    let s1:Ps:={i:=i3,au:=s.au++[c],ai:=os,ak:=ls}
    if c.ag==123 then .ok s1
    else match tail L pl i3 with
     | .error f=>.error f
     | .ok i4=>.ok {s1 with i:=i4}
def fS(cs:List fZ)(k:Nat)(g:Int):List fZ:=cs.modify k (fun c=>{c with cM:=g})
def cB(s:Ps):Except iD Ps:=
 let r:=aj L s.i
 if bU r || r==10 || r==59 then .ok {s with i:=s.i+1}
 else if r==125 then
  match s.ai.getLast? with
  |none=>.error (iS pl s.i)
  |some k=>.ok {s with i:=s.i+1,au:=fS s.au k.toNat s.au.length,ai:=s.ai.dropLast}
 else kq L pl s
def iE:Nat->Ps->Except iD Ps
 |0,_=>.error (0,0)
 |n+1,s=>
  if aj L s.i== -1 then .ok s
  else match cB L pl s with
   | .error f=>.error f
   | .ok s1=>iE n s1
def gG(ak:List pZ):Int:=
 ak.foldl (fun first u=>if u.set== -1 && (first== -1 || decide (u.bX<first))then u.bX else first) (-1)
def kG(ak:List pZ)(cs:List fZ):List fZ:=
 cs.map fun c=>
  if aQ c.ag==some 4 then
   {c with cM:=if c.name.isEmpty then cs.length else (cF ak c.name).set}
  else c
def finish(s:Ps):Except iD (List fZ):=
 if s.ai.length>0 then .error (iS pl s.i)
 else
  let m:=gG s.ak
  if m != -1 then .error (7,m)else .ok (kG s.ak s.au)
def cX:Except iD (List fZ):=
 match iE L pl (L.length+1) ⟨0,[],[],[]⟩with
 | .error f=>.error f
 | .ok s=>finish pl s
end
end Go.Proofs.YtbiobhghnldckaaGreatDoor.A
namespace Go.Proofs.YtbiobhghnldckaaGreatDoor.A
theorem I0{L:List Int}{i:Nat}(h:i<L.length):aj L i=L[i]:=by simp[aj,h]
theorem pC{L:List Int}{i:Nat}(h:L.length<=i):aj L i= -1:=by simp[aj,List.getElem?_eq_none h]
theorem gA{L:List Int}{i:Nat}(h:i<L.length):L.drop i=aj L i::L.drop (i+1):=by rw[I0 h];exact List.drop_eq_getElem_cons h
theorem cJ{L:List Int}{i:Nat}(h:aj L i≠ -1):i<L.length:=by by_cases a:i<L.length;{exact a};{exact absurd (pC (by omega)) h}
theorem qF{L:List Int}{i:Nat}(h:bU (aj L i)=true):i<L.length:=
 cJ (fun e=>by rw[e]at h;simp[bU]at h)
theorem nh{L:List Int}{i:Nat}(h:br (aj L i)=true):i<L.length:=
 cJ (fun e=>by rw[e]at h;simp[br]at h)
theorem ma{L:List Int}{i:Nat}(h:bZ (aj L i)=true):i<L.length:=
 cJ (fun e=>by rw[e]at h;simp[bZ]at h)
theorem vC{L:List Int}{j:Nat}(h:bU (aj L j)=true):bB L j=bB L (j+1):=by unfold bB;rw[gA (qF h),List.takeWhile_cons_of_pos h];simp;omega
theorem ie{L:List Int}{j:Nat}{p:Int->Bool}(h:p (aj L j)=false):(L.drop j).takeWhile p= []:=by by_cases a:j<L.length;{rw[gA a,List.takeWhile_cons_of_neg (by simp[h])]};{simp[List.drop_eq_nil_of_le (show L.length<=j by omega)]}
theorem jg{L:List Int}{j:Nat}(h:bU (aj L j)=false):bB L j=j:=by unfold bB;rw[ie h];simp
end Go.Proofs.YtbiobhghnldckaaGreatDoor.A
namespace Go.Proofs.YtbiobhghnldckaaGreatDoor.A
theorem ym{L pl may:List Int}{i a:Nat}{r:Int}(h:cQ L pl may i=.ok (r,a)):a=i+1:=by unfold cQ at h;split at h;{simp at h;omega};{grind}
theorem Et{L pl may:List Int}{i a:Nat}{r:Int}(h:plain L pl may i=.ok (r,a)):a=i+1:=by unfold plain at h;split at h;{cases h};{simp at h;omega}
theorem oH{L pl may:List Int}{i a:Nat}{r:Int}(h:cT L pl may i=.ok (r,a)):i<a:=by unfold cT at h;split at h;{have:=ym h;omega};{have:=Et h;omega}
theorem AM{L pl:List Int}{i a:Nat}{m:Int×Int}(h:fG L pl i=.ok (m,a)):i<a:=by unfold fG at h;split at h;{cases h};{rename_i b;have d:=oH b;split at h;{split at h;{cases h};{rename_i c;have f:=oH c;split at h;{cases h};{simp at h;omega}}};{simp at h;omega}}
theorem za{L pl:List Int}:∀ {n:Nat} {sp EU:List (Int×Int)} {i a:Nat},df L pl n sp i=.ok (EU,a)->i<a
 |0,_,_,_,_,h=>by cases h
 |n+1,sp,EU,i,a,h=>by
  unfold df at h;split at h
  ·split at h
   ·cases h
   ·rename_i b
    have c:=AM b;have d:=za h;omega
  ·simp at h;omega
theorem OF{L pl:List Int}{i a:Nat}{d:gq}(h:ux L pl i=.ok (d,a)):i<a:=by unfold ux at h;split at h;{cases h};{rename_i c;have b:=za c;simp at h;split at b <;> omega}
theorem A5{L pl:List Int}{i a:Nat}{c:gq}(h:dv L pl i=.ok (c,a)):i<a:=by unfold dv at h;split at h;{simp at h;omega};{split at h;{have:=OF h;omega};{split at h;{cases h};{rename_i b;simp at h;have:=oH b;omega}}}
theorem E4(L:List Int)(i:Nat):i<=(ck L i).2:=by unfold ck;split;{simp};{grind}
theorem Iv{L pl:List Int}{s s':Rd}(h:jP L pl s=.ok s'):s.i<s'.i:=by unfold jP at h;split at h;{cases h};{simp only at h;split at h;{grind};{split at h;{simp at h;subst h;simp};{split at h;{grind};{split at h;{grind};{split at h;{cases h};{rename_i b;simp at h;subst h;have a:=A5 b;exact Nat.lt_of_lt_of_le a (E4 L _)}}}}}}
end Go.Proofs.YtbiobhghnldckaaGreatDoor.A
namespace Go.Proofs.YtbiobhghnldckaaGreatDoor.A
def xN(m:Int)(a:List Int):Int:=a.foldl (fun n d=>min (n*10+(d-48)) 10000) m
theorem pB{L pl:List Int}{i b:Nat}{n:Int}(h:number L pl i=.ok (n,b)):xN 0 (cw L i)=n/\n≠0/\n<=9999/\b=i+(cw L i).length:=by unfold number at h;simp only at h;split at h;{cases h};{rename_i a;simp only[Except.ok.injEq,Prod.mk.injEq]at h;obtain⟨rfl,rfl⟩:=h;simp only[Bool.or_eq_true,beq_iff_eq,decide_eq_true_eq,not_or]at a;exact⟨rfl,a.1,by omega,rfl⟩}
theorem mW{L:List Int}{j:Nat}(h:br (aj L j)=true):cw L j=aj L j::cw L (j+1):=by unfold cw;rw[gA (nh h),List.takeWhile_cons_of_pos h]
theorem vK{L:List Int}{j:Nat}(h:br (aj L j)=false):cw L j= []:=ie h
theorem fT{r:Int}(h:br r=true):48<=r/\r<=57:=by simpa[br]using h
theorem yP{a:Except iD (Int×Nat)}{p:kj}{i:Nat}(h:pj a=.ok (p,i)):∃r,a=.ok (r,i):=by cases a with|error b=>cases h|ok q=>obtain⟨r,j⟩:=q;simp[pj]at h;exact⟨r,by rw[h.2]⟩
theorem IX{L pl:List Int}{c:Int}{i b:Nat}{p:kj}(h:part L pl c i=.ok (p,b)):i<b:=by unfold part at h;split at h;{simp at h;omega};{split at h;{obtain⟨r,a⟩:=yP h;have:=Et a;omega};{simp only at h;split at h;{obtain⟨r,a⟩:=yP h;have:=ym a;omega};{grind}}}
theorem rB{L pl:List Int}{i a:Nat}{n:Int}(h:number L pl i=.ok (n,a))(hd:br (aj L i)=true):i<a:=by obtain⟨_,_,_,rfl⟩:=pB h;rw[mW hd];simp
theorem kZ{L pl:List Int}:∀ {n:Nat} {c c':fZ} {i a:Nat},ee L pl n c i=.ok (c',a)->c'={c with all:=c'.all,ay:=c'.ay,dc:=c'.dc}
 |0,c,c',i,a,h=>by cases h
 |n+1,c,c',i,a,h=>by
  unfold ee at h;simp only at h;split at h
  ·have:=kZ h
   simpa using this
  ·split at h
   ·have:=kZ h
    simpa using this
   ·split at h
    ·split at h
     ·cases h
     ·have:=kZ h
      simpa using this
    ·simp at h
     rw[h.1]
end Go.Proofs.YtbiobhghnldckaaGreatDoor.A
namespace Go.Proofs.YtbiobhghnldckaaGreatDoor.A
theorem DY{L pl:List Int}:∀ {n:Nat} {s s':Rd},aH L pl n s=.ok s'->s.i<=s'.i
 |0,s,s',h=>by cases h
 |n+1,s,s',h=>by
  unfold aH at h;split at h
  ·simp_all
  ·split at h
   ·cases h
   ·rename_i a
    have b:=Iv a;have c:=DY h;omega
theorem zh{L pl:List Int}{i a:Nat}{p:Ta}(h:fA L pl i=.ok (p,a)):i<a:=by unfold fA at h;split at h;{cases h};{rename_i b;have c:=DY b;split at h;{cases h};{grind}}
theorem qP{L pl:List Int}{c:Int}:∀ {n:Nat} {ps b:List kj} {i a:Nat},bO L pl c n ps i=.ok (b,a)->i<a
 |0,ps,b,i,a,h=>by cases h
 |n+1,ps,b,i,a,h=>by
  unfold bO at h;split at h
  ·simp at h;omega
  ·split at h
   ·cases h
   ·rename_i d
    have f:=IX d;have g:=qP h;omega
theorem tL{L pl:List Int}:∀ {n:Nat} {c c':fZ} {i a:Nat},ee L pl n c i=.ok (c',a)->i<=a
 |0,c,c',i,a,h=>by cases h
 |n+1,c,c',i,a,h=>by
  unfold ee at h;simp only at h;split at h
  ·have:=tL h;omega
  ·split at h
   ·have:=tL h;omega
   ·split at h
    ·split at h
     ·cases h
     ·rename_i b
      have d:=tL h;obtain⟨_,_,_,e⟩:=pB b;omega
    ·simp at h;omega
theorem xv{L pl:List Int}{c c':fZ}{i a:Nat}(h:cI L pl c i=.ok (c',a)):i<a:=by unfold cI at h;split at h;{cases h};{split at h;{cases h};{rename_i b;split at h;{cases h};{rename_i d;have f:=zh b;have g:=qP d;have j:=tL h;omega}}}
theorem eU(L:List Int)(i:Nat):i<=bB L i:=by unfold bB;omega
theorem Je{L pl:List Int}{i a:Nat}(h:tail L pl i=.ok a):i<=a:=by unfold tail at h;simp only at h;split at h;{simp at h;rw[<-h];exact eU L i};{cases h}
end Go.Proofs.YtbiobhghnldckaaGreatDoor.A
