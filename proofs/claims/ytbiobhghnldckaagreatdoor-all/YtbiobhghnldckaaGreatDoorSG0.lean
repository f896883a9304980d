/- Proved: steps on the way to the card. Conditions: as each states. -/
import Derived.WalkKit
import Derived.Deep.Draws
import Derived.KernelRfl
import Derived.Test.YtbiobhghnldckaaGreatDoorProg
namespace Go.Proofs.YtbiobhghnldckaaGreatDoor
set_option linter.unusedVariables false
theorem E{P:Prop}(h:P:=by omega):P:=h
theorem ae{P:Prop}(h:P:=by decide):P:=h
theorem bK{P:Prop}(h:P:=by kernel_rfl):P:=h
theorem aV{P:Prop}(h:P:=by rfl):P:=h
theorem aK{P:Prop}(h:P:=by simp):P:=h
theorem bQ{P:Prop}(h:P:=by simp;omega):P:=h
theorem rK{P:Prop}(h:P:=by unfold maxLen;omega):P:=h
theorem Y{p:Prop}(h:p):Go.RowKit.Hid p:=h
theorem bP{α:Type _} [BEq α] [LawfulBEq α] {a b:α} (h:¬a=b):(a==b)=false:=by simpa using h
theorem jD{α:Type _} [BEq α] [LawfulBEq α] {a b:α} (h:a=b):(a==b)=true:=by simpa using h
theorem iN{α:Type _} [BEq α] {a b:α} (h:(a==b)=false):(a !=b)=true:=by unfold bne;rw[h];rfl
theorem mK{α:Type _} [BEq α] [LawfulBEq α] {a b:α} (h:¬a=b):(a !=b)=true:=by simpa using h
theorem b8{α:Sort _}(a:α):∃b,a=b:=⟨_,rfl⟩
theorem gz{α:Sort _}(a:α):∃b,b=a:=⟨_,rfl⟩
theorem bV{Q P:Prop}(q:Q)(h:Q->P:=by intro;omega):P:=h q
theorem bS{Q P:Prop}(q:Q)(h:Q->P:=by intro q;simpa using q):P:=h q
abbrev aM:Value:=.slice none 0 0
abbrev aB:Value:=.int .i64 0
abbrev Z(n:Int):Value:=.int .i64 n
abbrev az(b:Nat):Value:=.pointer (some ⟨b,0,none⟩)
abbrev bJ(b n c:Nat):Value:=.slice (some ⟨b,0,none⟩) n c
abbrev aO:=Calls Tryz.prog
abbrev Fi:Array Value:=#[.int .i32 0,.slice none 0 0,.bool false,.string ⟨#[]⟩,.string ⟨#[]⟩,.int .i64 0,.slice none 0 0,.int .i64 0,.slice none 0 0,.bool false,.bool false,.int .i64 0,.slice none 0 0,.slice none 0 0]
abbrev lU:Obj:=.cells Fi 167
end Go.Proofs.YtbiobhghnldckaaGreatDoor
namespace Go.RowKit
theorem Hid.o{p:Prop}(h:Hid p):p:=h
end Go.RowKit
namespace Go
theorem Calls.k{P:Program}{d:FuncId}{a:Array Value}{w:World}{v:Value}{c:World->Prop}{Q:Ending->World->Prop}(h:Calls P d a w fun e b=>e=.returned v/\c b)(k:∀b,c b->Q (.returned v) b):Calls P d a w Q:=h.mono fun _ b f=>f.1▸k b f.2
theorem Calls.kk{P:Program}{b:FuncId}{a:Array Value}{w u:World}{v:Value}{Q:Ending->World->Prop}(h:Calls P b a w fun e d=>e=.returned v/\d=u)(k:Q (.returned v) u):Calls P b a w Q:=h.mono fun _ _ c=>c.1▸c.2▸k
theorem Calls.kd{P:Program}{b:FuncId}{a:Array Value}{w u:World}{v:Value}{Q:Ending->World->Prop}(h:Calls P b a w fun e c=>e=.returned v/\∃n,c=u.drewN n)(k:∀n,Q (.returned v) (u.drewN n)):Calls P b a w Q:=h.mono fun _ _ ⟨d,n,y⟩=>d▸y▸k n
abbrev World.c(w:World)(b k:Nat):Option Value:=w.cell? ⟨b,k,none⟩
abbrev World.s(w:World)(b k:Nat)(v:Value):World:=w.setCell ⟨b,k,none⟩ v
end Go
