/- Proved: steps on the way to the card. Conditions: as each states. -/
import Derived.Shelf.Unicode.ValidAny
import Derived.Test.YtbiobhghnldckaaGreatDoorS1
namespace Go.Proofs
open Go.Shelf
def Tryz.D3:Go.Shelf.Ren:=⟨fun|196=>42|259=>67|n=>n,fun|0=>0|3=>3|4=>4|5=>5|9=>9|12=>12|46=>138|53=>154|119=>134|138=>136|139=>137|n=>n,fun|3=>0|4=>1|n=>n⟩
theorem Tryz.Iy:Go.Proofs.Lays.n196 Tryz.prog Tryz.D3:=by constructor <;> intros <;> kernel_rfl
end Go.Proofs
namespace Go.Proofs.YtbiobhghnldckaaGreatDoor
open Go.RowKit
theorem xx(s)(b:s.size<=9223372036854775807)(w)(a:Lib.Utf8Tabs 0 1 w):
 Calls Tryz.prog 42 #[.string s] w fun e c=>e=.returned (.bool (Lib.validD s.data.toList))/\R (fun _=>False) w c:=
 (Any.utf8_ValidString Tryz.Iy s w b a).mono fun _ _ h=>⟨h.1,R.Oa h.2 _⟩
end Go.Proofs.YtbiobhghnldckaaGreatDoor
