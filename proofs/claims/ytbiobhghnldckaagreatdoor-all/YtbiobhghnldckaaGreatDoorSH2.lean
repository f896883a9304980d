/- Proved: steps on the way to the card. Conditions: as each states. -/
import Derived.Shelf.Strconv.Itoa0
import Derived.Shelf.Strconv.Itoa1
import Derived.Shelf.LaysM
import Derived.Shelf.Strconv.Itoa2
import Derived.Shelf.Strconv.Itoa3
import Derived.Test.YtbiobhghnldckaaGreatDoorProg
namespace Go.Proofs
open Go.Shelf
def Tryz.vS:Go.Shelf.Ren:=⟨fun|171=>126|243=>162|246=>189|283=>202|284=>203|285=>204|286=>205|129=>221|317=>220|318=>222|319=>223|320=>224|337=>229|338=>230|n=>n,fun|3=>3|9=>9|2=>2|4=>4|171=>259|0=>0|53=>154|37=>64|5=>5|173=>262|212=>275|51=>243|20=>20|213=>276|46=>138|232=>288|233=>289|n=>n,fun|17=>3|18=>4|19=>5|n=>n⟩
theorem Tryz.PT:Go.Proofs.Lays.n171 Tryz.prog Tryz.vS:=by constructor <;> intros <;> kernel_rfl
end Go.Proofs
