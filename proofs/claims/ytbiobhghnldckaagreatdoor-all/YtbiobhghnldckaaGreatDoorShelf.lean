/- Proved: contracts of Go's library at this program: the kit's library proves them, its tool lays them. Conditions: as told in each. -/
import Derived.Shelf.Strings.Builder1
import Derived.Shelf.Small.Utf8
import Derived.Shelf.Small.Strs
import Derived.Shelf.Strings.BuilderF
import Derived.Shelf.Strings.BuilderK
import Derived.Shelf.Strings.Search1
import Derived.Shelf.Strings.Search2
import Derived.Shelf.Strings.Search3
import Derived.Shelf.Strings.Count
import Derived.Shelf.Strings.Prefix
import Derived.Shelf.Strings.Split
import Derived.Shelf.LaysM
import Derived.Shelf.Strings.SplitShaped
import Derived.Shelf.Strings.Runes
import Derived.Test.YtbiobhghnldckaaGreatDoorProg
namespace Go.Proofs.Tryz
open Go.Shelf Go.RowKit Go.Lib
def r119:Ren:=⟨fun | 119=>238 | n=>n,fun | 21=>21 | 4=>4 | n=>n,id⟩
theorem L119:Lays.n119 prog r119:=by constructor<;>intros<;>kernel_rfl
theorem utf8_ValidRune (r:Int) (w:World):Calls prog 238 #[.int .i32 r] w fun e w'=>e = .returned (.bool (Lib.validRune r))∧w' = w:=Any.utf8_ValidRune L119 r w
def r137:Ren:=⟨fun | 137=>237 | 217=>183 | 266=>199 | n=>n,fun | 9=>9 | 5=>5 | 3=>3 | n=>n,id⟩
theorem L137:Lays.n137 prog r137:=by constructor<;>intros<;>kernel_rfl
theorem strings_IndexByte (s:ByteArray) (c:Int) (w:World):Calls prog 237 #[.string s,.int .u8 c] w fun e w'=>e = .returned (.int .i64 (Lib.indexByte s.data.toList c.toNat.toUInt8))∧w' = w:=Any.strings_IndexByte L137 s c w
def r102:Ren:=⟨fun | 102=>69 | 209=>92 | 207=>122 | n=>n,fun | 9=>9 | 4=>4 | 3=>3 | n=>n,id⟩
theorem L102:Lays.n102 prog r102:=by constructor<;>intros<;>kernel_rfl
theorem strings_TrimSuffix (s p:ByteArray) (w:World) (hs:s.size≤9223372036854775807):Calls prog 69 #[.string s,.string p] w fun e w'=>e = .returned (.string ⟨(Lib.trimSuffix s.data.toList p.data.toList).toArray⟩)∧w' = w:=Any.strings_TrimSuffix L102 s p w hs
def r146:Ren:=⟨fun | 146=>68 | 221=>91 | 268=>119 | 138=>120 | 143=>121 | 195=>157 | 197=>158 | 218=>159 | 219=>160 | 260=>182 | 217=>183 | 225=>184 | 224=>185 | 267=>186 | 266=>199 | 314=>200 | n=>n,fun | 9=>9 | 31=>37 | 3=>3 | 4=>4 | 0=>0 | 105=>208 | 21=>21 | 5=>5 | 46=>138 | 119=>134 | 139=>137 | 138=>136 | 146=>255 | 51=>243 | n=>n,fun | 1=>2 | 3=>0 | 4=>1 | n=>n⟩
theorem L146:Lays.n146 prog r146:=by constructor<;>intros<;>kernel_rfl
theorem strings_Split (s sep:ByteArray) (m:Int) (w:World) (hs:s.size < 4294967281) (hm:w.cell? ⟨2,0,none⟩ = some (.int .i64 m)) (h1:1≤sep.size):Calls prog 68 #[.string s,.string sep] w fun e w'=>e = .returned (.slice (some ⟨w.heap.size,0,none⟩) (Lib.countB s sep + 1) (Lib.countB s sep + 1))∧w' = w.alloc (.cells ((Lib.splitB sep 0 (Lib.countB s sep) s).map Value.string).toArray 9):=Any.strings_Split L146 (by kernel_rfl) s sep m w hs hm h1
def r151:Ren:=⟨fun | 151=>227 | 152=>233 | 137=>237 | 119=>238 | 224=>185 | 225=>184 | 217=>183 | 266=>199 | n=>n,fun | 9=>9 | 21=>21 | 4=>4 | 3=>3 | 5=>5 | 0=>0 | 46=>138 | n=>n,id⟩
theorem L151:Lays.n151 prog r151:=by constructor<;>intros<;>kernel_rfl
theorem strings_ContainsRune_ascii (s:ByteArray) (r:Int) (w:World) (h0:0≤r) (h1:r < 128):Calls prog 227 #[.string s,.int .i32 r] w fun e w'=>e = .returned (.bool (decide (0≤Lib.indexByte s.data.toList r.toNat.toUInt8)))∧w' = w:=Any.strings_ContainsRune_ascii L151 s r w h0 h1
end Go.Proofs.Tryz
