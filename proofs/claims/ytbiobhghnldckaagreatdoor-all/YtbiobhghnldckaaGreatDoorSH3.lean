/- Proved: steps on the way to the card. Conditions: as each states. -/
import Derived.Test.YtbiobhghnldckaaGreatDoorSH2
namespace Go.Proofs
open Go.Shelf
theorem Tryz.L3:Go.Proofs.LaysM.n171 Tryz.prog Tryz.vS:={Tryz.PT with
 i0:=by kernel_rfl
 i2:=by kernel_rfl
 i3:=by kernel_rfl
 i4:=by kernel_rfl
 i5:=by kernel_rfl
 i9:=by kernel_rfl
 i20:=by kernel_rfl
 i37:=by kernel_rfl
 i46:=by kernel_rfl
 i51:=by kernel_rfl
 i53:=by kernel_rfl
 i171:=by kernel_rfl
 i173:=by kernel_rfl
 i212:=by kernel_rfl
 i232:=by kernel_rfl
 i233:=by kernel_rfl
 m17:=by kernel_rfl
 m18:=by kernel_rfl
 m19:=by kernel_rfl}
open Go.RowKit Go.Sort Go.Lib in
theorem Tryz.strconv_Itoa(n:Int)(a: -9223372036854775808<=n)(b:n<=9223372036854775807)(w:World)(c:Lib.TabIs Tryz.prog w "internal/strconv.uint64pow10" .u64 Lib.pow10Tab):
 Calls Tryz.prog 126 #[.int .i64 n] w fun e d=>e=.returned (.string ⟨(Lib.itoa n).toArray⟩)/\∃k os,d=grow (w.drewN k) os:=Any.strconv_Itoa Tryz.L3 n a b w c
end Go.Proofs
