/- The library's contract of math/bits.Mul64 (proved once, over any program), told of this program. -/
import Derived.Shelf.Bits.Mul64
import Derived.Test.YtjjeohnejhhacaaProg
namespace Go.Proofs.Ytjjeohnejhhacaa
open Go.Shelf Go.RowKit Go.Lib
def mulRen : Go.Shelf.Ren := ⟨fun | 264 => 29 | n => n, fun | 53 => 55 | 46 => 61 | n => n, fun | n => n⟩
theorem mulLays : Go.Proofs.Lays.n264 Try.prog mulRen := {
  mixed := by kernel_rfl
  f264 := Try.func29.trans (congrArg some (by kernel_rfl))
  t46 := Try.underlying61
  a46 := Try.isAgg61
  z46 := Try.sizeOf61
  v46 := Try.zeroValue61
  t53 := Try.underlying55
  a53 := Try.isAgg55
  z53 := Try.sizeOf55
  v53 := Try.zeroValue55 }
theorem mul64_any (x y : Nat) (hx : x < 18446744073709551616) (hy : y < 18446744073709551616) (w : World) :
    Calls Try.prog 29 #[.int .u64 x, .int .u64 y] w fun e w' => e = .returned (.tuple #[.int .u64 ((x * y / 18446744073709551616 : Nat) : Int), .int .u64 ((x * y % 18446744073709551616 : Nat) : Int)]) ∧ w = w' :=
  (Any.bits_Mul64 mulLays x y hx hy w).mono fun _ _ ⟨he, hw⟩ => ⟨he, hw.symm⟩
end Go.Proofs.Ytjjeohnejhhacaa
