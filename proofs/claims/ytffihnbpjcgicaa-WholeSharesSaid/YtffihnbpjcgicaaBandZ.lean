/- What band.Check answers, by the name that tables use. -/
import Derived.Test.YtffihnbpjcgicaaRateM
import Derived.Test.YtffihnbpjcgicaaBandA
namespace Go.Proofs.Ytffihnbpjcgicaa
open Go.RowKit
theorem bandcheck_any (A : Option Addr) (n c : Nat) (w : World) (F R E : Nat → Int) (h : Bds w A n F R E) (hn : n ≤ 9223372036854775807) :
    Calls Try.prog 34 #[.slice A n c] w fun e w' => e = .returned (.int .i64 (chk F R E n)) ∧ Below w.heap.size w w' := check_any A n c w F R E h hn
end Go.Proofs.Ytffihnbpjcgicaa
