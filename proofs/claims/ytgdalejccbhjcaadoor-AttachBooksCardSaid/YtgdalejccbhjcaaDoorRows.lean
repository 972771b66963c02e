/-
  NARROWER THAN 'FOR EVERY INPUT', by the rows' own cells (each row's printed sentence says how): AttachServes: laid · AttachProtects: laid · AttachShort: laid · AttachBooks: laid · AttachRight: laid · ShareLines: laid.
  DERIVED. THE GIVEN ROWS OF THIS SEAT. 6 by the template 'for every input the law returns true; each argument reads behind the call as it read before'; 0 by the template 'total and deterministic' (their statements: YtgdalejccbhjcaaDoorTotals.lean).
  GIVEN WITH THE SEED: the statements are not yours to turn. If you find one false, say at which input.
  Laid BY PROGRAM, IN A SANDBOX (cutbox-rows.mjs): the forced cells as the released guide's own fill.sh prints them over the translation 97cec28cf161c3f4… (all of the seat's roots in one cut). By AI agents, Wed Nov 11 2026. No macro, syntax, notation, axiom, sorry.
-/
import Derived.Test.YtgdalejccbhjcaaDoorChecked
import GoSem.Claim
import GoSem.ClaimJoined
import GoSem.ClaimMapViews
import Derived.JoinedTies
import Derived.KernelRfl
namespace Go.Proofs.YtgdalejccbhjcaaDoor
/- THE CELL 'sum', in the pinned program and in every row, IS THE sha256 OF THE DUMP (.gsa) THAT YtgdalejccbhjcaaDoorProg.lean LOADS. Nothing in Lean hashes anything: it is a label: what it is worth is what the hold of that sum in a sandbox is worth. -/
noncomputable def Tryd.pinned : Pinned := { name := "ytgdalejccbhjcaadoor", sum := "97cec28cf161c3f444b9ac27bf37200c730745ea6cff0b613477ce8d92a6e15c", checked := Tryd.checked }
namespace Rows
def none {H : Type} : Left H := { results := [], args := [] }

/- WHAT THE LISTED PACKAGE-LEVEL VARIABLES READ AS WHEN THE CALL BEGINS. Each datum BY PROGRAM (the guide's laid-datum.mjs) off the statement by which the dump's own 'gosem.cut.vars' lays the variable. In a bare row this is a premise. The card (YtgdalejccbhjcaaDoorCards.lean) ties it to the program's text. -/
def laid_math_bits_deBruijn32tab {H : Type} : DataW H := .agg [.lit (.int .u8 0), .lit (.int .u8 1), .lit (.int .u8 28), .lit (.int .u8 2), .lit (.int .u8 29), .lit (.int .u8 14), .lit (.int .u8 24), .lit (.int .u8 3), .lit (.int .u8 30), .lit (.int .u8 22), .lit (.int .u8 20), .lit (.int .u8 15), .lit (.int .u8 25), .lit (.int .u8 17), .lit (.int .u8 4), .lit (.int .u8 8), .lit (.int .u8 31), .lit (.int .u8 27), .lit (.int .u8 13), .lit (.int .u8 23), .lit (.int .u8 21), .lit (.int .u8 19), .lit (.int .u8 16), .lit (.int .u8 7), .lit (.int .u8 26), .lit (.int .u8 12), .lit (.int .u8 18), .lit (.int .u8 6), .lit (.int .u8 11), .lit (.int .u8 5), .lit (.int .u8 10), .lit (.int .u8 9)]
def laid_math_bits_deBruijn64tab {H : Type} : DataW H := .agg [.lit (.int .u8 0), .lit (.int .u8 1), .lit (.int .u8 56), .lit (.int .u8 2), .lit (.int .u8 57), .lit (.int .u8 49), .lit (.int .u8 28), .lit (.int .u8 3), .lit (.int .u8 61), .lit (.int .u8 58), .lit (.int .u8 42), .lit (.int .u8 50), .lit (.int .u8 38), .lit (.int .u8 29), .lit (.int .u8 17), .lit (.int .u8 4), .lit (.int .u8 62), .lit (.int .u8 47), .lit (.int .u8 59), .lit (.int .u8 36), .lit (.int .u8 45), .lit (.int .u8 43), .lit (.int .u8 51), .lit (.int .u8 22), .lit (.int .u8 53), .lit (.int .u8 39), .lit (.int .u8 33), .lit (.int .u8 30), .lit (.int .u8 24), .lit (.int .u8 18), .lit (.int .u8 12), .lit (.int .u8 5), .lit (.int .u8 63), .lit (.int .u8 55), .lit (.int .u8 48), .lit (.int .u8 27), .lit (.int .u8 60), .lit (.int .u8 41), .lit (.int .u8 37), .lit (.int .u8 16), .lit (.int .u8 46), .lit (.int .u8 35), .lit (.int .u8 44), .lit (.int .u8 21), .lit (.int .u8 52), .lit (.int .u8 32), .lit (.int .u8 23), .lit (.int .u8 11), .lit (.int .u8 54), .lit (.int .u8 26), .lit (.int .u8 40), .lit (.int .u8 15), .lit (.int .u8 34), .lit (.int .u8 20), .lit (.int .u8 31), .lit (.int .u8 10), .lit (.int .u8 25), .lit (.int .u8 14), .lit (.int .u8 19), .lit (.int .u8 9), .lit (.int .u8 13), .lit (.int .u8 8), .lit (.int .u8 7), .lit (.int .u8 6)]
def laid_internal_strconv_uint64pow10 {H : Type} : DataW H := .agg [.lit (.int .u64 1), .lit (.int .u64 10), .lit (.int .u64 100), .lit (.int .u64 1000), .lit (.int .u64 10000), .lit (.int .u64 100000), .lit (.int .u64 1000000), .lit (.int .u64 10000000), .lit (.int .u64 100000000), .lit (.int .u64 1000000000), .lit (.int .u64 10000000000), .lit (.int .u64 100000000000), .lit (.int .u64 1000000000000), .lit (.int .u64 10000000000000), .lit (.int .u64 100000000000000), .lit (.int .u64 1000000000000000), .lit (.int .u64 10000000000000000), .lit (.int .u64 100000000000000000), .lit (.int .u64 1000000000000000000), .lit (.int .u64 10000000000000000000)]

/-- 'stipendlaw18.AttachServes': WHATEVER THE INPUT: true; the input reads as it did. -/
def attachServesSpec : ChangeSpec := { name := "attachServes", fn := fun _ => fun
  | [d1, d2, d3] => { results := [.lit (.bool true)], args := [d1, d2, d3] }
  | _ => none }
def attachServesRow : OpenClaim := { program := "ytgdalejccbhjcaadoor", sum := "97cec28cf161c3f444b9ac27bf37200c730745ea6cff0b613477ce8d92a6e15c", func := "stipend/stipendlaw18.AttachServes", spec := "attachServes", named := ["internal/strconv.uint64pow10", "math/bits.deBruijn32tab", "math/bits.deBruijn64tab"], apart := false, laid := [("math/bits.deBruijn32tab", laid_math_bits_deBruijn32tab), ("math/bits.deBruijn64tab", laid_math_bits_deBruijn64tab), ("internal/strconv.uint64pow10", laid_internal_strconv_uint64pow10)] }
def AttachServesSaid : Prop := attachServesRow.holds Tryd.pinned (OpenSpec.ofChange attachServesSpec)

/-- ITS FALSE NEIGHBOUR: 'it returns false'. Refute it at one input. -/
def attachServesWrong : ChangeSpec := { name := "attachServes", fn := fun _ => fun
  | [d1, d2, d3] => { results := [.lit (.bool false)], args := [d1, d2, d3] }
  | _ => none }
def AttachServesWrongFalsely : Prop := attachServesRow.holds Tryd.pinned (OpenSpec.ofChange attachServesWrong)

/-- 'stipendlaw18.AttachProtects': WHATEVER THE INPUT: true; the input reads as it did. -/
def attachProtectsSpec : ChangeSpec := { name := "attachProtects", fn := fun _ => fun
  | [d1, d2, d3] => { results := [.lit (.bool true)], args := [d1, d2, d3] }
  | _ => none }
def attachProtectsRow : OpenClaim := { program := "ytgdalejccbhjcaadoor", sum := "97cec28cf161c3f444b9ac27bf37200c730745ea6cff0b613477ce8d92a6e15c", func := "stipend/stipendlaw18.AttachProtects", spec := "attachProtects", named := ["internal/strconv.uint64pow10", "math/bits.deBruijn32tab", "math/bits.deBruijn64tab"], apart := false, laid := [("math/bits.deBruijn32tab", laid_math_bits_deBruijn32tab), ("math/bits.deBruijn64tab", laid_math_bits_deBruijn64tab), ("internal/strconv.uint64pow10", laid_internal_strconv_uint64pow10)] }
def AttachProtectsSaid : Prop := attachProtectsRow.holds Tryd.pinned (OpenSpec.ofChange attachProtectsSpec)

/-- ITS FALSE NEIGHBOUR: 'it returns false'. Refute it at one input. -/
def attachProtectsWrong : ChangeSpec := { name := "attachProtects", fn := fun _ => fun
  | [d1, d2, d3] => { results := [.lit (.bool false)], args := [d1, d2, d3] }
  | _ => none }
def AttachProtectsWrongFalsely : Prop := attachProtectsRow.holds Tryd.pinned (OpenSpec.ofChange attachProtectsWrong)

/-- 'stipendlaw18.AttachShort': WHATEVER THE INPUT: true; the input reads as it did. -/
def attachShortSpec : ChangeSpec := { name := "attachShort", fn := fun _ => fun
  | [d1, d2, d3] => { results := [.lit (.bool true)], args := [d1, d2, d3] }
  | _ => none }
def attachShortRow : OpenClaim := { program := "ytgdalejccbhjcaadoor", sum := "97cec28cf161c3f444b9ac27bf37200c730745ea6cff0b613477ce8d92a6e15c", func := "stipend/stipendlaw18.AttachShort", spec := "attachShort", named := ["internal/strconv.uint64pow10", "math/bits.deBruijn32tab", "math/bits.deBruijn64tab"], apart := false, laid := [("math/bits.deBruijn32tab", laid_math_bits_deBruijn32tab), ("math/bits.deBruijn64tab", laid_math_bits_deBruijn64tab), ("internal/strconv.uint64pow10", laid_internal_strconv_uint64pow10)] }
def AttachShortSaid : Prop := attachShortRow.holds Tryd.pinned (OpenSpec.ofChange attachShortSpec)

/-- ITS FALSE NEIGHBOUR: 'it returns false'. Refute it at one input. -/
def attachShortWrong : ChangeSpec := { name := "attachShort", fn := fun _ => fun
  | [d1, d2, d3] => { results := [.lit (.bool false)], args := [d1, d2, d3] }
  | _ => none }
def AttachShortWrongFalsely : Prop := attachShortRow.holds Tryd.pinned (OpenSpec.ofChange attachShortWrong)

/-- 'stipendlaw18.AttachBooks': WHATEVER THE INPUT: true; the input reads as it did. -/
def attachBooksSpec : ChangeSpec := { name := "attachBooks", fn := fun _ => fun
  | [d1, d2, d3] => { results := [.lit (.bool true)], args := [d1, d2, d3] }
  | _ => none }
def attachBooksRow : OpenClaim := { program := "ytgdalejccbhjcaadoor", sum := "97cec28cf161c3f444b9ac27bf37200c730745ea6cff0b613477ce8d92a6e15c", func := "stipend/stipendlaw18.AttachBooks", spec := "attachBooks", unfollowed := true, recurses := true, named := ["internal/strconv.uint64pow10", "math/bits.deBruijn32tab", "math/bits.deBruijn64tab"], apart := false, laid := [("math/bits.deBruijn32tab", laid_math_bits_deBruijn32tab), ("math/bits.deBruijn64tab", laid_math_bits_deBruijn64tab), ("internal/strconv.uint64pow10", laid_internal_strconv_uint64pow10)] }
def AttachBooksSaid : Prop := attachBooksRow.holds Tryd.pinned (OpenSpec.ofChange attachBooksSpec)

/-- ITS FALSE NEIGHBOUR: 'it returns false'. Refute it at one input. -/
def attachBooksWrong : ChangeSpec := { name := "attachBooks", fn := fun _ => fun
  | [d1, d2, d3] => { results := [.lit (.bool false)], args := [d1, d2, d3] }
  | _ => none }
def AttachBooksWrongFalsely : Prop := attachBooksRow.holds Tryd.pinned (OpenSpec.ofChange attachBooksWrong)

/-- 'stipendlaw18.AttachRight': WHATEVER THE INPUT: true; the input reads as it did. -/
def attachRightSpec : ChangeSpec := { name := "attachRight", fn := fun _ => fun
  | [d] => { results := [.lit (.bool true)], args := [d] }
  | _ => none }
def attachRightRow : OpenClaim := { program := "ytgdalejccbhjcaadoor", sum := "97cec28cf161c3f444b9ac27bf37200c730745ea6cff0b613477ce8d92a6e15c", func := "stipend/stipendlaw18.AttachRight", spec := "attachRight", inPlace := ["internal/bytealg.IndexByteString", "internal/bytealg.IndexString"], named := ["internal/strconv.uint64pow10", "math/bits.deBruijn32tab", "math/bits.deBruijn64tab", "internal/bytealg.MaxLen"], apart := false, laid := [("math/bits.deBruijn32tab", laid_math_bits_deBruijn32tab), ("math/bits.deBruijn64tab", laid_math_bits_deBruijn64tab), ("internal/strconv.uint64pow10", laid_internal_strconv_uint64pow10)] }
def AttachRightSaid : Prop := attachRightRow.holds Tryd.pinned (OpenSpec.ofChange attachRightSpec)

/-- ITS FALSE NEIGHBOUR: 'it returns false'. Refute it at one input. -/
def attachRightWrong : ChangeSpec := { name := "attachRight", fn := fun _ => fun
  | [d] => { results := [.lit (.bool false)], args := [d] }
  | _ => none }
def AttachRightWrongFalsely : Prop := attachRightRow.holds Tryd.pinned (OpenSpec.ofChange attachRightWrong)

/-- 'stipendlaw16.ShareLines': WHATEVER THE INPUT: true; the input reads as it did. -/
def shareLinesSpec : ChangeSpec := { name := "shareLines", fn := fun _ => fun
  | [d1, d2] => { results := [.lit (.bool true)], args := [d1, d2] }
  | _ => none }
def shareLinesRow : OpenClaim := { program := "ytgdalejccbhjcaadoor", sum := "97cec28cf161c3f444b9ac27bf37200c730745ea6cff0b613477ce8d92a6e15c", func := "stipend/stipendlaw16.ShareLines", spec := "shareLines", inPlace := ["internal/bytealg.IndexByteString", "internal/bytealg.IndexString"], named := ["internal/strconv.uint64pow10", "math/bits.deBruijn32tab", "math/bits.deBruijn64tab", "internal/bytealg.MaxLen"], apart := false, laid := [("math/bits.deBruijn32tab", laid_math_bits_deBruijn32tab), ("math/bits.deBruijn64tab", laid_math_bits_deBruijn64tab), ("internal/strconv.uint64pow10", laid_internal_strconv_uint64pow10)] }
def ShareLinesSaid : Prop := shareLinesRow.holds Tryd.pinned (OpenSpec.ofChange shareLinesSpec)

/-- ITS FALSE NEIGHBOUR: 'it returns false'. Refute it at one input. -/
def shareLinesWrong : ChangeSpec := { name := "shareLines", fn := fun _ => fun
  | [d1, d2] => { results := [.lit (.bool false)], args := [d1, d2] }
  | _ => none }
def ShareLinesWrongFalsely : Prop := shareLinesRow.holds Tryd.pinned (OpenSpec.ofChange shareLinesWrong)

/- THE SECOND FORM. 'bulk': how many values and letters a reading holds, each counted each time it is reached (what is shared counts as often as it is met; a slice's spare places count too). A statement '..UptoSaid' is the law's where the arguments, and the package variables that the reading takes, are together of bulk at most 1048576: NARROWER than '..Said'. Prove '..Said' where nothing that the law and all that it calls make is longer than what came in: it says more and counts as full. Else prove '..UptoSaid'. A law counts once. -/
mutual
def uptoBulk {H : Type} : DataW H → Nat
  | .lit (.string bytes) => bytes.length + 1
  | .lit _ => 1
  | .nil => 1
  | .ptr d => uptoBulk d + 1
  | .slice elems spare => uptoBulkAll elems + uptoBulkAll spare + 1
  | .agg parts => uptoBulkAll parts + 1
  | .iface _ d => uptoBulk d + 1
  | .map entries => uptoBulkEntries entries + 1
  | .held _ => 1
def uptoBulkAll {H : Type} : List (DataW H) → Nat
  | [] => 0
  | d :: r => uptoBulk d + uptoBulkAll r
def uptoBulkEntries {H : Type} : List (Lit × DataW H) → Nat
  | [] => 0
  | x :: r => uptoBulkEntry x + uptoBulkEntries r
def uptoBulkEntry {H : Type} : Lit × DataW H → Nat
  | (.string bytes, d) => bytes.length + uptoBulk d + 1
  | (_, d) => uptoBulk d + 1
 end
def uptoSmall : (H : Type) → List (DataW H) → Bool := fun _ ds => decide (uptoBulkAll ds ≤ 1048576)
def OpenSpec.upto (s : _root_.Go.ChangeSpec) : _root_.Go.OpenSpec := { _root_.Go.OpenSpec.ofChange s with cond := some uptoSmall }

/-- 'stipendlaw18.AttachServes', WHERE WHAT IT READS IS OF BULK AT MOST 1048576: true; the input reads as it did. -/
def attachServesUptoRow : OpenClaim := { program := "ytgdalejccbhjcaadoor", sum := "97cec28cf161c3f444b9ac27bf37200c730745ea6cff0b613477ce8d92a6e15c", func := "stipend/stipendlaw18.AttachServes", spec := "attachServes", named := ["internal/strconv.uint64pow10", "math/bits.deBruijn32tab", "math/bits.deBruijn64tab"], apart := false, laid := [("math/bits.deBruijn32tab", laid_math_bits_deBruijn32tab), ("math/bits.deBruijn64tab", laid_math_bits_deBruijn64tab), ("internal/strconv.uint64pow10", laid_internal_strconv_uint64pow10)], narrowed := true }
def AttachServesUptoSaid : Prop := attachServesUptoRow.holds Tryd.pinned (OpenSpec.upto attachServesSpec)

/-- 'stipendlaw18.AttachProtects', WHERE WHAT IT READS IS OF BULK AT MOST 1048576: true; the input reads as it did. -/
def attachProtectsUptoRow : OpenClaim := { program := "ytgdalejccbhjcaadoor", sum := "97cec28cf161c3f444b9ac27bf37200c730745ea6cff0b613477ce8d92a6e15c", func := "stipend/stipendlaw18.AttachProtects", spec := "attachProtects", named := ["internal/strconv.uint64pow10", "math/bits.deBruijn32tab", "math/bits.deBruijn64tab"], apart := false, laid := [("math/bits.deBruijn32tab", laid_math_bits_deBruijn32tab), ("math/bits.deBruijn64tab", laid_math_bits_deBruijn64tab), ("internal/strconv.uint64pow10", laid_internal_strconv_uint64pow10)], narrowed := true }
def AttachProtectsUptoSaid : Prop := attachProtectsUptoRow.holds Tryd.pinned (OpenSpec.upto attachProtectsSpec)

/-- 'stipendlaw18.AttachShort', WHERE WHAT IT READS IS OF BULK AT MOST 1048576: true; the input reads as it did. -/
def attachShortUptoRow : OpenClaim := { program := "ytgdalejccbhjcaadoor", sum := "97cec28cf161c3f444b9ac27bf37200c730745ea6cff0b613477ce8d92a6e15c", func := "stipend/stipendlaw18.AttachShort", spec := "attachShort", named := ["internal/strconv.uint64pow10", "math/bits.deBruijn32tab", "math/bits.deBruijn64tab"], apart := false, laid := [("math/bits.deBruijn32tab", laid_math_bits_deBruijn32tab), ("math/bits.deBruijn64tab", laid_math_bits_deBruijn64tab), ("internal/strconv.uint64pow10", laid_internal_strconv_uint64pow10)], narrowed := true }
def AttachShortUptoSaid : Prop := attachShortUptoRow.holds Tryd.pinned (OpenSpec.upto attachShortSpec)

/-- 'stipendlaw18.AttachBooks', WHERE WHAT IT READS IS OF BULK AT MOST 1048576: true; the input reads as it did. -/
def attachBooksUptoRow : OpenClaim := { program := "ytgdalejccbhjcaadoor", sum := "97cec28cf161c3f444b9ac27bf37200c730745ea6cff0b613477ce8d92a6e15c", func := "stipend/stipendlaw18.AttachBooks", spec := "attachBooks", unfollowed := true, recurses := true, named := ["internal/strconv.uint64pow10", "math/bits.deBruijn32tab", "math/bits.deBruijn64tab"], apart := false, laid := [("math/bits.deBruijn32tab", laid_math_bits_deBruijn32tab), ("math/bits.deBruijn64tab", laid_math_bits_deBruijn64tab), ("internal/strconv.uint64pow10", laid_internal_strconv_uint64pow10)], narrowed := true }
def AttachBooksUptoSaid : Prop := attachBooksUptoRow.holds Tryd.pinned (OpenSpec.upto attachBooksSpec)

/-- 'stipendlaw18.AttachRight', WHERE WHAT IT READS IS OF BULK AT MOST 1048576: true; the input reads as it did. -/
def attachRightUptoRow : OpenClaim := { program := "ytgdalejccbhjcaadoor", sum := "97cec28cf161c3f444b9ac27bf37200c730745ea6cff0b613477ce8d92a6e15c", func := "stipend/stipendlaw18.AttachRight", spec := "attachRight", inPlace := ["internal/bytealg.IndexByteString", "internal/bytealg.IndexString"], named := ["internal/strconv.uint64pow10", "math/bits.deBruijn32tab", "math/bits.deBruijn64tab", "internal/bytealg.MaxLen"], apart := false, laid := [("math/bits.deBruijn32tab", laid_math_bits_deBruijn32tab), ("math/bits.deBruijn64tab", laid_math_bits_deBruijn64tab), ("internal/strconv.uint64pow10", laid_internal_strconv_uint64pow10)], narrowed := true }
def AttachRightUptoSaid : Prop := attachRightUptoRow.holds Tryd.pinned (OpenSpec.upto attachRightSpec)

/-- 'stipendlaw16.ShareLines', WHERE WHAT IT READS IS OF BULK AT MOST 1048576: true; the input reads as it did. -/
def shareLinesUptoRow : OpenClaim := { program := "ytgdalejccbhjcaadoor", sum := "97cec28cf161c3f444b9ac27bf37200c730745ea6cff0b613477ce8d92a6e15c", func := "stipend/stipendlaw16.ShareLines", spec := "shareLines", inPlace := ["internal/bytealg.IndexByteString", "internal/bytealg.IndexString"], named := ["internal/strconv.uint64pow10", "math/bits.deBruijn32tab", "math/bits.deBruijn64tab", "internal/bytealg.MaxLen"], apart := false, laid := [("math/bits.deBruijn32tab", laid_math_bits_deBruijn32tab), ("math/bits.deBruijn64tab", laid_math_bits_deBruijn64tab), ("internal/strconv.uint64pow10", laid_internal_strconv_uint64pow10)], narrowed := true }
def ShareLinesUptoSaid : Prop := shareLinesUptoRow.holds Tryd.pinned (OpenSpec.upto shareLinesSpec)

end Rows
end Go.Proofs.YtgdalejccbhjcaaDoor
