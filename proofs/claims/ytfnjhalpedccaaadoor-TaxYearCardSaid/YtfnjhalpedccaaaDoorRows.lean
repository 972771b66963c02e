/-
  NARROWER THAN 'FOR EVERY INPUT', by the rows' own cells (each row's printed sentence says how): TaxYear: laid · WholeTax: laid.
  DERIVED. THE GIVEN ROWS OF THIS SEAT. 2 by the template 'for every input the law returns true; each argument reads behind the call as it read before'; 0 by the template 'total and deterministic' (their statements: YtfnjhalpedccaaaDoorTotals.lean).
  GIVEN WITH THE SEED: the statements are not yours to turn. If you find one false, say at which input.
  Laid BY PROGRAM, IN A SANDBOX (cutbox-rows.mjs): the forced cells as the released guide's own fill.sh prints them over the translation 4c36c4c3629d7cc0… (all of the seat's roots in one cut). By AI agents, Wed Nov 11 2026. No macro, syntax, notation, axiom, sorry.
-/
import Derived.Test.YtfnjhalpedccaaaDoorChecked
import GoSem.Claim
import GoSem.ClaimJoined
import GoSem.ClaimMapViews
import Derived.JoinedTies
import Derived.KernelRfl
namespace Go.Proofs.YtfnjhalpedccaaaDoor
/- THE CELL 'sum', in the pinned program and in every row, IS THE sha256 OF THE DUMP (.gsa) THAT YtfnjhalpedccaaaDoorProg.lean LOADS. Nothing in Lean hashes anything: it is a label: what it is worth is what the hold of that sum in a sandbox is worth. -/
noncomputable def Tryd.pinned : Pinned := { name := "ytfnjhalpedccaaadoor", sum := "4c36c4c3629d7cc0633a763ee1a6ed9644b47441e4d4289138815b8291bae124", checked := Tryd.checked }
namespace Rows
def none {H : Type} : Left H := { results := [], args := [] }

/- WHAT THE LISTED PACKAGE-LEVEL VARIABLES READ AS WHEN THE CALL BEGINS. Each datum BY PROGRAM (the guide's laid-datum.mjs) off the statement by which the dump's own 'gosem.cut.vars' lays the variable. In a bare row this is a premise. The card (YtfnjhalpedccaaaDoorCards.lean) ties it to the program's text. -/
def laid_stipend_period_kinds {H : Type} : DataW H := .agg [.agg [.lit (.string []), .lit (.int .i64 0), .lit (.int .i64 0)], .agg [.lit (.string [119, 101, 101, 107, 108, 121]), .lit (.int .i64 52), .lit (.int .i64 7)], .agg [.lit (.string [102, 111, 114, 116, 110, 105, 103, 104, 116, 108, 121]), .lit (.int .i64 26), .lit (.int .i64 14)], .agg [.lit (.string [102, 111, 117, 114, 119, 101, 101, 107, 108, 121]), .lit (.int .i64 13), .lit (.int .i64 28)], .agg [.lit (.string [109, 111, 110, 116, 104, 108, 121]), .lit (.int .i64 12), .lit (.int .i64 0)]]

/-- 'stipendlaw13.TaxYear': WHATEVER THE INPUT: true; the input reads as it did. -/
def taxYearSpec : ChangeSpec := { name := "taxYear", fn := fun _ => fun
  | [d1, d2, d3] => { results := [.lit (.bool true)], args := [d1, d2, d3] }
  | _ => none }
def taxYearRow : OpenClaim := { program := "ytfnjhalpedccaaadoor", sum := "4c36c4c3629d7cc0633a763ee1a6ed9644b47441e4d4289138815b8291bae124", func := "stipend/stipendlaw13.TaxYear", spec := "taxYear", unfollowed := true, recurses := true, named := ["stipend/period.kinds"], apart := false, laid := [("stipend/period.kinds", laid_stipend_period_kinds)] }
def TaxYearSaid : Prop := taxYearRow.holds Tryd.pinned (OpenSpec.ofChange taxYearSpec)

/-- ITS FALSE NEIGHBOUR: 'it returns false'. Refute it at one input. -/
def taxYearWrong : ChangeSpec := { name := "taxYear", fn := fun _ => fun
  | [d1, d2, d3] => { results := [.lit (.bool false)], args := [d1, d2, d3] }
  | _ => none }
def TaxYearWrongFalsely : Prop := taxYearRow.holds Tryd.pinned (OpenSpec.ofChange taxYearWrong)

/-- 'stipendtop.WholeTax': WHATEVER THE INPUT: true; the input reads as it did. -/
def wholeTaxSpec : ChangeSpec := { name := "wholeTax", fn := fun _ => fun
  | [d1, d2, d3] => { results := [.lit (.bool true)], args := [d1, d2, d3] }
  | _ => none }
def wholeTaxRow : OpenClaim := { program := "ytfnjhalpedccaaadoor", sum := "4c36c4c3629d7cc0633a763ee1a6ed9644b47441e4d4289138815b8291bae124", func := "stipend/stipendtop.WholeTax", spec := "wholeTax", unfollowed := true, recurses := true, named := ["stipend/period.kinds"], apart := false, laid := [("stipend/period.kinds", laid_stipend_period_kinds)] }
def WholeTaxSaid : Prop := wholeTaxRow.holds Tryd.pinned (OpenSpec.ofChange wholeTaxSpec)

/-- ITS FALSE NEIGHBOUR: 'it returns false'. Refute it at one input. -/
def wholeTaxWrong : ChangeSpec := { name := "wholeTax", fn := fun _ => fun
  | [d1, d2, d3] => { results := [.lit (.bool false)], args := [d1, d2, d3] }
  | _ => none }
def WholeTaxWrongFalsely : Prop := wholeTaxRow.holds Tryd.pinned (OpenSpec.ofChange wholeTaxWrong)

/- THE SECOND FORM. 'bulk': how many values and letters a reading holds, each counted each time it is reached (what is shared counts as often as it is met; a slice's spare places count too). A statement '..UptoSaid' is the law's where the arguments, and the package variables that the reading takes, are together of bulk at most 1048576: NARROWER than '..Said'. Prove '..Said' where nothing that the law and all that it calls make is longer than what came in: it says more and counts as full. Else prove '..UptoSaid'. A law counts once. -/
mutual
def uptoBulk {H : Type} : DataW H → Nat
  | .lit (.string bytes) => bytes.length + 1
  | .lit _ => 1
  | .nil => 1
  | .ptr d => uptoBulk d + 1
  | .slice elems spare => uptoBulkAll elems + uptoBulkAll spare + 1
  | .agg parts => uptoBulkAll parts + 1
  | .iface _ d => uptoBulk d + 1
  | .map entries => uptoBulkEntries entries + 1
  | .held _ => 1
def uptoBulkAll {H : Type} : List (DataW H) → Nat
  | [] => 0
  | d :: r => uptoBulk d + uptoBulkAll r
def uptoBulkEntries {H : Type} : List (Lit × DataW H) → Nat
  | [] => 0
  | x :: r => uptoBulkEntry x + uptoBulkEntries r
def uptoBulkEntry {H : Type} : Lit × DataW H → Nat
  | (.string bytes, d) => bytes.length + uptoBulk d + 1
  | (_, d) => uptoBulk d + 1
 end
def uptoSmall : (H : Type) → List (DataW H) → Bool := fun _ ds => decide (uptoBulkAll ds ≤ 1048576)
def OpenSpec.upto (s : _root_.Go.ChangeSpec) : _root_.Go.OpenSpec := { _root_.Go.OpenSpec.ofChange s with cond := some uptoSmall }

/-- 'stipendlaw13.TaxYear', WHERE WHAT IT READS IS OF BULK AT MOST 1048576: true; the input reads as it did. -/
def taxYearUptoRow : OpenClaim := { program := "ytfnjhalpedccaaadoor", sum := "4c36c4c3629d7cc0633a763ee1a6ed9644b47441e4d4289138815b8291bae124", func := "stipend/stipendlaw13.TaxYear", spec := "taxYear", unfollowed := true, recurses := true, named := ["stipend/period.kinds"], apart := false, laid := [("stipend/period.kinds", laid_stipend_period_kinds)], narrowed := true }
def TaxYearUptoSaid : Prop := taxYearUptoRow.holds Tryd.pinned (OpenSpec.upto taxYearSpec)

/-- 'stipendtop.WholeTax', WHERE WHAT IT READS IS OF BULK AT MOST 1048576: true; the input reads as it did. -/
def wholeTaxUptoRow : OpenClaim := { program := "ytfnjhalpedccaaadoor", sum := "4c36c4c3629d7cc0633a763ee1a6ed9644b47441e4d4289138815b8291bae124", func := "stipend/stipendtop.WholeTax", spec := "wholeTax", unfollowed := true, recurses := true, named := ["stipend/period.kinds"], apart := false, laid := [("stipend/period.kinds", laid_stipend_period_kinds)], narrowed := true }
def WholeTaxUptoSaid : Prop := wholeTaxUptoRow.holds Tryd.pinned (OpenSpec.upto wholeTaxSpec)

end Rows
end Go.Proofs.YtfnjhalpedccaaaDoor
