/-
  No cell of these rows narrows 'for every input' (looked for: loops, veiled, ifaces, maps, wideKeys, modest, calm, conditions, laid).
  DERIVED. THE GIVEN ROWS OF THIS SEAT. 11 by the template 'for every input the law returns true; each argument reads behind the call as it read before'; 0 by the template 'total and deterministic' (their statements: YtkiefceomgbbhaaTotals.lean).
  GIVEN WITH THE SEED: the statements are not yours to turn. If you find one false, say at which input.
  Laid BY PROGRAM, IN A SANDBOX (cutbox-rows.mjs): the forced cells as the released guide's own fill.sh prints them over the translation ed44b1b87d6307af… (all of the seat's roots in one cut). By AI agents, Wed Nov 11 2026. No macro, syntax, notation, axiom, sorry.
-/
import Derived.Test.YtkiefceomgbbhaaChecked
import GoSem.Claim
import GoSem.ClaimJoined
import GoSem.ClaimMapViews
import Derived.JoinedTies
import Derived.KernelRfl
namespace Go.Proofs.Ytkiefceomgbbhaa
/- THE CELL 'sum', in the pinned program and in every row, IS THE sha256 OF THE DUMP (.gsa) THAT YtkiefceomgbbhaaProg.lean LOADS. Nothing in Lean hashes anything: it is a label: what it is worth is what the hold of that sum in a sandbox is worth. -/
noncomputable def Try.pinned : Pinned := { name := "ytkiefceomgbbhaa", sum := "ed44b1b87d6307afc5437c9d353bc2a8ea4b66f12ffc138b935528ab895ff30c", checked := Try.checked }
namespace Rows
def none {H : Type} : Left H := { results := [], args := [] }

/-- 'stipendlaw05.BandChecks': WHATEVER THE INPUT: true; the input reads as it did. -/
def bandChecksSpec : ChangeSpec := { name := "bandChecks", fn := fun _ => fun
  | [d1, d2] => { results := [.lit (.bool true)], args := [d1, d2] }
  | _ => none }
def bandChecksRow : OpenClaim := { program := "ytkiefceomgbbhaa", sum := "ed44b1b87d6307afc5437c9d353bc2a8ea4b66f12ffc138b935528ab895ff30c", func := "stipend/stipendlaw05.BandChecks", spec := "bandChecks", unfollowed := true, recurses := true, apart := false }
def BandChecksSaid : Prop := bandChecksRow.holds Try.pinned (OpenSpec.ofChange bandChecksSpec)

/-- ITS FALSE NEIGHBOUR: 'it returns false'. Refute it at one input. -/
def bandChecksWrong : ChangeSpec := { name := "bandChecks", fn := fun _ => fun
  | [d1, d2] => { results := [.lit (.bool false)], args := [d1, d2] }
  | _ => none }
def BandChecksWrongFalsely : Prop := bandChecksRow.holds Try.pinned (OpenSpec.ofChange bandChecksWrong)

/-- 'stipendlaw05.BandExact': WHATEVER THE INPUT: true; the input reads as it did. -/
def bandExactSpec : ChangeSpec := { name := "bandExact", fn := fun _ => fun
  | [d1, d2] => { results := [.lit (.bool true)], args := [d1, d2] }
  | _ => none }
def bandExactRow : OpenClaim := { program := "ytkiefceomgbbhaa", sum := "ed44b1b87d6307afc5437c9d353bc2a8ea4b66f12ffc138b935528ab895ff30c", func := "stipend/stipendlaw05.BandExact", spec := "bandExact", unfollowed := true, recurses := true, apart := false }
def BandExactSaid : Prop := bandExactRow.holds Try.pinned (OpenSpec.ofChange bandExactSpec)

/-- ITS FALSE NEIGHBOUR: 'it returns false'. Refute it at one input. -/
def bandExactWrong : ChangeSpec := { name := "bandExact", fn := fun _ => fun
  | [d1, d2] => { results := [.lit (.bool false)], args := [d1, d2] }
  | _ => none }
def BandExactWrongFalsely : Prop := bandExactRow.holds Try.pinned (OpenSpec.ofChange bandExactWrong)

/-- 'stipendlaw05.BandRises': WHATEVER THE INPUT: true; the input reads as it did. -/
def bandRisesSpec : ChangeSpec := { name := "bandRises", fn := fun _ => fun
  | [d1, d2, d3] => { results := [.lit (.bool true)], args := [d1, d2, d3] }
  | _ => none }
def bandRisesRow : OpenClaim := { program := "ytkiefceomgbbhaa", sum := "ed44b1b87d6307afc5437c9d353bc2a8ea4b66f12ffc138b935528ab895ff30c", func := "stipend/stipendlaw05.BandRises", spec := "bandRises", unfollowed := true, recurses := true, apart := false }
def BandRisesSaid : Prop := bandRisesRow.holds Try.pinned (OpenSpec.ofChange bandRisesSpec)

/-- ITS FALSE NEIGHBOUR: 'it returns false'. Refute it at one input. -/
def bandRisesWrong : ChangeSpec := { name := "bandRises", fn := fun _ => fun
  | [d1, d2, d3] => { results := [.lit (.bool false)], args := [d1, d2, d3] }
  | _ => none }
def BandRisesWrongFalsely : Prop := bandRisesRow.holds Try.pinned (OpenSpec.ofChange bandRisesWrong)

/-- 'stipendlaw05.BandScales': WHATEVER THE INPUT: true; the input reads as it did. -/
def bandScalesSpec : ChangeSpec := { name := "bandScales", fn := fun _ => fun
  | [d1, d2, d3] => { results := [.lit (.bool true)], args := [d1, d2, d3] }
  | _ => none }
def bandScalesRow : OpenClaim := { program := "ytkiefceomgbbhaa", sum := "ed44b1b87d6307afc5437c9d353bc2a8ea4b66f12ffc138b935528ab895ff30c", func := "stipend/stipendlaw05.BandScales", spec := "bandScales", unfollowed := true, recurses := true, apart := false }
def BandScalesSaid : Prop := bandScalesRow.holds Try.pinned (OpenSpec.ofChange bandScalesSpec)

/-- ITS FALSE NEIGHBOUR: 'it returns false'. Refute it at one input. -/
def bandScalesWrong : ChangeSpec := { name := "bandScales", fn := fun _ => fun
  | [d1, d2, d3] => { results := [.lit (.bool false)], args := [d1, d2, d3] }
  | _ => none }
def BandScalesWrongFalsely : Prop := bandScalesRow.holds Try.pinned (OpenSpec.ofChange bandScalesWrong)

/-- 'stipendlaw05.BandJoins': WHATEVER THE INPUT: true; the input reads as it did. -/
def bandJoinsSpec : ChangeSpec := { name := "bandJoins", fn := fun _ => fun
  | [d1, d2] => { results := [.lit (.bool true)], args := [d1, d2] }
  | _ => none }
def bandJoinsRow : OpenClaim := { program := "ytkiefceomgbbhaa", sum := "ed44b1b87d6307afc5437c9d353bc2a8ea4b66f12ffc138b935528ab895ff30c", func := "stipend/stipendlaw05.BandJoins", spec := "bandJoins", unfollowed := true, recurses := true, apart := false }
def BandJoinsSaid : Prop := bandJoinsRow.holds Try.pinned (OpenSpec.ofChange bandJoinsSpec)

/-- ITS FALSE NEIGHBOUR: 'it returns false'. Refute it at one input. -/
def bandJoinsWrong : ChangeSpec := { name := "bandJoins", fn := fun _ => fun
  | [d1, d2] => { results := [.lit (.bool false)], args := [d1, d2] }
  | _ => none }
def BandJoinsWrongFalsely : Prop := bandJoinsRow.holds Try.pinned (OpenSpec.ofChange bandJoinsWrong)

/-- 'stipendlaw06.PairSides': WHATEVER THE INPUT: true; the input reads as it did. -/
def pairSidesSpec : ChangeSpec := { name := "pairSides", fn := fun _ => fun
  | [d1, d2] => { results := [.lit (.bool true)], args := [d1, d2] }
  | _ => none }
def pairSidesRow : OpenClaim := { program := "ytkiefceomgbbhaa", sum := "ed44b1b87d6307afc5437c9d353bc2a8ea4b66f12ffc138b935528ab895ff30c", func := "stipend/stipendlaw06.PairSides", spec := "pairSides", inPlace := ["math.archTrunc", "math.Float64bits", "math.Float64frombits"], apart := false }
def PairSidesSaid : Prop := pairSidesRow.holds Try.pinned (OpenSpec.ofChange pairSidesSpec)

/-- ITS FALSE NEIGHBOUR: 'it returns false'. Refute it at one input. -/
def pairSidesWrong : ChangeSpec := { name := "pairSides", fn := fun _ => fun
  | [d1, d2] => { results := [.lit (.bool false)], args := [d1, d2] }
  | _ => none }
def PairSidesWrongFalsely : Prop := pairSidesRow.holds Try.pinned (OpenSpec.ofChange pairSidesWrong)

/-- 'stipendlaw06.PairAdds': WHATEVER THE INPUT: true; the input reads as it did. -/
def pairAddsSpec : ChangeSpec := { name := "pairAdds", fn := fun _ => fun
  | [d] => { results := [.lit (.bool true)], args := [d] }
  | _ => none }
def pairAddsRow : OpenClaim := { program := "ytkiefceomgbbhaa", sum := "ed44b1b87d6307afc5437c9d353bc2a8ea4b66f12ffc138b935528ab895ff30c", func := "stipend/stipendlaw06.PairAdds", spec := "pairAdds", inPlace := ["math.archTrunc", "math.Float64bits", "math.Float64frombits"], apart := false }
def PairAddsSaid : Prop := pairAddsRow.holds Try.pinned (OpenSpec.ofChange pairAddsSpec)

/-- ITS FALSE NEIGHBOUR: 'it returns false'. Refute it at one input. -/
def pairAddsWrong : ChangeSpec := { name := "pairAdds", fn := fun _ => fun
  | [d] => { results := [.lit (.bool false)], args := [d] }
  | _ => none }
def PairAddsWrongFalsely : Prop := pairAddsRow.holds Try.pinned (OpenSpec.ofChange pairAddsWrong)

/-- 'stipendlaw06.PairBands': WHATEVER THE INPUT: true; the input reads as it did. -/
def pairBandsSpec : ChangeSpec := { name := "pairBands", fn := fun _ => fun
  | [d1, d2, d3] => { results := [.lit (.bool true)], args := [d1, d2, d3] }
  | _ => none }
def pairBandsRow : OpenClaim := { program := "ytkiefceomgbbhaa", sum := "ed44b1b87d6307afc5437c9d353bc2a8ea4b66f12ffc138b935528ab895ff30c", func := "stipend/stipendlaw06.PairBands", spec := "pairBands", inPlace := ["math.archTrunc", "math.Float64bits", "math.Float64frombits"], unfollowed := true, recurses := true, apart := false }
def PairBandsSaid : Prop := pairBandsRow.holds Try.pinned (OpenSpec.ofChange pairBandsSpec)

/-- ITS FALSE NEIGHBOUR: 'it returns false'. Refute it at one input. -/
def pairBandsWrong : ChangeSpec := { name := "pairBands", fn := fun _ => fun
  | [d1, d2, d3] => { results := [.lit (.bool false)], args := [d1, d2, d3] }
  | _ => none }
def PairBandsWrongFalsely : Prop := pairBandsRow.holds Try.pinned (OpenSpec.ofChange pairBandsWrong)

/-- 'stipendlaw06.PairTimes': WHATEVER THE INPUT: true; the input reads as it did. -/
def pairTimesSpec : ChangeSpec := { name := "pairTimes", fn := fun _ => fun
  | [d1, d2, d3] => { results := [.lit (.bool true)], args := [d1, d2, d3] }
  | _ => none }
def pairTimesRow : OpenClaim := { program := "ytkiefceomgbbhaa", sum := "ed44b1b87d6307afc5437c9d353bc2a8ea4b66f12ffc138b935528ab895ff30c", func := "stipend/stipendlaw06.PairTimes", spec := "pairTimes", inPlace := ["math.archTrunc", "math.Float64bits", "math.Float64frombits"], apart := false }
def PairTimesSaid : Prop := pairTimesRow.holds Try.pinned (OpenSpec.ofChange pairTimesSpec)

/-- ITS FALSE NEIGHBOUR: 'it returns false'. Refute it at one input. -/
def pairTimesWrong : ChangeSpec := { name := "pairTimes", fn := fun _ => fun
  | [d1, d2, d3] => { results := [.lit (.bool false)], args := [d1, d2, d3] }
  | _ => none }
def PairTimesWrongFalsely : Prop := pairTimesRow.holds Try.pinned (OpenSpec.ofChange pairTimesWrong)

/-- 'stipendlaw06.PairTotals': WHATEVER THE INPUT: true; the input reads as it did. -/
def pairTotalsSpec : ChangeSpec := { name := "pairTotals", fn := fun _ => fun
  | [d] => { results := [.lit (.bool true)], args := [d] }
  | _ => none }
def pairTotalsRow : OpenClaim := { program := "ytkiefceomgbbhaa", sum := "ed44b1b87d6307afc5437c9d353bc2a8ea4b66f12ffc138b935528ab895ff30c", func := "stipend/stipendlaw06.PairTotals", spec := "pairTotals", inPlace := ["math.archTrunc", "math.Float64bits", "math.Float64frombits"], apart := false }
def PairTotalsSaid : Prop := pairTotalsRow.holds Try.pinned (OpenSpec.ofChange pairTotalsSpec)

/-- ITS FALSE NEIGHBOUR: 'it returns false'. Refute it at one input. -/
def pairTotalsWrong : ChangeSpec := { name := "pairTotals", fn := fun _ => fun
  | [d] => { results := [.lit (.bool false)], args := [d] }
  | _ => none }
def PairTotalsWrongFalsely : Prop := pairTotalsRow.holds Try.pinned (OpenSpec.ofChange pairTotalsWrong)

/-- 'stipendtop.WholeBands': WHATEVER THE INPUT: true; the input reads as it did. -/
def wholeBandsSpec : ChangeSpec := { name := "wholeBands", fn := fun _ => fun
  | [d1, d2, d3] => { results := [.lit (.bool true)], args := [d1, d2, d3] }
  | _ => none }
def wholeBandsRow : OpenClaim := { program := "ytkiefceomgbbhaa", sum := "ed44b1b87d6307afc5437c9d353bc2a8ea4b66f12ffc138b935528ab895ff30c", func := "stipend/stipendtop.WholeBands", spec := "wholeBands", inPlace := ["math.archTrunc", "math.Float64bits", "math.Float64frombits"], unfollowed := true, recurses := true, apart := false }
def WholeBandsSaid : Prop := wholeBandsRow.holds Try.pinned (OpenSpec.ofChange wholeBandsSpec)

/-- ITS FALSE NEIGHBOUR: 'it returns false'. Refute it at one input. -/
def wholeBandsWrong : ChangeSpec := { name := "wholeBands", fn := fun _ => fun
  | [d1, d2, d3] => { results := [.lit (.bool false)], args := [d1, d2, d3] }
  | _ => none }
def WholeBandsWrongFalsely : Prop := wholeBandsRow.holds Try.pinned (OpenSpec.ofChange wholeBandsWrong)

/- THE SECOND FORM. 'bulk': how many values and letters a reading holds, each counted each time it is reached (what is shared counts as often as it is met; a slice's spare places count too). A statement '..UptoSaid' is the law's where the arguments, and the package variables that the reading takes, are together of bulk at most 1048576: NARROWER than '..Said'. Prove '..Said' where nothing that the law and all that it calls make is longer than what came in: it says more and counts as full. Else prove '..UptoSaid'. A law counts once. -/
mutual
def uptoBulk {H : Type} : DataW H → Nat
  | .lit (.string bytes) => bytes.length + 1
  | .lit _ => 1
  | .nil => 1
  | .ptr d => uptoBulk d + 1
  | .slice elems spare => uptoBulkAll elems + uptoBulkAll spare + 1
  | .agg parts => uptoBulkAll parts + 1
  | .iface _ d => uptoBulk d + 1
  | .map entries => uptoBulkEntries entries + 1
  | .held _ => 1
def uptoBulkAll {H : Type} : List (DataW H) → Nat
  | [] => 0
  | d :: r => uptoBulk d + uptoBulkAll r
def uptoBulkEntries {H : Type} : List (Lit × DataW H) → Nat
  | [] => 0
  | x :: r => uptoBulkEntry x + uptoBulkEntries r
def uptoBulkEntry {H : Type} : Lit × DataW H → Nat
  | (.string bytes, d) => bytes.length + uptoBulk d + 1
  | (_, d) => uptoBulk d + 1
 end
def uptoSmall : (H : Type) → List (DataW H) → Bool := fun _ ds => decide (uptoBulkAll ds ≤ 1048576)
def OpenSpec.upto (s : _root_.Go.ChangeSpec) : _root_.Go.OpenSpec := { _root_.Go.OpenSpec.ofChange s with cond := some uptoSmall }

/-- 'stipendlaw05.BandChecks', WHERE WHAT IT READS IS OF BULK AT MOST 1048576: true; the input reads as it did. -/
def bandChecksUptoRow : OpenClaim := { program := "ytkiefceomgbbhaa", sum := "ed44b1b87d6307afc5437c9d353bc2a8ea4b66f12ffc138b935528ab895ff30c", func := "stipend/stipendlaw05.BandChecks", spec := "bandChecks", unfollowed := true, recurses := true, apart := false, narrowed := true }
def BandChecksUptoSaid : Prop := bandChecksUptoRow.holds Try.pinned (OpenSpec.upto bandChecksSpec)

/-- 'stipendlaw05.BandExact', WHERE WHAT IT READS IS OF BULK AT MOST 1048576: true; the input reads as it did. -/
def bandExactUptoRow : OpenClaim := { program := "ytkiefceomgbbhaa", sum := "ed44b1b87d6307afc5437c9d353bc2a8ea4b66f12ffc138b935528ab895ff30c", func := "stipend/stipendlaw05.BandExact", spec := "bandExact", unfollowed := true, recurses := true, apart := false, narrowed := true }
def BandExactUptoSaid : Prop := bandExactUptoRow.holds Try.pinned (OpenSpec.upto bandExactSpec)

/-- 'stipendlaw05.BandRises', WHERE WHAT IT READS IS OF BULK AT MOST 1048576: true; the input reads as it did. -/
def bandRisesUptoRow : OpenClaim := { program := "ytkiefceomgbbhaa", sum := "ed44b1b87d6307afc5437c9d353bc2a8ea4b66f12ffc138b935528ab895ff30c", func := "stipend/stipendlaw05.BandRises", spec := "bandRises", unfollowed := true, recurses := true, apart := false, narrowed := true }
def BandRisesUptoSaid : Prop := bandRisesUptoRow.holds Try.pinned (OpenSpec.upto bandRisesSpec)

/-- 'stipendlaw05.BandScales', WHERE WHAT IT READS IS OF BULK AT MOST 1048576: true; the input reads as it did. -/
def bandScalesUptoRow : OpenClaim := { program := "ytkiefceomgbbhaa", sum := "ed44b1b87d6307afc5437c9d353bc2a8ea4b66f12ffc138b935528ab895ff30c", func := "stipend/stipendlaw05.BandScales", spec := "bandScales", unfollowed := true, recurses := true, apart := false, narrowed := true }
def BandScalesUptoSaid : Prop := bandScalesUptoRow.holds Try.pinned (OpenSpec.upto bandScalesSpec)

/-- 'stipendlaw05.BandJoins', WHERE WHAT IT READS IS OF BULK AT MOST 1048576: true; the input reads as it did. -/
def bandJoinsUptoRow : OpenClaim := { program := "ytkiefceomgbbhaa", sum := "ed44b1b87d6307afc5437c9d353bc2a8ea4b66f12ffc138b935528ab895ff30c", func := "stipend/stipendlaw05.BandJoins", spec := "bandJoins", unfollowed := true, recurses := true, apart := false, narrowed := true }
def BandJoinsUptoSaid : Prop := bandJoinsUptoRow.holds Try.pinned (OpenSpec.upto bandJoinsSpec)

/-- 'stipendlaw06.PairSides', WHERE WHAT IT READS IS OF BULK AT MOST 1048576: true; the input reads as it did. -/
def pairSidesUptoRow : OpenClaim := { program := "ytkiefceomgbbhaa", sum := "ed44b1b87d6307afc5437c9d353bc2a8ea4b66f12ffc138b935528ab895ff30c", func := "stipend/stipendlaw06.PairSides", spec := "pairSides", inPlace := ["math.archTrunc", "math.Float64bits", "math.Float64frombits"], apart := false, narrowed := true }
def PairSidesUptoSaid : Prop := pairSidesUptoRow.holds Try.pinned (OpenSpec.upto pairSidesSpec)

/-- 'stipendlaw06.PairAdds', WHERE WHAT IT READS IS OF BULK AT MOST 1048576: true; the input reads as it did. -/
def pairAddsUptoRow : OpenClaim := { program := "ytkiefceomgbbhaa", sum := "ed44b1b87d6307afc5437c9d353bc2a8ea4b66f12ffc138b935528ab895ff30c", func := "stipend/stipendlaw06.PairAdds", spec := "pairAdds", inPlace := ["math.archTrunc", "math.Float64bits", "math.Float64frombits"], apart := false, narrowed := true }
def PairAddsUptoSaid : Prop := pairAddsUptoRow.holds Try.pinned (OpenSpec.upto pairAddsSpec)

/-- 'stipendlaw06.PairBands', WHERE WHAT IT READS IS OF BULK AT MOST 1048576: true; the input reads as it did. -/
def pairBandsUptoRow : OpenClaim := { program := "ytkiefceomgbbhaa", sum := "ed44b1b87d6307afc5437c9d353bc2a8ea4b66f12ffc138b935528ab895ff30c", func := "stipend/stipendlaw06.PairBands", spec := "pairBands", inPlace := ["math.archTrunc", "math.Float64bits", "math.Float64frombits"], unfollowed := true, recurses := true, apart := false, narrowed := true }
def PairBandsUptoSaid : Prop := pairBandsUptoRow.holds Try.pinned (OpenSpec.upto pairBandsSpec)

/-- 'stipendlaw06.PairTimes', WHERE WHAT IT READS IS OF BULK AT MOST 1048576: true; the input reads as it did. -/
def pairTimesUptoRow : OpenClaim := { program := "ytkiefceomgbbhaa", sum := "ed44b1b87d6307afc5437c9d353bc2a8ea4b66f12ffc138b935528ab895ff30c", func := "stipend/stipendlaw06.PairTimes", spec := "pairTimes", inPlace := ["math.archTrunc", "math.Float64bits", "math.Float64frombits"], apart := false, narrowed := true }
def PairTimesUptoSaid : Prop := pairTimesUptoRow.holds Try.pinned (OpenSpec.upto pairTimesSpec)

/-- 'stipendlaw06.PairTotals', WHERE WHAT IT READS IS OF BULK AT MOST 1048576: true; the input reads as it did. -/
def pairTotalsUptoRow : OpenClaim := { program := "ytkiefceomgbbhaa", sum := "ed44b1b87d6307afc5437c9d353bc2a8ea4b66f12ffc138b935528ab895ff30c", func := "stipend/stipendlaw06.PairTotals", spec := "pairTotals", inPlace := ["math.archTrunc", "math.Float64bits", "math.Float64frombits"], apart := false, narrowed := true }
def PairTotalsUptoSaid : Prop := pairTotalsUptoRow.holds Try.pinned (OpenSpec.upto pairTotalsSpec)

/-- 'stipendtop.WholeBands', WHERE WHAT IT READS IS OF BULK AT MOST 1048576: true; the input reads as it did. -/
def wholeBandsUptoRow : OpenClaim := { program := "ytkiefceomgbbhaa", sum := "ed44b1b87d6307afc5437c9d353bc2a8ea4b66f12ffc138b935528ab895ff30c", func := "stipend/stipendtop.WholeBands", spec := "wholeBands", inPlace := ["math.archTrunc", "math.Float64bits", "math.Float64frombits"], unfollowed := true, recurses := true, apart := false, narrowed := true }
def WholeBandsUptoSaid : Prop := wholeBandsUptoRow.holds Try.pinned (OpenSpec.upto wholeBandsSpec)

end Rows
end Go.Proofs.Ytkiefceomgbbhaa
