/-
  No cell of these rows narrows 'for every input' (looked for: loops, veiled, ifaces, maps, wideKeys, modest, calm, conditions, laid).
  DERIVED. THE GIVEN ROWS OF THIS SEAT. 5 by the template 'for every input the law returns true; each argument reads behind the call as it read before'; 0 by the template 'total and deterministic' (their statements: YtifoapaoamhgcaaTotals.lean).
  GIVEN WITH THE SEED: the statements are not yours to turn. If you find one false, say at which input.
  Laid BY PROGRAM, IN A SANDBOX (cutbox-rows.mjs): the forced cells as the released guide's own fill.sh prints them over the translation ac1d8a6f36ea4276… (all of the seat's roots in one cut). By AI agents, Wed Nov 11 2026. No macro, syntax, notation, axiom, sorry.
-/
import Derived.Test.YtifoapaoamhgcaaChecked
import GoSem.Claim
import GoSem.ClaimJoined
import GoSem.ClaimMapViews
import Derived.JoinedTies
import Derived.KernelRfl
namespace Go.Proofs.Ytifoapaoamhgcaa
/- THE CELL 'sum', in the pinned program and in every row, IS THE sha256 OF THE DUMP (.gsa) THAT YtifoapaoamhgcaaProg.lean LOADS. Nothing in Lean hashes anything: it is a label: what it is worth is what the hold of that sum in a sandbox is worth. -/
noncomputable def Try.pinned : Pinned := { name := "ytifoapaoamhgcaa", sum := "ac1d8a6f36ea4276cae026eae2755f24a26f9e7e88eab4baad95305c3cc38865", checked := Try.checked }
namespace Rows
def none {H : Type} : Left H := { results := [], args := [] }

/-- 'stipendlaw15.SocialDue': WHATEVER THE INPUT: true; the input reads as it did. -/
def socialDueSpec : ChangeSpec := { name := "socialDue", fn := fun _ => fun
  | [d1, d2, d3] => { results := [.lit (.bool true)], args := [d1, d2, d3] }
  | _ => none }
def socialDueRow : OpenClaim := { program := "ytifoapaoamhgcaa", sum := "ac1d8a6f36ea4276cae026eae2755f24a26f9e7e88eab4baad95305c3cc38865", func := "stipend/stipendlaw15.SocialDue", spec := "socialDue", inPlace := ["math.archTrunc", "math.Float64bits", "math.Float64frombits"], unfollowed := true, recurses := true, apart := false }
def SocialDueSaid : Prop := socialDueRow.holds Try.pinned (OpenSpec.ofChange socialDueSpec)

/-- ITS FALSE NEIGHBOUR: 'it returns false'. Refute it at one input. -/
def socialDueWrong : ChangeSpec := { name := "socialDue", fn := fun _ => fun
  | [d1, d2, d3] => { results := [.lit (.bool false)], args := [d1, d2, d3] }
  | _ => none }
def SocialDueWrongFalsely : Prop := socialDueRow.holds Try.pinned (OpenSpec.ofChange socialDueWrong)

/-- 'stipendlaw15.SocialYear': WHATEVER THE INPUT: true; the input reads as it did. -/
def socialYearSpec : ChangeSpec := { name := "socialYear", fn := fun _ => fun
  | [d1, d2] => { results := [.lit (.bool true)], args := [d1, d2] }
  | _ => none }
def socialYearRow : OpenClaim := { program := "ytifoapaoamhgcaa", sum := "ac1d8a6f36ea4276cae026eae2755f24a26f9e7e88eab4baad95305c3cc38865", func := "stipend/stipendlaw15.SocialYear", spec := "socialYear", inPlace := ["math.archTrunc", "math.Float64bits", "math.Float64frombits"], unfollowed := true, recurses := true, apart := false }
def SocialYearSaid : Prop := socialYearRow.holds Try.pinned (OpenSpec.ofChange socialYearSpec)

/-- ITS FALSE NEIGHBOUR: 'it returns false'. Refute it at one input. -/
def socialYearWrong : ChangeSpec := { name := "socialYear", fn := fun _ => fun
  | [d1, d2] => { results := [.lit (.bool false)], args := [d1, d2] }
  | _ => none }
def SocialYearWrongFalsely : Prop := socialYearRow.holds Try.pinned (OpenSpec.ofChange socialYearWrong)

/-- 'stipendlaw15.SocialSums': WHATEVER THE INPUT: true; the input reads as it did. -/
def socialSumsSpec : ChangeSpec := { name := "socialSums", fn := fun _ => fun
  | [d1, d2] => { results := [.lit (.bool true)], args := [d1, d2] }
  | _ => none }
def socialSumsRow : OpenClaim := { program := "ytifoapaoamhgcaa", sum := "ac1d8a6f36ea4276cae026eae2755f24a26f9e7e88eab4baad95305c3cc38865", func := "stipend/stipendlaw15.SocialSums", spec := "socialSums", inPlace := ["math.archTrunc", "math.Float64bits", "math.Float64frombits"], unfollowed := true, recurses := true, apart := false }
def SocialSumsSaid : Prop := socialSumsRow.holds Try.pinned (OpenSpec.ofChange socialSumsSpec)

/-- ITS FALSE NEIGHBOUR: 'it returns false'. Refute it at one input. -/
def socialSumsWrong : ChangeSpec := { name := "socialSums", fn := fun _ => fun
  | [d1, d2] => { results := [.lit (.bool false)], args := [d1, d2] }
  | _ => none }
def SocialSumsWrongFalsely : Prop := socialSumsRow.holds Try.pinned (OpenSpec.ofChange socialSumsWrong)

/-- 'stipendlaw15.SocialCeils': WHATEVER THE INPUT: true; the input reads as it did. -/
def socialCeilsSpec : ChangeSpec := { name := "socialCeils", fn := fun _ => fun
  | [d1, d2] => { results := [.lit (.bool true)], args := [d1, d2] }
  | _ => none }
def socialCeilsRow : OpenClaim := { program := "ytifoapaoamhgcaa", sum := "ac1d8a6f36ea4276cae026eae2755f24a26f9e7e88eab4baad95305c3cc38865", func := "stipend/stipendlaw15.SocialCeils", spec := "socialCeils", inPlace := ["math.archTrunc", "math.Float64bits", "math.Float64frombits"], unfollowed := true, recurses := true, apart := false }
def SocialCeilsSaid : Prop := socialCeilsRow.holds Try.pinned (OpenSpec.ofChange socialCeilsSpec)

/-- ITS FALSE NEIGHBOUR: 'it returns false'. Refute it at one input. -/
def socialCeilsWrong : ChangeSpec := { name := "socialCeils", fn := fun _ => fun
  | [d1, d2] => { results := [.lit (.bool false)], args := [d1, d2] }
  | _ => none }
def SocialCeilsWrongFalsely : Prop := socialCeilsRow.holds Try.pinned (OpenSpec.ofChange socialCeilsWrong)

/-- 'stipendtop.WholeShares': WHATEVER THE INPUT: true; the input reads as it did. -/
def wholeSharesSpec : ChangeSpec := { name := "wholeShares", fn := fun _ => fun
  | [d1, d2, d3] => { results := [.lit (.bool true)], args := [d1, d2, d3] }
  | _ => none }
def wholeSharesRow : OpenClaim := { program := "ytifoapaoamhgcaa", sum := "ac1d8a6f36ea4276cae026eae2755f24a26f9e7e88eab4baad95305c3cc38865", func := "stipend/stipendtop.WholeShares", spec := "wholeShares", inPlace := ["math.archTrunc", "math.Float64bits", "math.Float64frombits"], unfollowed := true, recurses := true, apart := false }
def WholeSharesSaid : Prop := wholeSharesRow.holds Try.pinned (OpenSpec.ofChange wholeSharesSpec)

/-- ITS FALSE NEIGHBOUR: 'it returns false'. Refute it at one input. -/
def wholeSharesWrong : ChangeSpec := { name := "wholeShares", fn := fun _ => fun
  | [d1, d2, d3] => { results := [.lit (.bool false)], args := [d1, d2, d3] }
  | _ => none }
def WholeSharesWrongFalsely : Prop := wholeSharesRow.holds Try.pinned (OpenSpec.ofChange wholeSharesWrong)

/- THE SECOND FORM. 'bulk': how many values and letters a reading holds, each counted each time it is reached (what is shared counts as often as it is met; a slice's spare places count too). A statement '..UptoSaid' is the law's where the arguments, and the package variables that the reading takes, are together of bulk at most 1048576: NARROWER than '..Said'. Prove '..Said' where nothing that the law and all that it calls make is longer than what came in: it says more and counts as full. Else prove '..UptoSaid'. A law counts once. -/
mutual
def uptoBulk {H : Type} : DataW H → Nat
  | .lit (.string bytes) => bytes.length + 1
  | .lit _ => 1
  | .nil => 1
  | .ptr d => uptoBulk d + 1
  | .slice elems spare => uptoBulkAll elems + uptoBulkAll spare + 1
  | .agg parts => uptoBulkAll parts + 1
  | .iface _ d => uptoBulk d + 1
  | .map entries => uptoBulkEntries entries + 1
  | .held _ => 1
def uptoBulkAll {H : Type} : List (DataW H) → Nat
  | [] => 0
  | d :: r => uptoBulk d + uptoBulkAll r
def uptoBulkEntries {H : Type} : List (Lit × DataW H) → Nat
  | [] => 0
  | x :: r => uptoBulkEntry x + uptoBulkEntries r
def uptoBulkEntry {H : Type} : Lit × DataW H → Nat
  | (.string bytes, d) => bytes.length + uptoBulk d + 1
  | (_, d) => uptoBulk d + 1
 end
def uptoSmall : (H : Type) → List (DataW H) → Bool := fun _ ds => decide (uptoBulkAll ds ≤ 1048576)
def OpenSpec.upto (s : _root_.Go.ChangeSpec) : _root_.Go.OpenSpec := { _root_.Go.OpenSpec.ofChange s with cond := some uptoSmall }

/-- 'stipendlaw15.SocialDue', WHERE WHAT IT READS IS OF BULK AT MOST 1048576: true; the input reads as it did. -/
def socialDueUptoRow : OpenClaim := { program := "ytifoapaoamhgcaa", sum := "ac1d8a6f36ea4276cae026eae2755f24a26f9e7e88eab4baad95305c3cc38865", func := "stipend/stipendlaw15.SocialDue", spec := "socialDue", inPlace := ["math.archTrunc", "math.Float64bits", "math.Float64frombits"], unfollowed := true, recurses := true, apart := false, narrowed := true }
def SocialDueUptoSaid : Prop := socialDueUptoRow.holds Try.pinned (OpenSpec.upto socialDueSpec)

/-- 'stipendlaw15.SocialYear', WHERE WHAT IT READS IS OF BULK AT MOST 1048576: true; the input reads as it did. -/
def socialYearUptoRow : OpenClaim := { program := "ytifoapaoamhgcaa", sum := "ac1d8a6f36ea4276cae026eae2755f24a26f9e7e88eab4baad95305c3cc38865", func := "stipend/stipendlaw15.SocialYear", spec := "socialYear", inPlace := ["math.archTrunc", "math.Float64bits", "math.Float64frombits"], unfollowed := true, recurses := true, apart := false, narrowed := true }
def SocialYearUptoSaid : Prop := socialYearUptoRow.holds Try.pinned (OpenSpec.upto socialYearSpec)

/-- 'stipendlaw15.SocialSums', WHERE WHAT IT READS IS OF BULK AT MOST 1048576: true; the input reads as it did. -/
def socialSumsUptoRow : OpenClaim := { program := "ytifoapaoamhgcaa", sum := "ac1d8a6f36ea4276cae026eae2755f24a26f9e7e88eab4baad95305c3cc38865", func := "stipend/stipendlaw15.SocialSums", spec := "socialSums", inPlace := ["math.archTrunc", "math.Float64bits", "math.Float64frombits"], unfollowed := true, recurses := true, apart := false, narrowed := true }
def SocialSumsUptoSaid : Prop := socialSumsUptoRow.holds Try.pinned (OpenSpec.upto socialSumsSpec)

/-- 'stipendlaw15.SocialCeils', WHERE WHAT IT READS IS OF BULK AT MOST 1048576: true; the input reads as it did. -/
def socialCeilsUptoRow : OpenClaim := { program := "ytifoapaoamhgcaa", sum := "ac1d8a6f36ea4276cae026eae2755f24a26f9e7e88eab4baad95305c3cc38865", func := "stipend/stipendlaw15.SocialCeils", spec := "socialCeils", inPlace := ["math.archTrunc", "math.Float64bits", "math.Float64frombits"], unfollowed := true, recurses := true, apart := false, narrowed := true }
def SocialCeilsUptoSaid : Prop := socialCeilsUptoRow.holds Try.pinned (OpenSpec.upto socialCeilsSpec)

/-- 'stipendtop.WholeShares', WHERE WHAT IT READS IS OF BULK AT MOST 1048576: true; the input reads as it did. -/
def wholeSharesUptoRow : OpenClaim := { program := "ytifoapaoamhgcaa", sum := "ac1d8a6f36ea4276cae026eae2755f24a26f9e7e88eab4baad95305c3cc38865", func := "stipend/stipendtop.WholeShares", spec := "wholeShares", inPlace := ["math.archTrunc", "math.Float64bits", "math.Float64frombits"], unfollowed := true, recurses := true, apart := false, narrowed := true }
def WholeSharesUptoSaid : Prop := wholeSharesUptoRow.holds Try.pinned (OpenSpec.upto wholeSharesSpec)

end Rows
end Go.Proofs.Ytifoapaoamhgcaa
