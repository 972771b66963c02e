/- The last step of a law's row, where the call made new memory and left all older memory as it was. -/
import Derived.Test.YtjjeohnejhhacaaRows
import Derived.WalkKit
import Derived.ProofKit
import Derived.OpenShut
namespace Go.Proofs.Ytjjeohnejhhacaa
open Go.ChangeShapes Go.WideShapes Go.ChangeAt Go.RowKit
theorem ownNone : ownKnob Try.prog.godebug = none := by kernel_rfl
section
variable {H : Type} {enc : TypeId × Value → H}
/-- one bool comes back, no variable is listed, and what lay below the call's first new block is as it was -/
theorem post_bool {f : Func} {s : ChangeSpec} {W W' : World} {args : Array Value} {b : Bool} {ds gs : List (DataW H)} {p : List MemPlace}
    (hW : DataW.Whole enc Try.prog f.params.toList s.vars false W args.toList ds gs p) (hv : s.vars = []) (hvr : (s.fn H (ds ++ gs)).vars = [])
    (hrt : f.resultTypes = #[4]) (hres : (s.fn H (ds ++ gs)).results = [.lit (.bool b)])
    (hargs : ∀ sp : Nat → Bool, (∀ q ∈ p, sp q.block = true) → DataW.TrodAll enc Try.prog W' 0 sp true f.params.toList args.toList (s.fn H (ds ++ gs)).args p)
    (hb : Below W.heap.size W W') :
    s.post enc Try.prog f false true false false W args (.bool b) W' := by
  have hlt : ∀ q ∈ p, q.block < W.heap.size := fun q hq => hW.lt q hq
  have hold : ∀ q ∈ p, (fun k => decide (k < W.heap.size)) q.block = true := fun q hq => by simpa using hlt q hq
  have hr : ∀ (base : Nat) (sp : Nat → Bool) (hd : Bool), DataW.TrodAll enc Try.prog W' base sp hd f.resultTypes.toList ((Value.bool b).resultList f.resultTypes.size) (s.fn H (ds ++ gs)).results [] := fun base sp hd => by
    rw [hres, hrt]
    exact trodAll_cons_mk (shut_bool Try.underlying4 _) trodAll_mk0
  have hvars : ∀ sp : Nat → Bool, DataW.TrodVars enc Try.prog W' sp s.vars (s.fn H (ds ++ gs)).vars [] := fun sp => by
    rw [hv, hvr]
    exact rfl
  have hok : ∀ (j : Nat) (t : TypeId) (r : Value), f.resultTypes[j]? = some t → ((Value.bool b).resultList f.resultTypes.size)[j]? = some r → Value.okWide Try.prog W' .any 0 t r :=
    ok_one hrt rfl (okWide_bool_mk Try.underlying4 _)
  refine ⟨ds, gs, p, [], p, [], hW, hr _ _ _, hargs _ hold, hvars _, World.keptBut_mono (fun q hq => ⟨hq, .inr (by simpa using hq)⟩) (hb.frame (· ∈ p)), fun _ => ?_⟩
  obtain ⟨_, _, _, _, _, hz, hn⟩ := hW
  refine ⟨hok, _, _, p, ⟨p, [], trodAll_append (hargs _ (fun _ _ => rfl)) (hr 0 _ _), hvars _, by simp, ?_, ?_⟩, ?_⟩
  · intro b off hp
    have hin : MemPlace.cell b off ∈ p := by simpa using hp
    rw [hb.frozen (hlt _ hin)]
    exact hz b off hin
  · intro ha
    cases ha
  · intro q hq _
    exact hq
end
end Go.Proofs.Ytjjeohnejhhacaa
