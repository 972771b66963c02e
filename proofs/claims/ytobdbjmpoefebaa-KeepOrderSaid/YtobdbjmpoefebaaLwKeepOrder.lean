/- The statement KeepOrder: for all input the law answers true, and its input reads as it did. No condition. -/
import Derived.Test.YtobdbjmpoefebaaOpenT
import Derived.Test.YtobdbjmpoefebaaWkKeepOrder
namespace Go.Proofs.Ytobdbjmpoefebaa.keepOrder
open Go.ChangeShapes Go.WideShapes Go.ChangeAt Go.RowKit

open Go.Deep in
/-- contributions that came in as nil have no room -/
theorem nil_contribs {H : Type} {enc : TypeId × Value → H} {W : World} {T : TB} {d : DataW H} {p : List MemPlace} (h : DataW.Trod enc Try.prog W 0 (fun _ => true) true 26 T.v d p) : T.AC = none → T.cC = 0 := by
  have k3 : Try.prog.cellsOf 23 = 1 := by kernel_rfl
  obtain ⟨fuel, hf⟩ := h
  obtain ⟨xs, m, _, _, _, hlen, hg⟩ := DataW.trod_struct Try.underlying26 hf
  have hl : xs.length = 5 := hlen
  have g1 : DataW.trod enc Try.prog W 0 (fun _ => true) true m 23 (([Value.slice T.AS T.nS T.cS, .slice T.AC T.nC T.cC, .slice T.AK T.nK T.cK, .int .i64 T.L, .int .i64 T.W].drop 1).take (Try.prog.cellsOf 23)) = xs[1]? := hg 1 _ rfl
  rw [k3, List.getElem?_eq_getElem (by omega)] at g1
  intro ha
  rcases open_slice Try.underlying23 g1 with ⟨hcs, _⟩ | ⟨a, len, cap, m', q, D, Pl, hcs, _⟩
  · have e : (Value.slice T.AC T.nC T.cC) = .slice none 0 0 := by simpa using hcs
    injection e
  · have e : (Value.slice T.AC T.nC T.cC) = .slice (some a) len cap := by simpa using hcs
    injection e with e1
    rw [ha] at e1
    cases e1
set_option maxRecDepth 100000 in
theorem lifted (os : Os) (started : os.Started) (H : Type) (enc : TypeId × Value → H) :
    ReturnsInHanded {} Try.checked os 3 .any (Rows.keepOrderSpec.pre6 enc Try.prog Try.f3 Rows.keepOrderRow.domain false) (Rows.keepOrderSpec.post enc Try.prog Try.f3 false true false false) := by
  refine returnsInHanded_of_change (C := Try.checked) ownNone started (by kernel_rfl) Try.func3
    (ChangeSpec.witness6 (enc := enc) (C := Try.checked) false ⟨#[], #[.agg #[.slice none 0 0, .slice none 0 0, .slice none 0 0, .int .i64 0, .int .i64 0]], []⟩ 8 (by kernel_rfl) (by kernel_rfl) (by kernel_rfl) (by kernel_rfl)) ?_
  intro W base args ds gs before hval0 hW hcnd _
  have hval : ∀ (j : Nat) t v, Try.f3.params[j]? = some t → args[j]? = some v → Value.okWide Try.prog W .any base t v := hval0
  have hW' := hW
  obtain ⟨p, q, hA0, hV, rfl, hfz, hnd⟩ := hW
  have hA : DataW.TrodAll enc Try.prog W 0 (fun _ => true) true Try.f3.params.toList args.toList ds p := hA0
  rw [Try.params3] at hA hval
  obtain ⟨v0, vs0, d0, ds0, p0, q0, hargs, rfl, rfl, h0, r0⟩ := trodAll_cons hA
  obtain ⟨rfl, rfl, rfl⟩ := trodAll_nil r0
  obtain rfl : args = #[v0] := by cases args; simp_all
  obtain ⟨rfl, rfl⟩ := trodVars_none hV
  obtain ⟨T0, rfl, hT0, hf0⟩ := open_table (hval 0 26 v0 rfl rfl) h0
  clear hA0 hval0 hcnd hfz hnd

  refine (wKeepOrder T0 W hT0 (nil_contribs h0)).mono fun e W' ⟨he, hb⟩ => ?_
  subst he
  exact ⟨_, rfl, post_true hW' rfl rfl rfl (by kernel_rfl) hb⟩

theorem proved : Rows.KeepOrderSaid :=
  OpenClaim.holds_of_wide 3 Try.f3 rfl rfl rfl rfl rfl rfl rfl ⟨rfl, rfl, rfl, rfl, rfl⟩ rfl rfl rfl rfl rfl (by kernel_rfl) Try.func3 (by kernel_rfl)
    (of_decide_eq_true (by kernel_rfl)) (by unfold Func.isWrapper; first | (rw [if_pos (by decide +kernel)]; kernel_rfl) | (rw [if_neg (by decide +kernel)]; exact ⟨rfl, rfl⟩))
    (fun os started H enc _ => lifted os started H enc)
#print axioms proved
end Go.Proofs.Ytobdbjmpoefebaa.keepOrder
