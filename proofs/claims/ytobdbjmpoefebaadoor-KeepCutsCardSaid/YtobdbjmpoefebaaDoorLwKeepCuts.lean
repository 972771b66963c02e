/- The statement KeepCuts, as a tied card: for all input the law answers true, where the listed tables read as the text lays them; the card ties them. -/
import Derived.Test.YtobdbjmpoefebaaDoorDoorK
import Derived.Test.YtobdbjmpoefebaaDoorOpenT
import Derived.Test.YtobdbjmpoefebaaDoorOpenC
import Derived.Test.YtobdbjmpoefebaaDoorWkKeepCuts
import Derived.Test.YtobdbjmpoefebaaDoorCards
import Derived.Test.YtobdbjmpoefebaaDoorTie
import Derived.SevenTiedAt
namespace Go.Proofs.YtobdbjmpoefebaaDoor.keepCuts
open Go Go.ChangeShapes Go.WideShapes Go.ChangeAt Go.RowKit

set_option maxRecDepth 100000 in
open Go.Deep in
/-- contributions that came in as nil have no room -/
theorem nil_contribs {H : Type} {enc : TypeId × Value → H} {W : World} {T : TB} {d : DataW H} {p : List MemPlace} (h : DataW.Trod enc Tryd.prog W 0 (fun _ => true) true 26 T.v d p) : T.AC = none → T.cC = 0 := by
  have k3 : Tryd.prog.cellsOf 23 = 1 := by kernel_rfl
  obtain ⟨fuel, hf⟩ := h
  obtain ⟨xs, m, _, _, _, hlen, hg⟩ := DataW.trod_struct Tryd.underlying26 hf
  have hl : xs.length = 5 := hlen
  have g1 : DataW.trod enc Tryd.prog W 0 (fun _ => true) true m 23 (([Value.slice T.AS T.nS T.cS, .slice T.AC T.nC T.cC, .slice T.AK T.nK T.cK, .int .i64 T.L, .int .i64 T.W].drop 1).take (Tryd.prog.cellsOf 23)) = xs[1]? := hg 1 _ rfl
  rw [k3, List.getElem?_eq_getElem (by omega)] at g1
  intro ha
  rcases open_slice Tryd.underlying23 g1 with ⟨hcs, _⟩ | ⟨a, len, cap, m', q, D, Pl, hcs, _⟩
  · have e : (Value.slice T.AC T.nC T.cC) = .slice none 0 0 := by simpa using hcs
    exact (Value.slice.inj e).2.2
  · have e : (Value.slice T.AC T.nC T.cC) = .slice (some a) len cap := by simpa using hcs
    exact absurd (ha.symm.trans (Value.slice.inj e).1).symm (Option.some_ne_none a)
set_option maxRecDepth 100000 in
theorem lifted (os : Os) (started : os.Started) (H : Type) (enc : TypeId × Value → H) :
    ReturnsInHanded {} Tryd.checked os 3 .any (fun w args => (Rows.keepCutsSpec.pre enc Tryd.prog Tryd.f3 [] false w args ∧ laidMetH Tryd.prog laidK w) ∧ sizedMet enc Tryd.prog Tryd.f3 (OpenSpec.ofChange Rows.keepCutsSpec) false w args)
      (Rows.keepCutsSpec.post enc Tryd.prog Tryd.f3 false true false false) := by
  refine returnsInHanded_of_change_and (C := Tryd.checked) (X := fun w _ => laidMetH Tryd.prog laidK w) (fun _ _ _ hh h => h.of_heap hh) ownNone started (by kernel_rfl) Tryd.func3
    (ChangeSpec.witness_shaped (enc := enc) (C := Tryd.checked) (os := os) (X := fun w _ => laidMetH Tryd.prog laidK w) false (World.laidAll Tryd.prog os laidK) #[.agg #[.slice none 0 0, .slice none 0 0, .slice none 0 0, .int .i64 0, .int .i64 0]] 8 (World.laidAll_os _ _ _) (World.shaped_of_ZipB (by kernel_rfl) (by kernel_rfl)) (by kernel_rfl) (by kernel_rfl) (by kernel_rfl) (doorK_met os _)) ?_
  intro W base args ds gs before hval0 hW _ hsz0 hL _
  have hval : ∀ (j : Nat) t v, Tryd.f3.params[j]? = some t → args[j]? = some v → Value.okWide Tryd.prog W .any base t v := hval0
  have hW' := hW
  obtain ⟨p, q, hA0, hV, rfl, hfz, hnd⟩ := hW
  have hA : DataW.TrodAll enc Tryd.prog W 0 (fun _ => true) true Tryd.f3.params.toList args.toList ds p := hA0
  rw [Tryd.params3] at hA hval
  obtain ⟨v0, vs0, d0, ds0, p0, q0, hargs, rfl, rfl, h0, r0⟩ := trodAll_cons hA
  obtain ⟨rfl, rfl, rfl⟩ := trodAll_nil r0
  obtain rfl : args = #[v0] := by cases args; simp_all
  obtain ⟨rfl, rfl⟩ := trodVars_none hV
  obtain ⟨T0, rfl, hT0, hf0⟩ := open_table (hval 0 26 v0 rfl rfl) h0
  have ht := tab_of_laidK hL
  clear hA0 hval0 hfz hnd hL

  refine (wKeepCuts T0 W hT0 ht (nil_contribs h0)).mono fun e W' ⟨he, hb⟩ => ?_
  subst he
  exact ⟨_, rfl, post_true hW' rfl rfl rfl (by kernel_rfl) hb⟩

theorem row_holds : Rows.KeepCutsSaid :=
  OpenClaim.holds_of_wide 3 Tryd.f3 rfl rfl rfl rfl rfl rfl rfl ⟨rfl, rfl, rfl, rfl, rfl⟩ rfl rfl rfl rfl rfl (by kernel_rfl) Tryd.func3 (by kernel_rfl)
    (of_decide_eq_true (by kernel_rfl)) (by unfold Func.isWrapper; first | (rw [if_pos (by decide +kernel)]; kernel_rfl) | (rw [if_neg (by decide +kernel)]; exact ⟨rfl, rfl⟩))
    (fun os started H enc _ => lifted os started H enc)
theorem proved : Rows.KeepCutsCardSaid :=
  Claim7.holds_tied_plain_at .later [] [.data, .data, .data] true (true, "280515d6d6cbf9e941e6e24fde7978815e1dc5ecf38c7b55246db7698cd319d3") false
    row_holds (fun _ h => by cases h) (by kernel_rfl) (fun _ h => by cases h) keepCuts_row_tie rfl ⟨rfl, rfl⟩ (by kernel_rfl) rfl
    (fun f fn hf hfn => by
      obtain rfl : f = 3 := Option.some.inj ((show Tryd.prog.funcNamed "stipend/stipendlaw10.KeepCuts" = some 3 by kernel_rfl).symm.trans hf) |>.symm
      obtain rfl : fn = Tryd.f3 := (Option.some.inj (Tryd.func3.symm.trans hfn)).symm
      exact ⟨by kernel_rfl, fun j t ht => by
        rw [Tryd.params3] at ht
        have hm : t ∈ [26] := by simpa using Array.mem_of_getElem? ht
        have hall : ([26].all fun u => !Tryd.prog.wantsStandIn u) = true := by kernel_rfl
        exact (show Tryd.prog.wantsStandIn t = false by simpa using List.all_eq_true.1 hall t hm)⟩)
    (by kernel_rfl)
#print axioms proved
end Go.Proofs.YtobdbjmpoefebaaDoor.keepCuts
