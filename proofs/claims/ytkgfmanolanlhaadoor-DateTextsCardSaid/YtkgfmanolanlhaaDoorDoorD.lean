/- What the laid variables give a walk of date's laws, that the door's own heap lays them, and the last step where the world's shape is handed on. -/
import Derived.Test.YtkgfmanolanlhaaDoorPost
import Derived.Test.YtkgfmanolanlhaaDoorOpenD
import Derived.Test.YtkgfmanolanlhaaDoorDaysD
import Derived.LaidMore
import Derived.Lay
import Derived.Lib.LaidTab
import Derived.Stop.Joined
import Derived.Stop.LaidErr
namespace Go.Proofs.YtkgfmanolanlhaaDoor
open Go Go.ChangeShapes Go.WideShapes Go.ChangeAt Go.RowKit
set_option linter.unusedVariables false
set_option maxRecDepth 100000
/-- the laid variables of the rows -/
def laidD : List (String × DataW Unit) := [("math/bits.deBruijn32tab", Rows.laid_math_bits_deBruijn32tab), ("math/bits.deBruijn64tab", Rows.laid_math_bits_deBruijn64tab), ("internal/strconv.uint64pow10", Rows.laid_internal_strconv_uint64pow10), ("unicode/utf8.acceptRanges", Rows.laid_unicode_utf8_acceptRanges), ("strconv.ErrRange", Rows.laid_strconv_ErrRange), ("strconv.ErrSyntax", Rows.laid_strconv_ErrSyntax), ("stipend/date.widths", Rows.laid_stipend_date_widths), ("unicode/utf8.first", Rows.laid_unicode_utf8_first)]
theorem doorD_met (os : Os) (args : Array Value) : laidMetH Tryd.prog laidD ((World.laidAll Tryd.prog os laidD).forCall (fun _ _ => 0) ⟨#[], args, []⟩).memory := by
  rw [MakeChecks.laidMetH_plain _ _ _ (by kernel_rfl)]
  exact laidMet_laidAll _ (by kernel_rfl) (by kernel_rfl)
theorem starE : "*" ++ "errors.errorString" = "*errors.errorString" := by decide
theorem rowE (u : TypeId) (h : Tryd.prog.typeName? 3 u = some "*errors.errorString") : u = 132 :=
  typeName_ptr_named (nm := "errors.errorString") (by rw [starE]; kernel_rfl) (by kernel_rfl) (by decide) u (by rw [starE]; exact h)
theorem door_of_laid {W : World} (h : laidMetH Tryd.prog laidD W) (hs : W.ShapedOpen Tryd.prog) : Door W := by
  rw [MakeChecks.laidMetH_plain _ _ _ (by kernel_rfl)] at h
  have h2 := h.tail.tail
  have h4 := h2.tail.tail
  have h5 := h4.tail
  have h6 := h5.tail
  have gt : Tryd.prog.globalNamed "internal/strconv.uint64pow10" = some 4 := by kernel_rfl
  have tt : (Tryd.prog.globals[4]?).map (·.type) = some 129 := by kernel_rfl
  have HT : Tab W := Lib.tabIs_of_head (rest := _) gt tt Tryd.underlying129 Tryd.underlying69 (by kernel_rfl) (by kernel_rfl) h2
  have gw : Tryd.prog.globalNamed "stipend/date.widths" = some 0 := by kernel_rfl
  have tw : (Tryd.prog.globals[0]?).map (·.type) = some 60 := by kernel_rfl
  have HW : Lib.TabIs Tryd.prog W "stipend/date.widths" .i64 [4, 2, 2] := Lib.tabIs_of_head (rest := _) gw tw Tryd.underlying60 Tryd.underlying3 (by kernel_rfl) (by kernel_rfl) h6
  have w0 : W.cell? ⟨0, 0, none⟩ = some (.int .i64 4) := by simpa using World.var?_cell gw HW 0
  have w1 : W.cell? ⟨0, 1, none⟩ = some (.int .i64 2) := by simpa using World.var?_cell gw HW 1
  have w2 : W.cell? ⟨0, 2, none⟩ = some (.int .i64 2) := by simpa using World.var?_cell gw HW 2
  have gr : Tryd.prog.globalNamed "strconv.ErrRange" = some 3 := by kernel_rfl
  have tr : (Tryd.prog.globals[3]?).map (·.type) = some 71 := by kernel_rfl
  have gs : Tryd.prog.globalNamed "strconv.ErrSyntax" = some 2 := by kernel_rfl
  have ts : (Tryd.prog.globals[2]?).map (·.type) = some 71 := by kernel_rfl
  obtain ⟨a, _, vr, _⟩ := laid_sentinel h4 gr tr Tryd.underlying71 rowE Tryd.underlying132 Tryd.underlying134 rfl rfl Tryd.underlying9 (by kernel_rfl) (by kernel_rfl)
  obtain ⟨b, _, vs, _⟩ := laid_sentinel h5 gs ts Tryd.underlying71 rowE Tryd.underlying132 Tryd.underlying134 rfl rfl Tryd.underlying9 (by kernel_rfl) (by kernel_rfl)
  have cr : W.cell? ⟨3, 0, none⟩ = some (.iface 132 (.pointer (some a))) := by simpa using World.var?_cell gr vr 0
  have cs : W.cell? ⟨2, 0, none⟩ = some (.iface 132 (.pointer (some b))) := by simpa using World.var?_cell gs vs 0
  obtain ⟨m, hm⟩ : ∃ m, W.cell? ⟨5, 0, none⟩ = some (.int .i64 m) := Tryd.laysM147.s1_3 W hs
  exact ⟨⟨⟨w0, w1, w2⟩, World.block_lt_of_cell? _ _ w0⟩, HT, ⟨⟨_, _, cs⟩, World.block_lt_of_cell? _ _ cs⟩, ⟨⟨_, _, cr⟩, World.block_lt_of_cell? _ _ cr⟩, ⟨m, hm⟩, World.block_lt_of_cell? _ _ hm⟩

/-- the last step of a row whose world's shape the contract wants -/
theorem returns_laid_shaped {H : Type} {enc : TypeId × Value → H} {a : Assume} {C : Checked} {os : Os} {f : FuncId} {fn : Func} {s : ChangeSpec} {conds : List PathCond} {apart fresh handsOn again : Bool} {X : World → Array Value → Prop}
    (hX : ∀ (w w' : World) (args : Array Value), w.heap = w'.heap → X w args → X w' args)
    (own : ownKnob C.prog.godebug = none) (started : os.Started) (noInit : C.prog.inits.idxOf? f = none) (hfn : C.prog.funcs[f]? = some fn)
    (witness : ∃ (w : World) (tape : Tape) (i : Input), w.os = os ∧ (w.forCall tape i).Shaped C.prog ∧ i.vars = [] ∧ Input.okWide C.prog (w.forCall tape i) .any w.heap.size f i ∧
      ((s.pre enc C.prog fn conds apart (w.forCall tape i).memory i.args ∧ X (w.forCall tape i).memory i.args) ∧ sizedMet enc C.prog fn (OpenSpec.ofChange s) apart (w.forCall tape i).memory i.args) ∧ a.holds C.prog (lone (Frame.enter C.prog f i.args .normal) [] (w.forCall tape i)))
    (contract : ∀ (W : World) (base : Nat) (args : Array Value) (ds gs : List (DataW H)) (before : List MemPlace),
      (∀ (j : Nat) t v, fn.params[j]? = some t → args[j]? = some v → Value.okWide C.prog W .any base t v) →
      DataW.Whole enc C.prog fn.params.toList s.vars apart W args.toList ds gs before → X W args → W.ShapedOpen C.prog →
      Calls C.prog f args W fun e W' => ∃ v, e = .returned v ∧ s.post enc C.prog fn apart fresh handsOn again W args v W') :
    ReturnsInHanded a C os f .any (fun w args => (s.pre enc C.prog fn conds apart w args ∧ X w args) ∧ sizedMet enc C.prog fn (OpenSpec.ofChange s) apart w args) (s.post enc C.prog fn apart fresh handsOn again) := by
  refine returnsInHanded_of_calls own started noInit witness ?_
  intro w tape i _ hsh _ hok hpre hholds
  obtain ⟨_, _, _, fn', hfn', _, _, _, _, hval⟩ := hok
  have e : fn' = fn := Option.some.inj (hfn'.symm.trans hfn)
  subst e
  obtain ⟨⟨⟨ds, gs, before, hw, hc⟩, hx⟩, hz⟩ := hpre
  have hw' := DataW.Whole.of_heap (w' := w.forCall tape i) (by rfl) hw
  refine (contract (w.forCall tape i) w.heap.size i.args ds gs before hval hw' (hX _ _ _ (by rfl) hx) hsh).mono fun e W' ⟨v, he, hp⟩ => ?_
  subst he
  exact ChangeSpec.post_blind hp
end Go.Proofs.YtkgfmanolanlhaaDoor
