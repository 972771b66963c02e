/- What the laid variable gives a walk of period's laws (the table of the frequencies), and that the door's own heap lays it. -/
import Derived.Test.YtffihnbpjcgicaaDoorPost
import Derived.Test.YtffihnbpjcgicaaDoorPerC
import Derived.LaidMore
import Derived.Lib.LaidTab
import Derived.Lib.SmallJoins
import Derived.Deep.Strs
import Derived.Stop.Joined
import Derived.Stop.LaidErr
namespace Go.Proofs.YtffihnbpjcgicaaDoor
open Go Go.ChangeShapes Go.WideShapes Go.ChangeAt Go.RowKit Go.Lib
set_option linter.unusedVariables false
set_option linter.unusedSimpArgs false
set_option maxRecDepth 100000
section
variable {H : Type} {enc : TypeId × Value → H} {W : World} {base : Nat} {sp : Nat → Bool} {held : Bool}
theorem row_cells {fuel : Nat} {cs : List Value} {s : List UInt8} {a b : Int} {p : List MemPlace}
    (h : DataW.trod enc Tryd.prog W base sp held fuel 184 cs = some (.agg [.lit (.string s), .lit (.int .i64 a), .lit (.int .i64 b)], p)) : cs = [.string ⟨s.toArray⟩, .int .i64 a, .int .i64 b] := by
  obtain ⟨y0, y1, y2, n, hx, hl, t0, t1, t2⟩ := Go.Deep.trod_struct3 Tryd.underlying184 h
  simp only [Prod.mk.injEq, DataW.agg.injEq, List.cons.injEq, and_true] at hx
  obtain ⟨⟨x0, x1, x2⟩, _⟩ := hx
  have hC : Tryd.prog.cellsOf 184 = 3 := by kernel_rfl
  rw [hC] at hl
  match cs, hl with
  | [c0, c1, c2], _ =>
    have h0 := DataW.trod_string (P := Tryd.prog) Tryd.underlying9 (cs := [c0]) (x := y0) (by simpa [show Tryd.prog.cellsOf 9 = 1 by kernel_rfl] using t0)
    have h1 := DataW.trod_int (P := Tryd.prog) Tryd.underlying3 (cs := [c1]) (x := y1) (by simpa [show Tryd.prog.cellsOf 3 = 1 by kernel_rfl] using t1)
    have h2 := DataW.trod_int (P := Tryd.prog) Tryd.underlying3 (cs := [c2]) (x := y2) (by simpa [show Tryd.prog.cellsOf 3 = 1 by kernel_rfl] using t2)
    obtain ⟨s', e0, g0, _⟩ := h0
    obtain ⟨a', e1, g1, _⟩ := h1
    obtain ⟨b', e2, g2, _⟩ := h2
    subst g0 g1 g2
    simp only [DataW.lit.injEq, Lit.string.injEq, Lit.int.injEq, true_and] at x0 x1 x2
    simp only [List.cons.injEq, and_true] at e0 e1 e2
    subst e0 e1 e2 x0 x1 x2
    simp
theorem table_row {fuel : Nat} {cs : List Value} {rows : List (DataW H)} {p : List MemPlace}
    (h : DataW.trod enc Tryd.prog W base sp held fuel 185 cs = some (.agg rows, p)) (i : Nat) (hi : i < 5) {s : List UInt8} {a b : Int} (hr : rows[i]? = some (.agg [.lit (.string s), .lit (.int .i64 a), .lit (.int .i64 b)])) :
    (cs.drop (i * 3)).take 3 = [.string ⟨s.toArray⟩, .int .i64 a, .int .i64 b] := by
  cases fuel with
  | zero => simp [DataW.trod] at h
  | succ fuel =>
    have hce : Tryd.prog.cellsOf 184 = 3 := by kernel_rfl
    simp only [DataW.trod, Tryd.underlying185, hce] at h
    split at h
    · obtain ⟨xs, hm, hx⟩ := Option.map_eq_some_iff.1 h
      obtain ⟨q, hq, hf⟩ := mapM_at hm i i (by simp [hi])
      have hxs : xs.map (·.1) = rows := by
        have := congrArg Prod.fst hx
        simpa using this
      have hq1 : q.1 = .agg [.lit (.string s), .lit (.int .i64 a), .lit (.int .i64 b)] := by
        rw [← hxs] at hr
        simp only [List.getElem?_map, hq, Option.map_some, Option.some.injEq] at hr
        exact hr
      obtain ⟨q1, q2⟩ := q
      simp only at hq1
      subst hq1
      exact row_cells hf
    · cases h
end
/-- the laid variables of the rows -/
def laidP : List (String × DataW Unit) := [("stipend/period.kinds", Rows.laid_stipend_period_kinds)]
theorem doorP_met (os : Os) (args : Array Value) : laidMetH Tryd.prog laidP ((World.doorLaid Tryd.prog 400 os).forCall (fun _ _ => 0) ⟨#[], args, []⟩).memory :=
  laidMetH_of_parts3 (fuel := 8) (laidMet_of_run' 65 (by kernel_rfl) (by kernel_rfl)) (by kernel_rfl) (by kernel_rfl)
theorem kinds_of_laid {W : World} (h : laidMetH Tryd.prog laidP W) : Kinds W := by
  rw [MakeChecks.laidMetH_plain _ _ _ (by kernel_rfl)] at h
  obtain ⟨ps, ⟨g, t, cs, fuel, p, q, hg, ht, hvar, hd, _, _⟩, _⟩ := h
  have hb : Tryd.prog.globalNamed "stipend/period.kinds" = some 0 := by kernel_rfl
  obtain rfl := Option.some.inj (hb.symm.trans hg)
  have hbt : (Tryd.prog.globals[0]?).map (·.type) = some 185 := by kernel_rfl
  obtain rfl := Option.some.inj (hbt.symm.trans ht)
  have hcell := fun i => World.var?_cell hg hvar i
  have r1 := table_row hd 1 (by omega) rfl
  have r2 := table_row hd 2 (by omega) rfl
  have r3 := table_row hd 3 (by omega) rfl
  have r4 := table_row hd 4 (by omega) rfl
  have gl : ∀ (i k : Nat) (v : Value) (l : List Value), (cs.toList.drop (i * 3)).take 3 = l → l[k]? = some v → k < 3 → W.cell? ⟨0, i * 3 + k, none⟩ = some v := fun i k v l hl hv hk => by
    rw [hcell, ← hv, ← hl]
    simp [List.getElem?_take, List.getElem?_drop, hk]
  have hz := World.block_lt_of_cell? _ _ (gl 1 0 _ _ r1 rfl (by omega))
  exact ⟨gl 1 0 _ _ r1 rfl (by omega), gl 1 1 _ _ r1 rfl (by omega), gl 1 2 _ _ r1 rfl (by omega), gl 2 0 _ _ r2 rfl (by omega), gl 2 1 _ _ r2 rfl (by omega), gl 2 2 _ _ r2 rfl (by omega), gl 3 0 _ _ r3 rfl (by omega), gl 3 1 _ _ r3 rfl (by omega), gl 3 2 _ _ r3 rfl (by omega), gl 4 0 _ _ r4 rfl (by omega), gl 4 1 _ _ r4 rfl (by omega), gl 4 2 _ _ r4 rfl (by omega), hz⟩
end Go.Proofs.YtffihnbpjcgicaaDoor
