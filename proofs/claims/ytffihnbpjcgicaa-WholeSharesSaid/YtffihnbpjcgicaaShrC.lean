/- What share.Year's Posted answers. -/
import Derived.Test.YtffihnbpjcgicaaShrB
import Derived.Laws.CopyRow
import Derived.Deep.WholeRow
namespace Go.Proofs.Ytffihnbpjcgicaa
open Go.RowKit Go.Sort Go.Deep
set_option linter.unusedVariables false
set_option linter.unusedSimpArgs false

theorem run_copy_two {P : Program} (w : World) (dT sT ty elem : TypeId) (g dLen dCap : Nat) (a : Addr) (sLen sCap : Nat) (cur : Array Value) (t : TypeId) (cs : List Value)
    (hu : P.underlying dT = some (.slice elem)) (hs : (P.info? elem).map (·.size) = some 2)
    (hg : w.heap[g]? = some (.cells cur t (0, 0))) (hn : cs.length = Nat.min sLen dLen * 2)
    (hsrc : ∀ j v, cs[j]? = some v → w.cell? (a.add j) = some v) (hfit : cs.length = cur.size) (h1 : ∀ v ∈ cs, v.oneCell' = true) :
    (Builtin.copy_ #[dT, sT] ty #[.slice (some ⟨g, 0, none⟩) dLen dCap, .slice (some a) sLen sCap]).run P w =
      .ok (goInt (Nat.min sLen dLen)) (w.setRow g cs.toArray) := by
  have hl := run_loadCells_list (P := P) w a cs hsrc
  have hst := run_storeCells_at P g 0 t cs 0 cur w hg (by omega) h1
  have e : (cur.toList.take (0 + 0) ++ cs ++ cur.toList.drop (0 + 0 + cs.length)) = cs := by
    rw [List.drop_of_length_le (by simp [hfit])]
    simp
  rw [e] at hst
  cases hq : P.info? elem with
  | none => simp [hq] at hs
  | some i =>
    have hi : i.size = 2 := by simpa [hq] using hs
    simp [Builtin.copy_, run_underlying hu, Builtin.lenOf, Builtin.firstCells, sizeOf, typeInfo, hq, hi, ← hn, hl, hst]
theorem posted_ok {W : World} {B p n : Nat} {X Y : Nat → Int} {k : Int} (h : YrO W B p n X Y k) (hn : n ≤ 64) :
    Calls Try.prog 5 #[.pointer (some ⟨p, 0, none⟩)] W fun e w' => ∃ b, e = .returned (.slice (some ⟨b, 0, none⟩) n n) ∧ W.heap.size ≤ b ∧ ShB w' b n X Y ∧ Below W.heap.size W w' := by
  obtain ⟨cs, hmk, hsb⟩ := make_sh n (by omega)
  have SB := hsb W
  have NB := below_new W (.cells cs 47)
  obtain ⟨b, K, S, hb1, hb2, hb3⟩ := h
  have k00 := K.cell (i := 0) rfl
  replace K := K.below NB
  have S2 := S.below NB
  have k0 := K.cell (i := 0) rfl
  have hcs : cs.size = n * 2 := by
    obtain ⟨c, hc, hz, _⟩ := SB
    have : (W.alloc (.cells cs 47)).heap[W.heap.size]? = some (.cells cs 47 (0, 0)) := bx_new W cs.toList 47
    rw [this] at hc
    simp at hc
    rw [hc]; exact hz
  have hcp := run_copy_two (P := Try.prog) (W.alloc (.cells cs 47)) 33 33 3 47 W.heap.size n n ⟨b, 0, none⟩ n n cs 47 (shc ((List.range n).map fun i => (X i, Y i))) (by kernel_rfl) (by kernel_rfl) (bx_new W cs.toList 47) (by rw [shc_len]; simp) (fun j v hv => by
    rw [Go.WideShapes.add_plain, Nat.zero_add]
    have hj : j < n * 2 := by
      have := (List.getElem?_eq_some_iff.1 hv).1
      rw [shc_len] at this; simpa using this
    have hc := World.rowIs.cell S2 (i := j) hj
    have hs := shc_get ((List.range n).map fun i => (X i, Y i)) (j / 2) (X (j / 2), Y (j / 2)) (by rw [List.getElem?_map, List.getElem?_range (by omega)]; rfl)
    rw [hc]
    rcases (show j % 2 = 0 ∨ j % 2 = 1 by omega) with e | e
    · rw [if_pos e]
      rw [show j / 2 * 2 = j by omega, hv] at hs
      exact hs.1.symm
    · rw [if_neg (by omega)]
      rw [show j / 2 * 2 + 1 = j by omega, hv] at hs
      exact hs.2.symm) (by rw [shc_len, hcs]; simp) (fun v hv => by
    unfold shc at hv
    obtain ⟨p, _, hp⟩ := List.mem_flatMap.1 hv
    simp at hp
    rcases hp with rfl | rfl <;> rfl)
  rw [World.setRow_alloc_new] at hcp
  have NB2 := below_new W (.cells (shc ((List.range n).map fun i => (X i, Y i))).toArray 47)
  have HS : ShB (W.alloc (.cells (shc ((List.range n).map fun i => (X i, Y i))).toArray 47)) W.heap.size n X Y := by
    have hl : (shc ((List.range n).map fun i => (X i, Y i))).length = n * 2 := by rw [shc_len]; simp
    have := World.rowIs_alloc W (shc ((List.range n).map fun i => (X i, Y i))).toArray 47 (fun q => .int .i64 (if q % 2 = 0 then X (q / 2) else Y (q / 2))) (fun j hj => by
      have hj2 : j < n * 2 := by simpa [hl] using hj
      have hs := shc_get ((List.range n).map fun i => (X i, Y i)) (j / 2) (X (j / 2), Y (j / 2)) (by rw [List.getElem?_map, List.getElem?_range (by omega)]; rfl)
      rw [List.getElem?_toArray]
      rcases (show j % 2 = 0 ∨ j % 2 = 1 by omega) with e | e
      · rw [if_pos e]
        rw [show j / 2 * 2 = j by omega] at hs
        exact hs.1
      · rw [if_neg (by omega)]
        rw [show j / 2 * 2 + 1 = j by omega] at hs
        exact hs.2)
    rw [show (shc ((List.range n).map fun i => (X i, Y i))).toArray.size = n * 2 by simpa using hl] at this
    exact this
  have HH := Lib.hid HS
  clear hsb S HS
  go_enter Try.func5, Try.ntmps5
  go_wp2
  go_ret
  exact ⟨_, rfl, Nat.le_refl _, HH.out, NB2⟩
end Go.Proofs.Ytffihnbpjcgicaa
