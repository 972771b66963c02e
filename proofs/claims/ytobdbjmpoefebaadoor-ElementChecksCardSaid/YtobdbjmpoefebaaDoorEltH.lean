/- What element.Sums answers of any elements. -/
import Derived.Test.YtobdbjmpoefebaaDoorEltS
import Derived.Test.YtobdbjmpoefebaaDoorEltF
import Derived.Test.YtobdbjmpoefebaaDoorCloE
namespace Go.Proofs.YtobdbjmpoefebaaDoor
open Go.RowKit
set_option linter.unusedVariables false
set_option linter.unusedSimpArgs false

def smG (p : ByteArray × Int) : List Value := [.string p.1, .int .i64 p.2]
abbrev sm0 : ByteArray × Int := (⟨#[]⟩, 0)
/-- sums in a row of the call's own -/
def SmO (w : World) (B : Nat) (v : Value) (S : SmL) : Prop := w.ownsRow B 69 2 v S.length (S.flatMap smG)
theorem sm_nil (w : World) (B : Nat) : SmO w B (.slice none 0 0) [] := ⟨rfl, .inl ⟨rfl, rfl⟩⟩
theorem SmO.below {w w' : World} {B : Nat} {v : Value} {S : SmL} (h : SmO w B v S) (hb : Below w.heap.size w w') : SmO w' B v S := own_below h hb
theorem sm_push {w : World} {B : Nat} {v : Value} {S : SmL} {N : ByteArray} {x : Int} (h : w.ownsRow B 69 2 v (S.length + 1) (S.flatMap smG ++ [.string N, .int .i64 x])) : SmO w B v (S ++ [(N, x)]) := by
  unfold SmO
  rw [List.length_append, List.flatMap_append]
  simpa [smG] using h
theorem flatS_get : ∀ (S : SmL) (i j : Nat), i < S.length → j < 2 → (S.flatMap smG)[i * 2 + j]? = (smG (S.getD i sm0))[j]?
  | [], i, j, h, _ => absurd h (Nat.not_lt_zero _)
  | e :: r, 0, j, _, hj => by
    rw [List.flatMap_cons, List.getElem?_append_left (by simp [smG]; omega)]
    simp
  | e :: r, i + 1, j, h, hj => by
    rw [List.flatMap_cons, List.getElem?_append_right (by simp [smG]; omega)]
    have := flatS_get r i j (by simpa using h) hj
    simp only [smG, List.length_cons, List.length_nil] at *
    rw [show (i + 1) * 2 + j - (0 + 1 + 1) = i * 2 + j by omega, this]
    simp
theorem flatS_set : ∀ (S : SmL) (i : Nat) (x : Int), i < S.length → (S.flatMap smG).set (i * 2 + 1) (.int .i64 x) = (S.set i ((S.getD i sm0).1, x)).flatMap smG
  | [], i, x, h => absurd h (Nat.not_lt_zero _)
  | e :: r, 0, x, _ => by
    rw [List.flatMap_cons]
    simp [smG]
  | e :: r, i + 1, x, h => by
    have := flatS_set r i x (by simpa using h)
    rw [List.flatMap_cons]
    rw [List.set_append_right _ _ (by simp [smG]; omega)]
    rw [show (i + 1) * 2 + 1 - (smG e).length = i * 2 + 1 by simp [smG]; omega, this]
    simp
/-- what the row's value is, and its cells -/
theorem sm_row {w : World} {B : Nat} {v : Value} {S : SmL} (h : SmO w B v S) : ∃ A c, v = .slice A S.length c ∧ S.length ≤ maxLen ∧ ∀ i, i < S.length → ∃ g, A = some ⟨g, 0, none⟩ ∧ B ≤ g ∧ g < w.heap.size ∧ w.cell? ⟨g, i * 2, none⟩ = some (.string (S.getD i sm0).1) ∧ w.cell? ⟨g, i * 2 + 1, none⟩ = some (.int .i64 (S.getD i sm0).2) ∧ (∀ q, w.frozen? ⟨g, q, none⟩ = false) ∧
    ∀ x : Int, SmO (w.setCell ⟨g, i * 2 + 1, none⟩ (.int .i64 x)) B v (S.set i ((S.getD i sm0).1, x)) := by
  have h0 := h
  obtain ⟨hl, ⟨rfl, hn⟩ | ⟨g, cap, cur, rfl, hg, hh, hc, hm, hcs, ht⟩⟩ := h
  · exact ⟨none, 0, by rw [hn], by rw [hn]; exact Nat.zero_le _, fun i hi => by omega⟩
  · refine ⟨some ⟨g, 0, none⟩, cap, rfl, Nat.le_trans hc hm, fun i hi => ?_⟩
    have f := own_frozen h0
    have k0 : (S.flatMap smG)[i * 2]? = some (.string (S.getD i sm0).1) := by
      have := flatS_get S i 0 hi (by omega)
      simpa [smG] using this
    have k1 : (S.flatMap smG)[i * 2 + 1]? = some (.int .i64 (S.getD i sm0).2) := by
      have := flatS_get S i 1 hi (by omega)
      simpa [smG] using this
    refine ⟨g, rfl, (f 0).1, (f 0).2.1, own_cell h0 k0, own_cell h0 k1, fun q => (f q).2.2, fun x => ?_⟩
    have := own_set h0 (i * 2 + 1) (.int .i64 x)
    rw [flatS_set S i x hi] at this
    unfold SmO
    rw [List.length_set]
    exact this
theorem info_sm : (Tryd.prog.info? 69).map (fun i => (i.zero, i.size, i.bytes)) = some (some (.agg #[.string ⟨#[]⟩, .int .i64 0]), 2, 24) := by kernel_rfl
theorem cell_new2 (w : World) (x y : Value) (t : TypeId) : ∀ j u, [x, y][j]? = some u → (w.alloc (.cells #[x, y] t)).cell? ((⟨w.heap.size, 0, none⟩ : Addr).add j) = some u := by
  intro j u hu
  have hj : j < 2 := by
    rcases Nat.lt_or_ge j 2 with h | h
    · exact h
    · rw [List.getElem?_eq_none (by simp; omega)] at hu; cases hu
  rcases (show j = 0 ∨ j = 1 by omega) with rfl | rfl <;> · simp at hu; subst hu; simp [Addr.add, World.cell?_alloc_new]
theorem sum1_any (M : ByteArray) (x : Int) (N : ByteArray) (p : Nat) (w : World) (hp : w.cell? ⟨p, 0, none⟩ = some (.string N)) (v : Bool) (hv : decide (M = N) = v) :
    Calls Tryd.prog 75 #[.agg #[.string M, .int .i64 x], .pointer (some ⟨p, 0, none⟩)] w fun e w' => e = .returned (.bool v) ∧ Below w.heap.size w w' := by
  have E := str_b M N v hv
  clear hv
  have hlt := World.block_lt_of_cell? _ _ hp
  have hq : p ≠ w.heap.size := by
    have : p < w.heap.size := hlt
    omega
  go_enter Tryd.func75, Tryd.ntmps75
  go_wp2
  go_ret
  exact ⟨rfl, (Below.refl _ _).alloc (Nat.le_refl _) _⟩
/-- the number of the first sum of a name, or -1 -/
def sumI (S : SmL) (N : ByteArray) : Int := idxN (fun j => decide ((S.getD j sm0).1 = N)) S.length
set_option maxHeartbeats 1000000 in
theorem idxsum_any (v : Value) (B p : Nat) (w : World) (S : SmL) (N : ByteArray) (h : SmO w B v S) (hp : w.cell? ⟨p, 0, none⟩ = some (.string N)) :
    Calls Tryd.prog 74 #[v, .func (.func 75) #[] #[.pointer (some ⟨p, 0, none⟩)]] w fun e w' => e = .returned (.int .i64 (sumI S N)) ∧ Below w.heap.size w w' := by
  obtain ⟨A, c, rfl, hm, hc⟩ := sm_row h
  have hm' : S.length ≤ 9223372036854775807 := by unfold maxLen at hm; omega
  have HC := Lib.hid hc
  have HI : Hid (sumI S N = idxN (fun j => decide ((S.getD j sm0).1 = N)) S.length) := Lib.hid rfl
  clear hc h hm
  generalize sumI S N = I at *
  generalize S.length = n at *
  go_enter Tryd.func74, Tryd.ntmps74
  go_wp2
  go_loopw [8] (fun k W => ∃ i : Nat, i ≤ n ∧ Hid (∀ j, j < i → decide ((S.getD j sm0).1 = N) = false) ∧ k = .int .i64 i ∧ Below w.heap.size w W) (fun k _ => n - (intOf k).toNat)
  case atStart => exact ⟨0, Nat.zero_le _, Lib.hid fun j hj => absurd hj (Nat.not_lt_zero _), rfl, Below.refl _ _⟩
  case round =>
    obtain ⟨i, hi, hs, rfl, hb⟩ := hrel
    have hpp := cell_later hb hp
    by_cases hlt : i < n
    · obtain ⟨g, rfl, _, _, c0, c1, _⟩ := HC.out i hlt
      have d0 := cell_later hb c0
      have d1 := cell_later hb c1
      clear c0 c1
      cases hv : decide ((S.getD i sm0).1 = N)
      · have f := fun x w q => sum1_any (S.getD i sm0).1 x N p w q false hv
        have HS : Hid (∀ j, j < i + 1 → decide ((S.getD j sm0).1 = N) = false) := Lib.hid fun j hj => by
          by_cases e : j = i
          · subst e; exact hv
          · exact hs.out j (by omega)
        clear hv hs
        generalize (S.getD i sm0).1 = M at *
        generalize (S.getD i sm0).2 = x at *
        go_wp2_with (fail)
        refine (f _ _ hpp).mono ?_
        rintro e w2 ⟨rfl, hb2⟩
        go_wp2
        go_roundw
        case rel => exact ⟨i + 1, by omega, HS, by go_num, below_step hb hb2 hb.size⟩
        case measure => first | omega | (simp [intOf]; omega)
      · have f := fun x w q => sum1_any (S.getD i sm0).1 x N p w q true hv
        have HS := Lib.hid (HI.out.trans (idx_stop (p := fun j => decide ((S.getD j sm0).1 = N)) hlt hs.out hv))
        clear hv hs
        generalize (S.getD i sm0).1 = M at *
        generalize (S.getD i sm0).2 = x at *
        go_wp2_with (fail)
        refine (f _ _ hpp).mono ?_
        rintro e w2 ⟨rfl, hb2⟩
        go_wp2
        go_ret
        exact ⟨ret_i HS.out.symm, below_step hb hb2 hb.size⟩
    · obtain rfl : i = n := by omega
      have HS := Lib.hid (HI.out.trans (idx_none (p := fun j => decide ((S.getD j sm0).1 = N)) hs.out))
      clear hs
      go_wp2
      go_ret
      exact ⟨ret_i HS.out.symm, hb⟩
end Go.Proofs.YtobdbjmpoefebaaDoor
