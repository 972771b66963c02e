/- slices.Reverse of a table's contributions and of its schemes. -/
import Derived.Test.YtobdbjmpoefebaaCloD
namespace Go.Proofs.Ytobdbjmpoefebaa
open Go.RowKit Go.Sort
set_option linter.unusedVariables false
set_option linter.unusedSimpArgs false

/-- but for one block the world is as it was -/
structure Onl (g : Nat) (w w' : World) : Prop where
  os : w'.os = w.os
  tape : w'.tape = w.tape
  output : w'.output = w.output
  size : w'.heap.size = w.heap.size
  block : ∀ k, k ≠ g → w'.heap[k]? = w.heap[k]?
theorem Onl.refl (g : Nat) (w : World) : Onl g w w := ⟨rfl, rfl, rfl, rfl, fun _ _ => rfl⟩
theorem Onl.trans {g : Nat} {a b c : World} (h : Onl g a b) (k : Onl g b c) : Onl g a c := ⟨k.os.trans h.os, k.tape.trans h.tape, k.output.trans h.output, k.size.trans h.size, fun i hi => (k.block i hi).trans (h.block i hi)⟩
theorem Onl.drew {g : Nat} {w w' : World} (h : Onl g w w') : Onl g w w'.drew := ⟨h.os, h.tape, h.output, h.size, h.block⟩
theorem Onl.drewN {g : Nat} {w w' : World} (h : Onl g w w') (n : Nat) : Onl g w (w'.drewN n) := ⟨h.os, h.tape, h.output, h.size, h.block⟩
theorem Onl.set {g : Nat} {w w' : World} (h : Onl g w w') (q : Nat) (v : Value) : Onl g w (w'.setCell ⟨g, q, none⟩ v) := by
  have b := Below.setCell (Below.refl g w') (p := ⟨g, q, none⟩) (Nat.le_refl _) v
  exact ⟨b.os.trans h.os, b.tape.trans h.tape, b.output.trans h.output, (by simp [World.setCell] : (w'.setCell ⟨g, q, none⟩ v).heap.size = w'.heap.size).trans h.size, fun k hk => (Go.Deep.blk_setCell_other _ _ _ _ hk).trans (h.block k hk)⟩
theorem Onl.below {g B : Nat} {w w' : World} (h : Onl g w w') (hB : B ≤ g) : Below B w w' := ⟨h.os, h.tape, h.output, Nat.le_of_eq h.size.symm, fun k hk => h.block k (by omega)⟩
theorem Onl.own {g B : Nat} {w w' : World} {e : TypeId} {k n : Nat} {v : Value} {xs : List Value} (h : Onl g w w') (ho : w.ownsRow B e k v n xs) (hv : ∀ b, v.ownBlock = some b → b ≠ g) : w'.ownsRow B e k v n xs := by
  obtain ⟨hl, h0 | ⟨b, cap, cur, hv2, hg, hh, r⟩⟩ := ho
  · exact ⟨hl, .inl h0⟩
  · exact ⟨hl, .inr ⟨b, cap, cur, hv2, hg, (h.block b (hv b (by rw [hv2]; rfl))).trans hh, r⟩⟩
theorem con_put {W : World} {B g c n i : Nat} {F : Nat → CB} (h : W.ownsRow B 35 6 (.slice (some ⟨g, 0, none⟩) n c) n ((List.range n).flatMap (fun q => conG (F q)))) (hi : i < n) (x : CB) :
    ((((((W.setCell ⟨g, i * 6, none⟩ (.string x.N)).setCell ⟨g, i * 6 + 1, none⟩ (.int .i64 x.B)).setCell ⟨g, i * 6 + 2, none⟩ (.slice x.b.A x.b.n x.b.c)).setCell ⟨g, i * 6 + 3, none⟩ (.int .i64 x.P)).setCell ⟨g, i * 6 + 4, none⟩ (.int .i64 x.Y)).setCell ⟨g, i * 6 + 5, none⟩ (.int .i64 x.W)).ownsRow B 35 6 (.slice (some ⟨g, 0, none⟩) n c) n ((List.range n).flatMap (fun q => conG (if q = i then x else F q))) := by
  have h3 := own_set (own_set (own_set (own_set (own_set (own_set h (i * 6) (.string x.N)) (i * 6 + 1) (.int .i64 x.B)) (i * 6 + 2) (.slice x.b.A x.b.n x.b.c)) (i * 6 + 3) (.int .i64 x.P)) (i * 6 + 4) (.int .i64 x.Y)) (i * 6 + 5) (.int .i64 x.W)
  have e : ((((((((List.range n).flatMap (fun q => conG (F q))).set (i * 6) (.string x.N)).set (i * 6 + 1) (.int .i64 x.B)).set (i * 6 + 2) (.slice x.b.A x.b.n x.b.c)).set (i * 6 + 3) (.int .i64 x.P)).set (i * 6 + 4) (.int .i64 x.Y)).set (i * 6 + 5) (.int .i64 x.W)) = (List.range n).flatMap (fun q => conG (if q = i then x else F q)) := by
    have e0 := flat_set (f := fun q => conG (F q)) (k := 6) (fun _ => rfl) i 0 (by omega) (.string x.N) n hi
    rw [Nat.add_zero] at e0
    rw [e0, flat_set (k := 6) (fun q => by split <;> rfl) i 1 (by omega) _ n hi, flat_set (k := 6) (fun q => by split <;> (try split) <;> rfl) i 2 (by omega) _ n hi,
      flat_set (k := 6) (fun q => by by_cases e : q = i <;> simp [e, conG]) i 3 (by omega) _ n hi, flat_set (k := 6) (fun q => by by_cases e : q = i <;> simp [e, conG]) i 4 (by omega) _ n hi, flat_set (k := 6) (fun q => by by_cases e : q = i <;> simp [e, conG]) i 5 (by omega) _ n hi]
    unfold List.flatMap
    congr 1
    apply List.map_congr_left
    intro q _
    by_cases e : q = i
    · simp [e, conG]
    · simp [e]
  rw [e] at h3
  exact h3
theorem con_cells {W : World} {B g c n i : Nat} {F : Nat → CB} (h : W.ownsRow B 35 6 (.slice (some ⟨g, 0, none⟩) n c) n ((List.range n).flatMap (fun q => conG (F q)))) (hi : i < n) : ∀ j, j < 6 → W.cell? ⟨g, i * 6 + j, none⟩ = (conG (F i))[j]? := by
  intro j hj
  have hx : ((List.range n).flatMap (fun q => conG (F q)))[i * 6 + j]? = some ((conG (F i))[j]'(by show j < 6; exact hj)) := by
    rw [flat_at (f := fun q => conG (F q)) (k := 6) (fun _ => rfl) i j hj n hi]
    exact List.getElem?_eq_getElem _
  rw [own_cell h hx]
  exact (List.getElem?_eq_getElem _).symm
/-- the first i and the last i have changed places -/
def rvC (D : Nat → CB) (n i q : Nat) : CB := if q < i ∨ n - 1 - i < q then D (n - 1 - q) else D q
theorem rvC_step (D : Nat → CB) (n i j : Nat) (hij : i < j) (hj : i + j + 1 = n) : (fun q => if q = j then D i else if q = i then D j else rvC D n i q) = rvC D n (i + 1) := by
  funext q
  unfold rvC
  by_cases e1 : q = j
  · subst e1
    rw [if_pos rfl, if_pos (by omega), show n - 1 - q = i by omega]
  · rw [if_neg e1]
    by_cases e2 : q = i
    · subst e2
      rw [if_pos rfl, if_pos (by omega), show n - 1 - q = j by omega]
    · rw [if_neg e2]
      by_cases e3 : q < i ∨ n - 1 - i < q
      · rw [if_pos e3, if_pos (by omega)]
      · rw [if_neg e3, if_neg (by omega)]
theorem flat_congr {f g : Nat → List Value} {n : Nat} (h : ∀ q, q < n → f q = g q) : (List.range n).flatMap f = (List.range n).flatMap g := by
  unfold List.flatMap
  congr 1
  apply List.map_congr_left
  intro q hq
  exact h q (List.mem_range.1 hq)
theorem rvC_zero (D : Nat → CB) (n q : Nat) (h : q < n) : rvC D n 0 q = D q := by
  unfold rvC
  rw [if_neg (by omega)]
theorem rvC_end (D : Nat → CB) (n i j q : Nat) (hij : ¬ i < j) (h : i + j + 1 = n) (h2 : i ≤ j + 1) (hq : q < n) : rvC D n i q = D (n - 1 - q) := by
  unfold rvC
  by_cases e : q < i ∨ n - 1 - i < q
  · rw [if_pos e]
  · rw [if_neg e]
    congr 1
    omega
set_option maxHeartbeats 8000000 in
set_option maxRecDepth 100000 in
theorem reverse_con (B g c n : Nat) (D : Nat → CB) (w : World) (h1 : 1 ≤ n) (ho : w.ownsRow B 35 6 (.slice (some ⟨g, 0, none⟩) n c) n ((List.range n).flatMap (fun q => conG (D q)))) (hn : n ≤ 1000) :
    Calls Try.prog 8 #[.slice (some ⟨g, 0, none⟩) n c] w fun e w' => e = .returned (.tuple #[]) ∧ w'.ownsRow B 35 6 (.slice (some ⟨g, 0, none⟩) n c) n ((List.range n).flatMap (fun q => conG (D (n - 1 - q)))) ∧ Onl g w w' := by
  have n1 : ((n : Int) - 1) = ((n - 1 : Nat) : Int) := by omega
  have ho2 : w.ownsRow B 35 6 (.slice (some ⟨g, 0, none⟩) n c) n ((List.range n).flatMap (fun q => conG (rvC D n 0 q))) := by
    rw [flat_congr (g := fun q => conG (D q)) (fun q hq => by rw [rvC_zero D n q hq])]
    exact ho
  have HN := Lib.hid n1
  clear ho n1
  go_enter Try.func8, Try.ntmps8
  go_wp2
  go_loopw [2, 3] (fun a b W => ∃ i j : Nat, i + j + 1 = n ∧ i ≤ j + 1 ∧ a = .int .i64 i ∧ b = .int .i64 j ∧ W.ownsRow B 35 6 (.slice (some ⟨g, 0, none⟩) n c) n ((List.range n).flatMap (fun q => conG (rvC D n i q))) ∧ Onl g w W) (fun a _ _ => n - (intOf a).toNat)
  case atStart => exact ⟨0, n - 1, by omega, by omega, rfl, by rw [HN.out], ho2, Onl.refl _ _⟩
  case round =>
    obtain ⟨i, j, hij, hij2, rfl, rfl, hO, hl⟩ := hrel
    clear ho2 HN
    by_cases hlt : i < j
    · have ci := con_cells hO (show i < n by omega)
      have cj := con_cells hO (show j < n by omega)
      have ei : rvC D n i i = D i := by unfold rvC; rw [if_neg (by omega)]
      have ej : rvC D n i j = D j := by unfold rvC; rw [if_neg (by omega)]
      rw [ei] at ci
      rw [ej] at cj
      have a0 : wr.cell? ⟨g, i * 6, none⟩ = some (.string (D i).N) := ci 0 (by omega)
      have b0 : wr.cell? ⟨g, j * 6, none⟩ = some (.string (D j).N) := cj 0 (by omega)
      have a1 : wr.cell? ⟨g, i * 6 + 1, none⟩ = some (.int .i64 (D i).B) := ci 1 (by omega)
      have b1 : wr.cell? ⟨g, j * 6 + 1, none⟩ = some (.int .i64 (D j).B) := cj 1 (by omega)
      have a2 : wr.cell? ⟨g, i * 6 + 2, none⟩ = some (.slice (D i).b.A (D i).b.n (D i).b.c) := ci 2 (by omega)
      have b2 : wr.cell? ⟨g, j * 6 + 2, none⟩ = some (.slice (D j).b.A (D j).b.n (D j).b.c) := cj 2 (by omega)
      have a3 : wr.cell? ⟨g, i * 6 + 3, none⟩ = some (.int .i64 (D i).P) := ci 3 (by omega)
      have b3 : wr.cell? ⟨g, j * 6 + 3, none⟩ = some (.int .i64 (D j).P) := cj 3 (by omega)
      have a4 : wr.cell? ⟨g, i * 6 + 4, none⟩ = some (.int .i64 (D i).Y) := ci 4 (by omega)
      have b4 : wr.cell? ⟨g, j * 6 + 4, none⟩ = some (.int .i64 (D j).Y) := cj 4 (by omega)
      have a5 : wr.cell? ⟨g, i * 6 + 5, none⟩ = some (.int .i64 (D i).W) := ci 5 (by omega)
      have b5 : wr.cell? ⟨g, j * 6 + 5, none⟩ = some (.int .i64 (D j).W) := cj 5 (by omega)
      have fz := fun q => (own_frozen hO q).2.2
      have i1 : (i : Int) < (j : Int) := by omega
      have i2 : (i : Int) < (n : Int) := by omega
      have i3 : (j : Int) < (n : Int) := by omega
      have O2 := con_put (con_put hO (show i < n by omega) (D j)) (show j < n by omega) (D i)
      have HST := Lib.hid (rvC_step D n i j hlt hij)
      have L2 := ((((((((((((hl.set (i * 6) (.string (D j).N)).set (i * 6 + 1) (.int .i64 (D j).B)).set (i * 6 + 2) (.slice (D j).b.A (D j).b.n (D j).b.c)).set (i * 6 + 3) (.int .i64 (D j).P)).set (i * 6 + 4) (.int .i64 (D j).Y)).set (i * 6 + 5) (.int .i64 (D j).W)).set (j * 6) (.string (D i).N)).set (j * 6 + 1) (.int .i64 (D i).B)).set (j * 6 + 2) (.slice (D i).b.A (D i).b.n (D i).b.c)).set (j * 6 + 3) (.int .i64 (D i).P)).set (j * 6 + 4) (.int .i64 (D i).Y)).set (j * 6 + 5) (.int .i64 (D i).W))
      have hne : ∀ p q : Nat, p < 6 → q < 6 → i * 6 + p ≠ j * 6 + q := fun p q hp hq => by omega
      clear ci cj ei ej
      go_wp2
      go_region
      have O3 := own_below O2 (below_drewN (Below.refl _ _) 1)
      have L3 := L2.drew
      have e2 : (fun q => conG (if q = j then D i else if q = i then D j else rvC D n i q)) = fun q => conG (rvC D n (i + 1) q) := by
        have := HST.out
        funext q
        rw [← this]
      rw [e2] at O3
      clear e2 HST O2 L2 a0 b0 a1 b1 a2 b2 a3 b3 a4 b4 a5 b5 fz hne
      have O3 : ((((((((((((wr.setCell ⟨g, i * 6, none⟩ (.string (D j).N)).setCell ⟨g, i * 6 + 1, none⟩ (.int .i64 (D j).B)).setCell ⟨g, i * 6 + 2, none⟩ (.slice (D j).b.A (D j).b.n (D j).b.c)).setCell ⟨g, i * 6 + 3, none⟩ (.int .i64 (D j).P)).setCell ⟨g, i * 6 + 4, none⟩ (.int .i64 (D j).Y)).setCell ⟨g, i * 6 + 5, none⟩ (.int .i64 (D j).W)).setCell ⟨g, j * 6, none⟩ (.string (D i).N)).setCell ⟨g, j * 6 + 1, none⟩ (.int .i64 (D i).B)).setCell ⟨g, j * 6 + 2, none⟩ (.slice (D i).b.A (D i).b.n (D i).b.c)).setCell ⟨g, j * 6 + 3, none⟩ (.int .i64 (D i).P)).setCell ⟨g, j * 6 + 4, none⟩ (.int .i64 (D i).Y)).setCell ⟨g, j * 6 + 5, none⟩ (.int .i64 (D i).W)).drew.ownsRow B 35 6 (.slice (some ⟨g, 0, none⟩) n c) n ((List.range n).flatMap (fun q => conG (rvC D n (i + 1) q))) := O3
      generalize ((((((((((((wr.setCell ⟨g, i * 6, none⟩ (.string (D j).N)).setCell ⟨g, i * 6 + 1, none⟩ (.int .i64 (D j).B)).setCell ⟨g, i * 6 + 2, none⟩ (.slice (D j).b.A (D j).b.n (D j).b.c)).setCell ⟨g, i * 6 + 3, none⟩ (.int .i64 (D j).P)).setCell ⟨g, i * 6 + 4, none⟩ (.int .i64 (D j).Y)).setCell ⟨g, i * 6 + 5, none⟩ (.int .i64 (D j).W)).setCell ⟨g, j * 6, none⟩ (.string (D i).N)).setCell ⟨g, j * 6 + 1, none⟩ (.int .i64 (D i).B)).setCell ⟨g, j * 6 + 2, none⟩ (.slice (D i).b.A (D i).b.n (D i).b.c)).setCell ⟨g, j * 6 + 3, none⟩ (.int .i64 (D i).P)).setCell ⟨g, j * 6 + 4, none⟩ (.int .i64 (D i).Y)).setCell ⟨g, j * 6 + 5, none⟩ (.int .i64 (D i).W)).drew = w5 at *
      go_wp2
      go_roundw
      case rel => exact ⟨i + 1, j - 1, by omega, by omega, by go_num, by go_num, O3, L3⟩
      case measure => first | omega | (simp [intOf]; omega)
    · have HE := Lib.hid (flat_congr (f := fun q => conG (rvC D n i q)) (g := fun q => conG (D (n - 1 - q))) (n := n) (fun q hq => by rw [rvC_end D n i j q hlt hij hij2 hq]))
      go_wp2
      go_end0
      exact ⟨rfl, by rw [← HE.out]; exact hO, hl⟩
def schG (b : SB) : List Value := [.slice b.A b.n b.c]
theorem sch_put {W : World} {B g c n i : Nat} {F : Nat → SB} (h : W.ownsRow B 33 1 (.slice (some ⟨g, 0, none⟩) n c) n ((List.range n).flatMap (fun q => schG (F q)))) (hi : i < n) (x : SB) :
    (W.setCell ⟨g, i, none⟩ (.slice x.A x.n x.c)).ownsRow B 33 1 (.slice (some ⟨g, 0, none⟩) n c) n ((List.range n).flatMap (fun q => schG (if q = i then x else F q))) := by
  have h3 := own_set h i (.slice x.A x.n x.c)
  have e0 := flat_set (f := fun q => schG (F q)) (k := 1) (fun _ => rfl) i 0 (by omega) (.slice x.A x.n x.c) n hi
  rw [Nat.mul_one, Nat.add_zero] at e0
  rw [e0] at h3
  have e : (fun q => if q = i then (schG (F q)).set 0 (.slice x.A x.n x.c) else schG (F q)) = fun q => schG (if q = i then x else F q) := by
    funext q
    by_cases e : q = i
    · simp [e, schG]
    · simp [e]
  rw [e] at h3
  exact h3
theorem sch_cells {W : World} {B g c n i : Nat} {F : Nat → SB} (h : W.ownsRow B 33 1 (.slice (some ⟨g, 0, none⟩) n c) n ((List.range n).flatMap (fun q => schG (F q)))) (hi : i < n) : W.cell? ⟨g, i, none⟩ = some (.slice (F i).A (F i).n (F i).c) := by
  have hx := flat_at (f := fun q => schG (F q)) (k := 1) (fun _ => rfl) i 0 (by omega) n hi
  rw [Nat.mul_one, Nat.add_zero] at hx
  exact own_cell h hx
def rvS (D : Nat → SB) (n i q : Nat) : SB := if q < i ∨ n - 1 - i < q then D (n - 1 - q) else D q
theorem rvS_step (D : Nat → SB) (n i j : Nat) (hij : i < j) (hj : i + j + 1 = n) : (fun q => if q = j then D i else if q = i then D j else rvS D n i q) = rvS D n (i + 1) := by
  funext q
  unfold rvS
  by_cases e1 : q = j
  · subst e1
    rw [if_pos rfl, if_pos (by omega), show n - 1 - q = i by omega]
  · rw [if_neg e1]
    by_cases e2 : q = i
    · subst e2
      rw [if_pos rfl, if_pos (by omega), show n - 1 - q = j by omega]
    · rw [if_neg e2]
      by_cases e3 : q < i ∨ n - 1 - i < q
      · rw [if_pos e3, if_pos (by omega)]
      · rw [if_neg e3, if_neg (by omega)]
theorem rvS_zero (D : Nat → SB) (n q : Nat) (h : q < n) : rvS D n 0 q = D q := by
  unfold rvS
  rw [if_neg (by omega)]
theorem rvS_end (D : Nat → SB) (n i j q : Nat) (hij : ¬ i < j) (h : i + j + 1 = n) (h2 : i ≤ j + 1) (hq : q < n) : rvS D n i q = D (n - 1 - q) := by
  unfold rvS
  by_cases e : q < i ∨ n - 1 - i < q
  · rw [if_pos e]
  · rw [if_neg e]
    congr 1
    omega
set_option maxHeartbeats 8000000 in
set_option maxRecDepth 100000 in
theorem reverse_sch (B g c n : Nat) (D : Nat → SB) (w : World) (h1 : 1 ≤ n) (ho : w.ownsRow B 33 1 (.slice (some ⟨g, 0, none⟩) n c) n ((List.range n).flatMap (fun q => schG (D q)))) (hn : n ≤ 1000) :
    Calls Try.prog 9 #[.slice (some ⟨g, 0, none⟩) n c] w fun e w' => e = .returned (.tuple #[]) ∧ w'.ownsRow B 33 1 (.slice (some ⟨g, 0, none⟩) n c) n ((List.range n).flatMap (fun q => schG (D (n - 1 - q)))) ∧ Onl g w w' := by
  have n1 : ((n : Int) - 1) = ((n - 1 : Nat) : Int) := by omega
  have ho2 : w.ownsRow B 33 1 (.slice (some ⟨g, 0, none⟩) n c) n ((List.range n).flatMap (fun q => schG (rvS D n 0 q))) := by
    rw [flat_congr (g := fun q => schG (D q)) (fun q hq => by rw [rvS_zero D n q hq])]
    exact ho
  have HN := Lib.hid n1
  clear ho n1
  go_enter Try.func9, Try.ntmps9
  go_wp2
  go_loopw [2, 3] (fun a b W => ∃ i j : Nat, i + j + 1 = n ∧ i ≤ j + 1 ∧ a = .int .i64 i ∧ b = .int .i64 j ∧ W.ownsRow B 33 1 (.slice (some ⟨g, 0, none⟩) n c) n ((List.range n).flatMap (fun q => schG (rvS D n i q))) ∧ Onl g w W) (fun a _ _ => n - (intOf a).toNat)
  case atStart => exact ⟨0, n - 1, by omega, by omega, rfl, by rw [HN.out], ho2, Onl.refl _ _⟩
  case round =>
    obtain ⟨i, j, hij, hij2, rfl, rfl, hO, hl⟩ := hrel
    clear ho2 HN
    by_cases hlt : i < j
    · have a0 := sch_cells hO (show i < n by omega)
      have b0 := sch_cells hO (show j < n by omega)
      have ei : rvS D n i i = D i := by unfold rvS; rw [if_neg (by omega)]
      have ej : rvS D n i j = D j := by unfold rvS; rw [if_neg (by omega)]
      rw [ei] at a0
      rw [ej] at b0
      have fz := fun q => (own_frozen hO q).2.2
      have i1 : (i : Int) < (j : Int) := by omega
      have i2 : (i : Int) < (n : Int) := by omega
      have i3 : (j : Int) < (n : Int) := by omega
      have O2 := sch_put (sch_put hO (show i < n by omega) (D j)) (show j < n by omega) (D i)
      have HST := Lib.hid (rvS_step D n i j hlt hij)
      have L2 := (hl.set i (.slice (D j).A (D j).n (D j).c)).set j (.slice (D i).A (D i).n (D i).c)
      have hne : i ≠ j := by omega
      clear ei ej
      go_wp2
      go_region
      have O3 := own_below O2 (below_drewN (Below.refl _ _) 1)
      have L3 := L2.drew
      have e2 : (fun q => schG (if q = j then D i else if q = i then D j else rvS D n i q)) = fun q => schG (rvS D n (i + 1) q) := by
        have := HST.out
        funext q
        rw [← this]
      rw [e2] at O3
      clear e2 HST O2 L2 a0 b0 fz hne
      have O3 : ((wr.setCell ⟨g, i, none⟩ (.slice (D j).A (D j).n (D j).c)).setCell ⟨g, j, none⟩ (.slice (D i).A (D i).n (D i).c)).drew.ownsRow B 33 1 (.slice (some ⟨g, 0, none⟩) n c) n ((List.range n).flatMap (fun q => schG (rvS D n (i + 1) q))) := O3
      generalize ((wr.setCell ⟨g, i, none⟩ (.slice (D j).A (D j).n (D j).c)).setCell ⟨g, j, none⟩ (.slice (D i).A (D i).n (D i).c)).drew = w5 at *
      go_wp2
      go_roundw
      case rel => exact ⟨i + 1, j - 1, by omega, by omega, by go_num, by go_num, O3, L3⟩
      case measure => first | omega | (simp [intOf]; omega)
    · have HE := Lib.hid (flat_congr (f := fun q => schG (rvS D n i q)) (g := fun q => schG (D (n - 1 - q))) (n := n) (fun q hq => by rw [rvS_end D n i j q hlt hij hij2 hq]))
      go_wp2
      go_end0
      exact ⟨rfl, by rw [← HE.out]; exact hO, hl⟩
/-- of no contributions -/
theorem reverse_none (A : Option Addr) (c : Nat) (w : World) :
    Calls Try.prog 8 #[.slice A 0 c] w fun e w' => e = .returned (.tuple #[]) ∧ w = w' := by
  go_enter Try.func8, Try.ntmps8
  go_wp2
  go_loopw [2, 3] (fun a b W => a = .int .i64 0 ∧ b = .int .i64 (-1) ∧ w = W) (fun a _ _ => 0)
  case atStart => exact ⟨rfl, rfl, rfl⟩
  case round =>
    obtain ⟨rfl, rfl, rfl⟩ := hrel
    go_wp2
    go_end0
    exact ⟨rfl, rfl⟩
end Go.Proofs.Ytobdbjmpoefebaa
