/- An order's words, written and read. -/
import Derived.Test.YthknjpmhomjobaaGreatDoorBkS
import Derived.Test.YthknjpmhomjobaaGreatDoorItV
import Derived.Test.YthknjpmhomjobaaGreatDoorText
import Derived.Test.YthknjpmhomjobaaGreatDoorRgx
import Derived.Lib.ItoaLen
namespace Go.Proofs.YthknjpmhomjobaaGreatDoor
open Go.RowKit Go.Sort
set_option linter.unusedVariables false
set_option linter.unusedSimpArgs false

/-- the words of an order -/
def od5 (i p a r t : Int) (j : Nat) : ByteArray := [(⟨(Lib.itoa i).toArray⟩ : ByteArray), ⟨(Lib.itoa p).toArray⟩, ⟨(txt a).toArray⟩, ⟨(Lib.itoa r).toArray⟩, ⟨(txt t).toArray⟩].getD j ⟨#[]⟩
theorem itoa_q (n : Int) (h0 : -999999999 ≤ n) (h1 : n ≤ 999999999) (w : World) (D : Tab w) : Calls Tryz.prog 11 #[.int .i64 n] w fun e w' => e = .returned (.string ⟨(Lib.itoa n).toArray⟩) ∧ Below w.heap.size w w' := by
  refine (Tryz.strconv_Itoa n (by omega) (by omega) w D).mono ?_
  rintro e w' ⟨rfl, k, os, rfl⟩
  exact ⟨rfl, Lib.below_grow _ w (Nat.le_refl _) k os⟩
theorem itoa_len (n : Int) (h0 : -999999999 ≤ n) (h1 : n ≤ 999999999) : (ByteArray.mk (Lib.itoa n).toArray).size ≤ 1000 := by
  have := Lib.itoa_length_le n (by omega) (by omega)
  show (Lib.itoa n).toArray.size ≤ 1000
  simp
  omega
theorem txt_len5 (x : Int) (h : -100000000000 ≤ x) (h' : x ≤ 100000000000) : (ByteArray.mk (txt x).toArray).size ≤ 1000 := by
  have ht : txt x = (if x < 0 then [45] else []) ++ (Lib.decDigits (x.natAbs / 100) ++ (46 :: tailB x.natAbs)) := rfl
  have hl := (tail_facts x.natAbs).2.2
  have hd : (Lib.decDigits (x.natAbs / 100)).length ≤ 9 + 1 := by
    rw [Lib.decDigits_length]
    exact nd_le 9 _ (by omega)
  show (txt x).toArray.size ≤ 1000
  rw [ht]
  by_cases hx : x < 0
  · rw [if_pos hx]; simp [hl]; omega
  · rw [if_neg hx]; simp [hl]; omega
theorem parse_od (i p a r t : Int) (hi : -999999999 ≤ i ∧ i ≤ 999999999) (hp : -999999999 ≤ p ∧ p ≤ 999999999) (ha : -100000000000 ≤ a ∧ a ≤ 100000000000) (hr : -999999999 ≤ r ∧ r ≤ 999999999) (ht : -100000000000 ≤ t ∧ t ≤ 100000000000) (v : Int) (hv : chkO i p a r t = v) :
    ∃ z0 z1 z2 z3 z4 : Int, ((v = 0 ∧ z0 = i ∧ z1 = p ∧ z2 = a ∧ z3 = r ∧ z4 = t) ∨ (v ≠ 0 ∧ z0 = 0 ∧ z1 = 0 ∧ z2 = 0 ∧ z3 = 0 ∧ z4 = 0)) ∧ ∀ (b : Nat) (X : World), (∀ j, j < 5 → X.cell? ⟨b, j, none⟩ = some (.string (od5 i p a r t j))) → Calls Tryz.prog 10 #[.slice (some ⟨b, 0, none⟩) 5 5] X fun e w' => e = .returned (.tuple #[.agg #[.int .i64 z0, .int .i64 z1, .int .i64 z2, .int .i64 z3, .int .i64 z4], .int .i64 v]) ∧ Below X.heap.size X w' := by
  have c := fun (b : Nat) (X : World) (hW : ∀ j, j < 5 → X.cell? ⟨b, j, none⟩ = some (.string (od5 i p a r t j))) => oparse_ok b 5 (od5 i p a r t) X hW i p a r t
    (by show intV (Lib.itoa i).toArray.toList = _; rw [List.toList_toArray]; exact intV_itoa hi.1 hi.2)
    (by show intV (Lib.itoa p).toArray.toList = _; rw [List.toList_toArray]; exact intV_itoa hp.1 hp.2)
    (by show parseP (txt a).toArray.toList = _; rw [List.toList_toArray, parse_txt a (by omega) (by omega), if_pos (amtB_mk ha.1 ha.2)])
    (by show intV (Lib.itoa r).toArray.toList = _; rw [List.toList_toArray]; exact intV_itoa hr.1 hr.2)
    (by show parseP (txt t).toArray.toList = _; rw [List.toList_toArray, parse_txt t (by omega) (by omega), if_pos (amtB_mk ht.1 ht.2)])
    (fun j hj => by
      rcases (by omega : j = 0 ∨ j = 1 ∨ j = 2 ∨ j = 3 ∨ j = 4) with rfl | rfl | rfl | rfl | rfl
      · exact itoa_len i hi.1 hi.2
      · exact itoa_len p hp.1 hp.2
      · exact txt_len5 a ha.1 ha.2
      · exact itoa_len r hr.1 hr.2
      · exact txt_len5 t ht.1 ht.2) v hv
  by_cases h : v = 0
  · refine ⟨i, p, a, r, t, .inl ⟨h, rfl, rfl, rfl, rfl, rfl⟩, fun b X hW => ?_⟩
    have := c b X hW
    rw [if_pos h] at this
    exact this
  · refine ⟨0, 0, 0, 0, 0, .inr ⟨h, rfl, rfl, rfl, rfl, rfl⟩, fun b X hW => ?_⟩
    have := c b X hW
    rw [if_neg h] at this
    exact this
set_option maxRecDepth 100000 in
set_option maxHeartbeats 8000000 in
theorem owords_any (i p a r t : Int) (hi : -999999999 ≤ i ∧ i ≤ 999999999) (hp : -999999999 ≤ p ∧ p ≤ 999999999) (ha : -100000000000 ≤ a ∧ a ≤ 100000000000) (hr : -999999999 ≤ r ∧ r ≤ 999999999) (ht : -100000000000 ≤ t ∧ t ≤ 100000000000) (w : World) (D : Tab w) :
    Calls Tryz.prog 20 #[.agg #[.int .i64 i, .int .i64 p, .int .i64 a, .int .i64 r, .int .i64 t]] w fun e w' => ∃ g, e = .returned (.slice (some ⟨g, 0, none⟩) 5 5) ∧ (∀ j, j < 5 → w'.cell? ⟨g, j, none⟩ = some (.string (od5 i p a r t j))) ∧ Below w.heap.size w w' := by
  have K := bx_new w [.int .i64 i, .int .i64 p, .int .i64 a, .int .i64 r, .int .i64 t] 23
  have NB := below_new w (.cells #[.int .i64 i, .int .i64 p, .int .i64 a, .int .i64 r, .int .i64 t] 23)
  have step : ∀ U V : World, Below U.heap.size U V → (U.cell? ⟨w.heap.size, 0, none⟩ = some (.int .i64 i) ∧ U.cell? ⟨w.heap.size, 1, none⟩ = some (.int .i64 p) ∧ U.cell? ⟨w.heap.size, 2, none⟩ = some (.int .i64 a) ∧ U.cell? ⟨w.heap.size, 3, none⟩ = some (.int .i64 r) ∧ U.cell? ⟨w.heap.size, 4, none⟩ = some (.int .i64 t) ∧ Tab U) → (V.cell? ⟨w.heap.size, 0, none⟩ = some (.int .i64 i) ∧ V.cell? ⟨w.heap.size, 1, none⟩ = some (.int .i64 p) ∧ V.cell? ⟨w.heap.size, 2, none⟩ = some (.int .i64 a) ∧ V.cell? ⟨w.heap.size, 3, none⟩ = some (.int .i64 r) ∧ V.cell? ⟨w.heap.size, 4, none⟩ = some (.int .i64 t) ∧ Tab V) := fun U V hb h => ⟨cell_later hb h.1, cell_later hb h.2.1, cell_later hb h.2.2.1, cell_later hb h.2.2.2.1, cell_later hb h.2.2.2.2.1, h.2.2.2.2.2.below hb⟩
  have bI : ∀ X, (X.cell? ⟨w.heap.size, 0, none⟩ = some (.int .i64 i) ∧ X.cell? ⟨w.heap.size, 1, none⟩ = some (.int .i64 p) ∧ X.cell? ⟨w.heap.size, 2, none⟩ = some (.int .i64 a) ∧ X.cell? ⟨w.heap.size, 3, none⟩ = some (.int .i64 r) ∧ X.cell? ⟨w.heap.size, 4, none⟩ = some (.int .i64 t) ∧ Tab X) → Calls Tryz.prog 11 #[.int .i64 i] X fun e w' => e = .returned (.string ⟨(Lib.itoa i).toArray⟩) ∧ (w'.cell? ⟨w.heap.size, 0, none⟩ = some (.int .i64 i) ∧ w'.cell? ⟨w.heap.size, 1, none⟩ = some (.int .i64 p) ∧ w'.cell? ⟨w.heap.size, 2, none⟩ = some (.int .i64 a) ∧ w'.cell? ⟨w.heap.size, 3, none⟩ = some (.int .i64 r) ∧ w'.cell? ⟨w.heap.size, 4, none⟩ = some (.int .i64 t) ∧ Tab w') ∧ Below X.heap.size X w' := fun X h => (itoa_q i hi.1 hi.2 X h.2.2.2.2.2).mono fun e w' hh => ⟨hh.1, step X w' hh.2 h, hh.2⟩
  have bQ : ∀ X, (X.cell? ⟨w.heap.size, 0, none⟩ = some (.int .i64 i) ∧ X.cell? ⟨w.heap.size, 1, none⟩ = some (.int .i64 p) ∧ X.cell? ⟨w.heap.size, 2, none⟩ = some (.int .i64 a) ∧ X.cell? ⟨w.heap.size, 3, none⟩ = some (.int .i64 r) ∧ X.cell? ⟨w.heap.size, 4, none⟩ = some (.int .i64 t) ∧ Tab X) → Calls Tryz.prog 11 #[.int .i64 p] X fun e w' => e = .returned (.string ⟨(Lib.itoa p).toArray⟩) ∧ (w'.cell? ⟨w.heap.size, 0, none⟩ = some (.int .i64 i) ∧ w'.cell? ⟨w.heap.size, 1, none⟩ = some (.int .i64 p) ∧ w'.cell? ⟨w.heap.size, 2, none⟩ = some (.int .i64 a) ∧ w'.cell? ⟨w.heap.size, 3, none⟩ = some (.int .i64 r) ∧ w'.cell? ⟨w.heap.size, 4, none⟩ = some (.int .i64 t) ∧ Tab w') ∧ Below X.heap.size X w' := fun X h => (itoa_q p hp.1 hp.2 X h.2.2.2.2.2).mono fun e w' hh => ⟨hh.1, step X w' hh.2 h, hh.2⟩
  have bR : ∀ X, (X.cell? ⟨w.heap.size, 0, none⟩ = some (.int .i64 i) ∧ X.cell? ⟨w.heap.size, 1, none⟩ = some (.int .i64 p) ∧ X.cell? ⟨w.heap.size, 2, none⟩ = some (.int .i64 a) ∧ X.cell? ⟨w.heap.size, 3, none⟩ = some (.int .i64 r) ∧ X.cell? ⟨w.heap.size, 4, none⟩ = some (.int .i64 t) ∧ Tab X) → Calls Tryz.prog 11 #[.int .i64 r] X fun e w' => e = .returned (.string ⟨(Lib.itoa r).toArray⟩) ∧ (w'.cell? ⟨w.heap.size, 0, none⟩ = some (.int .i64 i) ∧ w'.cell? ⟨w.heap.size, 1, none⟩ = some (.int .i64 p) ∧ w'.cell? ⟨w.heap.size, 2, none⟩ = some (.int .i64 a) ∧ w'.cell? ⟨w.heap.size, 3, none⟩ = some (.int .i64 r) ∧ w'.cell? ⟨w.heap.size, 4, none⟩ = some (.int .i64 t) ∧ Tab w') ∧ Below X.heap.size X w' := fun X h => (itoa_q r hr.1 hr.2 X h.2.2.2.2.2).mono fun e w' hh => ⟨hh.1, step X w' hh.2 h, hh.2⟩
  have bA : ∀ X, (X.cell? ⟨w.heap.size, 0, none⟩ = some (.int .i64 i) ∧ X.cell? ⟨w.heap.size, 1, none⟩ = some (.int .i64 p) ∧ X.cell? ⟨w.heap.size, 2, none⟩ = some (.int .i64 a) ∧ X.cell? ⟨w.heap.size, 3, none⟩ = some (.int .i64 r) ∧ X.cell? ⟨w.heap.size, 4, none⟩ = some (.int .i64 t) ∧ Tab X) → Calls Tryz.prog 12 #[.int .i64 a] X fun e w' => e = .returned (.string ⟨(txt a).toArray⟩) ∧ (w'.cell? ⟨w.heap.size, 0, none⟩ = some (.int .i64 i) ∧ w'.cell? ⟨w.heap.size, 1, none⟩ = some (.int .i64 p) ∧ w'.cell? ⟨w.heap.size, 2, none⟩ = some (.int .i64 a) ∧ w'.cell? ⟨w.heap.size, 3, none⟩ = some (.int .i64 r) ∧ w'.cell? ⟨w.heap.size, 4, none⟩ = some (.int .i64 t) ∧ Tab w') ∧ Below X.heap.size X w' := fun X h => (text_any a X (by omega) (by omega) h.2.2.2.2.2).mono fun e w' hh => ⟨hh.1, step X w' hh.2 h, hh.2⟩
  have bT : ∀ X, (X.cell? ⟨w.heap.size, 0, none⟩ = some (.int .i64 i) ∧ X.cell? ⟨w.heap.size, 1, none⟩ = some (.int .i64 p) ∧ X.cell? ⟨w.heap.size, 2, none⟩ = some (.int .i64 a) ∧ X.cell? ⟨w.heap.size, 3, none⟩ = some (.int .i64 r) ∧ X.cell? ⟨w.heap.size, 4, none⟩ = some (.int .i64 t) ∧ Tab X) → Calls Tryz.prog 12 #[.int .i64 t] X fun e w' => e = .returned (.string ⟨(txt t).toArray⟩) ∧ (w'.cell? ⟨w.heap.size, 0, none⟩ = some (.int .i64 i) ∧ w'.cell? ⟨w.heap.size, 1, none⟩ = some (.int .i64 p) ∧ w'.cell? ⟨w.heap.size, 2, none⟩ = some (.int .i64 a) ∧ w'.cell? ⟨w.heap.size, 3, none⟩ = some (.int .i64 r) ∧ w'.cell? ⟨w.heap.size, 4, none⟩ = some (.int .i64 t) ∧ Tab w') ∧ Below X.heap.size X w' := fun X h => (text_any t X (by omega) (by omega) h.2.2.2.2.2).mono fun e w' hh => ⟨hh.1, step X w' hh.2 h, hh.2⟩
  have S0 : (w.alloc (.cells #[.int .i64 i, .int .i64 p, .int .i64 a, .int .i64 r, .int .i64 t] 23)).cell? ⟨w.heap.size, 0, none⟩ = some (.int .i64 i) ∧ (w.alloc (.cells #[.int .i64 i, .int .i64 p, .int .i64 a, .int .i64 r, .int .i64 t] 23)).cell? ⟨w.heap.size, 1, none⟩ = some (.int .i64 p) ∧ (w.alloc (.cells #[.int .i64 i, .int .i64 p, .int .i64 a, .int .i64 r, .int .i64 t] 23)).cell? ⟨w.heap.size, 2, none⟩ = some (.int .i64 a) ∧ (w.alloc (.cells #[.int .i64 i, .int .i64 p, .int .i64 a, .int .i64 r, .int .i64 t] 23)).cell? ⟨w.heap.size, 3, none⟩ = some (.int .i64 r) ∧ (w.alloc (.cells #[.int .i64 i, .int .i64 p, .int .i64 a, .int .i64 r, .int .i64 t] 23)).cell? ⟨w.heap.size, 4, none⟩ = some (.int .i64 t) ∧ Tab (w.alloc (.cells #[.int .i64 i, .int .i64 p, .int .i64 a, .int .i64 r, .int .i64 t] 23)) := ⟨K.cell (i := 0) rfl, K.cell (i := 1) rfl, K.cell (i := 2) rfl, K.cell (i := 3) rfl, K.cell (i := 4) rfl, D.below NB⟩
  go_enter Tryz.func20, Tryz.ntmps20
  go_wp2
  refine wp_region_X (S := fun X => X.cell? ⟨w.heap.size, 0, none⟩ = some (.int .i64 i) ∧ X.cell? ⟨w.heap.size, 1, none⟩ = some (.int .i64 p) ∧ X.cell? ⟨w.heap.size, 2, none⟩ = some (.int .i64 a) ∧ X.cell? ⟨w.heap.size, 3, none⟩ = some (.int .i64 r) ∧ X.cell? ⟨w.heap.size, 4, none⟩ = some (.int .i64 t) ∧ Tab X) (by kernel_rfl) S0 ?_
  refine wpX_take (i := 0) (v := ?_) rfl (some 3) (by rfl) (by kernel_rfl) (by kernel_rfl) (by kernel_rfl) (fun _ _ _ h => h) (by rfl) (by intro X hSw; (try dsimp only at hSw); go_simp; with_reducible rfl) ?_
  try simp only [Act.put, List.setIfInBounds_toArray, List.set_cons_zero, List.set_cons_succ]
  refine wpX_take (i := 1) (v := ?_) rfl (some 4) (by rfl) (by kernel_rfl) (by kernel_rfl) (by kernel_rfl) (fun _ _ _ h => h) (by rfl) (by intro X hSw; (try dsimp only at hSw); go_simp; with_reducible rfl) ?_
  try simp only [Act.put, List.setIfInBounds_toArray, List.set_cons_zero, List.set_cons_succ]
  refine wpX_call (i := 2) (v := .string ⟨(Lib.itoa i).toArray⟩) 11 #[.int .i64 i] rfl (some 5) (by rfl) (by kernel_rfl) (by kernel_rfl) (by kernel_rfl) (fun _ _ _ h => h) (by rfl) (fun _ => by kernel_rfl) (fun X h => bI X h) ?_
  try simp only [Act.put, List.setIfInBounds_toArray, List.set_cons_zero, List.set_cons_succ]
  refine wpX_take (i := 3) (v := ?_) rfl (some 6) (by rfl) (by kernel_rfl) (by kernel_rfl) (by kernel_rfl) (fun _ _ _ h => h) (by rfl) (by intro X hSw; (try dsimp only at hSw); go_simp; with_reducible rfl) ?_
  try simp only [Act.put, List.setIfInBounds_toArray, List.set_cons_zero, List.set_cons_succ]
  refine wpX_take (i := 4) (v := ?_) rfl (some 7) (by rfl) (by kernel_rfl) (by kernel_rfl) (by kernel_rfl) (fun _ _ _ h => h) (by rfl) (by intro X hSw; (try dsimp only at hSw); go_simp; with_reducible rfl) ?_
  try simp only [Act.put, List.setIfInBounds_toArray, List.set_cons_zero, List.set_cons_succ]
  refine wpX_call (i := 5) (v := .string ⟨(Lib.itoa p).toArray⟩) 11 #[.int .i64 p] rfl (some 8) (by rfl) (by kernel_rfl) (by kernel_rfl) (by kernel_rfl) (fun _ _ _ h => h) (by rfl) (fun _ => by kernel_rfl) (fun X h => bQ X h) ?_
  try simp only [Act.put, List.setIfInBounds_toArray, List.set_cons_zero, List.set_cons_succ]
  refine wpX_take (i := 6) (v := ?_) rfl (some 9) (by rfl) (by kernel_rfl) (by kernel_rfl) (by kernel_rfl) (fun _ _ _ h => h) (by rfl) (by intro X hSw; (try dsimp only at hSw); go_simp; with_reducible rfl) ?_
  try simp only [Act.put, List.setIfInBounds_toArray, List.set_cons_zero, List.set_cons_succ]
  refine wpX_take (i := 7) (v := ?_) rfl (some 10) (by rfl) (by kernel_rfl) (by kernel_rfl) (by kernel_rfl) (fun _ _ _ h => h) (by rfl) (by intro X hSw; (try dsimp only at hSw); go_simp; with_reducible rfl) ?_
  try simp only [Act.put, List.setIfInBounds_toArray, List.set_cons_zero, List.set_cons_succ]
  refine wpX_call (i := 8) (v := .string ⟨(txt a).toArray⟩) 12 #[.int .i64 a] rfl (some 11) (by rfl) (by kernel_rfl) (by kernel_rfl) (by kernel_rfl) (fun _ _ _ h => h) (by rfl) (fun _ => by kernel_rfl) (fun X h => bA X h) ?_
  try simp only [Act.put, List.setIfInBounds_toArray, List.set_cons_zero, List.set_cons_succ]
  refine wpX_take (i := 9) (v := ?_) rfl (some 12) (by rfl) (by kernel_rfl) (by kernel_rfl) (by kernel_rfl) (fun _ _ _ h => h) (by rfl) (by intro X hSw; (try dsimp only at hSw); go_simp; with_reducible rfl) ?_
  try simp only [Act.put, List.setIfInBounds_toArray, List.set_cons_zero, List.set_cons_succ]
  refine wpX_take (i := 10) (v := ?_) rfl (some 13) (by rfl) (by kernel_rfl) (by kernel_rfl) (by kernel_rfl) (fun _ _ _ h => h) (by rfl) (by intro X hSw; (try dsimp only at hSw); go_simp; with_reducible rfl) ?_
  try simp only [Act.put, List.setIfInBounds_toArray, List.set_cons_zero, List.set_cons_succ]
  refine wpX_call (i := 11) (v := .string ⟨(Lib.itoa r).toArray⟩) 11 #[.int .i64 r] rfl (some 14) (by rfl) (by kernel_rfl) (by kernel_rfl) (by kernel_rfl) (fun _ _ _ h => h) (by rfl) (fun _ => by kernel_rfl) (fun X h => bR X h) ?_
  try simp only [Act.put, List.setIfInBounds_toArray, List.set_cons_zero, List.set_cons_succ]
  refine wpX_take (i := 12) (v := ?_) rfl (some 15) (by rfl) (by kernel_rfl) (by kernel_rfl) (by kernel_rfl) (fun _ _ _ h => h) (by rfl) (by intro X hSw; (try dsimp only at hSw); go_simp; with_reducible rfl) ?_
  try simp only [Act.put, List.setIfInBounds_toArray, List.set_cons_zero, List.set_cons_succ]
  refine wpX_take (i := 13) (v := ?_) rfl (some 16) (by rfl) (by kernel_rfl) (by kernel_rfl) (by kernel_rfl) (fun _ _ _ h => h) (by rfl) (by intro X hSw; (try dsimp only at hSw); go_simp; with_reducible rfl) ?_
  try simp only [Act.put, List.setIfInBounds_toArray, List.set_cons_zero, List.set_cons_succ]
  refine wpX_call (i := 14) (v := .string ⟨(txt t).toArray⟩) 12 #[.int .i64 t] rfl (some 17) (by rfl) (by kernel_rfl) (by kernel_rfl) (by kernel_rfl) (fun _ _ _ h => h) (by rfl) (fun _ => by kernel_rfl) (fun X h => bT X h) ?_
  try simp only [Act.put, List.setIfInBounds_toArray, List.set_cons_zero, List.set_cons_succ]
  refine wpX_one (i := 15) (by kernel_rfl) rfl ?_
  intro w1 hS1 hb1 KK hK
  go_simp
  refine hK.out _ _ (step w1 _ (below_new w1 _) hS1) ?_
  have hbW := below_new w1 (.cells #[.string ⟨(Lib.itoa i).toArray⟩, .string ⟨(Lib.itoa p).toArray⟩, .string ⟨(txt a).toArray⟩, .string ⟨(Lib.itoa r).toArray⟩, .string ⟨(txt t).toArray⟩] 9)
  have KW := bx_new w1 [.string ⟨(Lib.itoa i).toArray⟩, .string ⟨(Lib.itoa p).toArray⟩, .string ⟨(txt a).toArray⟩, .string ⟨(Lib.itoa r).toArray⟩, .string ⟨(txt t).toArray⟩] 9
  try simp only [Act.put, List.setIfInBounds_toArray, List.set_cons_zero, List.set_cons_succ]
  refine wpX_take (i := 16) (v := ?_) rfl (some 2) (by rfl) (by kernel_rfl) (by kernel_rfl) (by kernel_rfl) (fun _ _ _ h => h) (by rfl) (by intro X hSw; (try dsimp only at hSw); go_simp; with_reducible rfl) ?_
  try simp only [Act.put, List.setIfInBounds_toArray, List.set_cons_zero, List.set_cons_succ]
  refine wpX_done (by kernel_rfl) ?_
  intro w2 hS2 hb2
  have BW := below_step (below_step NB.drew hb1 NB.drew.size) hbW (Nat.le_trans NB.drew.size hb1.size)
  have BZ := Lib.hid (below_step BW hb2 BW.size)
  have KZ := Lib.hid (KW.below hb2)
  clear hb1 hK hbW KW hb2 BW hS1 hS2 S0 step bI bQ bR bA bT K NB
  go_wp2
  go_ret
  refine ⟨w1.heap.size, rfl, fun j hj => ?_, BZ.out⟩
  rcases (by omega : j = 0 ∨ j = 1 ∨ j = 2 ∨ j = 3 ∨ j = 4) with rfl | rfl | rfl | rfl | rfl
  · exact KZ.out.cell (i := 0) rfl
  · exact KZ.out.cell (i := 1) rfl
  · exact KZ.out.cell (i := 2) rfl
  · exact KZ.out.cell (i := 3) rfl
  · exact KZ.out.cell (i := 4) rfl
end Go.Proofs.YthknjpmhomjobaaGreatDoor
