/- What date.Text answers: nothing of no day, else the day's ten bytes. -/
import Derived.Test.YtkgfmanolanlhaaDoorTabD
import Derived.Shelf.Strconv.Itoa3
import Derived.Shelf.Strings.Repeat
import Derived.Shelf.Strings.OnBuilder
import Derived.Test.YtkgfmanolanlhaaDoorShelf
namespace Go.Proofs.YtkgfmanolanlhaaDoor
open Go.RowKit Go.Shelf
set_option linter.unusedVariables false
set_option linter.unusedSimpArgs false

theorem str_app (l m : List UInt8) : (ByteArray.mk l.toArray) ++ (ByteArray.mk m.toArray) = ByteArray.mk (l ++ m).toArray := by
  apply ByteArray.ext
  simp [ByteArray.data_append]
/-- three words as they are held -/
def WS (w : World) (b : Nat) (v0 v1 v2 : Value) (W : World) : Prop := W.cell? ⟨b, 0, none⟩ = some v0 ∧ W.cell? ⟨b, 1, none⟩ = some v1 ∧ W.cell? ⟨b, 2, none⟩ = some v2 ∧ Free W b ∧ w.heap.size ≤ b ∧ b < W.heap.size ∧ Below w.heap.size w W ∧ Door W ∧ Door w
theorem WS.step {w W W' : World} {b : Nat} {v0 v1 v2 : Value} (hb : Below W.heap.size W W') (M : WS w b v0 v1 v2 W) : WS w b v0 v1 v2 W' := by
  obtain ⟨h0, h1, h2, f, hl, hz, B, D, D0⟩ := M
  exact ⟨(hb.cell (p := ⟨b, 0, none⟩) hz).trans h0, (hb.cell (p := ⟨b, 1, none⟩) hz).trans h1, (hb.cell (p := ⟨b, 2, none⟩) hz).trans h2, f.below hb hz, hl, by have := hb.size; omega, below_step B hb B.size, D.below hb, D0⟩
theorem ws_new (w w1 : World) (t : TypeId) (B : Below w.heap.size w w1) (D : Door w) (E : Door w1) : WS w w1.heap.size (.string ⟨#[]⟩) (.string ⟨#[]⟩) (.string ⟨#[]⟩) (w1.alloc (.cells #[.string ⟨#[]⟩, .string ⟨#[]⟩, .string ⟨#[]⟩] t)) := by
  refine ⟨?_, ?_, ?_, free_new _ _ _, B.size, by simp, B.alloc B.size _, E.below ((Below.refl _ _).alloc (Nat.le_refl _) _), D⟩ <;> simp [World.cell?_alloc_new]
theorem free_set {W : World} {b b' k : Nat} (f : Free W b) (v : Value) : Free (W.setCell ⟨b', k, none⟩ v) b :=
  ⟨by rw [World.frozen?_setCell]; exact f.1, by rw [World.frozen?_setCell]; exact f.2.1, by rw [World.frozen?_setCell]; exact f.2.2⟩
theorem cell_other {W : World} {b k j : Nat} {v x : Value} (h : W.cell? ⟨b, j, none⟩ = some x) (hk : k ≠ j) : (W.setCell ⟨b, k, none⟩ v).cell? ⟨b, j, none⟩ = some x := by
  rw [World.cell?_setCell_other]
  · exact h
  · simp
theorem WS.set0 {w W : World} {b : Nat} {v0 v1 v2 : Value} (v : Value) (M : WS w b v0 v1 v2 W) : WS w b v v1 v2 (W.setCell ⟨b, 0, none⟩ v) := by
  obtain ⟨h0, h1, h2, f, hl, hz, B, D, D0⟩ := M
  exact ⟨World.cell?_setCell_same _ _ _ h0, cell_other h1 (by omega), cell_other h2 (by omega), free_set f v, hl, by simpa using hz, B.setCell hl v, D0.below (B.setCell hl v), D0⟩
theorem WS.set1 {w W : World} {b : Nat} {v0 v1 v2 : Value} (v : Value) (M : WS w b v0 v1 v2 W) : WS w b v0 v v2 (W.setCell ⟨b, 1, none⟩ v) := by
  obtain ⟨h0, h1, h2, f, hl, hz, B, D, D0⟩ := M
  exact ⟨cell_other h0 (by omega), World.cell?_setCell_same _ _ _ h1, cell_other h2 (by omega), free_set f v, hl, by simpa using hz, B.setCell hl v, D0.below (B.setCell hl v), D0⟩
theorem WS.set2 {w W : World} {b : Nat} {v0 v1 v2 : Value} (v : Value) (M : WS w b v0 v1 v2 W) : WS w b v0 v1 v (W.setCell ⟨b, 2, none⟩ v) := by
  obtain ⟨h0, h1, h2, f, hl, hz, B, D, D0⟩ := M
  exact ⟨cell_other h0 (by omega), cell_other h1 (by omega), World.cell?_setCell_same _ _ _ h2, free_set f v, hl, by simpa using hz, B.setCell hl v, D0.below (B.setCell hl v), D0⟩
theorem WS.drew {w W : World} {b : Nat} {v0 v1 v2 : Value} (M : WS w b v0 v1 v2 W) : WS w b v0 v1 v2 W.drew := M.step (Below.refl _ _).drew
theorem ret_s {a b : ByteArray} (h : a = b) : Ending.returned (.string a) = .returned (.string b) := by rw [h]
theorem text_no (y m d : Int) (h : dayB y m d = false) (w : World) : Calls Tryd.prog 18 #[.agg #[.int .i64 y, .int .i64 m, .int .i64 d]] w fun e w' => e = .returned (.string ⟨#[]⟩) ∧ Below w.heap.size w w' := by
  have hc := right_b y m d false h
  clear h
  have D0 := day_new w y m d 23
  have B0 : Below w.heap.size w (w.alloc (.cells #[.int .i64 y, .int .i64 m, .int .i64 d] 23)) := (Below.refl _ _).alloc (Nat.le_refl _) _
  obtain ⟨a0, a1, a2⟩ := id D0
  go_enter Tryd.func18, Tryd.ntmps18
  go_wp2_with (fail)
  refine (hc _).mono ?_
  rintro e w1 ⟨rfl, hb⟩
  have B1 := below_step B0 hb B0.size
  go_wp2
  go_ret
  exact ⟨rfl, B1⟩

theorem itoa_any (y : Int) (h : 1000 ≤ y) (h' : y ≤ 9999) (w : World) (D : Door w) : Calls Tryd.prog 45 #[.int .i64 y] w fun e w' => e = .returned (.string ⟨(d4 y.toNat).toArray⟩) ∧ Below w.heap.size w w' := by
  refine (Tryd.strconv_Itoa y (by omega) (by omega) w D.2.1).mono ?_
  rintro e w' ⟨rfl, k, os, rfl⟩
  exact ⟨ret_s (by rw [itoa_four h h']), Lib.below_grow _ w (Nat.le_refl _) k os⟩
theorem itoa_two_any (m : Int) (h : 0 ≤ m) (h' : m ≤ 99) (w : World) : Calls Tryd.prog 45 #[.int .i64 m] w fun e w' => e = .returned (.string ⟨(Lib.itoa m).toArray⟩) ∧ w' = w := by
  have := Tryd.strconv_Itoa_small m.toNat (by omega) w
  rw [show ((m.toNat : Nat) : Int) = m by omega] at this
  refine this.mono ?_
  rintro e w' ⟨rfl, rfl⟩
  refine ⟨ret_s ?_, rfl⟩
  unfold Lib.itoa
  rw [if_neg (by omega)]
theorem rep_any (k : Nat) (hk : k ≤ 1) (w : World) : Calls Tryd.prog 46 #[.string ⟨#[48]⟩, .int .i64 k] w fun e w' => e = .returned (.string ⟨(Lib.repeatL [48] k).toArray⟩) ∧ w' = w := by
  rcases (show k = 0 ∨ k = 1 by omega) with rfl | rfl
  · refine (Tryd.strings_Repeat_zero ⟨#[48]⟩ w).mono ?_
    rintro e w' ⟨rfl, rfl⟩
    exact ⟨rfl, rfl⟩
  · refine (Tryd.strings_Repeat_one ⟨#[48]⟩ w).mono ?_
    rintro e w' ⟨rfl, rfl⟩
    exact ⟨rfl, rfl⟩
theorem join_any (a b c : List UInt8) (bk : Nat) (ha : a.length ≤ 100) (hb : b.length ≤ 100) (hc : c.length ≤ 100) (w : World) (h0 : w.cell? ⟨bk, 0, none⟩ = some (.string ⟨a.toArray⟩)) (h1 : w.cell? ⟨bk, 1, none⟩ = some (.string ⟨b.toArray⟩)) (h2 : w.cell? ⟨bk, 2, none⟩ = some (.string ⟨c.toArray⟩)) (hbk : bk < w.heap.size) :
    Calls Tryd.prog 47 #[.slice (some ⟨bk, 0, none⟩) 3 3, .string ⟨#[45]⟩] w fun e w' => e = .returned (.string ⟨(a ++ 45 :: (b ++ 45 :: c)).toArray⟩) ∧ Below w.heap.size w w' := by
  have h := Tryd.strings_Join bk 0 3 [⟨a.toArray⟩, ⟨b.toArray⟩, ⟨c.toArray⟩] ⟨#[45]⟩ w (fun j x hx => by
    match j, hx with
    | 0, hx => cases hx; exact h0
    | 1, hx => cases hx; exact h1
    | 2, hx => cases hx; exact h2
    | j + 3, hx => cases hx) hbk (by simp) (by simp) (by
      simp only [List.map_cons, List.map_nil]
      rw [join_day]
      simp
      omega)
  simp only [List.map_cons, List.map_nil] at h
  rw [join_day] at h
  exact h
set_option maxRecDepth 100000 in
theorem text_yes (y m d : Int) (h : dayB y m d = true) (w : World) (D : Door w) : Calls Tryd.prog 18 #[.agg #[.int .i64 y, .int .i64 m, .int .i64 d]] w fun e w' => e = .returned (.string ⟨(txtD y m d).toArray⟩) ∧ Below w.heap.size w w' := by
  have hc := right_b y m d true h
  obtain ⟨y1, y2, m1, m2, d1, dx⟩ := dayB_yes h
  have hml := (ml_bd y m).2
  have hi0 := fun W E => itoa_any y (by omega) (by omega) W E
  have hi1 := itoa_two_any m (by omega) (by omega)
  have hi2 := itoa_two_any d (by omega) (by omega)
  have hl1 := itoa_len2 (m := m) (by omega) (by omega)
  have hl2 := itoa_len2 (m := d) (by omega) (by omega)
  have ht1 := itoa_two (m := m) (by omega) (by omega)
  have ht2 := itoa_two (m := d) (by omega) (by omega)
  have ht : txtD y m d = d4 y.toNat ++ 45 :: (d2 m.toNat ++ 45 :: d2 d.toNat) := rfl
  rw [ht]
  clear ht
  have hz1 : zs m ≤ 1 := by unfold zs; split <;> omega
  have hz2 : zs d ≤ 1 := by unfold zs; split <;> omega
  have hr0 : ∀ w, Calls Tryd.prog 46 #[.string ⟨#[48]⟩, .int .i64 0] w fun e w' => e = .returned (.string ⟨#[]⟩) ∧ w' = w := rep_any 0 (by omega)
  have hr1 := rep_any (zs m) hz1
  have hr2 := rep_any (zs d) hz2
  rw [show ((zs m : Nat) : Int) = 2 - ((Lib.itoa m).length : Int) by omega] at hr1
  rw [show ((zs d : Nat) : Int) = 2 - ((Lib.itoa d).length : Int) by omega] at hr2
  have hy4 : (d4 y.toNat).length = 4 := rfl
  have hq1 : (d2 m.toNat).length = 2 := rfl
  have hq2 : (d2 d.toNat).length = 2 := rfl
  have hL1 : (Lib.itoa m).length ≤ 2 := by omega
  have hL2 : (Lib.itoa d).length ≤ 2 := by omega
  have hR1 : (Lib.repeatL [48] (zs m)).length ≤ 2 := by rw [← ht1] at hq1; simp at hq1; omega
  have hR2 : (Lib.repeatL [48] (zs d)).length ≤ 2 := by rw [← ht2] at hq2; simp at hq2; omega
  clear h hl1 hl2 hz1 hz2 y1 y2 m1 m2 d1 dx hml
  generalize d4 y.toNat = yy at *
  generalize d2 m.toNat = mm at *
  generalize d2 d.toNat = dd at *
  generalize Lib.itoa m = im at *
  generalize Lib.itoa d = id at *
  generalize Lib.repeatL [48] (zs m) = rm at *
  generalize Lib.repeatL [48] (zs d) = rd at *
  have D0 := day_new w y m d 23
  have B0 : Below w.heap.size w (w.alloc (.cells #[.int .i64 y, .int .i64 m, .int .i64 d] 23)) := (Below.refl _ _).alloc (Nat.le_refl _) _
  obtain ⟨a0, a1, a2⟩ := D0
  have D0 := day_new w y m d 23
  have ix0 := index3_0 y m d
  have ix1 := index3_1 y m d
  have ix2 := index3_2 y m d
  go_enter Tryd.func18, Tryd.ntmps18
  go_wp2_with (fail)
  refine (hc _).mono ?_
  rintro e w1 ⟨rfl, hb⟩
  have B1 := below_step B0 hb B0.size
  have D1 := D0.below hb (by simp)
  have hz1 : w.heap.size < w1.heap.size := by have := hb.size; simp at this; omega
  have E1 := D.below B1
  clear hb D0 B0 a0 a1 a2
  obtain ⟨c0, c1, c2⟩ := D1
  go_wp2_with (fail)
  refine (parts_any _ _ _ _).mono ?_
  rintro e w2 ⟨rfl, hb⟩
  have M2 : WS w w1.heap.size (.string ⟨#[]⟩) (.string ⟨#[]⟩) (.string ⟨#[]⟩) w2 := WS.step hb (ws_new w w1 59 B1 D E1)
  clear hb B1 E1 c0 c1 c2 D hc
  generalize w1.heap.size = b at *
  go_wp2
  refine wp_loop_rounds 4 ?_
  have n0 : ¬ 9223372036854775807 < yy.length := by omega
  have n1 : ¬ 9223372036854775807 < im.length := by omega
  have n2 : ¬ 9223372036854775807 < id.length := by omega
  have n3 : ¬ 9223372036854775807 < rm.length + im.length := by omega
  have n4 : ¬ 9223372036854775807 < rd.length + id.length := by omega
  rw [rounds_succ]
  go_wp2_with (fail)
  refine (hi0 _ M2.2.2.2.2.2.2.2.1).mono ?_
  rintro e w0a ⟨rfl, hb⟩
  have N0 := M2.step hb
  clear hb M2
  obtain ⟨⟨⟨g0, g1, g2⟩, gz⟩, _⟩ := N0.2.2.2.2.2.2.2.1
  obtain ⟨v0, v1, v2, ⟨f0, f1, f2⟩, vl, vz, vB, _⟩ := _root_.id N0
  go_wp2_with (fail)
  refine (hr0 _).mono ?_
  rintro e w0b ⟨rfl, rfl⟩
  go_wp2
  have M1x := N0.set0 (.string (⟨#[]⟩ ++ ⟨yy.toArray⟩))
  clear N0 g0 g1 g2 gz v0 v1 v2 f0 f1 f2 vl vz vB
  generalize w0b.setCell ⟨b, 0, none⟩ (.string (⟨#[]⟩ ++ ⟨yy.toArray⟩)) = W1 at *
  rw [rounds_succ]
  go_wp2_with (fail)
  refine (hi1 _).mono ?_
  rintro e w1a ⟨rfl, rfl⟩
  have N1 := M1x
  clear M1x
  obtain ⟨⟨⟨g0, g1, g2⟩, gz⟩, _⟩ := N1.2.2.2.2.2.2.2.1
  obtain ⟨v0, v1, v2, ⟨f0, f1, f2⟩, vl, vz, vB, _⟩ := _root_.id N1
  go_wp2_with (fail)
  refine (hr1 _).mono ?_
  rintro e w1b ⟨rfl, rfl⟩
  go_wp2
  have M2x := N1.set1 (.string (⟨rm.toArray⟩ ++ ⟨im.toArray⟩))
  clear N1 g0 g1 g2 gz v0 v1 v2 f0 f1 f2 vl vz vB
  generalize w1b.setCell ⟨b, 1, none⟩ (.string (⟨rm.toArray⟩ ++ ⟨im.toArray⟩)) = W2 at *
  rw [rounds_succ]
  go_wp2_with (fail)
  refine (hi2 _).mono ?_
  rintro e w2a ⟨rfl, rfl⟩
  have N2 := M2x
  clear M2x
  obtain ⟨⟨⟨g0, g1, g2⟩, gz⟩, _⟩ := N2.2.2.2.2.2.2.2.1
  obtain ⟨v0, v1, v2, ⟨f0, f1, f2⟩, vl, vz, vB, _⟩ := _root_.id N2
  go_wp2_with (fail)
  refine (hr2 _).mono ?_
  rintro e w2b ⟨rfl, rfl⟩
  go_wp2
  have M3x := N2.set2 (.string (⟨rd.toArray⟩ ++ ⟨id.toArray⟩))
  clear N2 g0 g1 g2 gz v0 v1 v2 f0 f1 f2 vl vz vB
  generalize w2b.setCell ⟨b, 2, none⟩ (.string (⟨rd.toArray⟩ ++ ⟨id.toArray⟩)) = W3 at *
  rw [rounds_succ]
  rw [show (ByteArray.mk #[]) = ⟨([] : List UInt8).toArray⟩ from rfl, str_app, str_app, str_app, ht1, ht2, List.nil_append] at M3x
  go_wp2_with (fail)
  refine (join_any yy mm dd b (by omega) (by omega) (by omega) _ M3x.1 M3x.2.1 M3x.2.2.1 M3x.2.2.2.2.2.1).mono ?_
  rintro e w9 ⟨rfl, hb⟩
  have B9 := below_step M3x.2.2.2.2.2.2.1 hb M3x.2.2.2.2.2.2.1.size
  go_wp2
  go_ret
  exact ⟨rfl, B9⟩
end Go.Proofs.YtkgfmanolanlhaaDoor
