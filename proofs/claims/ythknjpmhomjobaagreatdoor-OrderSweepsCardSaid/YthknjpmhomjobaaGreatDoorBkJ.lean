/- What a book of orders answers of one of them, by its number. -/
import Derived.Test.YthknjpmhomjobaaGreatDoorBkE
import Derived.Test.YthknjpmhomjobaaGreatDoorOrdA
namespace Go.Proofs.YthknjpmhomjobaaGreatDoor
open Go.RowKit Go.Sort
set_option linter.unusedVariables false
set_option linter.unusedSimpArgs false

set_option maxRecDepth 100000 in
set_option maxHeartbeats 4000000 in
theorem find_no (p n : Nat) (f : Nat → Sta) (id : Int) (w : World) (h : Bk w p n f) (hn : n ≤ 64) (hp : plc f id n = -1) :
    Calls Tryz.prog 19 #[.pointer (some ⟨p, 0, none⟩), .int .i64 id] w fun e w' => e = .returned (.tuple #[.agg #[.int .i64 0, .int .i64 0, .int .i64 0, .int .i64 0, .int .i64 0, .int .i64 0, .int .i64 0], .int .i64 3]) ∧ Below w.heap.size w w' := by
  have Z := bx_new w [.int .i64 0, .int .i64 0, .int .i64 0, .int .i64 0, .int .i64 0, .int .i64 0, .int .i64 0] 50
  have B1 := below_new w (.cells #[.int .i64 0, .int .i64 0, .int .i64 0, .int .i64 0, .int .i64 0, .int .i64 0, .int .i64 0] 50)
  have cP := place_any p n f id _ (h.below B1) (by omega) (-1) hp
  clear h hp
  go_enter Tryz.func19, Tryz.ntmps19
  go_wp2_with (fail)
  with_reducible refine cP.mono ?_
  rintro e w1 ⟨rfl, NB⟩
  have B2 := below_step B1 NB B1.size
  have K2 := Z.below NB
  have y_0 := K2.cell (i := 0) rfl
  have yf_0 := K2.fr 0
  have y_1 := K2.cell (i := 1) rfl
  have yf_1 := K2.fr 1
  have y_2 := K2.cell (i := 2) rfl
  have yf_2 := K2.fr 2
  have y_3 := K2.cell (i := 3) rfl
  have yf_3 := K2.fr 3
  have y_4 := K2.cell (i := 4) rfl
  have yf_4 := K2.fr 4
  have y_5 := K2.cell (i := 5) rfl
  have yf_5 := K2.fr 5
  have y_6 := K2.cell (i := 6) rfl
  have yf_6 := K2.fr 6
  have HK := Lib.hid K2
  have HB := Lib.hid B2
  clear NB B1 Z cP B2 K2
  have ZZ := ((((((HK.out.set 0 (.int .i64 0)).set 1 (.int .i64 0)).set 2 (.int .i64 0)).set 3 (.int .i64 0)).set 4 (.int .i64 0)).set 5 (.int .i64 0)).set 6 (.int .i64 0)
  have hp : w.heap.size ≤ w.heap.size := Nat.le_refl _
  have HZ := ((((((HB.out.setCell (p := ⟨w.heap.size, 0, none⟩) hp (.int .i64 0)).setCell (p := ⟨w.heap.size, 1, none⟩) hp (.int .i64 0)).setCell (p := ⟨w.heap.size, 2, none⟩) hp (.int .i64 0)).setCell (p := ⟨w.heap.size, 3, none⟩) hp (.int .i64 0)).setCell (p := ⟨w.heap.size, 4, none⟩) hp (.int .i64 0)).setCell (p := ⟨w.heap.size, 5, none⟩) hp (.int .i64 0)).setCell (p := ⟨w.heap.size, 6, none⟩) hp (.int .i64 0)
  have HZZ := Lib.hid (And.intro ZZ HZ)
  clear ZZ HZ hp
  go_wp2
  clear y_0 y_1 y_2 y_3 y_4 y_5 y_6 yf_0 yf_1 yf_2 yf_3 yf_4 yf_5 yf_6
  obtain ⟨ZZ, HZ⟩ := HZZ.out
  clear HZZ
  generalize ((((((w1.setCell _ _).setCell _ _).setCell _ _).setCell _ _).setCell _ _).setCell _ _).setCell _ _ = W7 at *
  have z_0 := ZZ.cell (i := 0) rfl
  have z_1 := ZZ.cell (i := 1) rfl
  have z_2 := ZZ.cell (i := 2) rfl
  have z_3 := ZZ.cell (i := 3) rfl
  have z_4 := ZZ.cell (i := 4) rfl
  have z_5 := ZZ.cell (i := 5) rfl
  have z_6 := ZZ.cell (i := 6) rfl
  exact bodyPost_ret (v := .tuple #[.agg #[.int .i64 0, .int .i64 0, .int .i64 0, .int .i64 0, .int .i64 0, .int .i64 0, .int .i64 0], .int .i64 3]) (by simp [results, Tryz.results19, go_sem, z_0, z_1, z_2, z_3, z_4, z_5, z_6]) rfl ⟨rfl, HZ⟩
set_option maxRecDepth 100000 in
set_option maxHeartbeats 4000000 in
theorem find_at (p n i : Nat) (f : Nat → Sta) (id : Int) (w : World) (h : Bk w p n f) (hn : n ≤ 64) (hi : i < n) (hp : plc f id n = (i : Int)) (s : Sta) (hs : f i = s) :
    Calls Tryz.prog 19 #[.pointer (some ⟨p, 0, none⟩), .int .i64 id] w fun e w' => e = .returned (.tuple #[s.v, .int .i64 0]) ∧ Below w.heap.size w w' := by
  have Z := bx_new w [.int .i64 0, .int .i64 0, .int .i64 0, .int .i64 0, .int .i64 0, .int .i64 0, .int .i64 0] 50
  have B1 := below_new w (.cells #[.int .i64 0, .int .i64 0, .int .i64 0, .int .i64 0, .int .i64 0, .int .i64 0, .int .i64 0] 50)
  have h1 := h.below B1
  have cP := place_any p n f id _ h1 (by omega) (i : Int) hp
  have hin : (i : Int) < (n : Int) := by omega
  have hi0 : ¬ (i : Int) < 0 := by omega
  clear h hp
  unfold Sta.v
  go_enter Tryz.func19, Tryz.ntmps19
  go_wp2_with (fail)
  with_reducible refine cP.mono ?_
  rintro e w1 ⟨rfl, NB⟩
  have B2 := below_step B1 NB B1.size
  have K2 := Z.below NB
  obtain ⟨A, c, KB, hO, _⟩ := h1.below NB
  obtain ⟨g, o, rfl, hc⟩ := hO (by omega)
  have hci := hc i hi
  rw [hs] at hci
  obtain ⟨x0, x1, x2, x3, x4, x5, x6⟩ := s
  obtain ⟨c0, c1, c2, c3, c4, c5, c6⟩ := hci
  dsimp only at c0 c1 c2 c3 c4 c5 c6
  have b0 := KB.cell (i := 0) rfl
  have y_0 := K2.cell (i := 0) rfl
  have yf_0 := K2.fr 0
  have y_1 := K2.cell (i := 1) rfl
  have yf_1 := K2.fr 1
  have y_2 := K2.cell (i := 2) rfl
  have yf_2 := K2.fr 2
  have y_3 := K2.cell (i := 3) rfl
  have yf_3 := K2.fr 3
  have y_4 := K2.cell (i := 4) rfl
  have yf_4 := K2.fr 4
  have y_5 := K2.cell (i := 5) rfl
  have yf_5 := K2.fr 5
  have y_6 := K2.cell (i := 6) rfl
  have yf_6 := K2.fr 6
  have HK := Lib.hid K2
  have HB := Lib.hid B2
  clear NB B1 Z cP KB hO hc h1 B2 K2 hs
  have ZZ := (((((((HK.out.set 0 (.int .i64 x0)).set 1 (.int .i64 x1)).set 2 (.int .i64 x2)).set 3 (.int .i64 x3)).set 4 (.int .i64 x4)).set 5 (.int .i64 x5)).set 6 (.int .i64 x6))
  have hp : w.heap.size ≤ w.heap.size := Nat.le_refl _
  have HZ := (((((((HB.out.setCell (p := ⟨w.heap.size, 0, none⟩) hp (.int .i64 x0)).setCell (p := ⟨w.heap.size, 1, none⟩) hp (.int .i64 x1)).setCell (p := ⟨w.heap.size, 2, none⟩) hp (.int .i64 x2)).setCell (p := ⟨w.heap.size, 3, none⟩) hp (.int .i64 x3)).setCell (p := ⟨w.heap.size, 4, none⟩) hp (.int .i64 x4)).setCell (p := ⟨w.heap.size, 5, none⟩) hp (.int .i64 x5)).setCell (p := ⟨w.heap.size, 6, none⟩) hp (.int .i64 x6))
  have HZZ := Lib.hid (And.intro ZZ HZ)
  clear ZZ HZ hp
  go_wp2
  clear y_0 y_1 y_2 y_3 y_4 y_5 y_6 yf_0 yf_1 yf_2 yf_3 yf_4 yf_5 yf_6
  obtain ⟨ZZ, HZ⟩ := HZZ.out
  clear HZZ
  generalize ((((((w1.setCell _ _).setCell _ _).setCell _ _).setCell _ _).setCell _ _).setCell _ _).setCell _ _ = W7 at *
  have z_0 := ZZ.cell (i := 0) rfl
  have z_1 := ZZ.cell (i := 1) rfl
  have z_2 := ZZ.cell (i := 2) rfl
  have z_3 := ZZ.cell (i := 3) rfl
  have z_4 := ZZ.cell (i := 4) rfl
  have z_5 := ZZ.cell (i := 5) rfl
  have z_6 := ZZ.cell (i := 6) rfl
  exact bodyPost_ret (v := .tuple #[.agg #[.int .i64 x0, .int .i64 x1, .int .i64 x2, .int .i64 x3, .int .i64 x4, .int .i64 x5, .int .i64 x6], .int .i64 0]) (by simp [results, Tryz.results19, go_sem, z_0, z_1, z_2, z_3, z_4, z_5, z_6]) rfl ⟨rfl, HZ⟩
end Go.Proofs.YthknjpmhomjobaaGreatDoor
