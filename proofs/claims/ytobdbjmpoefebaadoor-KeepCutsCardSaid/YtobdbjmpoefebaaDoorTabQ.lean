/- The first call of all of keep's laws. -/
import Derived.Test.YtobdbjmpoefebaaDoorTabP
namespace Go.Proofs.YtobdbjmpoefebaaDoor
open Go.RowKit Go.Sort
set_option linter.unusedVariables false
set_option linter.unusedSimpArgs false

/-- the table that is written out -/
def baseT (n : Nat) (l : Int) : TB :=
  { AS := some ⟨n + 1 + 1, 0, none⟩, nS := 1, cS := 1, AC := some ⟨n + 1 + 1 + 1 + 1, 0, none⟩, nC := 1, cC := 1, AK := some ⟨n + 1 + 1 + 1 + 1 + 1, 0, none⟩, nK := 1, cK := 1, L := l, W := 1,
    S := fun _ => ⟨some ⟨n + 1, 0, none⟩, 2, 2, fun i => if i = 0 then 0 else 5, fun i => if i = 0 then 2000 else 4000, fun _ => 0⟩,
    C := fun _ => ⟨⟨#[97]⟩, 2, ⟨some ⟨n + 1 + 1 + 1, 0, none⟩, 2, 2, fun i => if i = 0 then 0 else 1, fun i => if i = 0 then 0 else 1000, fun _ => 0⟩, 0, 0, 2⟩,
    K := fun _ => ⟨⟨#[107]⟩, 0, 0, 0⟩ }
set_option maxHeartbeats 2000000 in
set_option maxRecDepth 100000 in
theorem base_any (l : Int) (w : World) : Calls Tryd.prog 35 #[.int .i64 l] w fun e w' => ∃ n, e = .returned (baseT n l).v ∧ Tm w' (baseT n l) ∧ Below w.heap.size w w' := by
  go_enter Tryd.func35, Tryd.ntmps35
  go_wp2
  refine bodyPost_ret (v := (baseT w.heap.size l).v) (by simp [results, Tryd.results35, go_sem, TB.v, baseT]) rfl ⟨w.heap.size, rfl, ⟨?_, ?_, ?_⟩, ?_⟩
  · intro _
    refine ⟨_, _, rfl, fun i hi => ?_⟩
    obtain rfl : i = 0 := by have : i < 1 := hi; omega
    refine ⟨by simp [go_sem, baseT], fun _ => ⟨_, _, rfl, fun j hj => ?_⟩⟩
    have hj' : j < 2 := hj
    rcases (show j = 0 ∨ j = 1 by omega) with rfl | rfl <;> simp [go_sem, baseT]
  · intro _
    refine ⟨_, _, rfl, fun i hi => ?_⟩
    obtain rfl : i = 0 := by have : i < 1 := hi; omega
    refine ⟨by simp [go_sem, baseT], by simp [go_sem, baseT], by simp [go_sem, baseT], by simp [go_sem, baseT], by simp [go_sem, baseT], by simp [go_sem, baseT], fun _ => ⟨_, _, rfl, fun j hj => ?_⟩⟩
    have hj' : j < 2 := hj
    rcases (show j = 0 ∨ j = 1 by omega) with rfl | rfl <;> simp [go_sem, baseT]
  · intro _
    refine ⟨_, _, rfl, fun i hi => ?_⟩
    obtain rfl : i = 0 := by have : i < 1 := hi; omega
    exact ⟨by simp [go_sem, baseT], by simp [go_sem, baseT], by simp [go_sem, baseT], by simp [go_sem, baseT]⟩
  · exact ((((((Below.refl _ _).alloc (Nat.le_refl _) _).alloc (by simp) _).alloc (by simp; omega) _).alloc (by simp; omega) _).alloc (by simp; omega) _).alloc (by simp; omega) _
theorem base_sm (n : Nat) (l : Int) : SmP (baseT n l) := ⟨by show 1 ≤ 20; omega, by show 1 ≤ 20; omega, by show 1 ≤ 30; omega, fun _ _ => by show 2 ≤ 20; omega, fun _ _ => by show 2 ≤ 20; omega⟩
theorem base_chk (n : Nat) : (baseT n 100).chk = 0 ∧ (baseT n 8500).chk = 0 ∧ (baseT n 8501).chk = 0 := ⟨by rfl, by rfl, by rfl⟩
theorem base_kept (n : Nat) : keptW (baseT n 100) = 5000 ∧ keptW (baseT n 8500) = 500 ∧ keptW (baseT n 8501) = 499 := ⟨by rfl, by rfl, by rfl⟩
theorem base_all (n : Nat) : allW (baseT n 100).S (baseT n 100).L (baseT n 100).nS = (0, 1, 4000) := by rfl
theorem base_pcs (n : Nat) (l : Int) : pcs (baseT n l) = 11 := by rfl
theorem base_kv (n : Nat) : keptV (baseT n 100) 0 0 (fun _ => 0) 1 = (8000, 0) := by rfl
theorem ro_ri {w : World} {B : Nat} {A : Option Addr} {n c : Nat} {f : Nat → Int} (h : Ro w B (.slice A n c) n f) : Ri w A n f := by
  intro hn
  rcases h.2 with ⟨_, h0⟩ | ⟨g, cap, cur, hv, _⟩
  · omega
  · have hA : A = some ⟨g, 0, none⟩ := by simpa using (Value.slice.inj hv).1
    refine ⟨g, 0, hA, fun i hi => ?_⟩
    have := h.cells (g := g) (by rw [hv]; rfl) i (.int .i64 (f i)) (by simp [hi])
    rw [Go.WideShapes.add_plain, Nat.zero_add] at this
    rwa [Nat.zero_add]
theorem worst_base (n : Nat) (w : World) (h : Tm w (baseT n 100)) : Calls Tryd.prog 16 #[(baseT n 100).v] w fun e w' => ∃ g c, e = .returned (.tuple #[.agg #[.int .i64 0, .int .i64 1, .slice (some ⟨g, 0, none⟩) 1 c, .int .i64 5000], .int .i64 0]) ∧ w'.cell? ⟨g, 0, none⟩ = some (.int .i64 1) ∧ g < w'.heap.size ∧ Below w.heap.size w w' := by
  refine (worst_ok w (baseT n 100) h (base_sm n 100).sz (base_chk n).1).mono ?_
  rintro e w' ⟨v, he, hr, hb⟩
  rw [base_all, (base_kept n).1] at he
  obtain ⟨g, cap, rfl, _, hg⟩ := own_is (n := 0) hr
  obtain ⟨b, o, hA, hc⟩ := ro_ri hr (by show 0 < 1; omega)
  have := hc 0 (by show 0 < 1; omega)
  simp only [Option.some.injEq, Addr.mk.injEq] at hA
  obtain ⟨rfl, rfl, _⟩ := hA
  exact ⟨g, cap, he, this, hg, hb⟩
theorem kept_base (n g c : Nat) (w : World) (h : Tm w (baseT n 100)) (hc : w.cell? ⟨g, 0, none⟩ = some (.int .i64 0)) : Calls Tryd.prog 36 #[(baseT n 100).v, .agg #[.int .i64 0, .int .i64 0, .slice (some ⟨g, 0, none⟩) 1 c, .int .i64 0]] w fun e w' => e = .returned (.tuple #[.int .i64 8000, .int .i64 0]) ∧ Below w.heap.size w w' := by
  have hri : Ri w (some ⟨g, 0, none⟩) 1 (fun _ => 0) := fun _ => ⟨g, 0, rfl, fun i hi => by
    have e : i = 0 := by omega
    subst e
    exact hc⟩
  have := kept_any w (baseT n 100) h (base_sm n 100).sz 0 0 0 (some ⟨g, 0, none⟩) 1 c (fun _ => 0) hri (by omega)
  rw [base_kv] at this
  exact this
theorem chk_ok8500 (n : Nat) (w : World) (h : Tm w (baseT n 8500)) : Calls Tryd.prog 17 #[(baseT n 8500).v] w fun e w' => e = .returned (.int .i64 0) ∧ Below w.heap.size w w' := by
  have := kcheck_any w (baseT n 8500) h (base_sm n 8500).sz
  rw [show kchk (baseT n 8500) = 0 from by rfl] at this
  exact this
theorem chk_ok8501 (n : Nat) (w : World) (h : Tm w (baseT n 8501)) : Calls Tryd.prog 17 #[(baseT n 8501).v] w fun e w' => e = .returned (.int .i64 100) ∧ Below w.heap.size w w' := by
  have := kcheck_any w (baseT n 8501) h (base_sm n 8501).sz
  rw [show kchk (baseT n 8501) = 100 from by rfl] at this
  exact this
theorem comps_base (n : Nat) (w : World) (h : Tm w (baseT n 0)) : Calls Tryd.prog 37 #[(baseT n 0).v] w fun e w' => e = .returned (.int .i64 2) ∧ Below w.heap.size w w' :=
  comps_any w (baseT n 0) h (by show 1 ≤ 1000; omega)
theorem window_base (n : Nat) (w : World) (h : Tm w (baseT n 0)) : Calls Tryd.prog 38 #[(baseT n 0).v] w fun e w' => e = .returned (.int .i64 82) ∧ Below w.heap.size w w' :=
  window_any w (baseT n 0) h (by show 1 ≤ 1000; omega)
theorem pieces_base (n : Nat) (w : World) (h : Tm w (baseT n 0)) : Calls Tryd.prog 39 #[(baseT n 0).v] w fun e w' => e = .returned (.int .i64 11) ∧ Below w.heap.size w w' := by
  have := pieces_any w (baseT n 0) h (base_sm n 0)
  rw [base_pcs] at this
  exact this
set_option maxHeartbeats 2000000 in
set_option maxRecDepth 100000 in
theorem keeps_any (w : World) : Calls Tryd.prog 10 #[] w fun e w' => e = .returned (.bool true) ∧ Below w.heap.size w w' := by
  have cb := base_any
  have cw := worst_base
  have ck := kept_base
  have c1 := chk_ok8500
  have c2 := chk_ok8501
  have c3 := comps_base
  have c4 := window_base
  have c5 := pieces_base
  go_enter Tryd.func10, Tryd.ntmps10
  go_wp2_with (fail)
  refine (cb 100 _).mono ?_
  rintro e w1 ⟨n1, rfl, M1, B1⟩
  go_wp2_with (fail)
  refine (cw n1 _ M1).mono ?_
  rintro e w2 ⟨g, c, rfl, hg, hgl, hb⟩
  have B2 := below_step B1 hb B1.size
  have K2 := C4.new w2 (.int .i64 0) (.int .i64 1) (.slice (some ⟨g, 0, none⟩) 1 c) (.int .i64 5000)
  have hN := below_new w2 (.cells #[.int .i64 0, .int .i64 1, .slice (some ⟨g, 0, none⟩) 1 c, .int .i64 5000] 39)
  have B3 := below_step B2 hN B2.size
  have hg3 := cell_later hN hg
  clear hb hN hg B1 B2 M1
  generalize hp : w2.heap.size = p at *
  go_wp2_with (fail)
  generalize w2.alloc (.cells #[.int .i64 0, .int .i64 1, .slice (some ⟨g, 0, none⟩) 1 c, .int .i64 5000] 39) = w3 at *
  clear hp hgl
  refine (cb 100 _).mono ?_
  rintro e w4 ⟨n2, rfl, M4, hb⟩
  have B4 := below_step B3 hb B3.size
  have K4 := K2.below hb
  have hg4 := cell_later hb hg3
  have hN := below_new w4 (.cells #[.int .i64 0] 3)
  have M5 := M4.below hN
  have B5 := below_step B4 hN B4.size
  have K5 := K4.below hN
  have hg5 := cell_later hN hg4
  clear hb hN B3 K2 hg3 hg4 K4 M4 B4
  go_wp2_with (fail)
  refine (ck n2 _ _ _ M5 (by simp [go_sem])).mono ?_
  rintro e w6 ⟨rfl, hb⟩
  have B6 := below_step B5 hb B5.size
  have K6 := K5.below hb
  have hg6 := cell_later hb hg5
  have y0 := K6.c0
  have y1 := K6.c1
  have y2 := K6.c2
  have y3 := K6.c3
  clear hb B5 K5 hg5 M5
  go_wp2_with (fail)
  refine (cb 8500 _).mono ?_
  rintro e w7 ⟨n3, rfl, M7, hb7⟩
  have B7 := below_step B6 hb7 B6.size
  go_wp2_with (fail)
  refine (c1 n3 _ M7).mono ?_
  rintro e w8 ⟨rfl, hb8⟩
  have B8 := below_step B7 hb8 B7.size
  clear hb7 hb8 B7 M7 B6
  go_wp2_with (fail)
  refine (cb 8501 _).mono ?_
  rintro e w9 ⟨n4, rfl, M9, hb9⟩
  have B9 := below_step B8 hb9 B8.size
  go_wp2_with (fail)
  refine (c2 n4 _ M9).mono ?_
  rintro e wA ⟨rfl, hbA⟩
  have BA := below_step B9 hbA B9.size
  clear hb9 hbA B9 M9 B8
  go_wp2_with (fail)
  refine (cb 0 _).mono ?_
  rintro e wB ⟨n5, rfl, MB, hbB⟩
  have BB := below_step BA hbB BA.size
  go_wp2_with (fail)
  refine (c3 n5 _ MB).mono ?_
  rintro e wC ⟨rfl, hbC⟩
  have BC := below_step BB hbC BB.size
  clear hbB hbC BB MB BA
  go_wp2_with (fail)
  refine (cb 0 _).mono ?_
  rintro e wD ⟨n6, rfl, MD, hbD⟩
  have BD := below_step BC hbD BC.size
  go_wp2_with (fail)
  refine (c4 n6 _ MD).mono ?_
  rintro e wE ⟨rfl, hbE⟩
  have BE := below_step BD hbE BD.size
  clear hbD hbE BD MD BC
  go_wp2_with (fail)
  refine (cb 0 _).mono ?_
  rintro e wF ⟨n7, rfl, MF, hbF⟩
  have BF := below_step BE hbF BE.size
  go_wp2_with (fail)
  refine (c5 n7 _ MF).mono ?_
  rintro e wG ⟨rfl, hbG⟩
  have BG := below_step BF hbG BF.size
  go_wp2
  go_ret
  exact ⟨rfl, BG⟩
end Go.Proofs.YtobdbjmpoefebaaDoor
