/- What period's Index answers. -/
import Derived.Test.YtkgfmanolanlhaaDoorPerD
import Derived.Deep.RegionWith
namespace Go.Proofs.YtkgfmanolanlhaaDoor
open Go.RowKit
set_option linter.unusedVariables false
set_option linter.unusedSimpArgs false
set_option maxRecDepth 100000 in
set_option maxHeartbeats 2000000 in
theorem index_in0 (p : Nat) (f y m d a b c : Int) (W : World) (Y : Yr W p f y m d) (h : yrB y m d = true) (hd : dayB a b c = true) (hf : 1 ≤ f) (hf' : f ≤ 4) (h0 : num y m d ≤ num a b c) (h1 : num a b c ≤ yend y m d) (hcs : ∀ w, Calls Tryd.prog 27 #[.agg #[.int .i64 a, .int .i64 b, .int .i64 c], .agg #[.int .i64 y, .int .i64 m, .int .i64 d]] w fun e w' => e = .returned (.int .i64 0) ∧ Below w.heap.size w w') (hce : ∀ w, Calls Tryd.prog 27 #[.agg #[.int .i64 a, .int .i64 b, .int .i64 c], .agg #[.int .i64 (yOf (yend y m d)), .int .i64 (mOf (yend y m d)), .int .i64 (dOf (yend y m d))]] w fun e w' => e = .returned (.int .i64 (-1)) ∧ Below w.heap.size w w') :
    Calls Tryd.prog 53 #[.pointer (some ⟨p, 0, none⟩), .agg #[.int .i64 a, .int .i64 b, .int .i64 c]] W (IX f y m d (num a b c) W) := by
  have hc := right_b a b c true hd
  have L0 := ls_new W p f y m d a b c 47 23 Y
  obtain ⟨k0, k1, k2, k3, _, B0, _⟩ := id L0
  have hcb := cnt_bd (y := y) (d := d) hf hf' (dayB_yes (yrB_yes h).1).2.2.1
  obtain ⟨k, hk⟩ : ∃ k : Nat, (k : Int) = cnt f y m d := ⟨(cnt f y m d).toNat, by omega⟩
  have hcn := fun W Y => count_any p f y m d W Y h hf hf'
  rw [← hk] at hcn
  have hk53 : k ≤ 53 := by omega
  have HIX := Lib.hid (fun (i : Nat) (hi : i ≤ k) h2 h3 => ix_of (n := num a b c) hf hf' h hk h0 h1 hi h2 h3)
  have HSR := Lib.hid (fun (w : World) (L : LS w W.heap.size (W.heap.size + 1) p f y m d a b c w) => search_any 73 #[.pointer (some ⟨W.heap.size, 0, none⟩), .pointer (some ⟨W.heap.size + 1, 0, none⟩)] k (fun t => decide (num a b c < pb f y m d ((t : Int) + 1))) w
    (enters_of Tryd.func73 (by kernel_rfl) rfl) (by omega)
    (fun W' hB i hi => later_any _ _ p f y m d a b c i W' (LS.rebase (L.step hB)) h hd hf hf' (by omega))
    (fun s t hst htk hs => by
      simp only [decide_eq_true_eq] at hs ⊢
      have := pb_mono (f := f) (y := y) (m := m) (d := d) (a := (s : Int) + 1) (b := (t : Int) + 1) hf hf' (by omega)
      omega))
  clear h hd Y h0 h1 hcb hk
  go_enter Tryd.func53, Tryd.ntmps53
  go_wp2_with (fail)
  refine (hc _).mono ?_
  rintro e w1 ⟨rfl, hb⟩
  have X1 := (XS.of L0).step hb
  have X2 := X1.step (Below.refl _ _).drew
  clear k0 k1 k2 k3 B0 L0 hb
  go_wp2
  go_region_held3 (fun W' => W'.cell? ⟨W.heap.size, 0, none⟩ = some (.pointer (some ⟨p, 0, none⟩)) ∧ W'.cell? ⟨W.heap.size + 1, 0, none⟩ = some (.int .i64 a) ∧ W'.cell? ⟨W.heap.size + 1, 1, none⟩ = some (.int .i64 b) ∧ W'.cell? ⟨W.heap.size + 1, 2, none⟩ = some (.int .i64 c) ∧ W'.cell? ⟨p, 1, none⟩ = some (.int .i64 y) ∧ W'.cell? ⟨p, 2, none⟩ = some (.int .i64 m) ∧ W'.cell? ⟨p, 3, none⟩ = some (.int .i64 d) ∧ W'.cell? ⟨p, 4, none⟩ = some (.int .i64 (yOf (yend y m d))) ∧ W'.cell? ⟨p, 5, none⟩ = some (.int .i64 (mOf (yend y m d))) ∧ W'.cell? ⟨p, 6, none⟩ = some (.int .i64 (dOf (yend y m d))) ∧ LS W W.heap.size (W.heap.size + 1) p f y m d a b c W')
    ((first | exact X2 | exact XS.step hb (by assumption)))
    (first
      | (go_at_call 27; (with_reducible refine (hcs _).mono ?_); rintro e w2 ⟨rfl, hb⟩)
      | (go_at_call 27; (with_reducible refine (hce _).mono ?_); rintro e w2 ⟨rfl, hb⟩))
  rename_i hH
  obtain ⟨_, _, _, _, _, _, _, _, _, _, L2⟩ := hH
  obtain ⟨i0, i1, i2, i3, Y2, B2, z1, z2⟩ := id L2
  clear hb X1 X2
  go_wp2_with (fail)
  refine (hcn _ Y2).mono ?_
  rintro e w3 ⟨rfl, hb⟩
  have L3 := L2.step hb
  obtain ⟨j0, j1, j2, j3, Y3, B3, z3, z4⟩ := id L3
  clear hb L2 i0 i1 i2 i3 Y2 B2 z1 z2
  go_wp2_with (fail)
  refine (HSR.out w3 L3.rebase).mono ?_
  rintro e w4 ⟨i, hi, rfl, s1, s2, hb⟩
  have B4 := below_step B3 hb B3.size
  have hx := HIX.out i hi s1 s2
  have HX := Lib.hid hx
  clear hx s1 s2 hb L3
  go_wp2
  exact bodyPost_ret (v := .tuple #[.int .i64 i, .int .i64 0]) (by simp [results, Tryd.results53, go_sem]) rfl (show IX f y m d (num a b c) W _ _ from ⟨i, HX.out.1, HX.out.2.1, HX.out.2.2.1, HX.out.2.2.2, rfl, B4⟩)
set_option maxRecDepth 100000 in
set_option maxHeartbeats 2000000 in
theorem index_in1 (p : Nat) (f y m d a b c : Int) (W : World) (Y : Yr W p f y m d) (h : yrB y m d = true) (hd : dayB a b c = true) (hf : 1 ≤ f) (hf' : f ≤ 4) (h0 : num y m d ≤ num a b c) (h1 : num a b c ≤ yend y m d) (hcs : ∀ w, Calls Tryd.prog 27 #[.agg #[.int .i64 a, .int .i64 b, .int .i64 c], .agg #[.int .i64 y, .int .i64 m, .int .i64 d]] w fun e w' => e = .returned (.int .i64 0) ∧ Below w.heap.size w w') (hce : ∀ w, Calls Tryd.prog 27 #[.agg #[.int .i64 a, .int .i64 b, .int .i64 c], .agg #[.int .i64 (yOf (yend y m d)), .int .i64 (mOf (yend y m d)), .int .i64 (dOf (yend y m d))]] w fun e w' => e = .returned (.int .i64 0) ∧ Below w.heap.size w w') :
    Calls Tryd.prog 53 #[.pointer (some ⟨p, 0, none⟩), .agg #[.int .i64 a, .int .i64 b, .int .i64 c]] W (IX f y m d (num a b c) W) := by
  have hc := right_b a b c true hd
  have L0 := ls_new W p f y m d a b c 47 23 Y
  obtain ⟨k0, k1, k2, k3, _, B0, _⟩ := id L0
  have hcb := cnt_bd (y := y) (d := d) hf hf' (dayB_yes (yrB_yes h).1).2.2.1
  obtain ⟨k, hk⟩ : ∃ k : Nat, (k : Int) = cnt f y m d := ⟨(cnt f y m d).toNat, by omega⟩
  have hcn := fun W Y => count_any p f y m d W Y h hf hf'
  rw [← hk] at hcn
  have hk53 : k ≤ 53 := by omega
  have HIX := Lib.hid (fun (i : Nat) (hi : i ≤ k) h2 h3 => ix_of (n := num a b c) hf hf' h hk h0 h1 hi h2 h3)
  have HSR := Lib.hid (fun (w : World) (L : LS w W.heap.size (W.heap.size + 1) p f y m d a b c w) => search_any 73 #[.pointer (some ⟨W.heap.size, 0, none⟩), .pointer (some ⟨W.heap.size + 1, 0, none⟩)] k (fun t => decide (num a b c < pb f y m d ((t : Int) + 1))) w
    (enters_of Tryd.func73 (by kernel_rfl) rfl) (by omega)
    (fun W' hB i hi => later_any _ _ p f y m d a b c i W' (LS.rebase (L.step hB)) h hd hf hf' (by omega))
    (fun s t hst htk hs => by
      simp only [decide_eq_true_eq] at hs ⊢
      have := pb_mono (f := f) (y := y) (m := m) (d := d) (a := (s : Int) + 1) (b := (t : Int) + 1) hf hf' (by omega)
      omega))
  clear h hd Y h0 h1 hcb hk
  go_enter Tryd.func53, Tryd.ntmps53
  go_wp2_with (fail)
  refine (hc _).mono ?_
  rintro e w1 ⟨rfl, hb⟩
  have X1 := (XS.of L0).step hb
  have X2 := X1.step (Below.refl _ _).drew
  clear k0 k1 k2 k3 B0 L0 hb
  go_wp2
  go_region_held3 (fun W' => W'.cell? ⟨W.heap.size, 0, none⟩ = some (.pointer (some ⟨p, 0, none⟩)) ∧ W'.cell? ⟨W.heap.size + 1, 0, none⟩ = some (.int .i64 a) ∧ W'.cell? ⟨W.heap.size + 1, 1, none⟩ = some (.int .i64 b) ∧ W'.cell? ⟨W.heap.size + 1, 2, none⟩ = some (.int .i64 c) ∧ W'.cell? ⟨p, 1, none⟩ = some (.int .i64 y) ∧ W'.cell? ⟨p, 2, none⟩ = some (.int .i64 m) ∧ W'.cell? ⟨p, 3, none⟩ = some (.int .i64 d) ∧ W'.cell? ⟨p, 4, none⟩ = some (.int .i64 (yOf (yend y m d))) ∧ W'.cell? ⟨p, 5, none⟩ = some (.int .i64 (mOf (yend y m d))) ∧ W'.cell? ⟨p, 6, none⟩ = some (.int .i64 (dOf (yend y m d))) ∧ LS W W.heap.size (W.heap.size + 1) p f y m d a b c W')
    ((first | exact X2 | exact XS.step hb (by assumption)))
    (first
      | (go_at_call 27; (with_reducible refine (hcs _).mono ?_); rintro e w2 ⟨rfl, hb⟩)
      | (go_at_call 27; (with_reducible refine (hce _).mono ?_); rintro e w2 ⟨rfl, hb⟩))
  rename_i hH
  obtain ⟨_, _, _, _, _, _, _, _, _, _, L2⟩ := hH
  obtain ⟨i0, i1, i2, i3, Y2, B2, z1, z2⟩ := id L2
  clear hb X1 X2
  go_wp2_with (fail)
  refine (hcn _ Y2).mono ?_
  rintro e w3 ⟨rfl, hb⟩
  have L3 := L2.step hb
  obtain ⟨j0, j1, j2, j3, Y3, B3, z3, z4⟩ := id L3
  clear hb L2 i0 i1 i2 i3 Y2 B2 z1 z2
  go_wp2_with (fail)
  refine (HSR.out w3 L3.rebase).mono ?_
  rintro e w4 ⟨i, hi, rfl, s1, s2, hb⟩
  have B4 := below_step B3 hb B3.size
  have hx := HIX.out i hi s1 s2
  have HX := Lib.hid hx
  clear hx s1 s2 hb L3
  go_wp2
  exact bodyPost_ret (v := .tuple #[.int .i64 i, .int .i64 0]) (by simp [results, Tryd.results53, go_sem]) rfl (show IX f y m d (num a b c) W _ _ from ⟨i, HX.out.1, HX.out.2.1, HX.out.2.2.1, HX.out.2.2.2, rfl, B4⟩)
set_option maxRecDepth 100000 in
set_option maxHeartbeats 2000000 in
theorem index_in2 (p : Nat) (f y m d a b c : Int) (W : World) (Y : Yr W p f y m d) (h : yrB y m d = true) (hd : dayB a b c = true) (hf : 1 ≤ f) (hf' : f ≤ 4) (h0 : num y m d ≤ num a b c) (h1 : num a b c ≤ yend y m d) (hcs : ∀ w, Calls Tryd.prog 27 #[.agg #[.int .i64 a, .int .i64 b, .int .i64 c], .agg #[.int .i64 y, .int .i64 m, .int .i64 d]] w fun e w' => e = .returned (.int .i64 1) ∧ Below w.heap.size w w') (hce : ∀ w, Calls Tryd.prog 27 #[.agg #[.int .i64 a, .int .i64 b, .int .i64 c], .agg #[.int .i64 (yOf (yend y m d)), .int .i64 (mOf (yend y m d)), .int .i64 (dOf (yend y m d))]] w fun e w' => e = .returned (.int .i64 (-1)) ∧ Below w.heap.size w w') :
    Calls Tryd.prog 53 #[.pointer (some ⟨p, 0, none⟩), .agg #[.int .i64 a, .int .i64 b, .int .i64 c]] W (IX f y m d (num a b c) W) := by
  have hc := right_b a b c true hd
  have L0 := ls_new W p f y m d a b c 47 23 Y
  obtain ⟨k0, k1, k2, k3, _, B0, _⟩ := id L0
  have hcb := cnt_bd (y := y) (d := d) hf hf' (dayB_yes (yrB_yes h).1).2.2.1
  obtain ⟨k, hk⟩ : ∃ k : Nat, (k : Int) = cnt f y m d := ⟨(cnt f y m d).toNat, by omega⟩
  have hcn := fun W Y => count_any p f y m d W Y h hf hf'
  rw [← hk] at hcn
  have hk53 : k ≤ 53 := by omega
  have HIX := Lib.hid (fun (i : Nat) (hi : i ≤ k) h2 h3 => ix_of (n := num a b c) hf hf' h hk h0 h1 hi h2 h3)
  have HSR := Lib.hid (fun (w : World) (L : LS w W.heap.size (W.heap.size + 1) p f y m d a b c w) => search_any 73 #[.pointer (some ⟨W.heap.size, 0, none⟩), .pointer (some ⟨W.heap.size + 1, 0, none⟩)] k (fun t => decide (num a b c < pb f y m d ((t : Int) + 1))) w
    (enters_of Tryd.func73 (by kernel_rfl) rfl) (by omega)
    (fun W' hB i hi => later_any _ _ p f y m d a b c i W' (LS.rebase (L.step hB)) h hd hf hf' (by omega))
    (fun s t hst htk hs => by
      simp only [decide_eq_true_eq] at hs ⊢
      have := pb_mono (f := f) (y := y) (m := m) (d := d) (a := (s : Int) + 1) (b := (t : Int) + 1) hf hf' (by omega)
      omega))
  clear h hd Y h0 h1 hcb hk
  go_enter Tryd.func53, Tryd.ntmps53
  go_wp2_with (fail)
  refine (hc _).mono ?_
  rintro e w1 ⟨rfl, hb⟩
  have X1 := (XS.of L0).step hb
  have X2 := X1.step (Below.refl _ _).drew
  clear k0 k1 k2 k3 B0 L0 hb
  go_wp2
  go_region_held3 (fun W' => W'.cell? ⟨W.heap.size, 0, none⟩ = some (.pointer (some ⟨p, 0, none⟩)) ∧ W'.cell? ⟨W.heap.size + 1, 0, none⟩ = some (.int .i64 a) ∧ W'.cell? ⟨W.heap.size + 1, 1, none⟩ = some (.int .i64 b) ∧ W'.cell? ⟨W.heap.size + 1, 2, none⟩ = some (.int .i64 c) ∧ W'.cell? ⟨p, 1, none⟩ = some (.int .i64 y) ∧ W'.cell? ⟨p, 2, none⟩ = some (.int .i64 m) ∧ W'.cell? ⟨p, 3, none⟩ = some (.int .i64 d) ∧ W'.cell? ⟨p, 4, none⟩ = some (.int .i64 (yOf (yend y m d))) ∧ W'.cell? ⟨p, 5, none⟩ = some (.int .i64 (mOf (yend y m d))) ∧ W'.cell? ⟨p, 6, none⟩ = some (.int .i64 (dOf (yend y m d))) ∧ LS W W.heap.size (W.heap.size + 1) p f y m d a b c W')
    ((first | exact X2 | exact XS.step hb (by assumption)))
    (first
      | (go_at_call 27; (with_reducible refine (hcs _).mono ?_); rintro e w2 ⟨rfl, hb⟩)
      | (go_at_call 27; (with_reducible refine (hce _).mono ?_); rintro e w2 ⟨rfl, hb⟩))
  rename_i hH
  obtain ⟨_, _, _, _, _, _, _, _, _, _, L2⟩ := hH
  obtain ⟨i0, i1, i2, i3, Y2, B2, z1, z2⟩ := id L2
  clear hb X1 X2
  go_wp2_with (fail)
  refine (hcn _ Y2).mono ?_
  rintro e w3 ⟨rfl, hb⟩
  have L3 := L2.step hb
  obtain ⟨j0, j1, j2, j3, Y3, B3, z3, z4⟩ := id L3
  clear hb L2 i0 i1 i2 i3 Y2 B2 z1 z2
  go_wp2_with (fail)
  refine (HSR.out w3 L3.rebase).mono ?_
  rintro e w4 ⟨i, hi, rfl, s1, s2, hb⟩
  have B4 := below_step B3 hb B3.size
  have hx := HIX.out i hi s1 s2
  have HX := Lib.hid hx
  clear hx s1 s2 hb L3
  go_wp2
  exact bodyPost_ret (v := .tuple #[.int .i64 i, .int .i64 0]) (by simp [results, Tryd.results53, go_sem]) rfl (show IX f y m d (num a b c) W _ _ from ⟨i, HX.out.1, HX.out.2.1, HX.out.2.2.1, HX.out.2.2.2, rfl, B4⟩)
set_option maxRecDepth 100000 in
set_option maxHeartbeats 2000000 in
theorem index_in3 (p : Nat) (f y m d a b c : Int) (W : World) (Y : Yr W p f y m d) (h : yrB y m d = true) (hd : dayB a b c = true) (hf : 1 ≤ f) (hf' : f ≤ 4) (h0 : num y m d ≤ num a b c) (h1 : num a b c ≤ yend y m d) (hcs : ∀ w, Calls Tryd.prog 27 #[.agg #[.int .i64 a, .int .i64 b, .int .i64 c], .agg #[.int .i64 y, .int .i64 m, .int .i64 d]] w fun e w' => e = .returned (.int .i64 1) ∧ Below w.heap.size w w') (hce : ∀ w, Calls Tryd.prog 27 #[.agg #[.int .i64 a, .int .i64 b, .int .i64 c], .agg #[.int .i64 (yOf (yend y m d)), .int .i64 (mOf (yend y m d)), .int .i64 (dOf (yend y m d))]] w fun e w' => e = .returned (.int .i64 0) ∧ Below w.heap.size w w') :
    Calls Tryd.prog 53 #[.pointer (some ⟨p, 0, none⟩), .agg #[.int .i64 a, .int .i64 b, .int .i64 c]] W (IX f y m d (num a b c) W) := by
  have hc := right_b a b c true hd
  have L0 := ls_new W p f y m d a b c 47 23 Y
  obtain ⟨k0, k1, k2, k3, _, B0, _⟩ := id L0
  have hcb := cnt_bd (y := y) (d := d) hf hf' (dayB_yes (yrB_yes h).1).2.2.1
  obtain ⟨k, hk⟩ : ∃ k : Nat, (k : Int) = cnt f y m d := ⟨(cnt f y m d).toNat, by omega⟩
  have hcn := fun W Y => count_any p f y m d W Y h hf hf'
  rw [← hk] at hcn
  have hk53 : k ≤ 53 := by omega
  have HIX := Lib.hid (fun (i : Nat) (hi : i ≤ k) h2 h3 => ix_of (n := num a b c) hf hf' h hk h0 h1 hi h2 h3)
  have HSR := Lib.hid (fun (w : World) (L : LS w W.heap.size (W.heap.size + 1) p f y m d a b c w) => search_any 73 #[.pointer (some ⟨W.heap.size, 0, none⟩), .pointer (some ⟨W.heap.size + 1, 0, none⟩)] k (fun t => decide (num a b c < pb f y m d ((t : Int) + 1))) w
    (enters_of Tryd.func73 (by kernel_rfl) rfl) (by omega)
    (fun W' hB i hi => later_any _ _ p f y m d a b c i W' (LS.rebase (L.step hB)) h hd hf hf' (by omega))
    (fun s t hst htk hs => by
      simp only [decide_eq_true_eq] at hs ⊢
      have := pb_mono (f := f) (y := y) (m := m) (d := d) (a := (s : Int) + 1) (b := (t : Int) + 1) hf hf' (by omega)
      omega))
  clear h hd Y h0 h1 hcb hk
  go_enter Tryd.func53, Tryd.ntmps53
  go_wp2_with (fail)
  refine (hc _).mono ?_
  rintro e w1 ⟨rfl, hb⟩
  have X1 := (XS.of L0).step hb
  have X2 := X1.step (Below.refl _ _).drew
  clear k0 k1 k2 k3 B0 L0 hb
  go_wp2
  go_region_held3 (fun W' => W'.cell? ⟨W.heap.size, 0, none⟩ = some (.pointer (some ⟨p, 0, none⟩)) ∧ W'.cell? ⟨W.heap.size + 1, 0, none⟩ = some (.int .i64 a) ∧ W'.cell? ⟨W.heap.size + 1, 1, none⟩ = some (.int .i64 b) ∧ W'.cell? ⟨W.heap.size + 1, 2, none⟩ = some (.int .i64 c) ∧ W'.cell? ⟨p, 1, none⟩ = some (.int .i64 y) ∧ W'.cell? ⟨p, 2, none⟩ = some (.int .i64 m) ∧ W'.cell? ⟨p, 3, none⟩ = some (.int .i64 d) ∧ W'.cell? ⟨p, 4, none⟩ = some (.int .i64 (yOf (yend y m d))) ∧ W'.cell? ⟨p, 5, none⟩ = some (.int .i64 (mOf (yend y m d))) ∧ W'.cell? ⟨p, 6, none⟩ = some (.int .i64 (dOf (yend y m d))) ∧ LS W W.heap.size (W.heap.size + 1) p f y m d a b c W')
    ((first | exact X2 | exact XS.step hb (by assumption)))
    (first
      | (go_at_call 27; (with_reducible refine (hcs _).mono ?_); rintro e w2 ⟨rfl, hb⟩)
      | (go_at_call 27; (with_reducible refine (hce _).mono ?_); rintro e w2 ⟨rfl, hb⟩))
  rename_i hH
  obtain ⟨_, _, _, _, _, _, _, _, _, _, L2⟩ := hH
  obtain ⟨i0, i1, i2, i3, Y2, B2, z1, z2⟩ := id L2
  clear hb X1 X2
  go_wp2_with (fail)
  refine (hcn _ Y2).mono ?_
  rintro e w3 ⟨rfl, hb⟩
  have L3 := L2.step hb
  obtain ⟨j0, j1, j2, j3, Y3, B3, z3, z4⟩ := id L3
  clear hb L2 i0 i1 i2 i3 Y2 B2 z1 z2
  go_wp2_with (fail)
  refine (HSR.out w3 L3.rebase).mono ?_
  rintro e w4 ⟨i, hi, rfl, s1, s2, hb⟩
  have B4 := below_step B3 hb B3.size
  have hx := HIX.out i hi s1 s2
  have HX := Lib.hid hx
  clear hx s1 s2 hb L3
  go_wp2
  exact bodyPost_ret (v := .tuple #[.int .i64 i, .int .i64 0]) (by simp [results, Tryd.results53, go_sem]) rfl (show IX f y m d (num a b c) W _ _ from ⟨i, HX.out.1, HX.out.2.1, HX.out.2.2.1, HX.out.2.2.2, rfl, B4⟩)
theorem index_in (p : Nat) (f y m d a b c : Int) (W : World) (Y : Yr W p f y m d) (h : yrB y m d = true) (hd : dayB a b c = true) (hf : 1 ≤ f) (hf' : f ≤ 4) (h0 : num y m d ≤ num a b c) (h1 : num a b c ≤ yend y m d) :
    Calls Tryd.prog 53 #[.pointer (some ⟨p, 0, none⟩), .agg #[.int .i64 a, .int .i64 b, .int .i64 c]] W (IX f y m d (num a b c) W) := by
  obtain ⟨e1, e2, e3, e4⟩ := end_day h
  have hcs := compare_int a b c y m d
  have hce := compare_int a b c (yOf (yend y m d)) (mOf (yend y m d)) (dOf (yend y m d))
  rcases cmp3_cases a b c y m d hd (yrB_yes h).1 with ⟨e, l⟩ | ⟨e, l⟩ | ⟨e, l, _⟩
  · omega
  · rw [e] at hcs
    rcases cmp3_cases a b c _ _ _ hd e1 with ⟨e, l⟩ | ⟨e, l⟩ | ⟨e, l, _⟩
    · rw [e] at hce
      exact index_in2 p f y m d a b c W Y h hd hf hf' h0 h1 hcs hce
    · omega
    · rw [e] at hce
      exact index_in3 p f y m d a b c W Y h hd hf hf' h0 h1 hcs hce
  · rw [e] at hcs
    rcases cmp3_cases a b c _ _ _ hd e1 with ⟨e, l⟩ | ⟨e, l⟩ | ⟨e, l, _⟩
    · rw [e] at hce
      exact index_in0 p f y m d a b c W Y h hd hf hf' h0 h1 hcs hce
    · omega
    · rw [e] at hce
      exact index_in1 p f y m d a b c W Y h hd hf hf' h0 h1 hcs hce
end Go.Proofs.YtkgfmanolanlhaaDoor
