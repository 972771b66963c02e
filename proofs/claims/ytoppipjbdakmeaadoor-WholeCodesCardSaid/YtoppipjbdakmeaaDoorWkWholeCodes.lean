/- WholeCodes: the whole walk. -/
import Derived.Test.YtoppipjbdakmeaaDoorWhoB
namespace Go.Proofs.YtoppipjbdakmeaaDoor
open Go.RowKit
set_option linter.unusedVariables false
set_option linter.unusedSimpArgs false

theorem free_year {s k a f n : Int} {x : Bool} (hz : chkC s k a f = 0) (h0 : 0 ≤ n) (h12 : n ≤ 12) : ∃ p q al : Int, freeV s k a f n 12 = (p, 0) ∧ freeV s k a f (12 - n) 12 = (q, 0) ∧ freeV s k a f 12 12 = (al, 0) ∧ -1000000000 ≤ p ∧ p ≤ 1000000000 ∧ -1000000000 ≤ q ∧ q ≤ 1000000000 ∧ -1000000000 ≤ al ∧ al ≤ 1000000000 ∧ (k = 2 → 0 ≤ -(al - p - q) ∧ -(al - p - q) ≤ 1) ∧ (k ≠ 2 → 0 ≤ al - p - q ∧ al - p - q ≤ 1) := by
  obtain ⟨s0, s7, hfit⟩ := chkC_zero hz
  obtain ⟨k1, k4, a0, a9, _, f0, f7⟩ := fitB_bd hfit
  have b1 := part_bd (d := 12) a0 h0 h12 (by omega)
  have b2 := part_bd (n := 12 - n) (d := 12) a0 (by omega) (by omega) (by omega)
  have py := parts_year (a := a) (n := n)
  have e12 : a * 12 / 12 = a := by omega
  refine ⟨_, _, _, freeV_ok hz h0 h12 (by omega) (by omega), freeV_ok hz (by omega) (by omega) (by omega) (by omega), freeV_ok hz (by omega) (by omega) (by omega) (by omega), ?_⟩
  rw [e12]
  generalize a * n / 12 = P1 at *
  generalize a * (12 - n) / 12 = P2 at *
  by_cases hk : k = 2
  · rw [if_pos hk, if_pos hk, if_pos hk]
    refine ⟨by omega, by omega, by omega, by omega, by omega, by omega, fun _ => by omega, fun h => absurd hk h⟩
  · rw [if_neg hk, if_neg hk, if_neg hk]
    refine ⟨by omega, by omega, by omega, by omega, by omega, by omega, fun h => absurd h hk, fun _ => by omega⟩
theorem getD_left (L M : List (List UInt8)) {j : Nat} (h : j < L.length) : (L ++ M).getD j [] = L.getD j [] := by simp [List.getD, List.getElem?_append_left h]
theorem getD_last (L : List (List UInt8)) (t : List UInt8) : (L ++ [t]).getD L.length [] = t := by simp [List.getD]
theorem wds_last (f : Nat → ByteArray) (n : Nat) (t : List UInt8) : (wds f n ++ [t]).getD n [] = t := by
  have := getD_last (wds f n) t
  rwa [wds_len] at this
theorem cell_app (w : World) (T : ByteArray) (zs : Array Value) (t : TypeId) : (w.alloc (.cells (#[.string T] ++ zs) t)).cell? ⟨w.heap.size, 0, none⟩ = some (.string T) := by
  rw [World.cell?_alloc_new]
  simp [Array.getElem?_append]
theorem rs_of {w : World} {B : Nat} {v : Value} {L : List (List UInt8)} {T : ByteArray} {xs : List Value} {n : Nat} (h : w.ownsRow B 9 1 v n xs) (hn : n = L.length + 1) (hx : xs = L.map sv ++ [.string T]) : Rs w B v (L ++ [T.data.toList]) := by
  subst hn hx
  unfold Rs
  rw [List.length_append, List.map_append]
  have e : sv T.data.toList = .string T := by show Value.string ⟨T.data.toList.toArray⟩ = _; rw [data_self]
  rw [show ([T.data.toList].map sv) = [.string T] from by rw [← e]; rfl]
  exact h
theorem ro_strs {w : World} {ad : Addr} {m : Nat} {fw : Nat → ByteArray} (h : rowAt w (some ad) m fun i => .string (fw i)) : ∀ j u, ((List.range m).map fun i => Value.string (fw i))[j]? = some u → w.cell? (ad.add j) = some u := by
  intro j u hu
  by_cases hj : j < m
  · obtain ⟨b, o, e, hc⟩ := h (by omega)
    have hA : ad = ⟨b, o, none⟩ := by simpa using e
    subst hA
    rw [List.getElem?_map, List.getElem?_range hj] at hu
    simp at hu
    subst hu
    rw [Go.WideShapes.add_plain]
    exact hc j hj
  · rw [List.getElem?_eq_none (by simp; omega)] at hu
    cases hu
set_option maxHeartbeats 8000000 in
set_option maxRecDepth 100000 in
theorem whole_nil (s k a f : Int) (x : Bool) (m c : Nat) (n : Int) (fw : Nat → ByteArray) (w : World) (D : Tab w) (hz : chkC s k a f = 0) (hm : m ≤ 20) (hr : rowAt w none m fun i => .string (fw i)) (hf : ∀ i, i < m → (fw i).size ≤ 140737488355328) (hm0 : m = 0) :
    Calls Tryd.prog 5 #[.agg #[.int .i64 s, .int .i64 k, .int .i64 a, .int .i64 f, .bool x], .slice none m c, .int .i64 n] w fun e w' => e = .returned (.bool true) ∧ Below w.heap.size w w' := by
  have p1 := fun w => parse_v ⟨#[53, 76]⟩ w (by decide) 0 1 5000 0 0 false rfl
  have nm := fun w => name_b ⟨#[97]⟩ true (by decide +kernel) w (by decide)
  obtain ⟨T, hT, T0, T20, tx⟩ := text_t s k a f x hz
  have hpar : parC T.data.toList = ⟨s, k, a, f, x, 0⟩ := by rw [hT]; exact par_txt hz
  have pT := fun w => parse_v T w (by omega) s k a f 0 x hpar
  have HFY := Lib.hid (fun (h0 : 0 ≤ n) (h12 : n ≤ 12) => free_year (x := x) hz h0 h12)
  have hba : -9223372036854775808 ≤ a ∧ a ≤ 9223372036854775807 := by
    obtain ⟨_, _, hfit⟩ := chkC_zero hz
    obtain ⟨k1, k4, a0, a9, _, f0, f7⟩ := fitB_bd hfit
    omega
  have fv := fun n d p q h w => free_v s k a f n d x p q h w hba.1 hba.2
  have q1 := fun W => eqc_yes s k a f s k a f x x W (by simp)
  have K0 := kd_new w s k a f x D
  have te := toList_some T T0
  have t20 : ¬ (20 : Int) < m := by omega
  obtain ⟨i0, hi0, hz0, hz1, hz2⟩ := info_parts infoS
  clear hz hT hpar
  go_enter Tryd.func5, Tryd.ntmps5
  go_wp2_with (fail)
  refine (p1 _).mono ?_
  rintro e w1 ⟨rfl, hb⟩
  have H := K0.step hb
  have C9 := cb_new w1 0 1 5000 0 false 47
  have hn := below_new w1 (.cells #[.int .i64 0, .int .i64 1, .int .i64 5000, .int .i64 0, .bool false] 47)
  replace H := H.step hn
  clear hb hn K0
  obtain ⟨⟨e0, e1, e2, e3, e4⟩, ez⟩ := C9
  obtain ⟨B, ⟨⟨d0, d1, d2, d3, d4⟩, dz⟩, T'⟩ := id H
  go_wp2_with (fail)
  refine (nm _).mono ?_
  rintro e w' ⟨rfl, rfl⟩
  go_wp2_with (fail)
  refine (tx _ T').mono ?_
  rintro e w2 ⟨rfl, hb⟩
  replace H := H.step hb
  have hr2 : rowAt w2 none m fun i => .string (fw i) := fun h0 => by
    obtain ⟨b, o, e, hc⟩ := hr h0
    exact ⟨b, o, e, fun i hi => cell_later H.1 (hc i hi)⟩
  clear hb B d0 d1 d2 d3 d4 dz T' e0 e1 e2 e3 e4 ez p1 nm tx
  go_wp2
  go_loop [59, 10] (fun kk z => ∃ i : Nat, i ≤ m ∧ kk = .int .i64 i ∧ z = .int .i64 ((T.size + sumF fw i : Nat) : Int) ∧ T.size + sumF fw i ≤ 500) (fun kk _ => m - (intOf kk).toNat)
  case atStart => exact ⟨0, Nat.zero_le _, rfl, rfl, by show T.size + 0 ≤ 500; omega⟩
  case round =>
    obtain ⟨i, hi, rfl, rfl, h500⟩ := hrel
    by_cases hlt : i < m
    · omega
    · obtain rfl : i = m := by omega
      have hsw : sumW (wds fw i ++ [T.data.toList]) ≤ 512 := by
        rw [sumW_app, sumW_wds]
        show sumF fw i + (T.data.toList.length + 3 + 0) ≤ 512
        rw [data_len]; omega
      have hRl : (wds fw i ++ [T.data.toList]).length = i + 1 := by rw [List.length_append, wds_len]; rfl
      have hsh := joiV_short (R := wds fw i ++ [T.data.toList]) (by rw [hRl]; omega) hsw
      have HSH := Lib.hid hsh
      have hown : (w2.alloc (.cells #[] 9)).ownsRow w2.heap.size 9 1 (.slice (some ⟨w2.heap.size, 0, none⟩) 0 0) 0 [] := World.ownsRow_lit w2 #[] 0 (Nat.le_refl _) (by unfold maxLen; omega) (by simp)
      have hb0 := below_new w2 (.cells #[] 9)
      have hone1 : ∀ v ∈ [Value.string T], v.oneCell' = true := by simp [Value.oneCell']
      have HSV := Lib.hid (sv_wds fw i)
      have HWL := Lib.hid (wds_len fw i)
      clear hsh hsw h500
      subst hm0
      have hownB := hown
      have hBB : Below w2.heap.size w2 (w2.alloc (.cells #[] 9)) := hb0
      generalize hwB : w2.alloc (.cells #[] 9) = wB at *
      have hszB : w2.heap.size ≤ wB.heap.size := hBB.size
      go_wp2_with (fail)
      generalize (Question.appendCap 1 0 9).cut (wB.tape wB.drawn (Question.appendCap 1 0 9)) = c2 at *
      have hBC0 : Below w2.heap.size w2 ((wB.alloc (.cells #[.string T] 9)).alloc (.cells (#[.string T] ++ Builtin.zeroCells #[.string ⟨#[]⟩] (c2 - 1)) 9)).drew := below_drewN ((hBB.alloc hszB _).alloc (by simp; omega) _) 1
      have hcell : ((wB.alloc (.cells #[.string T] 9)).alloc (.cells (#[.string T] ++ Builtin.zeroCells #[.string ⟨#[]⟩] (c2 - 1)) 9)).drew.cell? ⟨wB.heap.size + 1, 0, none⟩ = some (.string T) := by
        have h1 : (wB.alloc (.cells #[.string T] 9)).heap.size = wB.heap.size + 1 := by simp
        show ((wB.alloc (.cells #[.string T] 9)).alloc (.cells (#[.string T] ++ Builtin.zeroCells #[.string ⟨#[]⟩] (c2 - 1)) 9)).cell? ⟨wB.heap.size + 1, 0, none⟩ = some (.string T)
        rw [← h1]
        exact cell_app _ _ _ _
      generalize ((wB.alloc (.cells #[.string T] 9)).alloc (.cells (#[.string T] ++ Builtin.zeroCells #[.string ⟨#[]⟩] (c2 - 1)) 9)).drew = wC at *
      have hBC := hBC0
      have HC := H.step hBC
      have hrow : rowAt wC (some ⟨wB.heap.size + 1, 0, none⟩) (wds fw 0 ++ [T.data.toList]).length fun jj => sv ((wds fw 0 ++ [T.data.toList]).getD jj []) := fun h0 => by
        refine ⟨wB.heap.size + 1, 0, rfl, fun j hj => ?_⟩
        have e : j = 0 := by rw [hRl] at hj; omega
        subst e
        rw [hcell]
        show some (Value.string T) = some (Value.string ⟨T.data.toList.toArray⟩)
        rw [data_self]
      have jn := fun w' (q : rowAt w' (some ⟨wB.heap.size + 1, 0, none⟩) (wds fw 0 ++ [T.data.toList]).length fun jj => sv ((wds fw 0 ++ [T.data.toList]).getD jj [])) => join_any (wds fw 0 ++ [T.data.toList]) (some ⟨wB.heap.size + 1, 0, none⟩) _ c2 w' rfl q (fun j hj => by
        by_cases hjm : j < 0
        · rw [getD_left _ _ (by rw [wds_len]; exact hjm), wds_at fw hjm, data_len]; exact hf j hjm
        · have e : j = 0 := by rw [hRl] at hj; omega
          subst e
          rw [wds_last, data_len]; omega) (by rw [hRl]; omega)
      rw [hRl] at jn hrow
      have HCUT := Lib.hid (fun out (h : joiV (wds fw 0 ++ [T.data.toList]) = (out, 0)) => cut_joi h)
      have hlast : (wds fw 0 ++ [T.data.toList]).getD 0 [] = T.data.toList := wds_last _ _ _
      have HLAST := Lib.hid hlast
      have HRL := Lib.hid hRl
      clear hlast hcell
      have hRl2 := hRl
      clear hRl
      go_wp2_with (fail)
      refine (jn _ hrow).mono ?_
      rintro e w5 ⟨rfl, hb⟩
      have H5 := HC.step hb
      rcases HSH.out with ⟨out, ho⟩ | ho
      · rw [ho]
        have hcu := HCUT.out out ho
        have ol := (joiV_is ho).2.2.1
        have cu := fun w => cut_any ⟨out.toArray⟩ w (by show out.toArray.size ≤ _; rw [List.size_toArray]; omega)
        have hcu2 : cutV (⟨out.toArray⟩ : ByteArray).data.toList = (wds fw 0 ++ [T.data.toList], 0) := hcu
        unfold CuP at cu
        rw [hcu2] at cu
        clear hcu hcu2 HCUT hb
        go_wp2_with (fail)
        refine (cu _).mono ?_
        rintro e w6 ⟨v6, rfl, RS6, hb6⟩
        have H6 := H5.step hb6
        obtain ⟨A6, c6, rfl, hc6⟩ := rs_row RS6
        obtain ⟨b6, hA6, _, g6⟩ := hc6 0 (by rw [HRL.out]; omega)
        subst hA6
        rw [HLAST.out] at g6
        have g6' : w6.cell? ⟨b6, 0, none⟩ = some (.string T) := by
          rw [g6]
          show some (Value.string ⟨T.data.toList.toArray⟩) = _
          rw [data_self]
        rw [HRL.out]
        clear RS6 hc6 g6 cu hb6
        obtain ⟨B, ⟨⟨d0, d1, d2, d3, d4⟩, dz⟩, T'⟩ := id H6
        go_wp2_with (fail)
        refine (pT _).mono ?_
        rintro e w7 ⟨rfl, hb7⟩
        have H7 := H6.step hb7
        have C9 := cb_new w7 s k a f x 47
        have hn := below_new w7 (.cells #[.int .i64 s, .int .i64 k, .int .i64 a, .int .i64 f, .bool x] 47)
        replace H7 := H7.step hn
        clear hb7 hn B d0 d1 d2 d3 d4 dz T'
        obtain ⟨B, ⟨⟨d0, d1, d2, d3, d4⟩, dz⟩, T'⟩ := id H7
        obtain ⟨⟨c0, c1, c2', c3, c4⟩, cz⟩ := C9
        rcases (show n < 0 ∨ 12 < n ∨ (0 ≤ n ∧ n ≤ 12) by omega) with n1 | n1 | ⟨n1, n2⟩
        · go_wp2
          go_ret
          exact ⟨rfl, H7.1⟩
        · have n3 : ¬ n < 0 := by omega
          go_wp2
          go_ret
          exact ⟨rfl, H7.1⟩
        · obtain ⟨p, q, al, fp, fq, fa, bp1, bp2, bq1, bq2, ba1, ba2, hk2, hkn⟩ := HFY.out n1 n2
          have f1 := fun w => fv n 12 p 0 fp w
          have f2 := fun w => fv (12 - n) 12 q 0 fq w
          have f3 := fun w => fv 12 12 al 0 fa w
          have n3 : ¬ n < 0 := by omega
          have n4 : ¬ 12 < n := by omega
          clear fp fq fa fv HFY
          by_cases hk : k = 2
          · have tk : (k == 2) = true := by simpa using hk
            have hl := hk2 hk
            have l1 : decide (0 ≤ -(al - p - q)) = true := by simp; omega
            have l2 : decide (-(al - p - q) ≤ 1) = true := by simp; omega
            clear hk hk2 hkn
            go_wp2_with (fail)
            refine (f1 _).mono ?_
            rintro e w8 ⟨rfl, hb8⟩
            have H8 := H7.step hb8
            obtain ⟨B, ⟨⟨d0, d1, d2, d3, d4⟩, dz⟩, T'⟩ := id H8
            go_wp2_with (fail)
            refine (f2 _).mono ?_
            rintro e w9 ⟨rfl, hb9⟩
            have H9 := H8.step hb9
            obtain ⟨B, ⟨⟨d0, d1, d2, d3, d4⟩, dz⟩, T'⟩ := id H9
            go_wp2_with (fail)
            refine (f3 _).mono ?_
            rintro e wA ⟨rfl, hbA⟩
            have HA := H9.step hbA
            obtain ⟨B, ⟨⟨d0, d1, d2, d3, d4⟩, dz⟩, T'⟩ := id HA
            go_wp2
            go_ret
            exact ⟨by first | rfl | exact ret_b (by simp; omega), HA.1⟩
          · have tk : (k == 2) = false := by simpa using hk
            have hl := hkn hk
            have l1 : decide (0 ≤ al - p - q) = true := by simp; omega
            have l2 : decide (al - p - q ≤ 1) = true := by simp; omega
            clear hk hk2 hkn
            go_wp2_with (fail)
            refine (f1 _).mono ?_
            rintro e w8 ⟨rfl, hb8⟩
            have H8 := H7.step hb8
            obtain ⟨B, ⟨⟨d0, d1, d2, d3, d4⟩, dz⟩, T'⟩ := id H8
            go_wp2_with (fail)
            refine (f2 _).mono ?_
            rintro e w9 ⟨rfl, hb9⟩
            have H9 := H8.step hb9
            obtain ⟨B, ⟨⟨d0, d1, d2, d3, d4⟩, dz⟩, T'⟩ := id H9
            go_wp2_with (fail)
            refine (f3 _).mono ?_
            rintro e wA ⟨rfl, hbA⟩
            have HA := H9.step hbA
            obtain ⟨B, ⟨⟨d0, d1, d2, d3, d4⟩, dz⟩, T'⟩ := id HA
            go_wp2
            go_ret
            exact ⟨by first | rfl | exact ret_b (by simp; omega), HA.1⟩
      · rw [ho]
        go_wp2
        go_ret
        exact ⟨rfl, H5.1⟩
set_option maxHeartbeats 8000000 in
set_option maxRecDepth 100000 in
theorem whole_some (s k a f : Int) (x : Bool) (ad : Addr) (m c : Nat) (n : Int) (fw : Nat → ByteArray) (w : World) (D : Tab w) (hz : chkC s k a f = 0) (hm : m ≤ 20) (hr : rowAt w (some ad) m fun i => .string (fw i)) (hf : ∀ i, i < m → (fw i).size ≤ 140737488355328) :
    Calls Tryd.prog 5 #[.agg #[.int .i64 s, .int .i64 k, .int .i64 a, .int .i64 f, .bool x], .slice (some ad) m c, .int .i64 n] w fun e w' => e = .returned (.bool true) ∧ Below w.heap.size w w' := by
  have p1 := fun w => parse_v ⟨#[53, 76]⟩ w (by decide) 0 1 5000 0 0 false rfl
  have nm := fun w => name_b ⟨#[97]⟩ true (by decide +kernel) w (by decide)
  obtain ⟨T, hT, T0, T20, tx⟩ := text_t s k a f x hz
  have hpar : parC T.data.toList = ⟨s, k, a, f, x, 0⟩ := by rw [hT]; exact par_txt hz
  have pT := fun w => parse_v T w (by omega) s k a f 0 x hpar
  have HFY := Lib.hid (fun (h0 : 0 ≤ n) (h12 : n ≤ 12) => free_year (x := x) hz h0 h12)
  have hba : -9223372036854775808 ≤ a ∧ a ≤ 9223372036854775807 := by
    obtain ⟨_, _, hfit⟩ := chkC_zero hz
    obtain ⟨k1, k4, a0, a9, _, f0, f7⟩ := fitB_bd hfit
    omega
  have fv := fun n d p q h w => free_v s k a f n d x p q h w hba.1 hba.2
  have q1 := fun W => eqc_yes s k a f s k a f x x W (by simp)
  have K0 := kd_new w s k a f x D
  have te := toList_some T T0
  have t20 : ¬ (20 : Int) < m := by omega
  obtain ⟨i0, hi0, hz0, hz1, hz2⟩ := info_parts infoS
  clear hz hT hpar
  go_enter Tryd.func5, Tryd.ntmps5
  go_wp2_with (fail)
  refine (p1 _).mono ?_
  rintro e w1 ⟨rfl, hb⟩
  have H := K0.step hb
  have C9 := cb_new w1 0 1 5000 0 false 47
  have hn := below_new w1 (.cells #[.int .i64 0, .int .i64 1, .int .i64 5000, .int .i64 0, .bool false] 47)
  replace H := H.step hn
  clear hb hn K0
  obtain ⟨⟨e0, e1, e2, e3, e4⟩, ez⟩ := C9
  obtain ⟨B, ⟨⟨d0, d1, d2, d3, d4⟩, dz⟩, T'⟩ := id H
  go_wp2_with (fail)
  refine (nm _).mono ?_
  rintro e w' ⟨rfl, rfl⟩
  go_wp2_with (fail)
  refine (tx _ T').mono ?_
  rintro e w2 ⟨rfl, hb⟩
  replace H := H.step hb
  have hr2 : rowAt w2 (some ad) m fun i => .string (fw i) := fun h0 => by
    obtain ⟨b, o, e, hc⟩ := hr h0
    exact ⟨b, o, e, fun i hi => cell_later H.1 (hc i hi)⟩
  clear hb B d0 d1 d2 d3 d4 dz T' e0 e1 e2 e3 e4 ez p1 nm tx
  go_wp2
  go_loop [59, 10] (fun kk z => ∃ i : Nat, i ≤ m ∧ kk = .int .i64 i ∧ z = .int .i64 ((T.size + sumF fw i : Nat) : Int) ∧ T.size + sumF fw i ≤ 500) (fun kk _ => m - (intOf kk).toNat)
  case atStart => exact ⟨0, Nat.zero_le _, rfl, rfl, by show T.size + 0 ≤ 500; omega⟩
  case round =>
    obtain ⟨i, hi, rfl, rfl, h500⟩ := hrel
    by_cases hlt : i < m
    · obtain ⟨b, o, hA, hc⟩ := id (hr2 (by omega))
      have g0 := hc i hlt
      have hA' : ad = ⟨b, o, none⟩ := by simpa using hA
      subst hA'
      have hfi := hf i hlt
      have HS : Hid (sumF fw (i + 1) = sumF fw i + (fw i).size + 3) := Lib.hid rfl
      clear hc hA
      generalize sumF fw i = sf at *
      by_cases h4 : 400 < (fw i).size
      · have u1 : (400 : Int) < (fw i).size := by omega
        go_wp2
        go_ret
        exact ⟨rfl, H.1⟩
      · have u1 : ¬ (400 : Int) < (fw i).size := by omega
        by_cases h5 : 500 < T.size + (sf + (fw i).size + 3)
        · have u2 : decide ((500 : Int) < ((T.size + sf : Nat) : Int) + (((fw i).size : Int) + 3)) = true := by simp; omega
          go_wp2
          go_ret
          exact ⟨rfl, H.1⟩
        · have u2 : decide ((500 : Int) < ((T.size + sf : Nat) : Int) + (((fw i).size : Int) + 3)) = false := by simp; omega
          go_wp2
          go_round
          case rel => exact ⟨i + 1, by omega, by go_num, by rw [HS.out]; go_num, by rw [HS.out]; omega⟩
          case measure => first | omega | (simp [intOf]; omega)
    · obtain rfl : i = m := by omega
      have hsw : sumW (wds fw i ++ [T.data.toList]) ≤ 512 := by
        rw [sumW_app, sumW_wds]
        show sumF fw i + (T.data.toList.length + 3 + 0) ≤ 512
        rw [data_len]; omega
      have hRl : (wds fw i ++ [T.data.toList]).length = i + 1 := by rw [List.length_append, wds_len]; rfl
      have hsh := joiV_short (R := wds fw i ++ [T.data.toList]) (by rw [hRl]; omega) hsw
      have HSH := Lib.hid hsh
      have hown : (w2.alloc (.cells #[] 9)).ownsRow w2.heap.size 9 1 (.slice (some ⟨w2.heap.size, 0, none⟩) 0 0) 0 [] := World.ownsRow_lit w2 #[] 0 (Nat.le_refl _) (by unfold maxLen; omega) (by simp)
      have hb0 := below_new w2 (.cells #[] 9)
      have hone1 : ∀ v ∈ [Value.string T], v.oneCell' = true := by simp [Value.oneCell']
      have HSV := Lib.hid (sv_wds fw i)
      have HWL := Lib.hid (wds_len fw i)
      clear hsh hsw h500
      have hnews := ro_strs (w := w2.alloc (.cells #[] 9)) (ad := ad) (m := i) (fw := fw) (fun h0 => by
        obtain ⟨b, o, e, hc⟩ := hr2 h0
        exact ⟨b, o, e, fun j hj => cell_later hb0 (hc j hj)⟩)
      have hone : ∀ v ∈ ((List.range i).map fun j => Value.string (fw j)), v.oneCell' = true := by
        intro v hv
        simp only [List.mem_map] at hv
        obtain ⟨j, _, rfl⟩ := hv
        rfl
      have hln : ((List.range i).map fun j => Value.string (fw j)).length = i * 1 := by simp
      go_wp2_with (first
        | (at_builtin; refine wpList_append_own _ rfl _ _ 34 rfl w2.heap.size 9 i0 (.string ⟨#[]⟩) 1 16 Tryd.underlying34 hi0 hz0 hz1 hz2 rfl (by decide) _ _ _ rfl hown ad i c _ rfl hln hnews hone (by unfold maxLen; omega) (by omega) hb0.size ?_; intro v1 wB hownB hgB _; have hBB := hb0.grown hgB hb0.size (fun k hk => (hown.lt k hk).1); have hszB := hBB.size)
        | (at_builtin; refine wpList_append_own _ rfl _ _ 34 rfl w2.heap.size 9 i0 (.string ⟨#[]⟩) 1 16 Tryd.underlying34 hi0 hz0 hz1 hz2 rfl (by decide) _ _ _ rfl (hownB.alloc _) ⟨wB.heap.size, 0, none⟩ 1 1 [.string T] rfl rfl (cell_str_new wB (.string T) 9) hone1 (by unfold maxLen; omega) (by omega) (by simp; omega) ?_; intro v2 wC hownC hgC _; have RS := rs_of (L := wds fw i) (T := T) hownC (by rw [HWL.out]; omega) (by rw [HSV.out]; simp); obtain ⟨A2, c2, rfl, hcl⟩ := rs_row RS))
      have hBC : Below w2.heap.size w2 wC := (hBB.alloc (o := .cells #[.string T] 9) hBB.size).grown hgC (by simp; omega) (fun k hk => (hownB.lt k hk).1)
      have HC := H.step hBC
      have hrow : rowAt wC A2 (wds fw i ++ [T.data.toList]).length fun jj => sv ((wds fw i ++ [T.data.toList]).getD jj []) := fun h0 => by
        obtain ⟨b, hA, _, _⟩ := hcl 0 h0
        refine ⟨b, 0, hA, fun j hj => ?_⟩
        obtain ⟨b', hA', _, hcj⟩ := hcl j hj
        have : b' = b := by rw [hA] at hA'; simpa using hA'.symm
        subst this
        rw [Nat.zero_add]
        exact hcj
      have jn := fun w' (q : rowAt w' A2 (wds fw i ++ [T.data.toList]).length fun jj => sv ((wds fw i ++ [T.data.toList]).getD jj [])) => join_any (wds fw i ++ [T.data.toList]) A2 _ c2 w' rfl q (fun j hj => by
        by_cases hjm : j < i
        · rw [getD_left _ _ (by rw [wds_len]; exact hjm), wds_at fw hjm, data_len]; exact hf j hjm
        · have e : j = i := by rw [hRl] at hj; omega
          subst e
          rw [wds_last, data_len]; omega) (by rw [hRl]; omega)
      rw [hRl] at jn hrow
      have HCUT := Lib.hid (fun out (h : joiV (wds fw i ++ [T.data.toList]) = (out, 0)) => cut_joi h)
      have hlast : (wds fw i ++ [T.data.toList]).getD i [] = T.data.toList := wds_last _ _ _
      have HLAST := Lib.hid hlast
      have HRL := Lib.hid hRl
      clear hlast hcl RS hownC hownB
      have hRl2 := hRl
      clear hRl
      go_wp2_with (fail)
      refine (jn _ hrow).mono ?_
      rintro e w5 ⟨rfl, hb⟩
      have H5 := HC.step hb
      rcases HSH.out with ⟨out, ho⟩ | ho
      · rw [ho]
        have hcu := HCUT.out out ho
        have ol := (joiV_is ho).2.2.1
        have cu := fun w => cut_any ⟨out.toArray⟩ w (by show out.toArray.size ≤ _; rw [List.size_toArray]; omega)
        have hcu2 : cutV (⟨out.toArray⟩ : ByteArray).data.toList = (wds fw i ++ [T.data.toList], 0) := hcu
        unfold CuP at cu
        rw [hcu2] at cu
        clear hcu hcu2 HCUT hb
        go_wp2_with (fail)
        refine (cu _).mono ?_
        rintro e w6 ⟨v6, rfl, RS6, hb6⟩
        have H6 := H5.step hb6
        obtain ⟨A6, c6, rfl, hc6⟩ := rs_row RS6
        obtain ⟨b6, hA6, _, g6⟩ := hc6 i (by rw [HRL.out]; omega)
        subst hA6
        rw [HLAST.out] at g6
        have g6' : w6.cell? ⟨b6, i, none⟩ = some (.string T) := by
          rw [g6]
          show some (Value.string ⟨T.data.toList.toArray⟩) = _
          rw [data_self]
        rw [HRL.out]
        clear RS6 hc6 g6 cu hb6
        obtain ⟨B, ⟨⟨d0, d1, d2, d3, d4⟩, dz⟩, T'⟩ := id H6
        go_wp2_with (fail)
        refine (pT _).mono ?_
        rintro e w7 ⟨rfl, hb7⟩
        have H7 := H6.step hb7
        have C9 := cb_new w7 s k a f x 47
        have hn := below_new w7 (.cells #[.int .i64 s, .int .i64 k, .int .i64 a, .int .i64 f, .bool x] 47)
        replace H7 := H7.step hn
        clear hb7 hn B d0 d1 d2 d3 d4 dz T'
        obtain ⟨B, ⟨⟨d0, d1, d2, d3, d4⟩, dz⟩, T'⟩ := id H7
        obtain ⟨⟨c0, c1, c2', c3, c4⟩, cz⟩ := C9
        rcases (show n < 0 ∨ 12 < n ∨ (0 ≤ n ∧ n ≤ 12) by omega) with n1 | n1 | ⟨n1, n2⟩
        · go_wp2
          go_ret
          exact ⟨rfl, H7.1⟩
        · have n3 : ¬ n < 0 := by omega
          go_wp2
          go_ret
          exact ⟨rfl, H7.1⟩
        · obtain ⟨p, q, al, fp, fq, fa, bp1, bp2, bq1, bq2, ba1, ba2, hk2, hkn⟩ := HFY.out n1 n2
          have f1 := fun w => fv n 12 p 0 fp w
          have f2 := fun w => fv (12 - n) 12 q 0 fq w
          have f3 := fun w => fv 12 12 al 0 fa w
          have n3 : ¬ n < 0 := by omega
          have n4 : ¬ 12 < n := by omega
          clear fp fq fa fv HFY
          by_cases hk : k = 2
          · have tk : (k == 2) = true := by simpa using hk
            have hl := hk2 hk
            have l1 : decide (0 ≤ -(al - p - q)) = true := by simp; omega
            have l2 : decide (-(al - p - q) ≤ 1) = true := by simp; omega
            clear hk hk2 hkn
            go_wp2_with (fail)
            refine (f1 _).mono ?_
            rintro e w8 ⟨rfl, hb8⟩
            have H8 := H7.step hb8
            obtain ⟨B, ⟨⟨d0, d1, d2, d3, d4⟩, dz⟩, T'⟩ := id H8
            go_wp2_with (fail)
            refine (f2 _).mono ?_
            rintro e w9 ⟨rfl, hb9⟩
            have H9 := H8.step hb9
            obtain ⟨B, ⟨⟨d0, d1, d2, d3, d4⟩, dz⟩, T'⟩ := id H9
            go_wp2_with (fail)
            refine (f3 _).mono ?_
            rintro e wA ⟨rfl, hbA⟩
            have HA := H9.step hbA
            obtain ⟨B, ⟨⟨d0, d1, d2, d3, d4⟩, dz⟩, T'⟩ := id HA
            go_wp2
            go_ret
            exact ⟨by first | rfl | exact ret_b (by simp; omega), HA.1⟩
          · have tk : (k == 2) = false := by simpa using hk
            have hl := hkn hk
            have l1 : decide (0 ≤ al - p - q) = true := by simp; omega
            have l2 : decide (al - p - q ≤ 1) = true := by simp; omega
            clear hk hk2 hkn
            go_wp2_with (fail)
            refine (f1 _).mono ?_
            rintro e w8 ⟨rfl, hb8⟩
            have H8 := H7.step hb8
            obtain ⟨B, ⟨⟨d0, d1, d2, d3, d4⟩, dz⟩, T'⟩ := id H8
            go_wp2_with (fail)
            refine (f2 _).mono ?_
            rintro e w9 ⟨rfl, hb9⟩
            have H9 := H8.step hb9
            obtain ⟨B, ⟨⟨d0, d1, d2, d3, d4⟩, dz⟩, T'⟩ := id H9
            go_wp2_with (fail)
            refine (f3 _).mono ?_
            rintro e wA ⟨rfl, hbA⟩
            have HA := H9.step hbA
            obtain ⟨B, ⟨⟨d0, d1, d2, d3, d4⟩, dz⟩, T'⟩ := id HA
            go_wp2
            go_ret
            exact ⟨by first | rfl | exact ret_b (by simp; omega), HA.1⟩
      · rw [ho]
        go_wp2
        go_ret
        exact ⟨rfl, H5.1⟩
theorem wWholeCodes (s k a f : Int) (x : Bool) (A : Option Addr) (m c : Nat) (fw : Nat → ByteArray) (n : Int) (w : World) (D : Tab w) (ba : -9223372036854775808 ≤ a ∧ a ≤ 9223372036854775807) (hr : rowAt w A m fun i => .string (fw i)) (hf : ∀ i, i < m → (fw i).size ≤ 140737488355328) :
    Calls Tryd.prog 5 #[.agg #[.int .i64 s, .int .i64 k, .int .i64 a, .int .i64 f, .bool x], .slice A m c, .int .i64 n] w fun e w' => e = .returned (.bool true) ∧ Below w.heap.size w w' := by
  by_cases hz : chkC s k a f = 0
  · by_cases hm : 20 < m
    · exact whole_long s k a f x A m c n w D hz hm ba
    · cases A with
      | none =>
        have hm0 : m = 0 := by
          rcases Nat.eq_zero_or_pos m with h | h
          · exact h
          · obtain ⟨b, o, e, _⟩ := hr h
            cases e
        exact whole_nil s k a f x m c n fw w D hz (by omega) hr hf hm0
      | some ad => exact whole_some s k a f x ad m c n fw w D hz (by omega) hr hf
  · exact whole_bad s k a f x A m c n w D ba hz
end Go.Proofs.YtoppipjbdakmeaaDoor
