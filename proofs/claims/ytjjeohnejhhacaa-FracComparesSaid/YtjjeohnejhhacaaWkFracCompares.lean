/- The walk of the law FracCompares. -/
import Derived.Test.YtjjeohnejhhacaaWkFracRounds
import Derived.Deep.DeepCutAuto
import Derived.Deep.QuietTactic
import Derived.BigQuiet
namespace Go.Proofs.Ytjjeohnejhhacaa
open Go.RowKit
set_option linter.unusedVariables false

theorem mul_bd2 {x r : Int} (a k : Int) (h : -a ≤ x) (h' : x ≤ a) (hr : 0 ≤ r) (hr' : r ≤ k) (ha : 0 ≤ a) : -(a * k) ≤ x * r ∧ x * r ≤ a * k := by
  have t1 := Int.mul_le_mul_of_nonneg_right h' hr
  have t2 := Int.mul_le_mul_of_nonneg_right h hr
  have t3 : a * r ≤ a * k := Int.mul_le_mul_of_nonneg_left hr' ha
  rw [Int.neg_mul] at t2
  omega
def SmallF (n d m c : Int) (b : Bool) : Prop := b = true → (-1099511627776 < n ∧ n < 1099511627776) ∧ (-1099511627776 < m ∧ m < 1099511627776) ∧ d < 1048576 ∧ c < 1048576
theorem great_any (x : Int) (w : World) : Calls Try.prog 11 #[.int .i64 x] w fun e w' => e = .returned (.bool (greatB x)) ∧ w = w' := great_b x _ rfl w
theorem box_cells {w : World} {x0 x1 y0 y1 z0 z1 : Value} {t t1 t2 : TypeId} {w1 : World} (hb : Below (((w.alloc (.cells #[x0, x1] t)).alloc (.cells #[y0, y1] t1)).alloc (.cells #[z0, z1] t2)).heap.size (((w.alloc (.cells #[x0, x1] t)).alloc (.cells #[y0, y1] t1)).alloc (.cells #[z0, z1] t2)) w1) :
    w1.cell? ⟨w.heap.size, 0, none⟩ = some x0 ∧ w1.cell? ⟨w.heap.size, 1, none⟩ = some x1 ∧ w1.cell? ⟨w.heap.size + 1, 0, none⟩ = some y0 ∧ w1.cell? ⟨w.heap.size + 1, 1, none⟩ = some y1 ∧ w1.cell? ⟨w.heap.size + 2, 0, none⟩ = some z0 ∧ w1.cell? ⟨w.heap.size + 2, 1, none⟩ = some z1 := by
  refine ⟨?_, ?_, ?_, ?_, ?_, ?_⟩
  · rw [hb.cell (p := ⟨w.heap.size, 0, none⟩) (by simp; omega)]; simp [go_sem]
  · rw [hb.cell (p := ⟨w.heap.size, 1, none⟩) (by simp; omega)]; simp [go_sem]
  · rw [hb.cell (p := ⟨w.heap.size + 1, 0, none⟩) (by simp)]; simp [go_sem]
  · rw [hb.cell (p := ⟨w.heap.size + 1, 1, none⟩) (by simp)]; simp [go_sem]
  · rw [hb.cell (p := ⟨w.heap.size + 2, 0, none⟩) (by simp)]; simp [go_sem]
  · rw [hb.cell (p := ⟨w.heap.size + 2, 1, none⟩) (by simp)]; simp [go_sem]

set_option maxHeartbeats 8000000 in
set_option maxRecDepth 100000 in
theorem wFracCompares (n d m c p q : Int) (w : World) (hn : -9223372036854775808 ≤ n) (hn' : n ≤ 9223372036854775807) (hd : -9223372036854775808 ≤ d) (hd' : d ≤ 9223372036854775807)
    (hm : -9223372036854775808 ≤ m) (hm' : m ≤ 9223372036854775807) (hc : -9223372036854775808 ≤ c) (hc' : c ≤ 9223372036854775807)
    (hp : -9223372036854775808 ≤ p) (hp' : p ≤ 9223372036854775807) (hq : -9223372036854775808 ≤ q) (hq' : q ≤ 9223372036854775807) :
    Calls Try.prog 8 #[.agg #[.int .i64 n, .int .i64 d], .agg #[.int .i64 m, .int .i64 c], .agg #[.int .i64 p, .int .i64 q]] w fun e w' => e = .returned (.bool true) ∧ Below w.heap.size w w' := by
  by_cases h1 : d ≤ 0
  · have cm := fun w => compare_bad n d m c w (.inl h1)
    go_enter Try.func8, Try.ntmps8
    go_wp2_with (fail)
    refine (parts_any _).mono ?_
    rintro e w1 ⟨rfl, hb1⟩
    obtain ⟨c1, c2, c3, c4, c5, c6⟩ := box_cells hb1
    go_wp2_with (fail)
    refine (cm _).mono ?_
    rintro e w' ⟨rfl, rfl⟩
    go_wp2
    go_ret
    exact ⟨rfl, ((((Below.refl _ _).alloc (Nat.le_refl _) _).alloc (by simp) _).alloc (by simp; omega) _).trans (hb1.mono (by simp; omega))⟩
  · have d1 : 1 ≤ d := by omega
    clear h1
    by_cases h2 : c ≤ 0
    · have cm := fun w => compare_bad n d m c w (.inr h2)
      go_enter Try.func8, Try.ntmps8
      go_wp2_with (fail)
      refine (parts_any _).mono ?_
      rintro e w1 ⟨rfl, hb1⟩
      obtain ⟨c1, c2, c3, c4, c5, c6⟩ := box_cells hb1
      go_wp2_with (fail)
      refine (cm _).mono ?_
      rintro e w' ⟨rfl, rfl⟩
      go_wp2
      go_ret
      exact ⟨rfl, ((((Below.refl _ _).alloc (Nat.le_refl _) _).alloc (by simp) _).alloc (by simp; omega) _).trans (hb1.mono (by simp; omega))⟩
    · have c1' : 1 ≤ c := by omega
      clear h2
      have cm1 := fun w => compare_ok n d m c w hn hn' d1 hd' hm hm' c1' hc'
      have cm2 := fun w => compare_ok m c n d w hm hm' c1' hc' hn hn' d1 hd'
      have lo1 := fun w => lowest_ok n d w hn hn' d1 hd'
      have lo2 := fun w => lowest_ok m c w hm hm' c1' hc'
      have e1 : cmpF m c n d = -cmpF n d m c := cmpI_swap _ _
      have tx := cmpI_cases (n * c) (m * d)
      have lw := low_iff (n := n) (d := d) (m := m) (c := c) (by omega) (by omega)
      have ls := low_same (n := n) (d := d) (by omega)
      have g1 := low_pos (n := n) (d := d) (by omega)
      have g2 := low_pos (n := m) (d := c) (by omega)
      have b1 := both_pos (n := n) (d := d) (by omega)
      have b2 := both_pos (n := m) (d := c) (by omega)
      have k1 := ediv_bd (n := n) (d := both n d) (by omega) _ _ hn hn' (by omega) (by omega)
      have k2 := ediv_bd (n := m) (d := both m c) (by omega) _ _ hm hm' (by omega) (by omega)
      have k3 := ediv_hi (n := d) (d := both n d) (by omega) (by omega)
      have k4 := ediv_hi (n := c) (d := both m c) (by omega) (by omega)
      have cm3 := fun w => compare_ok (n / both n d) (d / both n d) n d w k1.1 k1.2 g1 (by omega) hn hn' d1 hd'
      have tr := fun (hq : 0 < q) => cmpF_trans (n := n) (d := d) (m := m) (c := c) (p := p) (q := q) (by omega) (by omega) hq
      have cm4 := fun (hq1 : 1 ≤ q) w => compare_ok m c p q w hm hm' c1' hc' hp hp' hq1 hq'
      have cm5 := fun (hq1 : 1 ≤ q) w => compare_ok n d p q w hn hn' d1 hd' hp hp' hq1 hq'
      have cb4 := fun (hq1 : q ≤ 0) w => compare_bad m c p q w (.inr hq1)
      have cb5 := fun (hq1 : q ≤ 0) w => compare_bad n d p q w (.inr hq1)
      rw [ls] at cm3
      rw [e1] at cm2
      have tx2 : (n * c < m * d ∧ cmpF n d m c = -1) ∨ (n * c = m * d ∧ cmpF n d m c = 0) ∨ (m * d < n * c ∧ cmpF n d m c = 1) := tx
      generalize cmpF n d m c = x at *
      generalize n / both n d = n2 at *
      generalize d / both n d = d2 at *
      generalize m / both m c = m2 at *
      generalize c / both m c = c2 at *
      have hx1 : -1 ≤ x := by omega
      have hx2 : x ≤ 1 := by omega
      have gr1 := great_any n
      have gr2 := great_any m
      obtain ⟨k5, k6⟩ := k1
      obtain ⟨k7, k8⟩ := k2
      have TX := Lib.hid tx2
      have LW := Lib.hid lw
      have TR := Lib.hid tr
      clear ls e1 tx tx2 lw b1 b2 k3 k4 tr
      go_enter Try.func8, Try.ntmps8
      go_wp2_with (fail)
      refine (parts_any _).mono ?_
      rintro e w1 ⟨rfl, hb1⟩
      obtain ⟨y1, y2, y3, y4, y5, y6⟩ := box_cells hb1
      have hB : Below w.heap.size w w1 := ((((Below.refl _ _).alloc (Nat.le_refl _) _).alloc (by simp) _).alloc (by simp; omega) _).trans (hb1.mono (by simp; omega))
      clear hb1
      go_wp2_with (fail)
      refine (cm1 _).mono ?_
      rintro e w' ⟨rfl, rfl⟩
      go_wp2_with (fail)
      refine (cm2 _).mono ?_
      rintro e w' ⟨rfl, rfl⟩
      go_wp2_with (fail)
      refine (lo1 _).mono ?_
      rintro e w' ⟨rfl, j1, rfl⟩
      go_wp2_with (fail)
      refine (lo2 _).mono ?_
      rintro e w' ⟨rfl, j2, rfl⟩
      go_upto_region 9 with (fail)
      go_cut [125] (fun s wx => s = .bool false ∧ wx = w1.drewN (j1 + j2))
      case first =>
        have lw := LW.out
        rcases TX.out with ⟨hx, rfl⟩ | ⟨hx, rfl⟩ | ⟨hx, rfl⟩
        · clear hx TX TR LW
          by_cases hnm : n2 = m2
          · subst hnm
            have hne : (d2 == c2) = false := by simp; intro h; simp [h] at lw
            clear lw
            as_aux_lemma =>
              go_wp2
              all_goals (go_meet; exact ⟨by first | rfl | (simp; omega), rfl⟩)
          · have hne : (n2 == m2) = false := by simpa using hnm
            clear lw hnm
            as_aux_lemma =>
              go_wp2
              all_goals (go_meet; exact ⟨by first | rfl | (simp; omega), rfl⟩)
        · clear hx TX TR LW
          obtain ⟨rfl, rfl⟩ := lw.1 rfl
          clear lw
          as_aux_lemma =>
            go_wp2
            all_goals (go_meet; exact ⟨by first | rfl | (simp; omega), rfl⟩)
        · clear hx TX TR LW
          by_cases hnm : n2 = m2
          · subst hnm
            have hne : (d2 == c2) = false := by simp; intro h; simp [h] at lw
            clear lw
            as_aux_lemma =>
              go_wp2
              all_goals (go_meet; exact ⟨by first | rfl | (simp; omega), rfl⟩)
          · have hne : (n2 == m2) = false := by simpa using hnm
            clear lw hnm
            as_aux_lemma =>
              go_wp2
              all_goals (go_meet; exact ⟨by first | rfl | (simp; omega), rfl⟩)
      case rest =>
        obtain ⟨rfl, rfl⟩ := hcut
        clear LW cm1 cm2 lo1 lo2
        go_wp2_with (fail)
        refine (cm3 _).mono ?_
        rintro e w' ⟨rfl, rfl⟩
        go_upto_region 14 with (fail)
        go_cut [177] (fun s wx => ∃ b : Bool, s = .bool b ∧ SmallF n d m c b ∧ wx = w1.drewN (j1 + j2))
        case first =>
          clear TX TR cm4 cm5 cb4 cb5 cm3
          cases hgn : greatB n
          · have gr1 := great_b n false hgn
            cases hgm : greatB m
            · have gr2 := great_b m false hgm
              clear hgn hgm
              as_aux_lemma =>
                go_wp2_with (fail)
                refine (gr1 _).mono ?_
                rintro e w' ⟨rfl, rfl⟩
                go_wp2_with (fail)
                refine (gr2 _).mono ?_
                rintro e w' ⟨rfl, rfl⟩
                go_wp2
                all_goals (go_meet; refine ⟨_, rfl, ?_, rfl⟩; first | (intro hb; cases hb; done) | (intro hb; simp at hb; exact ⟨⟨by omega, by omega⟩, ⟨by omega, by omega⟩, by omega, by omega⟩))
            · have gr2 := great_b m true hgm
              clear hgn hgm
              as_aux_lemma =>
                go_wp2_with (fail)
                refine (gr1 _).mono ?_
                rintro e w' ⟨rfl, rfl⟩
                go_wp2_with (fail)
                refine (gr2 _).mono ?_
                rintro e w' ⟨rfl, rfl⟩
                go_wp2
                all_goals (go_meet; refine ⟨_, rfl, ?_, rfl⟩; first | (intro hb; cases hb; done) | (intro hb; simp at hb; exact ⟨⟨by omega, by omega⟩, ⟨by omega, by omega⟩, by omega, by omega⟩))
          · have gr1 := great_b n true hgn
            clear hgn
            as_aux_lemma =>
              go_wp2_with (fail)
              refine (gr1 _).mono ?_
              rintro e w' ⟨rfl, rfl⟩
              go_wp2
              all_goals (go_meet; refine ⟨_, rfl, ?_, rfl⟩; first | (intro hb; cases hb; done) | (intro hb; simp at hb; exact ⟨⟨by omega, by omega⟩, ⟨by omega, by omega⟩, by omega, by omega⟩))
        case rest =>
          obtain ⟨b, rfl, hsm, rfl⟩ := hcut
          clear gr1 gr2 cm3
          go_upto_if 177 with (fail)
          go_cut [] (fun wx => ∃ k, wx = w1.drewN k)
          case first =>
            cases b
            · as_aux_lemma =>
                go_wp2
                all_goals (go_meet; exact ⟨_, rfl⟩)
            · obtain ⟨⟨s1, s2⟩, ⟨s3, s4⟩, s5, s6⟩ := hsm rfl
              have u1 := mul_bd2 (x := n) (r := c) 1099511627776 1048576 (by omega) (by omega) (by omega) (by omega) (by omega)
              have u2 := mul_bd2 (x := m) (r := d) 1099511627776 1048576 (by omega) (by omega) (by omega) (by omega) (by omega)
              have u3 : -1152921504606846976 ≤ n * c := by omega
              have u4 : n * c ≤ 1152921504606846976 := by omega
              have u5 : -1152921504606846976 ≤ m * d := by omega
              have u6 : m * d ≤ 1152921504606846976 := by omega
              clear hsm u1 u2
              rcases TX.out with ⟨hx, rfl⟩ | ⟨hx, rfl⟩ | ⟨hx, rfl⟩
              · clear TX TR cm4 cm5 cb4 cb5
                as_aux_lemma =>
                  go_wp2
                  go_quiet (fail)
                  go_wp2
                  all_goals (go_meet; exact ⟨_, rfl⟩)
              · have hx1 : n * c ≤ m * d := by omega
                have hx2 : m * d ≤ n * c := by omega
                clear TX TR cm4 cm5 cb4 cb5 hx
                as_aux_lemma =>
                  go_wp2
                  go_quiet (fail)
                  go_wp2
                  all_goals (go_meet; exact ⟨_, rfl⟩)
              · have hx1 : m * d ≤ n * c := by omega
                clear TX TR cm4 cm5 cb4 cb5
                as_aux_lemma =>
                  go_wp2
                  go_quiet (fail)
                  go_wp2
                  all_goals (go_meet; exact ⟨_, rfl⟩)
          case rest =>
            obtain ⟨k, rfl⟩ := hcut
            clear TX hsm
            by_cases hq1 : 1 ≤ q
            · have cm4 := cm4 hq1
              have cm5 := cm5 hq1
              have tr := TR.out (by omega)
              clear cb4 cb5 TR
              generalize cmpF m c p q = z at *
              generalize cmpF n d p q = v at *
              by_cases t1 : x < 0
              · by_cases t2 : z < 0
                · have t3 : v < 0 := tr t1 t2
                  clear tr
                  as_aux_lemma =>
                    go_wp2_with (fail)
                    refine (cm4 _).mono ?_
                    rintro e w' ⟨rfl, rfl⟩
                    go_wp2_with (fail)
                    refine (cm5 _).mono ?_
                    rintro e w' ⟨rfl, rfl⟩
                    go_wp2
                    go_ret
                    exact ⟨ret_b (by first | rfl | (simp; done) | (simp; omega)), below_drewN hB _⟩
                · clear tr
                  as_aux_lemma =>
                    go_wp2_with (fail)
                    refine (cm4 _).mono ?_
                    rintro e w' ⟨rfl, rfl⟩
                    go_wp2_with (fail)
                    refine (cm5 _).mono ?_
                    rintro e w' ⟨rfl, rfl⟩
                    go_wp2
                    all_goals go_ret
                    all_goals exact ⟨ret_b (by first | rfl | (simp; done) | (simp; omega)), below_drewN hB _⟩
              · clear tr
                as_aux_lemma =>
                  go_wp2_with (fail)
                  refine (cm4 _).mono ?_
                  rintro e w' ⟨rfl, rfl⟩
                  go_wp2_with (fail)
                  refine (cm5 _).mono ?_
                  rintro e w' ⟨rfl, rfl⟩
                  go_wp2
                  all_goals go_ret
                  all_goals exact ⟨ret_b (by first | rfl | (simp; done) | (simp; omega)), below_drewN hB _⟩
            · have cm4 := cb4 (by omega)
              have cm5 := cb5 (by omega)
              clear cb4 cb5 TR
              as_aux_lemma =>
                go_wp2_with (fail)
                refine (cm4 _).mono ?_
                rintro e w' ⟨rfl, rfl⟩
                go_wp2_with (fail)
                refine (cm5 _).mono ?_
                rintro e w' ⟨rfl, rfl⟩
                go_wp2
                all_goals go_ret
                all_goals exact ⟨ret_b (by first | rfl | (simp; done) | (simp; omega)), below_drewN hB _⟩
end Go.Proofs.Ytjjeohnejhhacaa
