/- What year.Post answers. -/
import Derived.Test.YtfnjhalpedccaaaYrP
import Derived.Test.YtfnjhalpedccaaaYrQ
import Derived.Deep.AppendLies
import Derived.Deep.RegionHeld3
import Derived.Deep.RegionLaw
namespace Go.Proofs.Ytfnjhalpedccaaa
open Go.RowKit Go.Sort
set_option linter.unusedVariables false
set_option linter.unusedSimpArgs false

theorem infoSl : (Try.prog.info? 37).map (fun i => (i.zero, i.size, i.bytes)) = some (some (.agg #[.int .i64 0, .int .i64 0, .int .i64 0, .int .i64 0, .int .i64 0, .int .i64 0, .slice none 0 0, .int .i64 0, .slice none 0 0, .int .i64 0]), 10, 112) := by kernel_rfl
theorem ypost_no {W : World} {p : Nat} (s : Slp) (v : Int) (hv : v ≠ 0) (hM : SlM W s) (hc : ∀ w, Below W.heap.size W w → Calls Try.prog 12 #[.pointer (some ⟨p, 0, none⟩), .agg #[.int .i64 s.k, .int .i64 s.ca, .int .i64 s.tb, .int .i64 s.so, .int .i64 s.tx, .int .i64 s.sf, .slice s.A s.n s.c, .int .i64 s.net, .slice s.T s.m s.d, .int .i64 s.pay]] w fun e w' => e = .returned (.tuple #[.agg #[.int .i64 0, .int .i64 0, .int .i64 0, .int .i64 0, .int .i64 0, .slice none 0 0, .int .i64 0, .int .i64 0, .int .i64 0], .int .i64 v]) ∧ Below w.heap.size w w') :
    Calls Try.prog 14 #[.pointer (some ⟨p, 0, none⟩), .agg #[.int .i64 s.k, .int .i64 s.ca, .int .i64 s.tb, .int .i64 s.so, .int .i64 s.tx, .int .i64 s.sf, .slice s.A s.n s.c, .int .i64 s.net, .slice s.T s.m s.d, .int .i64 s.pay]] W fun e w' => e = .returned (.int .i64 v) ∧ Below W.heap.size W w' := by
  have K := bx_new W [.int .i64 s.k, .int .i64 s.ca, .int .i64 s.tb, .int .i64 s.so, .int .i64 s.tx, .int .i64 s.sf, .slice s.A s.n s.c, .int .i64 s.net, .slice s.T s.m s.d, .int .i64 s.pay] 37
  have B := below_new W (.cells #[.int .i64 s.k, .int .i64 s.ca, .int .i64 s.tb, .int .i64 s.so, .int .i64 s.tx, .int .i64 s.sf, .slice s.A s.n s.c, .int .i64 s.net, .slice s.T s.m s.d, .int .i64 s.pay] 37)
  have cT := hc _ B
  have t1 : (v != 0) = true := by simp [hv]
  have k_0 := K.cell (i := 0) rfl
  have k_1 := K.cell (i := 1) rfl
  have k_2 := K.cell (i := 2) rfl
  have k_3 := K.cell (i := 3) rfl
  have k_4 := K.cell (i := 4) rfl
  have k_5 := K.cell (i := 5) rfl
  have k_6 := K.cell (i := 6) rfl
  have k_7 := K.cell (i := 7) rfl
  have k_8 := K.cell (i := 8) rfl
  have k_9 := K.cell (i := 9) rfl
  clear K hc hM hv
  go_enter Try.func14, Try.ntmps14
  go_wp2_with (fail)
  with_reducible refine cT.mono ?_
  rintro e w1 ⟨rfl, hb⟩
  have B1 := below_step B hb B.size
  have B2 := below_step B1 (below_new w1 (.cells #[.int .i64 0, .int .i64 0, .int .i64 0, .int .i64 0, .int .i64 0, .slice none 0 0, .int .i64 0, .int .i64 0, .int .i64 0] 34)) B1.size
  clear hb B B1 cT
  go_wp2
  go_ret
  exact ⟨rfl, B2⟩
/-- what Post leaves where it may -/
def YpP (p n cnt : Nat) (g : Nat → Slp) (t : Tot) (s : Slp) (F : Nat → Prop) (w : World) (e : Ending) (w' : World) : Prop := ∃ A c T d, e = .returned (.int .i64 0) ∧ YO w' p n (cnt + 1) (exG g cnt (s.mv A c T d)) (t.add s) (addF F w w') ∧ Chg F w w'
set_option maxRecDepth 100000 in
set_option maxHeartbeats 64000000 in
theorem ypost_ok {W : World} {p n cnt : Nat} {g : Nat → Slp} {t : Tot} {F : Nat → Prop} (h : YO W p n cnt g t F) (s : Slp) (hM : SlM W s) (hn : n ≤ 64) (hsn : s.n ≤ 100000) (hsm : s.m ≤ 100000) (hcnt : cnt ≤ 1000) (hs : s.OK n) (hk : s.k = (cnt : Int) + 1) (ht : t.rB n = true) (hr : (t.add s).rB n = true) :
    Calls Try.prog 14 #[.pointer (some ⟨p, 0, none⟩), .agg #[.int .i64 s.k, .int .i64 s.ca, .int .i64 s.tb, .int .i64 s.so, .int .i64 s.tx, .int .i64 s.sf, .slice s.A s.n s.c, .int .i64 s.net, .slice s.T s.m s.d, .int .i64 s.pay]] W (YpP p n cnt g t s F W) := by
  have hF := h.lt
  have K := bx_new W [.int .i64 s.k, .int .i64 s.ca, .int .i64 s.tb, .int .i64 s.so, .int .i64 s.tx, .int .i64 s.sf, .slice s.A s.n s.c, .int .i64 s.net, .slice s.T s.m s.d, .int .i64 s.pay] 37
  have B := below_new W (.cells #[.int .i64 s.k, .int .i64 s.ca, .int .i64 s.tb, .int .i64 s.so, .int .i64 s.tx, .int .i64 s.sf, .slice s.A s.n s.c, .int .i64 s.net, .slice s.T s.m s.d, .int .i64 s.pay] 37)
  have cT := ytry_ok (h.below B) s (hM.below B) hn hsn hsm hcnt hs hk ht hr
  have k_0 := K.cell (i := 0) rfl
  have k_1 := K.cell (i := 1) rfl
  have k_2 := K.cell (i := 2) rfl
  have k_3 := K.cell (i := 3) rfl
  have k_4 := K.cell (i := 4) rfl
  have k_5 := K.cell (i := 5) rfl
  have k_6 := K.cell (i := 6) rfl
  have k_7 := K.cell (i := 7) rfl
  have k_8 := K.cell (i := 8) rfl
  have k_9 := K.cell (i := 9) rfl
  clear hs hk ht hr
  unfold YpP
  go_enter Try.func14, Try.ntmps14
  go_wp2_with (fail)
  with_reducible refine cT.mono ?_
  rintro e w1 ⟨bq, rfl, hbq, HS, hb⟩
  clear k_0 k_1 k_2 k_3 k_4 k_5 k_6 k_7 k_8 k_9 cT
  have hbq' : W.heap.size ≤ bq := by have : W.heap.size + 1 ≤ bq := (by simpa using hbq); omega
  have B1 := below_step B hb B.size
  replace K := K.below hb
  have NB := below_new w1 (.cells #[.int .i64 (t.add s).ca, .int .i64 (t.add s).tb, .int .i64 (t.add s).so, .int .i64 (t.add s).tx, .int .i64 (t.add s).sf, .slice (some ⟨bq, 0, none⟩) n n, .int .i64 (t.add s).net, .int .i64 (t.add s).tk, .int .i64 (t.add s).pay] 34)
  have K5 := bx_new w1 [.int .i64 (t.add s).ca, .int .i64 (t.add s).tb, .int .i64 (t.add s).so, .int .i64 (t.add s).tx, .int .i64 (t.add s).sf, .slice (some ⟨bq, 0, none⟩) n n, .int .i64 (t.add s).net, .int .i64 (t.add s).tk, .int .i64 (t.add s).pay] 34
  have B3 := below_step B1 NB B1.size
  replace K := K.below NB
  replace HS := Lib.hid (HS.below NB)
  have h3 := h.below (show Below W.heap.size W _ from B3)
  have hM3 := hM.below (show Below W.heap.size W _ from B3)
  have hz1 : W.heap.size ≤ w1.heap.size := B1.size
  clear NB h hM B B1 hb hbq
  go_wp2_with (fail)
  generalize hw3 : (w1.alloc (.cells #[.int .i64 (t.add s).ca, .int .i64 (t.add s).tb, .int .i64 (t.add s).so, .int .i64 (t.add s).tx, .int .i64 (t.add s).sf, .slice (some ⟨bq, 0, none⟩) n n, .int .i64 (t.add s).net, .int .i64 (t.add s).tk, .int .i64 (t.add s).pay] 34)) = w3 at *
  have hz3 : w1.heap.size < w3.heap.size := by rw [← hw3]; simp
  clear hw3
  generalize w1.heap.size = p5 at *
  obtain ⟨A, c, B0, b0, h3⟩ := h3
  have hdd : Below w3.heap.size w3 w3.drew := (Below.refl _ _).drew
  have KY : Bx w3 p 86 [.slice A cnt c, .int .i64 t.ca, .int .i64 t.tb, .int .i64 t.so, .int .i64 t.tx, .int .i64 t.sf, .slice B0 n b0, .int .i64 t.net, .int .i64 t.tk, .int .i64 t.pay] := h3.K
  have hpl := KY.lt
  have hpW := hF p h3.fp
  have hAW : ∀ q, atB A q → q < W.heap.size := fun q hq => hF q (h3.fA q hq)
  have hAp := h3.dA
  have hown := h3.O
  have cO := yown_any s w3.drew (hM3.below hdd) hsn hsm
  unfold OwP at cO
  obtain ⟨j0, hi0, hz0, hz1', hz2⟩ := info_parts infoSl
  have hone : ∀ A6 c6 T6 d6, ∀ u ∈ ([.int .i64 s.k, .int .i64 s.ca, .int .i64 s.tb, .int .i64 s.so, .int .i64 s.tx, .int .i64 s.sf, .slice A6 s.n c6, .int .i64 s.net, .slice T6 s.m d6, .int .i64 s.pay] : List Value), u.oneCell' = true := by intro _ _ _ _; simp [Value.oneCell']
  have hlen : ∀ A6 c6 T6 d6, ([.int .i64 s.k, .int .i64 s.ca, .int .i64 s.tb, .int .i64 s.so, .int .i64 s.tx, .int .i64 s.sf, .slice A6 s.n c6, .int .i64 s.net, .slice T6 s.m d6, .int .i64 s.pay] : List Value).length = 1 * 10 := fun _ _ _ _ => rfl
  have hc3 : cnt + 1 ≤ maxLen := by unfold maxLen; omega
  have hc4 : (cnt + 1) * 112 ≤ 140737488355328 := by omega
  have Kd := K.below hdd
  have KYd := KY.below hdd
  have K5d := K5.below hdd
  have hownd := own_below hown hdd
  have H3 := Lib.hid h3
  have HB3 := Lib.hid B3
  have HFF := Lib.hid hF
  have HAW := Lib.hid hAW
  have HAp := Lib.hid hAp
  clear h3 B3 hF hAW hAp hM3
  have y0 := KY.cell (i := 0) rfl
  have u0 := KYd.cell (i := 0) rfl
  have dd0 := Kd.cell (i := 0) rfl
  have dd1 := Kd.cell (i := 1) rfl
  have dd2 := Kd.cell (i := 2) rfl
  have dd3 := Kd.cell (i := 3) rfl
  have dd4 := Kd.cell (i := 4) rfl
  have dd5 := Kd.cell (i := 5) rfl
  have dd6 := Kd.cell (i := 6) rfl
  have dd7 := Kd.cell (i := 7) rfl
  have dd8 := Kd.cell (i := 8) rfl
  have dd9 := Kd.cell (i := 9) rfl
  have f0 := K5d.cell (i := 0) rfl
  have f1 := K5d.cell (i := 1) rfl
  have f2 := K5d.cell (i := 2) rfl
  have f3 := K5d.cell (i := 3) rfl
  have f4 := K5d.cell (i := 4) rfl
  have f5 := K5d.cell (i := 5) rfl
  have f6 := K5d.cell (i := 6) rfl
  have f7 := K5d.cell (i := 7) rfl
  have f8 := K5d.cell (i := 8) rfl
  have mkB : ∀ X : World, Bx X W.heap.size 37 [.int .i64 s.k, .int .i64 s.ca, .int .i64 s.tb, .int .i64 s.so, .int .i64 s.tx, .int .i64 s.sf, .slice s.A s.n s.c, .int .i64 s.net, .slice s.T s.m s.d, .int .i64 s.pay] → Bx X p5 34 [.int .i64 (t.add s).ca, .int .i64 (t.add s).tb, .int .i64 (t.add s).so, .int .i64 (t.add s).tx, .int .i64 (t.add s).sf, .slice (some ⟨bq, 0, none⟩) n n, .int .i64 (t.add s).net, .int .i64 (t.add s).tk, .int .i64 (t.add s).pay] → (X.cell? ⟨W.heap.size, 0, none⟩ = some (.int .i64 s.k) ∧ X.cell? ⟨W.heap.size, 1, none⟩ = some (.int .i64 s.ca) ∧ X.cell? ⟨W.heap.size, 2, none⟩ = some (.int .i64 s.tb) ∧ X.cell? ⟨W.heap.size, 3, none⟩ = some (.int .i64 s.so) ∧ X.cell? ⟨W.heap.size, 4, none⟩ = some (.int .i64 s.tx) ∧ X.cell? ⟨W.heap.size, 5, none⟩ = some (.int .i64 s.sf) ∧ X.cell? ⟨W.heap.size, 6, none⟩ = some (.slice s.A s.n s.c) ∧ X.cell? ⟨W.heap.size, 7, none⟩ = some (.int .i64 s.net) ∧ X.cell? ⟨W.heap.size, 8, none⟩ = some (.slice s.T s.m s.d) ∧ X.cell? ⟨W.heap.size, 9, none⟩ = some (.int .i64 s.pay) ∧ X.cell? ⟨p5, 0, none⟩ = some (.int .i64 (t.add s).ca) ∧ X.cell? ⟨p5, 1, none⟩ = some (.int .i64 (t.add s).tb) ∧ X.cell? ⟨p5, 2, none⟩ = some (.int .i64 (t.add s).so) ∧ X.cell? ⟨p5, 3, none⟩ = some (.int .i64 (t.add s).tx) ∧ X.cell? ⟨p5, 4, none⟩ = some (.int .i64 (t.add s).sf) ∧ X.cell? ⟨p5, 5, none⟩ = some (.slice (some ⟨bq, 0, none⟩) n n) ∧ X.cell? ⟨p5, 6, none⟩ = some (.int .i64 (t.add s).net) ∧ X.cell? ⟨p5, 7, none⟩ = some (.int .i64 (t.add s).tk) ∧ X.cell? ⟨p5, 8, none⟩ = some (.int .i64 (t.add s).pay)) := fun X k1 k2 => ⟨k1.cell (i := 0) rfl, k1.cell (i := 1) rfl, k1.cell (i := 2) rfl, k1.cell (i := 3) rfl, k1.cell (i := 4) rfl, k1.cell (i := 5) rfl, k1.cell (i := 6) rfl, k1.cell (i := 7) rfl, k1.cell (i := 8) rfl, k1.cell (i := 9) rfl, k2.cell (i := 0) rfl, k2.cell (i := 1) rfl, k2.cell (i := 2) rfl, k2.cell (i := 3) rfl, k2.cell (i := 4) rfl, k2.cell (i := 5) rfl, k2.cell (i := 6) rfl, k2.cell (i := 7) rfl, k2.cell (i := 8) rfl⟩
  have hp5 : p ≠ p5 := by omega
  have hpw : p ≠ W.heap.size := by omega
  have hp5n : ¬ p5 < W.heap.size := by omega
  go_region_law
    (first
      | (refine step_append_lies _ (by rfl) (.tmp 21) (.tmp 24) 22 (by rfl) 0 37 j0 (.agg #[.int .i64 0, .int .i64 0, .int .i64 0, .int .i64 0, .int .i64 0, .int .i64 0, .slice none 0 0, .int .i64 0, .slice none 0 0, .int .i64 0]) 10 112 Try.underlying22 hi0 hz0 hz1' hz2 (by rfl) (by decide) (.slice A cnt c) cnt (slc g cnt) (by rfl) own7 ⟨_, 0, none⟩ 1 1 [.int .i64 s.k, .int .i64 s.ca, .int .i64 s.tb, .int .i64 s.so, .int .i64 s.tx, .int .i64 s.sf, .slice A6 s.n c6, .int .i64 s.net, .slice T6 s.m d6, .int .i64 s.pay] (by rfl) (by rfl) (bx_add KN7) (hone _ _ _ _) (by decide) hc3 hc4 (Nat.zero_le _) _ rfl ?_; intro g9 cap9 w9 hown9 hgrow hat hlt9; have KY9 := KY7.of_block (hgrow.block p KY7.lt (fun e => HAp.out (own_hb e.symm))); have K59 := K57.of_block (hgrow.block p5 K57.lt (fun e => absurd (HAW.out p5 (own_hb e.symm)) hp5n)); have K9 := K7.of_block (hgrow.block W.heap.size K7.lt (fun e => Nat.lt_irrefl _ (HAW.out W.heap.size (own_hb e.symm)))); have q0 := KY9.cell (i := 0) rfl; have fz := fun i => KY9.fr i; have KYs := KY9.set 0 (.slice (some ⟨g9, 0, none⟩) (cnt + 1) cap9); have fzs := fun i => KYs.fr i; have s1 := KYs.cell (i := 1) rfl; have s2 := KYs.cell (i := 2) rfl; have s3 := KYs.cell (i := 3) rfl; have s4 := KYs.cell (i := 4) rfl; have s5 := KYs.cell (i := 5) rfl; have s6 := KYs.cell (i := 6) rfl; have s7 := KYs.cell (i := 7) rfl; have s8 := KYs.cell (i := 8) rfl; have s9 := KYs.cell (i := 9) rfl; have r0 := K59.cell (i := 0) rfl; have r1 := K59.cell (i := 1) rfl; have r2 := K59.cell (i := 2) rfl; have r3 := K59.cell (i := 3) rfl; have r4 := K59.cell (i := 4) rfl; have r5 := K59.cell (i := 5) rfl; have r6 := K59.cell (i := 6) rfl; have r7 := K59.cell (i := 7) rfl; have r8 := K59.cell (i := 8) rfl)
      | (go_simp; go_at_call 42; (with_reducible refine cO.mono ?_); rintro e w6 ⟨A6, c6, T6, d6, rfl, O1, O2, hne, hb6⟩; have K6 := Kd.below hb6; have KY6 := KYd.below hb6; have K56 := K5d.below hb6; have own6 := own_below hownd hb6; have y6 := KY6.cell (i := 0) rfl; have m0 := K56.cell (i := 0) rfl; have m1 := K56.cell (i := 1) rfl; have m2 := K56.cell (i := 2) rfl; have m3 := K56.cell (i := 3) rfl; have m4 := K56.cell (i := 4) rfl; have m5 := K56.cell (i := 5) rfl; have m6 := K56.cell (i := 6) rfl; have m7 := K56.cell (i := 7) rfl; have m8 := K56.cell (i := 8) rfl; have N7 := below_new w6 (.cells #[.int .i64 s.k, .int .i64 s.ca, .int .i64 s.tb, .int .i64 s.so, .int .i64 s.tx, .int .i64 s.sf, .slice A6 s.n c6, .int .i64 s.net, .slice T6 s.m d6, .int .i64 s.pay] 37); have KN7 := bx_new w6 [.int .i64 s.k, .int .i64 s.ca, .int .i64 s.tb, .int .i64 s.so, .int .i64 s.tx, .int .i64 s.sf, .slice A6 s.n c6, .int .i64 s.net, .slice T6 s.m d6, .int .i64 s.pay] 37; have K7 := K6.below N7; have KY7 := KY6.below N7; have K57 := K56.below N7; have own7 := own_below own6 N7; have y7 := KY7.cell (i := 0) rfl; have n0 := K57.cell (i := 0) rfl; have n1 := K57.cell (i := 1) rfl; have n2 := K57.cell (i := 2) rfl; have n3 := K57.cell (i := 3) rfl; have n4 := K57.cell (i := 4) rfl; have n5 := K57.cell (i := 5) rfl; have n6 := K57.cell (i := 6) rfl; have n7 := K57.cell (i := 7) rfl; have n8 := K57.cell (i := 8) rfl))
  all_goals
    have b36 : Below w3.heap.size w3 w6 := below_step hdd hb6 (show w3.heap.size ≤ w3.drew.heap.size from Nat.le_refl _)
    have KZ := stAll_self KY9 [.slice (some ⟨g9, 0, none⟩) (cnt + 1) cap9, .int .i64 (t.add s).ca, .int .i64 (t.add s).tb, .int .i64 (t.add s).so, .int .i64 (t.add s).tx, .int .i64 (t.add s).sf, .slice (some ⟨bq, 0, none⟩) n n, .int .i64 (t.add s).net, .int .i64 (t.add s).tk, .int .i64 (t.add s).pay] rfl
    have hm := Lib.hid (post_made (W := W) (w3 := w3) (w6 := w6) (w9 := w9) (wz := stAll w9 p 0 [.slice (some ⟨g9, 0, none⟩) (cnt + 1) cap9, .int .i64 (t.add s).ca, .int .i64 (t.add s).tb, .int .i64 (t.add s).so, .int .i64 (t.add s).tx, .int .i64 (t.add s).sf, .slice (some ⟨bq, 0, none⟩) n n, .int .i64 (t.add s).net, .int .i64 (t.add s).tk, .int .i64 (t.add s).pay]) (t' := t.add s) (s := s) (A6 := A6) (T6 := T6) (c6 := c6) (d6 := d6) (bq := bq) (g9 := g9) (cap9 := cap9) H3.out HFF.out HB3.out b36 N7 hgrow hown9 hat hlt9 (fun q hq => (stAll_blk hq [.slice (some ⟨g9, 0, none⟩) (cnt + 1) cap9, .int .i64 (t.add s).ca, .int .i64 (t.add s).tb, .int .i64 (t.add s).so, .int .i64 (t.add s).tx, .int .i64 (t.add s).sf, .slice (some ⟨bq, 0, none⟩) n n, .int .i64 (t.add s).net, .int .i64 (t.add s).tk, .int .i64 (t.add s).pay] w9 0)) (stAll_size [.slice (some ⟨g9, 0, none⟩) (cnt + 1) cap9, .int .i64 (t.add s).ca, .int .i64 (t.add s).tb, .int .i64 (t.add s).so, .int .i64 (t.add s).tx, .int .i64 (t.add s).sf, .slice (some ⟨bq, 0, none⟩) n n, .int .i64 (t.add s).net, .int .i64 (t.add s).tk, .int .i64 (t.add s).pay] w9 0) (stAll_os [.slice (some ⟨g9, 0, none⟩) (cnt + 1) cap9, .int .i64 (t.add s).ca, .int .i64 (t.add s).tb, .int .i64 (t.add s).so, .int .i64 (t.add s).tx, .int .i64 (t.add s).sf, .slice (some ⟨bq, 0, none⟩) n n, .int .i64 (t.add s).net, .int .i64 (t.add s).tk, .int .i64 (t.add s).pay] w9 0) KZ HS.out hbq' O1 O2 hne)
    clear KZ b36 hgrow hown9 hat hlt9 KY9 K59 K9 KYs fzs q0 fz KN7 K7 KY7 K57 own7 N7 y7 K6 KY6 K56 own6 y6 O1 O2 hne hb6 cO mkB Kd KYd K5d hownd u0 y0 K5 KY K hown hdd hc3 hc4 hlen hone H3 HB3 HFF HAW HAp HS
    clear s1 s2 s3 s4 s5 s6 s7 s8 s9 dd0 dd1 dd2 dd3 dd4 dd5 dd6 dd7 dd8 dd9 f0 f1 f2 f3 f4 f5 f6 f7 f8 m0 m1 m2 m3 m4 m5 m6 m7 m8 n0 n1 n2 n3 n4 n5 n6 n7 n8 r0 r1 r2 r3 r4 r5 r6 r7 r8
    go_wp2
    go_ret
    exact ⟨A6, c6, T6, d6, rfl, hm.out.1, hm.out.2⟩
end Go.Proofs.Ytfnjhalpedccaaa
