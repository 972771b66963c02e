/- slices.DeleteFunc of any entries: those of nothing go. -/
import Derived.Test.YtgadlfdioakodabDoorBalD
import Derived.Laws.OwnMore
namespace Go.Proofs.YtgadlfdioakodabDoor
open Go.RowKit Go.Sort
set_option linter.unusedVariables false
set_option linter.unusedSimpArgs false

/-- how many entries stay -/
def fltN (f : Nat → En) : Nat → Nat
  | 0 => 0
  | n + 1 => if ((f n).2 == 0) = true then fltN f n else fltN f n + 1
/-- .. and which -/
def fltF (f : Nat → En) : Nat → Nat → En
  | 0 => f
  | n + 1 => if ((f n).2 == 0) = true then fltF f n else putE (fltF f n) (fltN f n) (f n)
theorem fltN_le (f : Nat → En) : ∀ n, fltN f n ≤ n
  | 0 => Nat.le_refl _
  | n + 1 => by
    have := fltN_le f n
    simp only [fltN]
    split <;> omega
theorem fltN_none {f : Nat → En} : ∀ {n : Nat}, (∀ i, i < n → ((f i).2 == 0) = false) → fltN f n = n
  | 0, _ => rfl
  | n + 1, h => by
    have := fltN_none (f := f) (n := n) (fun i hi => h i (by omega))
    show (if ((f n).2 == 0) = true then fltN f n else fltN f n + 1) = _
    rw [h n (by omega), this]; rfl
theorem fltF_none {f : Nat → En} : ∀ {n : Nat}, (∀ i, i < n → ((f i).2 == 0) = false) → ∀ i, i < n → fltF f n i = f i
  | 0, _, i, hi => absurd hi (Nat.not_lt_zero _)
  | n + 1, h, i, hi => by
    have h1 := fltN_none (f := f) (n := n) (fun i hi => h i (by omega))
    show (if ((f n).2 == 0) = true then fltF f n else putE (fltF f n) (fltN f n) (f n)) i = _
    rw [h n (by omega), h1]
    show putE (fltF f n) n (f n) i = f i
    by_cases e : i = n
    · subst e; exact putE_at _ _ _
    · rw [putE_lt (by omega)]
      exact fltF_none (fun i hi => h i (by omega)) i (by omega)
theorem enL_set (h : Nat → En) (x : En) {n i : Nat} (hi : i < n) : ((enL h n).set (i * 2) (.string x.1)).set (i * 2 + 1) (.int .i64 x.2) = enL (putE h i x) n := by
  apply List.ext_getElem?
  intro t
  have ht : t = (t / 2) * 2 + t % 2 := by omega
  have hm : t % 2 = 0 ∨ t % 2 = 1 := by omega
  by_cases hb : t < n * 2
  · have hd : t / 2 < n := by omega
    have e1 := enL_get (putE h i x) (n := n) (i := t / 2) (j := t % 2) hd (by omega)
    have e2 := enL_get h (n := n) (i := t / 2) (j := t % 2) hd (by omega)
    rw [← ht] at e1 e2
    rw [e1, List.getElem?_set, List.getElem?_set, e2]
    simp only [List.length_set, enL_len]
    by_cases q : t / 2 = i
    · subst q
      rw [putE_at]
      rcases hm with hm | hm
      · rw [if_neg (by omega), if_pos (by omega), if_pos (by omega), hm]; rfl
      · rw [if_pos (by omega), if_pos (by omega), hm]; rfl
    · rw [if_neg (by omega), if_neg (by omega)]
      unfold putE
      rw [if_neg q]
  · rw [List.getElem?_eq_none (by simp [enL_len]; omega), List.getElem?_eq_none (by rw [enL_len]; omega)]
theorem ofc_b (x : En) (w : World) (r : Bool) (hx : (x.2 == 0) = r) : Calls Tryd.prog 63 #[.agg (enC x).toArray] w fun e w' => e = .returned (.bool r) ∧ Below w.heap.size w w' := by
  have B1 := below_new w (.cells #[.string x.1, .int .i64 x.2] 26)
  unfold enC
  generalize x.2 = v at *
  go_enter Tryd.func63, Tryd.ntmps63
  go_wp2
  go_ret
  exact ⟨by rw [← hx]; rfl, B1⟩
set_option maxRecDepth 100000 in
set_option maxHeartbeats 4000000 in
theorem idx_some (A : Option Addr) (n c k : Nat) (f : Nat → En) (w : World) (h : EnM w A n f) (hn : n ≤ 100000) (hk : k < n) (hz : ∀ i, i < k → ((f i).2 == 0) = false) (h0 : ((f k).2 == 0) = true) :
    Calls Tryd.prog 80 #[.slice A n c, .func (.func 63) #[] #[]] w fun e w' => e = .returned (.int .i64 k) ∧ Below w.heap.size w w' := by
  have HE := Lib.hid h
  have HN := Lib.hid hn
  have HZ := Lib.hid (And.intro hk (And.intro hz h0))
  clear h hn hz hk h0
  go_enter Tryd.func80, Tryd.ntmps80
  go_wp2
  go_loopw [8] (fun j X => ∃ i : Nat, i ≤ k ∧ j = .int .i64 i ∧ Below w.heap.size w X) (fun j _ => n - (intOf j).toNat)
  case atStart => exact ⟨0, Nat.zero_le _, rfl, Below.refl _ _⟩
  case round =>
    obtain ⟨i, hi, rfl, hbX⟩ := hrel
    have hlt : i < n := by have := HZ.out.1; omega
    have hil : (i : Int) < (n : Int) := by omega
    have hwi : wrap64 ((i : Int) + 1) = (i : Int) + 1 := IntWalk.wrap64_in _ (by have := HN.out; omega)
    obtain ⟨b, o, rfl, hc⟩ := HE.out (by omega)
    obtain ⟨x0, x1⟩ := hc i hlt
    replace x0 := cell_later hbX x0
    replace x1 := cell_later hbX x1
    have HL := Lib.hid hlt
    by_cases hik : i < k
    · have cC := fun w => ofc_b (f i) w false (HZ.out.2.1 i hik)
      have HK := Lib.hid hik
      unfold enC at cC
      clear hc hi hlt hik
      generalize (f i).1 = N at *
      generalize (f i).2 = v at *
      have HB := Lib.hid hbX
      clear hbX
      go_wp2_with (fail)
      with_reducible refine (cC _).mono ?_
      rintro e w6 ⟨rfl, hb6⟩
      have hb7 := Lib.hid (below_step HB.out hb6 HB.out.size)
      clear hb6 cC x0 x1
      go_wp2
      exact ⟨⟨i + 1, Nat.succ_le_of_lt HK.out, by go_num, hb7.out⟩, by first | exact meas_step HL.out | (rw [hwi]; exact meas_step HL.out)⟩
    · obtain rfl : i = k := by omega
      have cC := fun w => ofc_b (f i) w true HZ.out.2.2
      unfold enC at cC
      clear hc hi hlt hik
      generalize (f i).1 = N at *
      generalize (f i).2 = v at *
      have HB := Lib.hid hbX
      clear hbX
      go_wp2_with (fail)
      with_reducible refine (cC _).mono ?_
      rintro e w6 ⟨rfl, hb6⟩
      have hb7 := Lib.hid (below_step HB.out hb6 HB.out.size)
      clear hb6 cC x0 x1
      go_wp2
      go_ret
      exact ⟨rfl, hb7.out⟩
theorem run_clear2 {P : Program} (w : World) (t e ty : TypeId) (ht : P.underlying t = some (.slice e)) (hv : ∀ w, (zeroValue e).run P w = .ok (.agg #[.string ⟨#[]⟩, .int .i64 0]) w) (b o n c : Nat) (hn : 0 < n)
    (hc : ∀ j, j < n * 2 → (w.cell? ⟨b, o + j, none⟩).isSome = true) (hf : ∀ j, j < n * 2 → w.frozen? ⟨b, o + j, none⟩ = false) :
    ∃ zs, (Builtin.clear_ #[t] ty #[.slice (some ⟨b, o, none⟩) n c]).run P w = .ok (.tuple #[]) (w.setCells b o zs) := by
  have hz : (Value.agg #[.string ⟨#[]⟩, .int .i64 0]).cells = #[.string ⟨#[]⟩, .int .i64 0] := rfl
  have hlen : (Builtin.zeroCells #[Value.string ⟨#[]⟩, .int .i64 0] n).toList.length = n * 2 := by simp [Builtin.zeroCells]
  have hst := run_storeCells_cells (P := P) b o (Builtin.zeroCells #[Value.string ⟨#[]⟩, .int .i64 0] n).toList 0 w (by rw [hlen]; simpa using hc) (by rw [hlen]; simpa using hf) (by
    intro v hv'
    obtain ⟨i, hi, rfl⟩ := List.getElem_of_mem hv'
    have hi2 : i % 2 = 0 ∨ i % 2 = 1 := by omega
    simp only [Builtin.zeroCells, Array.getElem_toList, Array.getElem_ofFn]
    rcases hi2 with hi2 | hi2 <;> simp [hi2] <;> rfl)
  simp only [Nat.add_zero] at hst
  obtain ⟨m, rfl⟩ : ∃ m, n = m + 1 := ⟨n - 1, by omega⟩
  exact ⟨_, by simp [Builtin.clear_, run_underlying ht, hv, hz, hst]; rfl⟩
theorem own_setCells2 {B g cap n size : Nat} {e : TypeId} : ∀ (vs : List Value) (o : Nat) (w : World) (xs : List Value), w.ownsRow B e size (.slice (some ⟨g, 0, none⟩) n cap) n xs →
    ∃ xs', (w.setCells g o vs).ownsRow B e size (.slice (some ⟨g, 0, none⟩) n cap) n xs' ∧ xs'.take o = xs.take o
  | [], o, w, xs, h => ⟨xs, h, rfl⟩
  | v :: r, o, w, xs, h => by
    obtain ⟨xs', h1, h2⟩ := own_setCells2 r (o + 1) _ _ (h.stored o v).1
    refine ⟨xs', h1, ?_⟩
    have : (xs'.take (o + 1)).take o = ((xs.set o v).take (o + 1)).take o := by rw [h2]
    rw [List.take_take, List.take_take] at this
    rw [show min o (o + 1) = o by omega] at this
    rw [this, List.take_set_of_le (by omega)]
theorem below_setCells2 {B g : Nat} (hg : B ≤ g) {a : World} : ∀ (vs : List Value) (o : Nat) (w : World), Below B a w → Below B a (w.setCells g o vs)
  | [], _, _, h => h
  | v :: r, o, w, h => below_setCells2 hg r (o + 1) _ (h.setCell hg v)
/-- the first of a row's entries are a row -/
theorem own_short {w : World} {B g n cap k size : Nat} {e : TypeId} {xs : List Value} (h : w.ownsRow B e size (.slice (some ⟨g, 0, none⟩) n cap) n xs) (hk : k ≤ n) : w.ownsRow B e size (.slice (some ⟨g, 0, none⟩) k cap) k (xs.take (k * size)) := by
  have hkn : k * size ≤ n * size := Nat.mul_le_mul_right _ hk
  rcases h.2 with ⟨h', _⟩ | ⟨g', cap', cur, h', hb, hg, hnc, hcm, hcs, htake⟩
  · simp at h'
  · simp only [Value.slice.injEq, Option.some.injEq, Addr.mk.injEq, and_true, true_and] at h'
    obtain ⟨rfl, rfl⟩ := h'
    refine ⟨by rw [List.length_take, h.1]; omega, .inr ⟨g, cap, cur, rfl, hb, hg, by omega, hcm, hcs, ?_⟩⟩
    rw [← htake, List.take_take, Nat.min_eq_left hkn]
theorem enL_take (f : Nat → En) {n k : Nat} (hk : k ≤ n) : (enL f n).take (k * 2) = enL f k := by
  induction n with
  | zero => obtain rfl : k = 0 := by omega
            rfl
  | succ n ih =>
    by_cases h : k = n + 1
    · subst h; rw [List.take_of_length_le (by rw [enL_len]; exact Nat.le_refl _)]
    · show (enL f n ++ enC (f n)).take (k * 2) = _
      rw [List.take_append_of_le_length (by rw [enL_len]; omega)]
      exact ih (by omega)
theorem zeroEn (w : World) : (zeroValue 26).run Tryd.prog w = .ok (.agg #[.string ⟨#[]⟩, .int .i64 0]) w := by kernel_rfl
set_option maxRecDepth 100000 in
set_option maxHeartbeats 4000000 in
theorem del_any (B g n cap k0 : Nat) (f : Nat → En) (w : World) (h : w.ownsRow B 26 2 (.slice (some ⟨g, 0, none⟩) n cap) n (enL f n)) (hn : n ≤ 100000) (hB : B ≤ w.heap.size) (hk : k0 < n) (hz : ∀ i, i < k0 → ((f i).2 == 0) = false) (h0 : ((f k0).2 == 0) = true) :
    Calls Tryd.prog 62 #[.slice (some ⟨g, 0, none⟩) n cap, .func (.func 63) #[] #[]] w fun e w' => e = .returned (.slice (some ⟨g, 0, none⟩) (fltN f n) cap) ∧ w'.ownsRow B 26 2 (.slice (some ⟨g, 0, none⟩) (fltN f n) cap) (fltN f n) (enL (fltF f n) (fltN f n)) ∧ Below B w w' := by
  have cI := idx_some (some ⟨g, 0, none⟩) n cap k0 f w (en_own h) hn hk hz h0
  have hN1 : fltN f (k0 + 1) = k0 := by
    show (if ((f k0).2 == 0) = true then fltN f k0 else fltN f k0 + 1) = k0
    rw [h0, if_pos rfl]
    exact fltN_none hz
  have hF1 : ∀ a, a < k0 → fltF f (k0 + 1) a = f a := fun a ha => by
    show (if ((f k0).2 == 0) = true then fltF f k0 else putE (fltF f k0) (fltN f k0) (f k0)) a = _
    rw [h0, if_pos rfl]
    exact fltF_none hz a ha
  have HN := Lib.hid hn
  have HB := Lib.hid hB
  have hwk : wrap64 ((k0 : Int) + 1) = (k0 : Int) + 1 := IntWalk.wrap64_in _ (by omega)
  have HK := Lib.hid hk
  clear hn hk hz h0 hB
  go_enter Tryd.func62, Tryd.ntmps62
  go_wp2_with (fail)
  with_reducible refine cI.mono ?_
  rintro e w6 ⟨rfl, hb6⟩
  have hown := own_below h hb6
  have hb0 := hb6.mono HB.out
  have hne : ((k0 : Int) == -1) = false := by rw [beq_eq_false_iff_ne]; omega
  have HW := Lib.hid hwk
  clear cI h hb6 hwk
  go_wp2
  have hst : enL f n = enL f n := rfl
  go_loopw [5, 6] (fun a b X => ∃ (i j : Nat) (h : Nat → En), i < j ∧ j ≤ n ∧ a = .int .i64 i ∧ b = .int .i64 j ∧ X.ownsRow B 26 2 (.slice (some ⟨g, 0, none⟩) n cap) n (enL h n) ∧ fltN f j = i ∧ (∀ q, q < i → h q = fltF f j q) ∧ (∀ q, j ≤ q → q < n → h q = f q) ∧ Below B w X) (fun _ b _ => n - (intOf b).toNat)
  case atStart =>
    refine ⟨k0, k0 + 1, f, Nat.lt_succ_self _, Nat.succ_le_of_lt HK.out, rfl, by rw [HW.out]; go_num, hown, hN1, fun q hq => (hF1 q hq).symm, fun _ _ _ => rfl, hb0⟩
  case round =>
    clear hown hb0 hN1 hF1 hne hst
    obtain ⟨i, j, h, hij, hj, rfl, rfl, hown, hcn, hfl, hre, hbX⟩ := hrel
    by_cases hlt : j < n
    · have hil : (j : Int) < (n : Int) := by omega
      have hwi : wrap64 ((j : Int) + 1) = (j : Int) + 1 := IntWalk.wrap64_in _ (by have := HN.out; omega)
      have hwi2 : wrap64 ((i : Int) + 1) = (i : Int) + 1 := IntWalk.wrap64_in _ (by have := HN.out; omega)
      have x0 : wr.cell? ⟨g, j * 2, none⟩ = some (.string (h j).1) := own_cells hown ((enL_get h hlt (j := 0) (by omega)).trans rfl)
      have x1 := own_cells hown ((enL_get h hlt (j := 1) (by omega)).trans rfl)
      have y0 : wr.cell? ⟨g, i * 2, none⟩ = some (.string (h i).1) := own_cells hown ((enL_get h (n := n) (i := i) (j := 0) (by omega) (by omega)).trans rfl)
      have y1 := own_cells hown ((enL_get h (n := n) (i := i) (j := 1) (by omega) (by omega)).trans rfl)
      rw [hre j (Nat.le_refl _) hlt] at x0 x1
      have HL := Lib.hid hlt
      have hin : i < n := by omega
      have HBG := Lib.hid (hown.lt g rfl).1
      have HJ := Lib.hid (And.intro hij hj)
      have HF := Lib.hid (And.intro hcn (And.intro hfl hre))
      have HX := Lib.hid hbX
      have HV : Hid ((f j).2 = (f j).2) := Lib.hid rfl
      have KX := bx_new wr [.string (f j).1, .int .i64 (f j).2] 26
      have NX := below_new wr (.cells #[.string (f j).1, .int .i64 (f j).2] 26)
      have HBX : Hid (Below B w (wr.alloc (.cells #[.string (f j).1, .int .i64 (f j).2] 26))) := Lib.hid (hbX.alloc (Nat.le_trans HB.out hbX.size) _)
      have own1 := own_below hown NX
      have kx_0 := KX.cell (i := 0) rfl
      have kx_1 := KX.cell (i := 1) rfl
      cases hq : ((f j).2 == 0)
      · have cC := fun w => ofc_b (f j) w false hq
        unfold enC at cC
        have HQ2 := Lib.hid hq
        have eN : Hid (fltN f (j + 1) = i + 1) := Lib.hid (by
          show (if ((f j).2 == 0) = true then fltN f j else fltN f j + 1) = _
          rw [hq, hcn]; rfl)
        have eF : Hid (fltF f (j + 1) = putE (fltF f j) i (f j)) := Lib.hid (by
          show (if ((f j).2 == 0) = true then fltF f j else putE (fltF f j) (fltN f j) (f j)) = _
          rw [hq, hcn]; rfl)
        have eS := Lib.hid (enL_set h (f j) hin)
        clear hq hcn hfl hre hij hj hlt hown hbX
        generalize (f j).1 = N at *
        generalize (f j).2 = v at *
        go_wp2_with (fail)
        with_reducible refine (cC _).mono ?_
        rintro e w7 ⟨rfl, hb7⟩
        have own7 := own_below own1 hb7
        have z0 := cell_later (NX.trans (hb7.mono NX.size)) y0
        have z1 := cell_later (NX.trans (hb7.mono NX.size)) y1
        have f0 := own7.frozenAt (i * 2)
        have f1 := own7.frozenAt (i * 2 + 1)
        have S1 := own7.stored (i * 2) (.string N)
        have S2 := S1.1.stored (i * 2 + 1) (.int .i64 v)
        have K7 := KX.below hb7
        have k7_0 := K7.cell (i := 0) rfl
        have k7_1 := K7.cell (i := 1) rfl
        have HB7 := Lib.hid (((HBX.out.trans (hb7.mono (Nat.le_trans HB.out (Nat.le_trans HX.out.size NX.size)))).setCell (p := ⟨g, i * 2, none⟩) HBG.out (.string N)).setCell (p := ⟨g, i * 2 + 1, none⟩) HBG.out (.int .i64 v))
        have HO7 := Lib.hid S2.1
        clear S1 S2 own7 own1 K7 KX kx_0 kx_1 cC x0 x1 y0 y1 NX hb7
        go_wp2
        obtain ⟨q1, q2, q3⟩ := HF.out
        refine ⟨⟨i + 1, j + 1, putE h i (f j), by have := HJ.out; omega, Nat.succ_le_of_lt HL.out, by go_num, by go_num, ?_, eN.out, fun q hq => ?_, fun q hq hqn => ?_, HB7.out⟩, by first | exact meas_step HL.out | (rw [hwi]; exact meas_step HL.out)⟩
        · have := HO7.out
          rwa [eS.out] at this
        · rw [eF.out]
          unfold putE
          by_cases e : q = i
          · rw [if_pos e, if_pos e]
          · rw [if_neg e, if_neg e]; exact q2 q (by omega)
        · unfold putE
          rw [if_neg (by have := HJ.out; omega)]
          exact q3 q (by omega) hqn
      · have cC := fun w => ofc_b (f j) w true hq
        unfold enC at cC
        have eN : Hid (fltN f (j + 1) = i) := Lib.hid (by
          show (if ((f j).2 == 0) = true then fltN f j else fltN f j + 1) = _
          rw [hq, hcn]; rfl)
        have eF : Hid (fltF f (j + 1) = fltF f j) := Lib.hid (by
          show (if ((f j).2 == 0) = true then fltF f j else putE (fltF f j) (fltN f j) (f j)) = _
          rw [hq]; rfl)
        clear hq hcn hfl hre hij hj hlt
        have HO := Lib.hid own1
        clear hown hbX y0 y1 own1
        generalize (f j).1 = N at *
        generalize (f j).2 = v at *
        go_wp2_with (fail)
        with_reducible refine (cC _).mono ?_
        rintro e w7 ⟨rfl, hb7⟩
        have HB7 := Lib.hid (HBX.out.trans (hb7.mono (Nat.le_trans HB.out (Nat.le_trans HX.out.size NX.size))))
        have HO7 := Lib.hid (own_below HO.out hb7)
        clear KX kx_0 kx_1 cC x0 x1 NX hb7
        go_wp2
        obtain ⟨q1, q2, q3⟩ := HF.out
        refine ⟨⟨i, j + 1, h, by have := HJ.out; omega, Nat.succ_le_of_lt HL.out, by go_num, by go_num, HO7.out, eN.out, fun q hq => by rw [eF.out]; exact q2 q hq, fun q hq hqn => q3 q (by omega) hqn, HB7.out⟩, by first | exact meas_step HL.out | (rw [hwi]; exact meas_step HL.out)⟩
    · obtain rfl : j = n := by omega
      have hnl : ¬ (j : Int) < (j : Int) := by omega
      have HO := Lib.hid hown
      have HBG := Lib.hid (hown.lt g rfl).1
      have HX := Lib.hid hbX
      have hin : i < j := hij
      have hicap : i < cap := by
        rcases hown.2 with ⟨h', _⟩ | ⟨g', cap', cur, h', hb, hg, hnc, _⟩
        · simp at h'
        · simp only [Value.slice.injEq, Option.some.injEq, Addr.mk.injEq, and_true, true_and] at h'
          obtain ⟨rfl, rfl⟩ := h'
          omega
      have HF := Lib.hid (And.intro hcn (And.intro hfl hre))
      have hfits : ∀ q, q < (j - i) * 2 → (wr.cell? ⟨g, i * 2 + q, none⟩).isSome = true := fun q hq => by
        have hlt2 : i * 2 + q < j * 2 := by omega
        rw [hown.cellAt _ hlt2, List.getElem?_eq_getElem (by rw [enL_len]; exact hlt2)]
        rfl
      obtain ⟨zs, hcl⟩ := run_clear2 (P := Tryd.prog) wr 22 26 0 Tryd.underlying22 zeroEn g (i * 2) (j - i) (cap - i) (by omega) hfits (fun q _ => hown.frozenAt _)
      clear hown hbX hcn hfl hre hj hlt hij hfits
      go_wp2
      go_ret
      obtain ⟨q1, q2, q3⟩ := HF.out
      obtain ⟨xs', o1, o2⟩ := own_setCells2 zs (i * 2) wr _ HO.out
      have o3 := own_short o1 (Nat.le_of_lt hin)
      rw [o2, enL_take h (Nat.le_of_lt hin), enL_ext q2] at o3
      rw [q1]
      exact ⟨rfl, o3, below_setCells2 HBG.out _ _ _ HX.out⟩
theorem zero_or (p : Nat → Bool) : ∀ n, (∀ i, i < n → p i = false) ∨ ∃ k, k < n ∧ (∀ i, i < k → p i = false) ∧ p k = true
  | 0 => .inl fun i hi => absurd hi (Nat.not_lt_zero _)
  | n + 1 => by
    rcases zero_or p n with h | ⟨k, hk, h1, h2⟩
    · cases hp : p n
      · exact .inl fun i hi => by
          by_cases e : i = n
          · subst e; exact hp
          · exact h i (by omega)
      · exact .inr ⟨n, Nat.lt_succ_self _, h, hp⟩
    · exact .inr ⟨k, by omega, h1, h2⟩
/-- those of nothing go, whatever the entries are -/
theorem del_both (B g n cap : Nat) (f : Nat → En) (w : World) (h : w.ownsRow B 26 2 (.slice (some ⟨g, 0, none⟩) n cap) n (enL f n)) (hn : n ≤ 100000) (hB : B ≤ w.heap.size) :
    Calls Tryd.prog 62 #[.slice (some ⟨g, 0, none⟩) n cap, .func (.func 63) #[] #[]] w fun e w' => e = .returned (.slice (some ⟨g, 0, none⟩) (fltN f n) cap) ∧ w'.ownsRow B 26 2 (.slice (some ⟨g, 0, none⟩) (fltN f n) cap) (fltN f n) (enL (fltF f n) (fltN f n)) ∧ Below B w w' := by
  rcases zero_or (fun i => (f i).2 == 0) n with hz | ⟨k, hk, hz, h0⟩
  · have c := del_none (some ⟨g, 0, none⟩) n cap f w (en_own h) hn hz
    rw [fltN_none hz]
    refine c.mono ?_
    rintro e w' ⟨rfl, hb⟩
    refine ⟨rfl, ?_, hb.mono hB⟩
    rw [enL_ext (fltF_none hz)]
    exact own_below h hb
  · exact del_any B g n cap k f w h hn hB hk hz h0
end Go.Proofs.YtgadlfdioakodabDoor
