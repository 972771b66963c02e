/- What code.Parse answers of any text. -/
import Derived.Test.YtoppipjbdakmeaaDoorCodD
namespace Go.Proofs.YtoppipjbdakmeaaDoor
open Go.RowKit
set_option linter.unusedVariables false
set_option linter.unusedSimpArgs false

def PcP (l : List UInt8) (w : World) (e : Ending) (w' : World) : Prop := e = .returned (.tuple #[.agg #[.int .i64 (parC l).s, .int .i64 (parC l).k, .int .i64 (parC l).a, .int .i64 (parC l).f, .bool (parC l).x], .int .i64 (parC l).e]) ∧ Below w.heap.size w w'
theorem sch_v (s : ByteArray) (hs : s.size ≤ 4611686018427387904) : ∃ T : ByteArray, T.data.toList = (schV s.data.toList).2 ∧ T.size ≤ s.size ∧ ∀ w : World, Calls Tryd.prog 46 #[.string s] w fun e w' => e = .returned (.tuple #[.int .i64 (schV s.data.toList).1, .string T]) ∧ w = w' := by
  refine ⟨⟨(schV s.data.toList).2.toArray⟩, rfl, ?_, fun w => scheme_any s w hs⟩
  show (schV s.data.toList).2.toArray.size ≤ s.size
  rw [List.size_toArray, ← data_len s]
  unfold schV
  cases s.data.toList with
  | nil => exact Nat.le_refl _
  | cons c r => simp only; split <;> simp
theorem schV_bd (l : List UInt8) : 0 ≤ (schV l).1 ∧ (schV l).1 ≤ 7 := by
  unfold schV
  cases l with
  | nil => simp
  | cons c r => simp only; split <;> simp only <;> omega
theorem kndV_bd {l : List UInt8} {k n : Int} {b : Bool} (h : kndV l = (k, n, b)) : 0 ≤ n ∧ n ≤ 999999 ∧ 0 ≤ k ∧ k ≤ 4 := by
  have hn : ∀ (k : Int) (l : List UInt8), 0 ≤ k → k ≤ 4 → 0 ≤ (numV k l).2.1 ∧ (numV k l).2.1 ≤ 999999 ∧ 0 ≤ (numV k l).1 ∧ (numV k l).1 ≤ 4 := by
    intro k l h0 h4
    unfold numV
    split
    · rename_i hb
      obtain ⟨_, h6, _, hd⟩ := numB_yes hb
      have := num_six hd h6
      exact ⟨this.1, this.2, h0, h4⟩
    · simp
  have hk : 0 ≤ (kndV l).2.1 ∧ (kndV l).2.1 ≤ 999999 ∧ 0 ≤ (kndV l).1 ∧ (kndV l).1 ≤ 4 := by
    unfold kndV
    split
    · exact hn _ _ (by omega) (by omega)
    · split
      · exact hn _ _ (by omega) (by omega)
      · split
        · exact hn _ _ (by omega) (by omega)
        · simp
  rw [h] at hk
  exact hk
theorem cutX_of {l : List UInt8} {b : Bool} (h : sufB 88 l = b) : (if b = true then l.dropLast else l) = cutX l := by
  unfold cutX; rw [h]
theorem parC_no {l : List UInt8} {k n : Int} (h : kndV (cutX (schV l).2) = (k, n, false)) : parC l = noC 5 := by
  unfold parC; rw [h, if_neg (by simp)]
theorem parC_yes {l : List UInt8} {k n : Int} {x : Bool} (h : kndV (cutX (schV l).2) = (k, n, true)) (hx : sufB 88 (schV l).2 = x) : parC l = mkC (schV l).1 k n x := by
  unfold parC; rw [h, if_pos rfl, hx]
theorem pcP_mk {l : List UInt8} {w w' : World} {s k a f e : Int} {x : Bool} (h : parC l = ⟨s, k, a, f, x, e⟩) (hb : Below w.heap.size w w') : PcP l w (.returned (.tuple #[.agg #[.int .i64 s, .int .i64 k, .int .i64 a, .int .i64 f, .bool x], .int .i64 e])) w' := by
  refine ⟨?_, hb⟩
  rw [h]
set_option maxHeartbeats 1000000 in
theorem parse_no (s : ByteArray) (w : World) (hs : s.size ≤ 4611686018427387904) (k n : Int) (h : kndV (cutX (schV s.data.toList).2) = (k, n, false)) :
    Calls Tryd.prog 17 #[.string s] w (PcP s.data.toList w) := by
  obtain ⟨T, hT, hTs, c1⟩ := sch_v s hs
  obtain ⟨m, hm⟩ : ∃ m, (schV s.data.toList).1 = m := ⟨_, rfl⟩
  obtain ⟨x, hx⟩ : ∃ x, sufB 88 (schV s.data.toList).2 = x := ⟨_, rfl⟩
  obtain ⟨U, hU, c2⟩ := cutS_any 88 T w (by omega) x (by rw [hT]; exact hx)
  have c3 := kind_v U _ (by rw [hU.1, hT, cutX_of hx]) (by have := hU.2; omega) k n false h
  have HE := Lib.hid (parC_no h)
  rw [hm] at c1
  clear h hm hx hU hT hTs
  go_enter Tryd.func17, Tryd.ntmps17
  go_wp2_with (fail)
  refine (c1 _).mono ?_
  rintro e w' ⟨rfl, rfl⟩
  go_wp2_with (fail)
  refine (c2 _).mono ?_
  rintro e w' ⟨rfl, rfl⟩
  go_wp2_with (fail)
  refine (c3 _).mono ?_
  rintro e w' ⟨rfl, rfl⟩
  go_wp2
  refine bodyPost_ret (v := .tuple #[.agg #[.int .i64 0, .int .i64 0, .int .i64 0, .int .i64 0, .bool false], .int .i64 5]) (by simp [results, Tryd.results17, go_sem]) rfl (pcP_mk HE.out ?_)
  exact ((Below.refl _ _).alloc (Nat.le_refl _) _).alloc (by simp) _
def Fr5 (w : World) (b : Nat) : Prop := w.frozen? ⟨b, 0, none⟩ = false ∧ w.frozen? ⟨b, 1, none⟩ = false ∧ w.frozen? ⟨b, 2, none⟩ = false ∧ w.frozen? ⟨b, 3, none⟩ = false ∧ w.frozen? ⟨b, 4, none⟩ = false
theorem Fr5.below {B : Nat} {w w' : World} {b : Nat} (h : Fr5 w b) (hb : Below B w w') (hB : b < B) : Fr5 w' b :=
  ⟨(hb.frozen (p := ⟨b, 0, none⟩) hB).trans h.1, (hb.frozen (p := ⟨b, 1, none⟩) hB).trans h.2.1, (hb.frozen (p := ⟨b, 2, none⟩) hB).trans h.2.2.1, (hb.frozen (p := ⟨b, 3, none⟩) hB).trans h.2.2.2.1, (hb.frozen (p := ⟨b, 4, none⟩) hB).trans h.2.2.2.2⟩
theorem fr5_new (w : World) (c : Array Value) (t : TypeId) : Fr5 (w.alloc (.cells c t)) w.heap.size := ⟨World.frozen?_alloc_new _ _ _ _, World.frozen?_alloc_new _ _ _ _, World.frozen?_alloc_new _ _ _ _, World.frozen?_alloc_new _ _ _ _, World.frozen?_alloc_new _ _ _ _⟩
theorem two_cd (w : World) (s k a f s' k' a' f' : Int) (x x' : Bool) (t : TypeId) : ∀ W, W = (w.alloc (.cells #[.int .i64 s, .int .i64 k, .int .i64 a, .int .i64 f, .bool x] t)).alloc (.cells #[.int .i64 s', .int .i64 k', .int .i64 a', .int .i64 f', .bool x'] t) →
    Cd W w.heap.size s k a f x ∧ Fr5 W w.heap.size ∧ Cd W (w.heap.size + 1) s' k' a' f' x' ∧ w.heap.size + 1 < W.heap.size ∧ Below w.heap.size w W := by
  rintro W rfl
  have h1 := cd_new w s k a f x t
  have h2 := fr5_new w #[.int .i64 s, .int .i64 k, .int .i64 a, .int .i64 f, .bool x] t
  have h3 := cd_new (w.alloc (.cells #[.int .i64 s, .int .i64 k, .int .i64 a, .int .i64 f, .bool x] t)) s' k' a' f' x' t
  have B1 : Below w.heap.size w (w.alloc (.cells #[.int .i64 s, .int .i64 k, .int .i64 a, .int .i64 f, .bool x] t)) := (Below.refl _ _).alloc (Nat.le_refl _) _
  have hz : (w.alloc (.cells #[.int .i64 s, .int .i64 k, .int .i64 a, .int .i64 f, .bool x] t)).heap.size = w.heap.size + 1 := by simp
  rw [hz] at h3
  generalize w.alloc (.cells #[.int .i64 s, .int .i64 k, .int .i64 a, .int .i64 f, .bool x] t) = v at *
  have B2 : Below v.heap.size v (v.alloc (.cells #[.int .i64 s', .int .i64 k', .int .i64 a', .int .i64 f', .bool x'] t)) := (Below.refl _ _).alloc (Nat.le_refl _) _
  exact ⟨h1.below B2 (by omega), h2.below B2 (by omega), h3, by simp; omega, below_step B1 B2 B1.size⟩
theorem mkC_yes {s k n : Int} {x : Bool} {a f : Int} (ha : a = if k = 3 then 0 else n * 1000) (hf : f = if k = 3 then n else 0) (h : chkC s k a f = 0) : mkC s k n x = ⟨s, k, a, f, x, 0⟩ := by
  subst ha hf
  unfold mkC; rw [if_pos h]
theorem mkC_no {s k n : Int} {x : Bool} {a f e : Int} (ha : a = if k = 3 then 0 else n * 1000) (hf : f = if k = 3 then n else 0) (h : chkC s k a f = e) (he : e ≠ 0) : mkC s k n x = noC e := by
  subst ha hf
  unfold mkC; rw [h, if_neg he]
set_option maxHeartbeats 1000000 in
theorem parse_flat_ok (s : ByteArray) (w : World) (hs : s.size ≤ 4611686018427387904) (k n : Int) (h : kndV (cutX (schV s.data.toList).2) = (k, n, true)) (hk : k = 3) (v : Int) (hv : chkC (schV s.data.toList).1 k 0 n = v) (hz : v = 0) :
    Calls Tryd.prog 17 #[.string s] w (PcP s.data.toList w) := by
  obtain ⟨T, hT, hTs, c1⟩ := sch_v s hs
  obtain ⟨m, hm⟩ : ∃ m, (schV s.data.toList).1 = m := ⟨_, rfl⟩
  obtain ⟨x, hx⟩ : ∃ x, sufB 88 (schV s.data.toList).2 = x := ⟨_, rfl⟩
  obtain ⟨U, hU, c2⟩ := cutS_any 88 T w (by omega) x (by rw [hT]; exact hx)
  have c3 := kind_v U _ (by rw [hU.1, hT, cutX_of hx]) (by have := hU.2; omega) k n true h
  obtain ⟨n0, n9, _, _⟩ := kndV_bd h
  have hE := parC_yes h hx
  rw [hm] at c1 hv hE
  have hE := hE.trans (mkC_yes (by rw [if_pos hk]) (by rw [if_pos hk]) (hv.trans hz))
  have HE := Lib.hid hE
  have c4 := fun w => check_c m k 0 n x v hv w (by omega) (by omega)
  have t1 : (k == 3) = true := by simpa using hk
  have t2 : (v != 0) = false := by simpa using hz
  have n1 : -9223372036854775808 ≤ n * 1000 := by omega
  have n2 : n * 1000 ≤ 9223372036854775807 := by omega
  have D := two_cd w 0 0 0 0 m k 0 n false x 47
  clear h hm hx hU hT hTs hE hv hk hz
  go_enter Tryd.func17, Tryd.ntmps17
  go_wp2_with (fail)
  refine (c1 _).mono ?_
  rintro e w' ⟨rfl, rfl⟩
  go_wp2_with (fail)
  refine (c2 _).mono ?_
  rintro e w' ⟨rfl, rfl⟩
  go_wp2_with (fail)
  refine (c3 _).mono ?_
  rintro e w' ⟨rfl, rfl⟩
  go_wp2_with (fail)
  refine (c4 _).mono ?_
  rintro e w3 ⟨rfl, hb⟩
  obtain ⟨dR, fR, dC, z2, B2⟩ := D _ rfl
  have dR3 := dR.below hb (by omega)
  have fR3 := fR.below hb (by omega)
  have dC3 := dC.below hb z2
  have B3 := below_step B2 hb B2.size
  clear hb dR fR dC B2
  obtain ⟨r0, r1, r2, r3, r4⟩ := dR3
  obtain ⟨f0, f1, f2, f3, f4⟩ := fR3
  obtain ⟨d0, d1, d2, d3, d4⟩ := dC3
  go_wp2
  refine bodyPost_ret (v := .tuple #[.agg #[.int .i64 m, .int .i64 k, .int .i64 0, .int .i64 n, .bool x], .int .i64 0]) (by simp [results, Tryd.results17, go_sem, r0, r1, r2, r3, r4]) rfl (pcP_mk HE.out ?_)
  exact ((((B3.setCell (Nat.le_refl _) _).setCell (Nat.le_refl _) _).setCell (Nat.le_refl _) _).setCell (Nat.le_refl _) _).setCell (Nat.le_refl _) _
set_option maxHeartbeats 1000000 in
theorem parse_flat_bad (s : ByteArray) (w : World) (hs : s.size ≤ 4611686018427387904) (k n : Int) (h : kndV (cutX (schV s.data.toList).2) = (k, n, true)) (hk : k = 3) (v : Int) (hv : chkC (schV s.data.toList).1 k 0 n = v) (hz : v ≠ 0) :
    Calls Tryd.prog 17 #[.string s] w (PcP s.data.toList w) := by
  obtain ⟨T, hT, hTs, c1⟩ := sch_v s hs
  obtain ⟨m, hm⟩ : ∃ m, (schV s.data.toList).1 = m := ⟨_, rfl⟩
  obtain ⟨x, hx⟩ : ∃ x, sufB 88 (schV s.data.toList).2 = x := ⟨_, rfl⟩
  obtain ⟨U, hU, c2⟩ := cutS_any 88 T w (by omega) x (by rw [hT]; exact hx)
  have c3 := kind_v U _ (by rw [hU.1, hT, cutX_of hx]) (by have := hU.2; omega) k n true h
  obtain ⟨n0, n9, _, _⟩ := kndV_bd h
  have hE := parC_yes h hx
  rw [hm] at c1 hv hE
  have hE := hE.trans (mkC_no (by rw [if_pos hk]) (by rw [if_pos hk]) hv hz)
  have HE := Lib.hid hE
  have c4 := fun w => check_c m k 0 n x v hv w (by omega) (by omega)
  have t1 : (k == 3) = true := by simpa using hk
  have t2 : (v != 0) = true := by simpa using hz
  have n1 : -9223372036854775808 ≤ n * 1000 := by omega
  have n2 : n * 1000 ≤ 9223372036854775807 := by omega
  have D := two_cd w 0 0 0 0 m k 0 n false x 47
  clear h hm hx hU hT hTs hE hv hk hz
  go_enter Tryd.func17, Tryd.ntmps17
  go_wp2_with (fail)
  refine (c1 _).mono ?_
  rintro e w' ⟨rfl, rfl⟩
  go_wp2_with (fail)
  refine (c2 _).mono ?_
  rintro e w' ⟨rfl, rfl⟩
  go_wp2_with (fail)
  refine (c3 _).mono ?_
  rintro e w' ⟨rfl, rfl⟩
  go_wp2_with (fail)
  refine (c4 _).mono ?_
  rintro e w3 ⟨rfl, hb⟩
  obtain ⟨dR, fR, dC, z2, B2⟩ := D _ rfl
  have dR3 := dR.below hb (by omega)
  have fR3 := fR.below hb (by omega)
  have dC3 := dC.below hb z2
  have B3 := below_step B2 hb B2.size
  clear hb dR fR dC B2
  obtain ⟨r0, r1, r2, r3, r4⟩ := dR3
  obtain ⟨f0, f1, f2, f3, f4⟩ := fR3
  obtain ⟨d0, d1, d2, d3, d4⟩ := dC3
  go_wp2
  refine bodyPost_ret (v := .tuple #[.agg #[.int .i64 0, .int .i64 0, .int .i64 0, .int .i64 0, .bool false], .int .i64 v]) (by simp [results, Tryd.results17, go_sem, r0, r1, r2, r3, r4]) rfl (pcP_mk HE.out ?_)
  exact ((((B3.setCell (Nat.le_refl _) _).setCell (Nat.le_refl _) _).setCell (Nat.le_refl _) _).setCell (Nat.le_refl _) _).setCell (Nat.le_refl _) _
set_option maxHeartbeats 1000000 in
theorem parse_sum_ok (s : ByteArray) (w : World) (hs : s.size ≤ 4611686018427387904) (k n : Int) (h : kndV (cutX (schV s.data.toList).2) = (k, n, true)) (hk : ¬ k = 3) (v : Int) (hv : chkC (schV s.data.toList).1 k (n * 1000) 0 = v) (hz : v = 0) :
    Calls Tryd.prog 17 #[.string s] w (PcP s.data.toList w) := by
  obtain ⟨T, hT, hTs, c1⟩ := sch_v s hs
  obtain ⟨m, hm⟩ : ∃ m, (schV s.data.toList).1 = m := ⟨_, rfl⟩
  obtain ⟨x, hx⟩ : ∃ x, sufB 88 (schV s.data.toList).2 = x := ⟨_, rfl⟩
  obtain ⟨U, hU, c2⟩ := cutS_any 88 T w (by omega) x (by rw [hT]; exact hx)
  have c3 := kind_v U _ (by rw [hU.1, hT, cutX_of hx]) (by have := hU.2; omega) k n true h
  obtain ⟨n0, n9, _, _⟩ := kndV_bd h
  have hE := parC_yes h hx
  rw [hm] at c1 hv hE
  have hE := hE.trans (mkC_yes (by rw [if_neg hk]) (by rw [if_neg hk]) (hv.trans hz))
  have HE := Lib.hid hE
  have c4 := fun w => check_c m k (n * 1000) 0 x v hv w (by omega) (by omega)
  have t1 : (k == 3) = false := by simpa using hk
  have t2 : (v != 0) = false := by simpa using hz
  have n1 : -9223372036854775808 ≤ n * 1000 := by omega
  have n2 : n * 1000 ≤ 9223372036854775807 := by omega
  have D := two_cd w 0 0 0 0 m k (n * 1000) 0 false x 47
  clear h hm hx hU hT hTs hE hv hk hz
  go_enter Tryd.func17, Tryd.ntmps17
  go_wp2_with (fail)
  refine (c1 _).mono ?_
  rintro e w' ⟨rfl, rfl⟩
  go_wp2_with (fail)
  refine (c2 _).mono ?_
  rintro e w' ⟨rfl, rfl⟩
  go_wp2_with (fail)
  refine (c3 _).mono ?_
  rintro e w' ⟨rfl, rfl⟩
  go_wp2_with (fail)
  refine (c4 _).mono ?_
  rintro e w3 ⟨rfl, hb⟩
  obtain ⟨dR, fR, dC, z2, B2⟩ := D _ rfl
  have dR3 := dR.below hb (by omega)
  have fR3 := fR.below hb (by omega)
  have dC3 := dC.below hb z2
  have B3 := below_step B2 hb B2.size
  clear hb dR fR dC B2
  obtain ⟨r0, r1, r2, r3, r4⟩ := dR3
  obtain ⟨f0, f1, f2, f3, f4⟩ := fR3
  obtain ⟨d0, d1, d2, d3, d4⟩ := dC3
  go_wp2
  refine bodyPost_ret (v := .tuple #[.agg #[.int .i64 m, .int .i64 k, .int .i64 (n * 1000), .int .i64 0, .bool x], .int .i64 0]) (by simp [results, Tryd.results17, go_sem, r0, r1, r2, r3, r4]) rfl (pcP_mk HE.out ?_)
  exact ((((B3.setCell (Nat.le_refl _) _).setCell (Nat.le_refl _) _).setCell (Nat.le_refl _) _).setCell (Nat.le_refl _) _).setCell (Nat.le_refl _) _
set_option maxHeartbeats 1000000 in
theorem parse_sum_bad (s : ByteArray) (w : World) (hs : s.size ≤ 4611686018427387904) (k n : Int) (h : kndV (cutX (schV s.data.toList).2) = (k, n, true)) (hk : ¬ k = 3) (v : Int) (hv : chkC (schV s.data.toList).1 k (n * 1000) 0 = v) (hz : v ≠ 0) :
    Calls Tryd.prog 17 #[.string s] w (PcP s.data.toList w) := by
  obtain ⟨T, hT, hTs, c1⟩ := sch_v s hs
  obtain ⟨m, hm⟩ : ∃ m, (schV s.data.toList).1 = m := ⟨_, rfl⟩
  obtain ⟨x, hx⟩ : ∃ x, sufB 88 (schV s.data.toList).2 = x := ⟨_, rfl⟩
  obtain ⟨U, hU, c2⟩ := cutS_any 88 T w (by omega) x (by rw [hT]; exact hx)
  have c3 := kind_v U _ (by rw [hU.1, hT, cutX_of hx]) (by have := hU.2; omega) k n true h
  obtain ⟨n0, n9, _, _⟩ := kndV_bd h
  have hE := parC_yes h hx
  rw [hm] at c1 hv hE
  have hE := hE.trans (mkC_no (by rw [if_neg hk]) (by rw [if_neg hk]) hv hz)
  have HE := Lib.hid hE
  have c4 := fun w => check_c m k (n * 1000) 0 x v hv w (by omega) (by omega)
  have t1 : (k == 3) = false := by simpa using hk
  have t2 : (v != 0) = true := by simpa using hz
  have n1 : -9223372036854775808 ≤ n * 1000 := by omega
  have n2 : n * 1000 ≤ 9223372036854775807 := by omega
  have D := two_cd w 0 0 0 0 m k (n * 1000) 0 false x 47
  clear h hm hx hU hT hTs hE hv hk hz
  go_enter Tryd.func17, Tryd.ntmps17
  go_wp2_with (fail)
  refine (c1 _).mono ?_
  rintro e w' ⟨rfl, rfl⟩
  go_wp2_with (fail)
  refine (c2 _).mono ?_
  rintro e w' ⟨rfl, rfl⟩
  go_wp2_with (fail)
  refine (c3 _).mono ?_
  rintro e w' ⟨rfl, rfl⟩
  go_wp2_with (fail)
  refine (c4 _).mono ?_
  rintro e w3 ⟨rfl, hb⟩
  obtain ⟨dR, fR, dC, z2, B2⟩ := D _ rfl
  have dR3 := dR.below hb (by omega)
  have fR3 := fR.below hb (by omega)
  have dC3 := dC.below hb z2
  have B3 := below_step B2 hb B2.size
  clear hb dR fR dC B2
  obtain ⟨r0, r1, r2, r3, r4⟩ := dR3
  obtain ⟨f0, f1, f2, f3, f4⟩ := fR3
  obtain ⟨d0, d1, d2, d3, d4⟩ := dC3
  go_wp2
  refine bodyPost_ret (v := .tuple #[.agg #[.int .i64 0, .int .i64 0, .int .i64 0, .int .i64 0, .bool false], .int .i64 v]) (by simp [results, Tryd.results17, go_sem, r0, r1, r2, r3, r4]) rfl (pcP_mk HE.out ?_)
  exact ((((B3.setCell (Nat.le_refl _) _).setCell (Nat.le_refl _) _).setCell (Nat.le_refl _) _).setCell (Nat.le_refl _) _).setCell (Nat.le_refl _) _
theorem parse_any (s : ByteArray) (w : World) (hs : s.size ≤ 4611686018427387904) : Calls Tryd.prog 17 #[.string s] w (PcP s.data.toList w) := by
  obtain ⟨⟨k, n, b⟩, hv⟩ : ∃ v, kndV (cutX (schV s.data.toList).2) = v := ⟨_, rfl⟩
  cases b
  · exact parse_no s w hs k n hv
  · by_cases hk : k = 3
    · by_cases hz : chkC (schV s.data.toList).1 k 0 n = 0
      · exact parse_flat_ok s w hs k n hv hk _ rfl hz
      · exact parse_flat_bad s w hs k n hv hk _ rfl hz
    · by_cases hz : chkC (schV s.data.toList).1 k (n * 1000) 0 = 0
      · exact parse_sum_ok s w hs k n hv hk _ rfl hz
      · exact parse_sum_bad s w hs k n hv hk _ rfl hz
theorem parse_v (s : ByteArray) (w : World) (hs : s.size ≤ 4611686018427387904) (a b c d e : Int) (x : Bool) (hv : parC s.data.toList = ⟨a, b, c, d, x, e⟩) :
    Calls Tryd.prog 17 #[.string s] w fun e' w' => e' = .returned (.tuple #[.agg #[.int .i64 a, .int .i64 b, .int .i64 c, .int .i64 d, .bool x], .int .i64 e]) ∧ Below w.heap.size w w' := by
  refine (parse_any s w hs).mono ?_
  rintro e w' ⟨rfl, hb⟩
  rw [hv]
  exact ⟨rfl, hb⟩
end Go.Proofs.YtoppipjbdakmeaaDoor
