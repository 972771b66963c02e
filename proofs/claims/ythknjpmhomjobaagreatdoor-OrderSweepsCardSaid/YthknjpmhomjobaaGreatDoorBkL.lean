/- slices.Delete of one of a book's orders, and what Cancel answers. -/
import Derived.Test.YthknjpmhomjobaaGreatDoorBkJ
import Derived.Test.YthknjpmhomjobaaGreatDoorBkI
import Derived.Laws.OwnMore
import Derived.Deep.RegionLaw
namespace Go.Proofs.YthknjpmhomjobaaGreatDoor
open Go.RowKit Go.Sort
set_option linter.unusedVariables false
set_option linter.unusedSimpArgs false

theorem run_clear7 {P : Program} (w : World) (t e ty : TypeId) (ht : P.underlying t = some (.slice e)) (hv : ∀ w, (zeroValue e).run P w = .ok (.agg #[.int .i64 0, .int .i64 0, .int .i64 0, .int .i64 0, .int .i64 0, .int .i64 0, .int .i64 0]) w) (b o n c : Nat) (hn : 0 < n)
    (hc : ∀ j, j < n * 7 → (w.cell? ⟨b, o + j, none⟩).isSome = true) (hf : ∀ j, j < n * 7 → w.frozen? ⟨b, o + j, none⟩ = false) :
    ∃ zs, (Builtin.clear_ #[t] ty #[.slice (some ⟨b, o, none⟩) n c]).run P w = .ok (.tuple #[]) (w.setCells b o zs) := by
  have hz : (Value.agg #[.int .i64 0, .int .i64 0, .int .i64 0, .int .i64 0, .int .i64 0, .int .i64 0, .int .i64 0]).cells = #[.int .i64 0, .int .i64 0, .int .i64 0, .int .i64 0, .int .i64 0, .int .i64 0, .int .i64 0] := rfl
  have hlen : (Builtin.zeroCells #[Value.int .i64 0, .int .i64 0, .int .i64 0, .int .i64 0, .int .i64 0, .int .i64 0, .int .i64 0] n).toList.length = n * 7 := by simp [Builtin.zeroCells]
  have hst := run_storeCells_cells (P := P) b o (Builtin.zeroCells #[Value.int .i64 0, .int .i64 0, .int .i64 0, .int .i64 0, .int .i64 0, .int .i64 0, .int .i64 0] n).toList 0 w (by rw [hlen]; simpa using hc) (by rw [hlen]; simpa using hf) (by
    intro v hv'
    obtain ⟨i, hi, rfl⟩ := List.getElem_of_mem hv'
    have hi2 : i % 7 = 0 ∨ i % 7 = 1 ∨ i % 7 = 2 ∨ i % 7 = 3 ∨ i % 7 = 4 ∨ i % 7 = 5 ∨ i % 7 = 6 := by omega
    simp only [Builtin.zeroCells, Array.getElem_toList, Array.getElem_ofFn]
    rcases hi2 with hi2 | hi2 | hi2 | hi2 | hi2 | hi2 | hi2 <;> simp [hi2] <;> rfl)
  simp only [Nat.add_zero] at hst
  obtain ⟨m, rfl⟩ : ∃ m, n = m + 1 := ⟨n - 1, by omega⟩
  exact ⟨_, by simp [Builtin.clear_, run_underlying ht, hv, hz, hst]; rfl⟩
theorem own_setCells7 {B g cap n size : Nat} {e : TypeId} : ∀ (vs : List Value) (o : Nat) (w : World) (xs : List Value), w.ownsRow B e size (.slice (some ⟨g, 0, none⟩) n cap) n xs → n * size ≤ o →
    (w.setCells g o vs).ownsRow B e size (.slice (some ⟨g, 0, none⟩) n cap) n xs
  | [], o, w, xs, h, _ => h
  | v :: r, o, w, xs, h, ho => by
    have h2 := (h.stored o v).1
    rw [List.set_eq_of_length_le (by rw [h.1]; exact ho)] at h2
    exact own_setCells7 r (o + 1) _ _ h2 (by omega)
theorem below_setCells7 {B g : Nat} (hg : B ≤ g) {a : World} : ∀ (vs : List Value) (o : Nat) (w : World), Below B a w → Below B a (w.setCells g o vs)
  | [], _, _, h => h
  | v :: r, o, w, h => below_setCells7 hg r (o + 1) _ (h.setCell hg v)
/-- the first of a row's elements are a row -/
theorem own_short7 {w : World} {B g n cap k size : Nat} {e : TypeId} {xs : List Value} (h : w.ownsRow B e size (.slice (some ⟨g, 0, none⟩) n cap) n xs) (hk : k ≤ n) : w.ownsRow B e size (.slice (some ⟨g, 0, none⟩) k cap) k (xs.take (k * size)) := by
  have hkn : k * size ≤ n * size := Nat.mul_le_mul_right _ hk
  rcases h.2 with ⟨h', _⟩ | ⟨g', cap', cur, h', hb, hg, hnc, hcm, hcs, htake⟩
  · simp at h'
  · simp only [Value.slice.injEq, Option.some.injEq, Addr.mk.injEq, and_true, true_and] at h'
    obtain ⟨rfl, rfl⟩ := h'
    refine ⟨by rw [List.length_take, h.1]; omega, .inr ⟨g, cap, cur, rfl, hb, hg, by omega, hcm, hcs, ?_⟩⟩
    rw [← htake, List.take_take, Nat.min_eq_left hkn]
theorem stc7_take (f : Nat → Sta) {n k : Nat} (hk : k ≤ n) : (stc7 f n).take (k * 7) = stc7 f k := by
  induction n with
  | zero => obtain rfl : k = 0 := by omega
            rfl
  | succ n ih =>
    by_cases h : k = n + 1
    · subst h; rw [List.take_of_length_le (by rw [stc7_len]; exact Nat.le_refl _)]
    · show (stc7 f n ++ (f n).cs).take (k * 7) = _
      rw [List.take_append_of_le_length (by rw [stc7_len]; omega)]
      exact ih (by omega)
theorem stc7_ext {f g : Nat → Sta} : ∀ {n : Nat}, (∀ i, i < n → f i = g i) → stc7 f n = stc7 g n
  | 0, _ => rfl
  | n + 1, h => by
    show stc7 f n ++ (f n).cs = stc7 g n ++ (g n).cs
    rw [stc7_ext (fun i hi => h i (by omega)), h n (by omega)]
/-- the cells of all but one -/
theorem stc7_del (f : Nat → Sta) (i : Nat) : ∀ m, stc7 (dlO f i) (i + m) = stc7 f i ++ stc7 (fun j => f (i + 1 + j)) m
  | 0 => by
    rw [Nat.add_zero, show stc7 (fun j => f (i + 1 + j)) 0 = [] from rfl, List.append_nil]
    exact stc7_ext fun j hj => if_pos hj
  | m + 1 => by
    show stc7 (dlO f i) (i + m) ++ (dlO f i (i + m)).cs = stc7 f i ++ (stc7 (fun j => f (i + 1 + j)) m ++ (f (i + 1 + m)).cs)
    rw [stc7_del f i m, List.append_assoc]
    congr 2
    unfold dlO
    rw [if_neg (by omega), show i + m + 1 = i + 1 + m by omega]
theorem stc7_add (f : Nat → Sta) (a : Nat) : ∀ b, stc7 f (a + b) = stc7 f a ++ stc7 (fun j => f (a + j)) b
  | 0 => by rw [Nat.add_zero, show stc7 (fun j => f (a + j)) 0 = [] from rfl, List.append_nil]
  | b + 1 => by
    show stc7 f (a + b) ++ (f (a + b)).cs = stc7 f a ++ (stc7 (fun j => f (a + j)) b ++ (f (a + b)).cs)
    rw [stc7_add f a b, List.append_assoc]
/-- all of a row's room is there -/
theorem own_roomy {w : World} {B g n cap size : Nat} {e : TypeId} {xs : List Value} (h : w.ownsRow B e size (.slice (some ⟨g, 0, none⟩) n cap) n xs) : ∀ j, j < cap * size → (w.cell? ⟨g, j, none⟩).isSome = true := fun j hj => by
  rcases h.2 with ⟨h', _⟩ | ⟨g', cap', cur, h', hb, hg, hnc, hcm, hcs, htake⟩
  · simp at h'
  · simp only [Value.slice.injEq, Option.some.injEq, Addr.mk.injEq, and_true, true_and] at h'
    obtain ⟨rfl, rfl⟩ := h'
    rw [cell_of_row w g j cur e (0, 0) hg, Array.getElem?_eq_getElem (by rw [hcs]; exact hj)]
    rfl
theorem zeroSt (w : World) : (zeroValue 50).run Tryz.prog w = .ok (.agg #[.int .i64 0, .int .i64 0, .int .i64 0, .int .i64 0, .int .i64 0, .int .i64 0, .int .i64 0]) w := by kernel_rfl
set_option maxRecDepth 100000 in
set_option maxHeartbeats 4000000 in
theorem delete_any (B g n i cap : Nat) (f : Nat → Sta) (w : World) (h : w.ownsRow B 50 7 (.slice (some ⟨g, 0, none⟩) (n + 1) cap) (n + 1) (stc7 f (n + 1))) (hn : n ≤ 1000) (hi : i < n + 1) (hB : B ≤ w.heap.size) :
    Calls Tryz.prog 33 #[.slice (some ⟨g, 0, none⟩) ((n + 1 : Nat)) cap, .int .i64 i, .int .i64 ((i : Int) + 1)] w fun e w' => e = .returned (.slice (some ⟨g, 0, none⟩) n cap) ∧ w'.ownsRow B 50 7 (.slice (some ⟨g, 0, none⟩) n cap) n (stc7 (dlO f i) n) ∧ Below B w w' := by
  obtain ⟨i0, hi0, hz0, hz1, hz2⟩ := info_parts infoSt
  have hcap : n + 1 ≤ cap := by
    rcases h.2 with ⟨h', _⟩ | ⟨g', cap', cur, h', hb, hg, hnc, _⟩
    · simp at h'
    · simp only [Value.slice.injEq, Option.some.injEq, Addr.mk.injEq, and_true, true_and] at h'
      obtain ⟨rfl, rfl⟩ := h'
      exact hnc
  have hBg := (h.lt g rfl).1
  obtain ⟨A, hA, hsrc⟩ : ∃ A : Addr, (if cap = i + 1 then some (⟨g, 0, none⟩ : Addr) else some ⟨g, (i + 1) * 7, none⟩) = some A ∧ Hid (∀ t u, (stc7 (fun j => f (i + 1 + j)) (n - i))[t]? = some u → w.drew.cell? (A.add t) = some u) := by
    by_cases hc : cap = i + 1
    · refine ⟨_, if_pos hc, Lib.hid fun t u hu => ?_⟩
      rw [show n - i = 0 by omega] at hu
      exact absurd hu (by simp [stc7])
    · refine ⟨_, if_neg hc, Lib.hid fun t u hu => ?_⟩
      rw [Go.WideShapes.add_plain]
      refine own_cells (w := w) h (j := (i + 1) * 7 + t) ?_
      have e := stc7_add f (i + 1) (n - i)
      rw [show i + 1 + (n - i) = n + 1 by omega] at e
      rw [e, List.getElem?_append_right (by rw [stc7_len]; omega), stc7_len, show (i + 1) * 7 + t - (i + 1) * 7 = t by omega]
      exact hu
  obtain ⟨W, hrun, hown, hgrow⟩ := run_append_fits (P := Tryz.prog) w.drew B 33 33 50 i0 7 Tryz.underlying33 hi0 hz1 g i cap (stc7 f i) (by
    have := own_short7 h (Nat.le_of_lt hi)
    rw [stc7_take f (Nat.le_of_lt hi)] at this
    exact this) A (n - i) (cap - (i + 1)) (stc7 (fun j => f (i + 1 + j)) (n - i)) (stc7_len _ _) hsrc.out (stc7_one _ _) (by omega)
  rw [← stc7_del f i (n - i), show i + (n - i) = n by omega] at hown
  have HO := Lib.hid hown
  have HG := Lib.hid (And.intro hgrow hBg)
  have hi2 : (i : Int) < (n : Int) + 1 := by omega
  have hne : ((i : Int) == (i : Int) + 1) = false := by rw [beq_eq_false_iff_ne]; omega
  have hcn : cap ≠ n := by omega
  have hn2 : i ≤ n := by omega
  have hic : i ≤ cap := by omega
  have hic2 : (i : Int) ≤ (cap : Int) := by omega
  have hi3 : 0 ≤ (i : Int) + 1 := by omega
  have hi4 : ((i : Int) + 1).toNat = i + 1 := by omega
  have hi5 : (i : Int) + 1 ≤ (n : Int) + 1 := by omega
  have hi6 : i + 1 ≤ n + 1 := by omega
  rw [show i + (n - i) = n by omega] at hrun
  have s1 : Hid ((stc7 (fun j => f (i + 1 + j)) (n - i)).length = (n - i) * 7) := Lib.hid (stc7_len _ _)
  have s2 : Hid (∀ u ∈ stc7 (fun j => f (i + 1 + j)) (n - i), u.oneCell' = true) := Lib.hid (stc7_one _ _)
  have s3 : Hid (∀ t, t < (stc7 (fun j => f (i + 1 + j)) (n - i)).length → (w.drew.cell? ⟨g, 0 + i * 7 + t, none⟩).isSome = true ∧ w.drew.frozen? ⟨g, 0 + i * 7 + t, none⟩ = false) := Lib.hid fun t ht => by
    rw [stc7_len] at ht
    rw [Nat.zero_add]
    have hlt2 : i * 7 + t < (n + 1) * 7 := by omega
    refine ⟨?_, h.frozenAt _⟩
    have e : w.cell? ⟨g, i * 7 + t, none⟩ = (stc7 f (n + 1))[i * 7 + t]? := h.cellAt _ hlt2
    show (w.cell? _).isSome = true
    rw [e, List.getElem?_eq_getElem (by rw [stc7_len]; exact hlt2)]
    rfl
  have hrun2 := run_append_room_cells (P := Tryz.prog) w.drew 33 33 50 i0 Tryz.underlying33 hi0 g 0 i cap A (n - i) (cap - (i + 1)) (stc7 (fun j => f (i + 1 + j)) (n - i)) (by rw [hz1]; exact s1.out) hsrc.out s2.out (by omega) (fun j hj => by rw [hz1]; exact (s3.out j hj).1) (fun j hj => by rw [hz1]; exact (s3.out j hj).2)
  rw [hz1, show i + (n - i) = n by omega, hrun] at hrun2
  have hW : W = w.drew.setCells g (0 + i * 7) (stc7 (fun j => f (i + 1 + j)) (n - i)) := by
    have := Result.ok.inj hrun2
    exact this.2
  have HW := Lib.hid hW
  have HR : Hid (i + (n - i) = n) := Lib.hid (by omega)
  have HI := Lib.hid (And.intro hi0 hz1)
  have HH := Lib.hid h
  clear hown hgrow hBg h hrun hrun2 hW hi0 hz0 hz1 hz2
  generalize stc7 (fun j => f (i + 1 + j)) (n - i) = news at *
  go_enter Tryz.func33, Tryz.ntmps33
  go_wp2
  go_region_law (refine step_append_room rfl (.tmp 22) (.tmp 25) 33 rfl 50 i0 7 Tryz.underlying33 HI.out.1 HI.out.2 g 0 i cap (by simp [Act.eval, Act.put]) A (n - i) (cap - (i + 1)) news (by simp [Act.eval, Act.put]) s1.out hsrc.out s2.out (by omega) s3.out ?_; rw [← HW.out, HR.out])
  have hlt7 : (n + 1) * 7 ≤ cap * 7 := Nat.mul_le_mul_right _ hcap
  obtain ⟨zs, hcl⟩ := run_clear7 (P := Tryz.prog) W 33 50 0 Tryz.underlying33 zeroSt g (n * 7) 1 (cap - n) (by omega) (fun j hj => own_roomy HO.out _ (by omega)) (fun j _ => HO.out.frozenAt _)
  have hnn : n ≤ cap := by omega
  have hnc : (n : Int) + 1 ≤ (cap : Int) := by omega
  go_wp2
  go_ret
  exact ⟨rfl, own_setCells7 zs (n * 7) W _ HO.out (Nat.le_refl _), below_setCells7 HG.out.2 _ _ _ ((((Below.refl w.heap.size w).drew).mono hB).grown HG.out.1 hB (fun k hk => by cases hk; exact HG.out.2))⟩
set_option maxRecDepth 100000 in
set_option maxHeartbeats 4000000 in
theorem cancel_no (p n : Nat) (f : Nat → Sta) (id : Int) (w : World) (h : Bk w p n f) (hn : n ≤ 64) (hp : plc f id n = -1) :
    Calls Tryz.prog 13 #[.pointer (some ⟨p, 0, none⟩), .int .i64 id] w fun e w' => e = .returned (.int .i64 3) ∧ Below w.heap.size w w' := by
  have cP := place_any p n f id _ h (by omega) (-1) hp
  clear h hp
  go_enter Tryz.func13, Tryz.ntmps13
  go_wp2_with (fail)
  with_reducible refine cP.mono ?_
  rintro e w1 ⟨rfl, NB⟩
  go_wp2
  go_ret
  exact ⟨rfl, NB⟩
set_option maxRecDepth 100000 in
set_option maxHeartbeats 4000000 in
theorem cancel_at (p n i : Nat) (f : Nat → Sta) (id : Int) (w : World) (h : Bk w p (n + 1) f) (hn : n ≤ 64) (hi : i < n + 1) (hp : plc f id (n + 1) = (i : Int)) :
    Calls Tryz.prog 13 #[.pointer (some ⟨p, 0, none⟩), .int .i64 id] w fun e w' => e = .returned (.int .i64 0) ∧ Bk w' p n (dlO f i) ∧ RelP p w w' := by
  have cP := place_any p (n + 1) f id _ h (by omega) (i : Int) hp
  have hi0 : ¬ (i : Int) < 0 := by omega
  have hwi : wrap64 ((i : Int) + 1) = (i : Int) + 1 := IntWalk.wrap64_in _ (by omega)
  have hpl := h.lt
  go_enter Tryz.func13, Tryz.ntmps13
  go_wp2_with (fail)
  with_reducible refine cP.mono ?_
  rintro e w1 ⟨rfl, NB⟩
  have h1 := h.below NB
  have cL := list_any p (n + 1) f w1 h1 (by omega)
  have HN := Lib.hid NB
  have HH := Lib.hid h1
  clear cP NB h1 h hp
  go_wp2_with (fail)
  refine Calls.mono cL ?_
  rintro e w2 ⟨v, rfl, hown, hb2⟩
  obtain ⟨A, c, rfl, hA, hg⟩ := own_len hown
  obtain ⟨g, rfl⟩ := hg (Nat.succ_pos _)
  have hgl := hown.lt g rfl
  have cD := delete_any w1.heap.size g n i c f w2 hown (by omega) hi hb2.size
  have h2 := HH.out.below hb2
  have HB2 := Lib.hid (And.intro hb2 (And.intro hgl.1 h2))
  clear cL hown hA hg hgl hb2 h2
  go_wp2_with (fail)
  refine Calls.mono cD ?_
  rintro e w3 ⟨rfl, hown3, hb3⟩
  obtain ⟨A0, c0, KB, -, -, -⟩ := HB2.out.2.2
  have hpw1 : p < w1.heap.size := Nat.lt_of_lt_of_le hpl HN.out.size
  have KB3 := KB.under hb3 hpw1
  have b0 := KB3.cell (i := 0) rfl
  have f0 := KB3.fr 0
  have hgp : g ≠ p := by have := HB2.out.2.1; omega
  have hB3 : Below w.heap.size w w3 := below_step HN.out (Below.trans HB2.out.1 hb3) HN.out.size
  have HO3 := Lib.hid (And.intro hown3 (And.intro KB3 hB3))
  have HGP := Lib.hid hgp
  clear cD hown3 hb3 KB KB3 hB3 hpw1 hgp
  go_wp2
  go_ret
  have hne : ∀ g' o', (some (⟨g, 0, none⟩ : Addr)) = some ⟨g', o', none⟩ → g' ≠ p := fun g' o' e => by
    have := Option.some.inj e
    simp only [Addr.mk.injEq] at this
    obtain ⟨rfl, -, -⟩ := this
    exact HGP.out
  refine ⟨rfl, ⟨some ⟨g, 0, none⟩, c, HO3.out.2.1.set 0 _, ?_, (fun h => by cases h), hne⟩, ⟨w3, HO3.out.2.2, .inr ⟨_, rfl⟩⟩⟩
  intro h0
  exact ors_set (SB.of_own HO3.out.1 h0).1 HGP.out h0
end Go.Proofs.YthknjpmhomjobaaGreatDoor
