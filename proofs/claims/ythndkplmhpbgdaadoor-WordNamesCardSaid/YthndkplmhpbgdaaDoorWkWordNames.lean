/- WordNames: the whole walk. -/
import Derived.Test.YthndkplmhpbgdaaDoorWrdH
namespace Go.Proofs.YthndkplmhpbgdaaDoor
open Go.RowKit
set_option linter.unusedVariables false
set_option linter.unusedSimpArgs false

/-- may a byte stand at that place of a name? -/
def nameAt (i : Nat) (c : UInt8) : Bool := decide ((97 ≤ (c.toNat : Int) ∧ (c.toNat : Int) ≤ 122) ∨ (0 < i ∧ ((48 ≤ (c.toNat : Int) ∧ (c.toNat : Int) ≤ 57) ∨ (c.toNat : Int) = 45)))
def nmG : Bool → Nat → List UInt8 → Bool
  | b, _, [] => b
  | b, i, c :: r => nmG (b && nameAt i c) (i + 1) r
theorem nmG_rest : ∀ (l : List UInt8) (b : Bool) (i : Nat), nmG b (i + 1) l = (b && l.all namB)
  | [], b, i => by simp [nmG]
  | c :: r, b, i => by
    simp only [nmG, List.all_cons]
    rw [nmG_rest r, Bool.and_assoc]
    have : nameAt (i + 1) c = namB c := by
      rw [Bool.eq_iff_iff]
      simp only [nameAt, namB, smlB, isDg, Bool.or_eq_true, decide_eq_true_eq]
      omega
    rw [this]
theorem nmG_all (s : ByteArray) (b : Bool) (hb : b = (decide (0 < s.size) && decide (s.size ≤ 16))) : nmG b 0 s.data.toList = nameB s.data.toList := by
  subst hb
  rcases Nat.eq_zero_or_pos s.size with h0 | h0
  · rw [List.length_eq_zero_iff.1 (show s.data.toList.length = 0 by simp [h0])]
    simp [nmG, nameB, h0]
  · by_cases h : s.size ≤ 16
    · rw [nameB_of h0 h, decide_eq_true h0, decide_eq_true h, cons_of s h0]
      simp only [nmG, List.all_cons, Bool.true_and]
      rw [nmG_rest]
      have h1 : nameAt 0 s[0] = smlB s[0] := by
        rw [Bool.eq_iff_iff]
        simp only [nameAt, smlB, decide_eq_true_eq]
        omega
      rw [h1]
      cases hs : smlB s[0]
      · simp
      · simp [namB, hs]
    · rw [nameB_long (by omega), decide_eq_false h]
      have : ∀ (l : List UInt8) (i : Nat), nmG false i l = false := fun l => by
        induction l with
        | nil => intro i; rfl
        | cons c r ih => intro i; simp only [nmG, Bool.false_and]; exact ih _
      rw [Bool.and_false]
      exact this _ _
theorem ix_snoc : ∀ (l : List UInt8) (c d : UInt8), Lib.indexByte (l ++ [c]) d = if Lib.indexByte l d = -1 then (if c = d then (l.length : Int) else -1) else Lib.indexByte l d
  | [], c, d => by simp [Lib.indexByte]
  | b :: r, c, d => by
    have ih := ix_snoc r c d
    have hg := Lib.indexByte_ge r d
    simp only [List.cons_append, Lib.indexByte, ih, List.length_cons]
    generalize Lib.indexByte r d = x at *
    by_cases hb : (b == d) = true
    · simp [hb]
    · have hb' : (b == d) = false := by simpa using hb
      by_cases h1 : x = -1
      · by_cases hc : c = d
        · have : ¬ ((r.length : Int) = -1) := by omega
          simp [hb', h1, hc, this]
        · simp [hb', h1, hc]
      · have h2 : ¬ (x + 1 = -1) := by omega
        simp [hb', h1, h2]
theorem ix_next {s : ByteArray} {j : Nat} (h : j < s.size) : Lib.indexByte (s.data.toList.take (j + 1)) 61 = if Lib.indexByte (s.data.toList.take j) 61 = -1 then (if (s[j].toNat : Int) = 61 then (j : Int) else -1) else Lib.indexByte (s.data.toList.take j) 61 := by
  rw [byte_take s j h, ix_snoc]
  have hl : (s.data.toList.take j).length = j := by rw [List.length_take, data_len]; omega
  rw [hl]
  have : (s[j] = 61) ↔ ((s[j].toNat : Int) = 61) := ⟨fun e => by rw [e]; rfl, fun e => byte_eq (d := 61) (by rw [e]; rfl)⟩
  simp only [this]
theorem ix_bd (l : List UInt8) (c : UInt8) : -1 ≤ Lib.indexByte l c ∧ Lib.indexByte l c ≤ l.length := by
  refine ⟨Lib.indexByte_ge l c, ?_⟩
  rcases (show Lib.indexByte l c = -1 ∨ 0 ≤ Lib.indexByte l c by have := Lib.indexByte_ge l c; omega) with h | h
  · omega
  · have := ix_lt (l := l) (c := c) (i := (Lib.indexByte l c).toNat) (by omega)
    omega
set_option maxHeartbeats 4000000 in
set_option maxRecDepth 100000 in
theorem wWordNames (s : ByteArray) (w : World) (hs : s.size ≤ 9223372036854775807) : Calls Tryd.prog 6 #[.string s] w fun e w' => e = .returned (.bool true) ∧ Below w.heap.size w w' := by
  by_cases h100 : 100 < s.size
  · have g : (100 : Int) < s.size := by omega
    go_enter Tryd.func6, Tryd.ntmps6
    go_wp2_with (fail)
    refine (reads_any _).mono ?_
    rintro e w1 ⟨rfl, hb⟩
    go_wp2
    go_ret
    exact ⟨rfl, hb⟩
  have g : ¬ (100 : Int) < s.size := by omega
  obtain ⟨nv, hnv⟩ : ∃ v, nameB s.data.toList = v := ⟨_, rfl⟩
  have nm := fun w => name_b s nv hnv w (by omega)
  have HN0 := Lib.hid hnv
  have hend : ∀ b : Bool, b = (decide (0 < s.size) && decide (s.size ≤ 16)) → nmG b 0 s.data.toList = nv := fun b hb => (nmG_all s b hb).trans hnv
  have oN := fun (h : Lib.indexByte s.data.toList 61 < 1) w => opt_no s w h (by omega)
  have oY := fun (i : Nat) (h : Lib.indexByte s.data.toList 61 = i) (h1 : 1 ≤ i) w => opt_yes s i w h h1 (by omega)
  obtain ⟨b0, hb0⟩ : ∃ b0, b0 = (decide (0 < s.size) && decide (s.size ≤ 16)) := ⟨_, rfl⟩
  have HEND := Lib.hid (hend b0 hb0)
  have hrest : ∀ (W : World), Below w.heap.size w W → True := fun _ _ => trivial
  clear hnv hend hrest
  have ON := Lib.hid oN
  have OY := Lib.hid oY
  clear oN oY
  rcases (show (s.size = 0 ∧ b0 = false) ∨ (0 < s.size ∧ s.size ≤ 16 ∧ b0 = true) ∨ (16 < s.size ∧ b0 = false) by
    rcases Nat.eq_zero_or_pos s.size with h | h
    · exact .inl ⟨h, by rw [hb0]; simp [h]⟩
    · by_cases h2 : s.size ≤ 16
      · exact .inr (.inl ⟨h, h2, by rw [hb0]; simp [h, h2]⟩)
      · exact .inr (.inr ⟨by omega, by rw [hb0]; simp [h2]⟩)) with ⟨z0, rfl⟩ | ⟨z0, z1, rfl⟩ | ⟨z0, rfl⟩
  · have te := toList_none s z0
    clear hb0
    go_enter Tryd.func6, Tryd.ntmps6
    go_wp2_with (fail)
    refine (reads_any _).mono ?_
    rintro e w1 ⟨rfl, hbr⟩
    go_wp2
    go_loop [3, 4, 24] (fun b sg i => ∃ (j : Nat) (v : Bool), j ≤ s.size ∧ i = .int .i64 j ∧ b = .bool v ∧ sg = .int .i64 (Lib.indexByte (s.data.toList.take j) 61) ∧ Hid (nmG v j (s.data.toList.drop j) = nv)) (fun _ _ i => s.size - (intOf i).toNat)
    case atStart => exact ⟨0, _, Nat.zero_le _, rfl, rfl, rfl, Lib.hid (by rw [List.drop_zero]; exact HEND.out)⟩
    case round =>
      obtain ⟨j, v, hj, rfl, rfl, rfl, HG⟩ := hrel
      by_cases hlt : j < s.size
      · exact absurd hlt (by omega)
      · obtain rfl : j = s.size := by omega
        rw [take_all]
        have hg := HG.out
        rw [show s.data.toList.drop s.size = [] from List.drop_of_length_le (by simp)] at hg
        simp only [nmG] at hg
        subst hg
        clear HG
        have hix := ix_bd s.data.toList 61
        rw [data_len] at hix
        by_cases h1 : Lib.indexByte s.data.toList 61 < 1
        · have op := ON.out h1
          clear ON OY HEND HN0
          generalize Lib.indexByte s.data.toList 61 = sg at *
          go_wp2_with (fail)
          refine (op _).mono ?_
          rintro e w2 ⟨rfl, hb⟩
          have B2 := below_step hbr hb hbr.size
          go_wp2_with (fail)
          refine (nm _).mono ?_
          rintro e w' ⟨rfl, rfl⟩
          go_wp2
          go_ret
          first | exact ⟨rfl, B2⟩ | exact ⟨ret_b (by simp), B2⟩
        · obtain ⟨i, hi⟩ : ∃ i : Nat, Lib.indexByte s.data.toList 61 = i := ⟨(Lib.indexByte s.data.toList 61).toNat, by omega⟩
          have op := OY.out i hi (by omega)
          rw [hi] at h1 hix ⊢
          have HI := Lib.hid hi
          have hi1 : ¬ (i : Int) < 1 := h1
          have hi2 : (i : Int) ≤ s.size := hix.2
          have hlt := ix_lt hi
          rw [data_len] at hlt
          have hi3 : (i : Int) + 1 ≤ s.size := by omega
          exact absurd hlt (by omega)
  · have te := toList_some s z0
    have g16 : (s.size : Int) ≤ 16 := by omega
    clear hb0
    go_enter Tryd.func6, Tryd.ntmps6
    go_wp2_with (fail)
    refine (reads_any _).mono ?_
    rintro e w1 ⟨rfl, hbr⟩
    go_wp2
    go_loop [3, 4, 24] (fun b sg i => ∃ (j : Nat) (v : Bool), j ≤ s.size ∧ i = .int .i64 j ∧ b = .bool v ∧ sg = .int .i64 (Lib.indexByte (s.data.toList.take j) 61) ∧ Hid (nmG v j (s.data.toList.drop j) = nv)) (fun _ _ i => s.size - (intOf i).toNat)
    case atStart => exact ⟨0, _, Nat.zero_le _, rfl, rfl, rfl, Lib.hid (by rw [List.drop_zero]; exact HEND.out)⟩
    case round =>
      obtain ⟨j, v, hj, rfl, rfl, rfl, HG⟩ := hrel
      by_cases hlt : j < s.size
      · have hg := HG.out
        rw [drop_at s j hlt] at hg
        simp only [nmG] at hg
        have HN := Lib.hid hg
        have HX := Lib.hid (ix_next hlt)
        have hix := ix_bd (s.data.toList.take j) 61
        have hN : ∀ b : Bool, (b = true ↔ ((97 ≤ (s[j].toNat : Int) ∧ (s[j].toNat : Int) ≤ 122) ∨ (0 < j ∧ ((48 ≤ (s[j].toNat : Int) ∧ (s[j].toNat : Int) ≤ 57) ∨ (s[j].toNat : Int) = 45)))) → nameAt j s[j] = b := fun b hb => by
          rw [Bool.eq_iff_iff, hb]
          simp only [nameAt, decide_eq_true_eq]
        have HNB := Lib.hid hN
        clear hg HG hN
        rw [List.length_take, data_len] at hix
        have hix2 : Lib.indexByte (s.data.toList.take j) 61 ≤ j := by omega
        obtain ⟨hix1, _⟩ := hix
        generalize Lib.indexByte (s.data.toList.take j) 61 = sg at *
        obtain ⟨sg', hsg⟩ : ∃ sg' : Int, sg' = if sg = -1 then (if (s[j].toNat : Int) = 61 then (j : Int) else -1) else sg := ⟨_, rfl⟩
        rw [← hsg] at HX
        have hcase : (97 ≤ (s[j].toNat : Int) ∧ (s[j].toNat : Int) ≤ 122) ∨ ((s[j].toNat : Int) < 97 ∧ (j : Int) ≤ 0) ∨ (122 < (s[j].toNat : Int) ∧ (j : Int) ≤ 0) ∨ (48 ≤ (s[j].toNat : Int) ∧ (s[j].toNat : Int) ≤ 57 ∧ 0 < (j : Int)) ∨ ((s[j].toNat : Int) = 45 ∧ 0 < (j : Int)) ∨ ((s[j].toNat : Int) < 48 ∧ (s[j].toNat : Int) ≠ 45 ∧ 0 < (j : Int)) ∨ (57 < (s[j].toNat : Int) ∧ (s[j].toNat : Int) < 97 ∧ 0 < (j : Int)) ∨ (122 < (s[j].toNat : Int) ∧ 0 < (j : Int)) := by omega
        by_cases h61 : (s[j].toNat : Int) = 61
        · have t61 : ((s[j].toNat : Int) == 61) = true := by rw [beq_iff_eq]; exact h61
          have t45 : ((s[j].toNat : Int) == 45) = false := by rw [beq_eq_false_iff_ne]; omega
          have HB := Lib.hid (HNB.out false (by simp; omega))
          rw [if_pos h61] at hsg
          have x1 : ¬ 97 ≤ (s[j].toNat : Int) := by omega
          have x2 : 48 ≤ (s[j].toNat : Int) := by omega
          have x3 : ¬ (s[j].toNat : Int) ≤ 57 := by omega
          clear h61 hcase HNB
          by_cases hs1 : sg = -1
          · rw [if_pos hs1] at hsg
            have x4 : sg < 0 := by omega
            subst hsg
            clear hs1
            cases v
            all_goals
              by_cases hj0 : (0 : Int) < (j : Int)
              all_goals
                go_wp2
                go_round
                case rel => exact ⟨j + 1, false, by omega, by go_num, rfl, by rw [HX.out], Lib.hid (by rw [← HN.out, HB.out]; first | rfl | (congr 1; simp; omega))⟩
                case measure => simp [intOf]; omega
          · rw [if_neg hs1] at hsg
            have x4 : ¬ sg < 0 := by omega
            subst hsg
            clear hs1
            cases v
            all_goals
              by_cases hj0 : (0 : Int) < (j : Int)
              all_goals
                go_wp2
                go_round
                case rel => exact ⟨j + 1, false, by omega, by go_num, rfl, by rw [HX.out], Lib.hid (by rw [← HN.out, HB.out]; first | rfl | (congr 1; simp; omega))⟩
                case measure => simp [intOf]; omega
        · have t61 : ((s[j].toNat : Int) == 61) = false := by rw [beq_eq_false_iff_ne]; exact h61
          rw [if_neg h61] at hsg
          have hsg2 : sg' = sg := by rw [hsg]; split <;> omega
          subst hsg2
          clear hsg h61
          rcases hcase with ⟨y1, y2⟩ | ⟨y1, y2⟩ | ⟨y1, y2⟩ | ⟨y1, y2, y3⟩ | ⟨y1, y2⟩ | ⟨y1, y2, y3⟩ | ⟨y1, y2, y3⟩ | ⟨y1, y2⟩
          · have HB := Lib.hid (HNB.out true (by simp; omega))
            clear HNB
            cases v
            all_goals
              go_wp2
              go_round
              case rel => exact ⟨j + 1, _, by omega, by go_num, rfl, by rw [HX.out], Lib.hid (by rw [← HN.out, HB.out]; first | rfl | (congr 1; simp; omega))⟩
              case measure => simp [intOf]; omega
          · have HB := Lib.hid (HNB.out false (by simp; omega))
            clear HNB
            cases v
            all_goals
              go_wp2
              go_round
              case rel => exact ⟨j + 1, _, by omega, by go_num, rfl, by rw [HX.out], Lib.hid (by rw [← HN.out, HB.out]; first | rfl | (congr 1; simp; omega))⟩
              case measure => simp [intOf]; omega
          · have HB := Lib.hid (HNB.out false (by simp; omega))
            have y3 : 97 ≤ (s[j].toNat : Int) := by omega
            clear HNB
            cases v
            all_goals
              go_wp2
              go_round
              case rel => exact ⟨j + 1, _, by omega, by go_num, rfl, by rw [HX.out], Lib.hid (by rw [← HN.out, HB.out]; first | rfl | (congr 1; simp; omega))⟩
              case measure => simp [intOf]; omega
          · have HB := Lib.hid (HNB.out true (by simp; omega))
            have y4 : (s[j].toNat : Int) < 97 := by omega
            clear HNB
            cases v
            all_goals
              go_wp2
              go_round
              case rel => exact ⟨j + 1, _, by omega, by go_num, rfl, by rw [HX.out], Lib.hid (by rw [← HN.out, HB.out]; first | rfl | (congr 1; simp; omega))⟩
              case measure => simp [intOf]; omega
          · have HB := Lib.hid (HNB.out true (by simp; omega))
            have t45 : ((s[j].toNat : Int) == 45) = true := by rw [beq_iff_eq]; exact y1
            have y4 : (s[j].toNat : Int) < 48 := by omega
            have y5 : (s[j].toNat : Int) < 97 := by omega
            clear HNB y1
            cases v
            all_goals
              go_wp2
              go_round
              case rel => exact ⟨j + 1, _, by omega, by go_num, rfl, by rw [HX.out], Lib.hid (by rw [← HN.out, HB.out]; first | rfl | (congr 1; simp; omega))⟩
              case measure => simp [intOf]; omega
          · have HB := Lib.hid (HNB.out false (by simp; omega))
            have t45 : ((s[j].toNat : Int) == 45) = false := by rw [beq_eq_false_iff_ne]; exact y2
            have y5 : (s[j].toNat : Int) < 97 := by omega
            clear HNB y2
            cases v
            all_goals
              go_wp2
              go_round
              case rel => exact ⟨j + 1, _, by omega, by go_num, rfl, by rw [HX.out], Lib.hid (by rw [← HN.out, HB.out]; first | rfl | (congr 1; simp; omega))⟩
              case measure => simp [intOf]; omega
          · have HB := Lib.hid (HNB.out false (by simp; omega))
            have t45 : ((s[j].toNat : Int) == 45) = false := by rw [beq_eq_false_iff_ne]; omega
            have y5 : 48 ≤ (s[j].toNat : Int) := by omega
            clear HNB
            cases v
            all_goals
              go_wp2
              go_round
              case rel => exact ⟨j + 1, _, by omega, by go_num, rfl, by rw [HX.out], Lib.hid (by rw [← HN.out, HB.out]; first | rfl | (congr 1; simp; omega))⟩
              case measure => simp [intOf]; omega
          · have HB := Lib.hid (HNB.out false (by simp; omega))
            have t45 : ((s[j].toNat : Int) == 45) = false := by rw [beq_eq_false_iff_ne]; omega
            have y5 : 48 ≤ (s[j].toNat : Int) := by omega
            have y6 : 57 < (s[j].toNat : Int) := by omega
            have y7 : 97 ≤ (s[j].toNat : Int) := by omega
            clear HNB
            cases v
            all_goals
              go_wp2
              go_round
              case rel => exact ⟨j + 1, _, by omega, by go_num, rfl, by rw [HX.out], Lib.hid (by rw [← HN.out, HB.out]; first | rfl | (congr 1; simp; omega))⟩
              case measure => simp [intOf]; omega
      · obtain rfl : j = s.size := by omega
        rw [take_all]
        have hg := HG.out
        rw [show s.data.toList.drop s.size = [] from List.drop_of_length_le (by simp)] at hg
        simp only [nmG] at hg
        subst hg
        clear HG
        have hix := ix_bd s.data.toList 61
        rw [data_len] at hix
        by_cases h1 : Lib.indexByte s.data.toList 61 < 1
        · have op := ON.out h1
          clear ON OY HEND HN0
          generalize Lib.indexByte s.data.toList 61 = sg at *
          go_wp2_with (fail)
          refine (op _).mono ?_
          rintro e w2 ⟨rfl, hb⟩
          have B2 := below_step hbr hb hbr.size
          go_wp2_with (fail)
          refine (nm _).mono ?_
          rintro e w' ⟨rfl, rfl⟩
          go_wp2
          go_ret
          first | exact ⟨rfl, B2⟩ | exact ⟨ret_b (by simp), B2⟩
        · obtain ⟨i, hi⟩ : ∃ i : Nat, Lib.indexByte s.data.toList 61 = i := ⟨(Lib.indexByte s.data.toList 61).toNat, by omega⟩
          have op := OY.out i hi (by omega)
          rw [hi] at h1 hix ⊢
          have HI := Lib.hid hi
          have hi1 : ¬ (i : Int) < 1 := h1
          have hi2 : (i : Int) ≤ s.size := hix.2
          have hlt := ix_lt hi
          rw [data_len] at hlt
          have hi3 : (i : Int) + 1 ≤ s.size := by omega
          clear hi h1 hix ON OY HEND HN0
          go_wp2_with (fail)
          refine (op _).mono ?_
          rintro e w2 ⟨rfl, hb⟩
          have B2 := below_step hbr hb hbr.size
          go_wp2_with (fail)
          refine (nm _).mono ?_
          rintro e w' ⟨rfl, rfl⟩
          go_wp2
          go_ret
          first | exact ⟨rfl, B2⟩ | exact ⟨ret_b (by simp), B2⟩
  · have te := toList_some s (by omega)
    have g16 : ¬ (s.size : Int) ≤ 16 := by omega
    have dd0 : decide ((s.size : Int) ≤ 16) = false := by simp; omega
    clear hb0
    go_enter Tryd.func6, Tryd.ntmps6
    go_wp2_with (fail)
    refine (reads_any _).mono ?_
    rintro e w1 ⟨rfl, hbr⟩
    go_wp2
    go_loop [3, 4, 24] (fun b sg i => ∃ (j : Nat) (v : Bool), j ≤ s.size ∧ i = .int .i64 j ∧ b = .bool v ∧ sg = .int .i64 (Lib.indexByte (s.data.toList.take j) 61) ∧ Hid (nmG v j (s.data.toList.drop j) = nv)) (fun _ _ i => s.size - (intOf i).toNat)
    case atStart => exact ⟨0, _, Nat.zero_le _, rfl, rfl, rfl, Lib.hid (by rw [List.drop_zero]; exact HEND.out)⟩
    case round =>
      obtain ⟨j, v, hj, rfl, rfl, rfl, HG⟩ := hrel
      by_cases hlt : j < s.size
      · have hg := HG.out
        rw [drop_at s j hlt] at hg
        simp only [nmG] at hg
        have HN := Lib.hid hg
        have HX := Lib.hid (ix_next hlt)
        have hix := ix_bd (s.data.toList.take j) 61
        have hN : ∀ b : Bool, (b = true ↔ ((97 ≤ (s[j].toNat : Int) ∧ (s[j].toNat : Int) ≤ 122) ∨ (0 < j ∧ ((48 ≤ (s[j].toNat : Int) ∧ (s[j].toNat : Int) ≤ 57) ∨ (s[j].toNat : Int) = 45)))) → nameAt j s[j] = b := fun b hb => by
          rw [Bool.eq_iff_iff, hb]
          simp only [nameAt, decide_eq_true_eq]
        have HNB := Lib.hid hN
        clear hg HG hN
        rw [List.length_take, data_len] at hix
        have hix2 : Lib.indexByte (s.data.toList.take j) 61 ≤ j := by omega
        obtain ⟨hix1, _⟩ := hix
        generalize Lib.indexByte (s.data.toList.take j) 61 = sg at *
        obtain ⟨sg', hsg⟩ : ∃ sg' : Int, sg' = if sg = -1 then (if (s[j].toNat : Int) = 61 then (j : Int) else -1) else sg := ⟨_, rfl⟩
        rw [← hsg] at HX
        have hcase : (97 ≤ (s[j].toNat : Int) ∧ (s[j].toNat : Int) ≤ 122) ∨ ((s[j].toNat : Int) < 97 ∧ (j : Int) ≤ 0) ∨ (122 < (s[j].toNat : Int) ∧ (j : Int) ≤ 0) ∨ (48 ≤ (s[j].toNat : Int) ∧ (s[j].toNat : Int) ≤ 57 ∧ 0 < (j : Int)) ∨ ((s[j].toNat : Int) = 45 ∧ 0 < (j : Int)) ∨ ((s[j].toNat : Int) < 48 ∧ (s[j].toNat : Int) ≠ 45 ∧ 0 < (j : Int)) ∨ (57 < (s[j].toNat : Int) ∧ (s[j].toNat : Int) < 97 ∧ 0 < (j : Int)) ∨ (122 < (s[j].toNat : Int) ∧ 0 < (j : Int)) := by omega
        by_cases h61 : (s[j].toNat : Int) = 61
        · have t61 : ((s[j].toNat : Int) == 61) = true := by rw [beq_iff_eq]; exact h61
          have t45 : ((s[j].toNat : Int) == 45) = false := by rw [beq_eq_false_iff_ne]; omega
          have HB := Lib.hid (HNB.out false (by simp; omega))
          rw [if_pos h61] at hsg
          have x1 : ¬ 97 ≤ (s[j].toNat : Int) := by omega
          have x2 : 48 ≤ (s[j].toNat : Int) := by omega
          have x3 : ¬ (s[j].toNat : Int) ≤ 57 := by omega
          clear h61 hcase HNB
          by_cases hs1 : sg = -1
          · rw [if_pos hs1] at hsg
            have x4 : sg < 0 := by omega
            subst hsg
            clear hs1
            cases v
            all_goals
              by_cases hj0 : (0 : Int) < (j : Int)
              all_goals
                go_wp2
                go_round
                case rel => exact ⟨j + 1, false, by omega, by go_num, rfl, by rw [HX.out], Lib.hid (by rw [← HN.out, HB.out]; first | rfl | (congr 1; simp; omega))⟩
                case measure => simp [intOf]; omega
          · rw [if_neg hs1] at hsg
            have x4 : ¬ sg < 0 := by omega
            subst hsg
            clear hs1
            cases v
            all_goals
              by_cases hj0 : (0 : Int) < (j : Int)
              all_goals
                go_wp2
                go_round
                case rel => exact ⟨j + 1, false, by omega, by go_num, rfl, by rw [HX.out], Lib.hid (by rw [← HN.out, HB.out]; first | rfl | (congr 1; simp; omega))⟩
                case measure => simp [intOf]; omega
        · have t61 : ((s[j].toNat : Int) == 61) = false := by rw [beq_eq_false_iff_ne]; exact h61
          rw [if_neg h61] at hsg
          have hsg2 : sg' = sg := by rw [hsg]; split <;> omega
          subst hsg2
          clear hsg h61
          rcases hcase with ⟨y1, y2⟩ | ⟨y1, y2⟩ | ⟨y1, y2⟩ | ⟨y1, y2, y3⟩ | ⟨y1, y2⟩ | ⟨y1, y2, y3⟩ | ⟨y1, y2, y3⟩ | ⟨y1, y2⟩
          · have HB := Lib.hid (HNB.out true (by simp; omega))
            clear HNB
            cases v
            all_goals
              go_wp2
              go_round
              case rel => exact ⟨j + 1, _, by omega, by go_num, rfl, by rw [HX.out], Lib.hid (by rw [← HN.out, HB.out]; first | rfl | (congr 1; simp; omega))⟩
              case measure => simp [intOf]; omega
          · have HB := Lib.hid (HNB.out false (by simp; omega))
            clear HNB
            cases v
            all_goals
              go_wp2
              go_round
              case rel => exact ⟨j + 1, _, by omega, by go_num, rfl, by rw [HX.out], Lib.hid (by rw [← HN.out, HB.out]; first | rfl | (congr 1; simp; omega))⟩
              case measure => simp [intOf]; omega
          · have HB := Lib.hid (HNB.out false (by simp; omega))
            have y3 : 97 ≤ (s[j].toNat : Int) := by omega
            clear HNB
            cases v
            all_goals
              go_wp2
              go_round
              case rel => exact ⟨j + 1, _, by omega, by go_num, rfl, by rw [HX.out], Lib.hid (by rw [← HN.out, HB.out]; first | rfl | (congr 1; simp; omega))⟩
              case measure => simp [intOf]; omega
          · have HB := Lib.hid (HNB.out true (by simp; omega))
            have y4 : (s[j].toNat : Int) < 97 := by omega
            clear HNB
            cases v
            all_goals
              go_wp2
              go_round
              case rel => exact ⟨j + 1, _, by omega, by go_num, rfl, by rw [HX.out], Lib.hid (by rw [← HN.out, HB.out]; first | rfl | (congr 1; simp; omega))⟩
              case measure => simp [intOf]; omega
          · have HB := Lib.hid (HNB.out true (by simp; omega))
            have t45 : ((s[j].toNat : Int) == 45) = true := by rw [beq_iff_eq]; exact y1
            have y4 : (s[j].toNat : Int) < 48 := by omega
            have y5 : (s[j].toNat : Int) < 97 := by omega
            clear HNB y1
            cases v
            all_goals
              go_wp2
              go_round
              case rel => exact ⟨j + 1, _, by omega, by go_num, rfl, by rw [HX.out], Lib.hid (by rw [← HN.out, HB.out]; first | rfl | (congr 1; simp; omega))⟩
              case measure => simp [intOf]; omega
          · have HB := Lib.hid (HNB.out false (by simp; omega))
            have t45 : ((s[j].toNat : Int) == 45) = false := by rw [beq_eq_false_iff_ne]; exact y2
            have y5 : (s[j].toNat : Int) < 97 := by omega
            clear HNB y2
            cases v
            all_goals
              go_wp2
              go_round
              case rel => exact ⟨j + 1, _, by omega, by go_num, rfl, by rw [HX.out], Lib.hid (by rw [← HN.out, HB.out]; first | rfl | (congr 1; simp; omega))⟩
              case measure => simp [intOf]; omega
          · have HB := Lib.hid (HNB.out false (by simp; omega))
            have t45 : ((s[j].toNat : Int) == 45) = false := by rw [beq_eq_false_iff_ne]; omega
            have y5 : 48 ≤ (s[j].toNat : Int) := by omega
            clear HNB
            cases v
            all_goals
              go_wp2
              go_round
              case rel => exact ⟨j + 1, _, by omega, by go_num, rfl, by rw [HX.out], Lib.hid (by rw [← HN.out, HB.out]; first | rfl | (congr 1; simp; omega))⟩
              case measure => simp [intOf]; omega
          · have HB := Lib.hid (HNB.out false (by simp; omega))
            have t45 : ((s[j].toNat : Int) == 45) = false := by rw [beq_eq_false_iff_ne]; omega
            have y5 : 48 ≤ (s[j].toNat : Int) := by omega
            have y6 : 57 < (s[j].toNat : Int) := by omega
            have y7 : 97 ≤ (s[j].toNat : Int) := by omega
            clear HNB
            cases v
            all_goals
              go_wp2
              go_round
              case rel => exact ⟨j + 1, _, by omega, by go_num, rfl, by rw [HX.out], Lib.hid (by rw [← HN.out, HB.out]; first | rfl | (congr 1; simp; omega))⟩
              case measure => simp [intOf]; omega
      · obtain rfl : j = s.size := by omega
        rw [take_all]
        have hg := HG.out
        rw [show s.data.toList.drop s.size = [] from List.drop_of_length_le (by simp)] at hg
        simp only [nmG] at hg
        subst hg
        clear HG
        have hix := ix_bd s.data.toList 61
        rw [data_len] at hix
        by_cases h1 : Lib.indexByte s.data.toList 61 < 1
        · have op := ON.out h1
          clear ON OY HEND HN0
          generalize Lib.indexByte s.data.toList 61 = sg at *
          go_wp2_with (fail)
          refine (op _).mono ?_
          rintro e w2 ⟨rfl, hb⟩
          have B2 := below_step hbr hb hbr.size
          go_wp2_with (fail)
          refine (nm _).mono ?_
          rintro e w' ⟨rfl, rfl⟩
          go_wp2
          go_ret
          first | exact ⟨rfl, B2⟩ | exact ⟨ret_b (by simp), B2⟩
        · obtain ⟨i, hi⟩ : ∃ i : Nat, Lib.indexByte s.data.toList 61 = i := ⟨(Lib.indexByte s.data.toList 61).toNat, by omega⟩
          have op := OY.out i hi (by omega)
          rw [hi] at h1 hix ⊢
          have HI := Lib.hid hi
          have hi1 : ¬ (i : Int) < 1 := h1
          have hi2 : (i : Int) ≤ s.size := hix.2
          have hlt := ix_lt hi
          rw [data_len] at hlt
          have hi3 : (i : Int) + 1 ≤ s.size := by omega
          clear hi h1 hix ON OY HEND HN0
          go_wp2_with (fail)
          refine (op _).mono ?_
          rintro e w2 ⟨rfl, hb⟩
          have B2 := below_step hbr hb hbr.size
          go_wp2_with (fail)
          refine (nm _).mono ?_
          rintro e w' ⟨rfl, rfl⟩
          go_wp2
          go_ret
          first | exact ⟨rfl, B2⟩ | exact ⟨ret_b (by simp), B2⟩
end Go.Proofs.YthndkplmhpbgdaaDoor
