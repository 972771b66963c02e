/- What share's Employee, Employer and Cost answer, and the laws' own test of rows. -/
import Derived.Test.YtgdalejccbhjcaaDoorShrC
import Derived.Test.YtgdalejccbhjcaaDoorText
import Derived.Deep.AppendLies
namespace Go.Proofs.YtgdalejccbhjcaaDoor
open Go.RowKit Go.Sort
set_option linter.unusedVariables false
set_option linter.unusedSimpArgs false

theorem add_any (a b : Int) (w : World) (r : Bool) (hr : (amtB a && amtB b && amtB (a + b)) = r) :
    Calls Tryd.prog 29 #[.int .i64 a, .int .i64 b] w fun e w' => e = .returned (.tuple #[.int .i64 (if r = true then a + b else 0), .int .i64 (if r = true then 0 else 10)]) ∧ Below w.heap.size w w' := by
  cases r
  · exact add_bad a b w hr
  · simp only [Bool.and_eq_true] at hr
    exact add_ok a b w (by rw [hr.1.1, hr.1.2]; rfl) hr.2
/-- a side of all, and whether all may be -/
def tot0 (X Y Z : Nat → Int) (n : Nat) : Int := if okT X Y n = true then tsm Z n else 0
def totE (X Y : Nat → Int) (n : Nat) : Int := if okT X Y n = true then 0 else 10
theorem totV_is (X Y : Nat → Int) (n : Nat) : totV X Y n = .tuple #[.agg #[.int .i64 (tot0 X Y X n), .int .i64 (tot0 X Y Y n)], .int .i64 (totE X Y n)] := rfl
theorem empr_any (A : Option Addr) (n c : Nat) (w : World) (X Y : Nat → Int) (h : Shs w A n X Y) (hn : n ≤ 4611686018427387904) :
    Calls Tryd.prog 72 #[.slice A n c] w fun e w' => e = .returned (.tuple #[.int .i64 (tot0 X Y Y n), .int .i64 (totE X Y n)]) ∧ Below w.heap.size w w' := by
  have cS := sides_any A n c w X Y h hn
  rw [totV_is] at cS
  generalize tot0 X Y X n = u at *
  generalize tot0 X Y Y n = v at *
  generalize totE X Y n = r at *
  clear h
  go_enter Tryd.func72, Tryd.ntmps72
  go_wp2_with (fail)
  with_reducible refine cS.mono ?_
  rintro e w1 ⟨rfl, hb⟩
  have K := bx_new w1 [.int .i64 u, .int .i64 v] 71
  have B2 := below_step hb (below_new w1 (.cells #[.int .i64 u, .int .i64 v] 71)) hb.size
  have k1 := K.cell (i := 1) rfl
  clear K
  go_wp2
  go_ret2
  exact ⟨rfl, B2⟩
theorem cost_bad (x : Int) (A : Option Addr) (n c : Nat) (w : World) (X Y : Nat → Int) (h : Shs w A n X Y) (hn : n ≤ 4611686018427387904) (ho : okT X Y n = false) :
    Calls Tryd.prog 45 #[.int .i64 x, .slice A n c] w fun e w' => e = .returned (.tuple #[.int .i64 0, .int .i64 10]) ∧ Below w.heap.size w w' := by
  have cS := empr_any A n c w X Y h hn
  rw [show tot0 X Y Y n = 0 by simp [tot0, ho], show totE X Y n = 10 by simp [totE, ho]] at cS
  clear h ho
  go_enter Tryd.func45, Tryd.ntmps45
  go_wp2_with (fail)
  with_reducible refine cS.mono ?_
  rintro e w1 ⟨rfl, hb⟩
  go_wp2
  go_ret2
  exact ⟨rfl, hb⟩
theorem cost_ok (x : Int) (A : Option Addr) (n c : Nat) (w : World) (X Y : Nat → Int) (h : Shs w A n X Y) (hn : n ≤ 4611686018427387904) (ho : okT X Y n = true) (r : Bool) (hr : (amtB x && amtB (tsm Y n) && amtB (x + tsm Y n)) = r) :
    Calls Tryd.prog 45 #[.int .i64 x, .slice A n c] w fun e w' => e = .returned (.tuple #[.int .i64 (if r = true then x + tsm Y n else 0), .int .i64 (if r = true then 0 else 10)]) ∧ Below w.heap.size w w' := by
  have cS := empr_any A n c w X Y h hn
  rw [show tot0 X Y Y n = tsm Y n by simp [tot0, ho], show totE X Y n = 0 by simp [totE, ho]] at cS
  have cA := fun w => add_any x (tsm Y n) w r hr
  generalize (if r = true then x + tsm Y n else 0) = u at *
  generalize (if r = true then (0 : Int) else 10) = v at *
  generalize tsm Y n = t at *
  clear h ho hr
  go_enter Tryd.func45, Tryd.ntmps45
  go_wp2_with (fail)
  with_reducible refine cS.mono ?_
  rintro e w1 ⟨rfl, hb⟩
  go_wp2_with (fail)
  with_reducible refine (cA _).mono ?_
  rintro e w2 ⟨rfl, hb2⟩
  have B2 := below_step hb hb2 hb.size
  go_wp2
  go_ret2
  exact ⟨rfl, B2⟩
/-- may all be? -/
def allS (X Y : Nat → Int) : Nat → Bool
  | 0 => true
  | k + 1 => allS X Y k && (amtB (X k) && amtB (Y k))
theorem allS_stop {X Y : Nat → Int} {k n : Nat} (hk : k < n) (h : (amtB (X k) && amtB (Y k)) = false) : allS X Y n = false := by
  induction n with
  | zero => omega
  | succ n ih =>
    show (allS X Y n && _) = false
    by_cases e : k = n
    · subst e; rw [h]; simp
    · rw [ih (by omega)]; rfl
set_option maxHeartbeats 1000000 in
theorem lright_any (A : Option Addr) (n c : Nat) (w : World) (X Y : Nat → Int) (h : Shs w A n X Y) (hn : n ≤ 4611686018427387904) :
    Calls Tryd.prog 21 #[.slice A n c] w fun e w' => e = .returned (.bool (allS X Y n)) ∧ Below w.heap.size w w' := by
  have Bw := Below.refl w.heap.size w
  go_enter Tryd.func21, Tryd.ntmps21
  go_wp2
  go_loopw [7] (fun k W => ∃ i : Nat, i ≤ n ∧ k = .int .i64 i ∧ allS X Y i = true ∧ Below w.heap.size w W) (fun k _ => n - (intOf k).toNat)
  case atStart => exact ⟨0, Nat.zero_le _, rfl, rfl, Bw⟩
  case round =>
    clear Bw
    obtain ⟨i, hi, rfl, ha, hb⟩ := hrel
    by_cases hlt : i < n
    · obtain ⟨b, o, rfl, hc⟩ := h (by omega)
      obtain ⟨c0, c1⟩ := hc i hlt
      replace c0 := cell_later hb c0
      replace c1 := cell_later hb c1
      have hil : (i : Int) < (n : Int) := by omega
      have HS : Hid (allS X Y (i + 1) = (allS X Y i && (amtB (X i) && amtB (Y i)))) := Lib.hid rfl
      have HST := Lib.hid (fun h => allS_stop (X := X) (Y := Y) hlt h)
      have HA := Lib.hid ha
      have B2 := below_step hb (below_new wr (.cells #[.int .i64 (X i), .int .i64 (Y i)] 71)) hb.size
      clear hc h ha
      cases hx : amtB (X i)
      · have hf : allS X Y n = false := HST.out (by rw [hx]; rfl)
        have HF := Lib.hid hf
        have h1 := amtB_no hx
        have key : decide (100000000000 < X i) = true ∨ (decide (100000000000 < X i) = false ∧ decide (X i < -100000000000) = true) := by
          simp only [decide_eq_true_eq, decide_eq_false_iff_not]; omega
        clear h1 hf hx
        rcases key with p1 | ⟨p1, p2⟩
        all_goals
          go_wp2
          go_ret
          exact ⟨ret_b HF.out.symm, B2⟩
      · have h1 := amtB_yes hx
        have p1 : decide (100000000000 < X i) = false := decide_eq_false (by omega)
        have p2 : decide (X i < -100000000000) = false := decide_eq_false (by omega)
        cases hy : amtB (Y i)
        · have hf : allS X Y n = false := HST.out (by rw [hx, hy]; rfl)
          have HF := Lib.hid hf
          have h2 := amtB_no hy
          have key : decide (100000000000 < Y i) = true ∨ (decide (100000000000 < Y i) = false ∧ decide (Y i < -100000000000) = true) := by
            simp only [decide_eq_true_eq, decide_eq_false_iff_not]; omega
          clear h1 h2 hf hx hy
          rcases key with p3 | ⟨p3, p4⟩
          all_goals
            go_wp2
            go_ret
            exact ⟨ret_b HF.out.symm, B2⟩
        · have h2 := amtB_yes hy
          have p3 : decide (100000000000 < Y i) = false := decide_eq_false (by omega)
          have p4 : decide (Y i < -100000000000) = false := decide_eq_false (by omega)
          have HN : Hid (allS X Y (i + 1) = true) := Lib.hid (by rw [HS.out, HA.out, hx, hy]; rfl)
          clear h1 h2 hx hy
          go_wp2
          refine ⟨⟨i + 1, by omega, by go_num, HN.out, B2⟩, ?_⟩
          simp [intOf]; omega
    · obtain rfl : i = n := by omega
      have HA := Lib.hid ha
      have hnl : ¬ (i : Int) < (i : Int) := by omega
      clear ha h
      go_wp2
      go_ret
      exact ⟨ret_b HA.out.symm, hb⟩
theorem infoStr : (Tryd.prog.info? 9).map (fun i => (i.zero, i.size, i.bytes)) = some (some (.string ⟨#[]⟩), 1, 16) := by kernel_rfl
theorem one_str (x : ByteArray) : ∀ u ∈ [Value.string x], u.oneCell' = true := by intro u hu; simp only [List.mem_singleton] at hu; subst hu; rfl
theorem full_is : ((⟨#[102, 117, 110, 100]⟩ ++ ⟨#[32]⟩ ++ ⟨#[45, 48, 46, 48, 50]⟩ ++ ⟨#[32]⟩ ++ ⟨#[48, 46, 48, 48]⟩) : ByteArray) = ⟨#[102, 117, 110, 100, 32, 45, 48, 46, 48, 50, 32, 48, 46, 48, 48]⟩ := by decide +kernel
theorem text_a (w : World) (h : Tab w) : Calls Tryd.prog 36 #[.int .i64 (-2)] w fun e w' => e = .returned (.string ⟨#[45, 48, 46, 48, 50]⟩) ∧ Below w.heap.size w w' := by
  have := text_any (-2) w (by omega) (by omega) h
  rw [show (⟨(txt (-2)).toArray⟩ : ByteArray) = ⟨#[45, 48, 46, 48, 50]⟩ by decide +kernel] at this
  exact this
theorem text_b (w : World) (h : Tab w) : Calls Tryd.prog 36 #[.int .i64 0] w fun e w' => e = .returned (.string ⟨#[48, 46, 48, 48]⟩) ∧ Below w.heap.size w w' := by
  have := text_any 0 w (by omega) (by omega) h
  rw [show (⟨(txt 0).toArray⟩ : ByteArray) = ⟨#[48, 46, 48, 48]⟩ by decide +kernel] at this
  exact this
set_option maxRecDepth 100000 in
set_option maxHeartbeats 4000000 in
theorem lines_one (cb g gc : Nat) (w : World) (hT : Tab w) (hc : w.cell? ⟨cb, 0, none⟩ = some (.string ⟨#[102, 117, 110, 100]⟩)) (r0 : w.cell? ⟨g, 0, none⟩ = some (.int .i64 (-2))) (r1 : w.cell? ⟨g, 1, none⟩ = some (.int .i64 0)) :
    Calls Tryd.prog 22 #[.agg #[.slice none 0 0, .slice (some ⟨cb, 0, none⟩) 1 1, .slice none 0 0, .int .i64 0, .int .i64 0], .slice (some ⟨g, 0, none⟩) 1 gc] w fun e w' => ∃ q c, e = .returned (.slice (some ⟨q, 0, none⟩) 1 c) ∧ w'.cell? ⟨q, 0, none⟩ = some (.string ⟨#[102, 117, 110, 100, 32, 45, 48, 46, 48, 50, 32, 48, 46, 48, 48]⟩) ∧ Below w.heap.size w w' := by
  have K1 := bx_new w [.slice none 0 0, .slice (some ⟨cb, 0, none⟩) 1 1, .slice none 0 0, .int .i64 0, .int .i64 0] 59
  have B1 := below_new w (.cells #[.slice none 0 0, .slice (some ⟨cb, 0, none⟩) 1 1, .slice none 0 0, .int .i64 0, .int .i64 0] 59)
  replace hT := hT.below B1
  replace hc := cell_later B1 hc
  replace r0 := cell_later B1 r0
  replace r1 := cell_later B1 r1
  have k1 := K1.cell (i := 1) rfl
  obtain ⟨i0, hi0, hz0, hz1, hz2⟩ := info_parts infoStr
  go_enter Tryd.func22, Tryd.ntmps22
  go_wp2_with (fail)
  generalize w.alloc (.cells #[.slice none 0 0, .slice (some ⟨cb, 0, none⟩) 1 1, .slice none 0 0, .int .i64 0, .int .i64 0] 59) = w1 at *
  go_loopw [5, 16] (fun u k W => (k = .int .i64 0 ∧ u = .slice none 0 0 ∧ W = w1) ∨ (k = .int .i64 1 ∧ Below w.heap.size w W ∧ ∃ q c, u = .slice (some ⟨q, 0, none⟩) 1 c ∧ W.cell? ⟨q, 0, none⟩ = some (.string ⟨#[102, 117, 110, 100, 32, 45, 48, 46, 48, 50, 32, 48, 46, 48, 48]⟩))) (fun _ k _ => 1 - (intOf k).toNat)
  case atStart => exact .inl ⟨rfl, rfl, rfl⟩
  case round =>
    rcases hrel with ⟨rfl, rfl, rfl⟩ | ⟨rfl, hb, q, c, rfl, hq⟩
    · have K3 := bx_new wr [.int .i64 (-2), .int .i64 0] 71
      have NB := below_new wr (.cells #[.int .i64 (-2), .int .i64 0] 71)
      have B3 := below_step B1 NB B1.size
      have hT3 := hT.below NB
      have hc3 := cell_later NB hc
      have k13 := cell_later NB k1
      go_wp2
      clear r0 r1 hc k1 hT K1
      have s0 := K3.cell (i := 0) rfl
      have s1 := K3.cell (i := 1) rfl
      generalize wr.alloc (.cells #[.int .i64 (-2), .int .i64 0] 71) = W3 at *
      generalize wr.heap.size = sb at *
      have S1 : W3.drew.cell? ⟨w.heap.size, 1, none⟩ = some (.slice (some ⟨cb, 0, none⟩) 1 1) ∧ W3.drew.cell? ⟨cb, 0, none⟩ = some (.string ⟨#[102, 117, 110, 100]⟩) ∧ W3.drew.cell? ⟨sb, 0, none⟩ = some (.int .i64 (-2)) ∧ W3.drew.cell? ⟨sb, 1, none⟩ = some (.int .i64 0) ∧ Below W3.heap.size W3 W3.drew := ⟨k13, hc3, s0, s1, (Below.refl _ _).drew⟩
      have mk : ∀ V : World, Below W3.heap.size W3 V → (V.cell? ⟨w.heap.size, 1, none⟩ = some (.slice (some ⟨cb, 0, none⟩) 1 1) ∧ V.cell? ⟨cb, 0, none⟩ = some (.string ⟨#[102, 117, 110, 100]⟩) ∧ V.cell? ⟨sb, 0, none⟩ = some (.int .i64 (-2)) ∧ V.cell? ⟨sb, 1, none⟩ = some (.int .i64 0) ∧ Below W3.heap.size W3 V) := fun V hb => ⟨cell_later hb k13, cell_later hb hc3, cell_later hb s0, cell_later hb s1, hb⟩
      have hT4 : Tab W3.drew := hT3.below (Below.refl _ _).drew
      go_region_held3 (fun X => X.cell? ⟨w.heap.size, 1, none⟩ = some (.slice (some ⟨cb, 0, none⟩) 1 1) ∧ X.cell? ⟨cb, 0, none⟩ = some (.string ⟨#[102, 117, 110, 100]⟩) ∧ X.cell? ⟨sb, 0, none⟩ = some (.int .i64 (-2)) ∧ X.cell? ⟨sb, 1, none⟩ = some (.int .i64 0) ∧ Below W3.heap.size W3 X)
        ((first | exact S1 | assumption | exact mk _ hw | exact mk _ (hw.alloc hw.size _)))
        (first
          | (go_at_call 36; with_reducible refine (text_a _ hT4).mono ?_; rintro e w6 ⟨rfl, hb⟩; have hw := below_step ((Below.refl W3.heap.size W3).drew) hb (Nat.le_refl _); have hT5 := hT3.below hw)
          | (go_at_call 36; with_reducible refine (text_b _ hT4).mono ?_; rintro e w6 ⟨rfl, hb⟩; have hw := below_step ((Below.refl W3.heap.size W3).drew) hb (Nat.le_refl _); have hT5 := hT3.below hw)
          | (go_at_call 36; with_reducible refine (text_a _ hT5).mono ?_; rintro e w7 ⟨rfl, hb⟩; have hw := below_step hw hb hw.size)
          | (go_at_call 36; with_reducible refine (text_b _ hT5).mono ?_; rintro e w7 ⟨rfl, hb⟩; have hw := below_step hw hb hw.size)
          | (refine step_append_lies _ (by rfl) (.tmp 21) (.tmp 38) 50 (by rfl) w.heap.size 9 i0 (.string ⟨#[]⟩) 1 16 Tryd.underlying50 hi0 hz0 hz1 hz2 (by rfl) (by decide) (.slice none 0 0) 0 [] (by rfl) (World.ownsRow_nil _ _ _ _) ⟨w7.heap.size, 0, none⟩ 1 1 [_] (by rfl) (by rfl) (Go.cell_one_new _ _ _) (one_str _) (by decide) (by unfold maxLen; omega) (by omega) (below_step B3 (hw.alloc hw.size _) B3.size).size _ rfl ?_; intro g9 cap9 w9 hown9 hgrow hat hlt9; have hw9 := (hw.alloc hw.size _).grown hgrow (hw.alloc hw.size _).size (fun k hk => by simp [Value.ownBlock] at hk); have hw := hw9))
      all_goals
        have hq9 := own_cells hown9 (j := 0) (u := .string (⟨#[102, 117, 110, 100]⟩ ++ ⟨#[32]⟩ ++ ⟨#[45, 48, 46, 48, 50]⟩ ++ ⟨#[32]⟩ ++ ⟨#[48, 46, 48, 48]⟩)) rfl
        rw [full_is] at hq9
        have B9 := below_step B3 hw9 B3.size
        clear S1 mk
        go_wp2
        refine ⟨.inr ⟨rfl, B9, g9, cap9, rfl, hq9⟩, ?_⟩
        simp [intOf]
    · go_wp2
      go_ret
      exact ⟨q, c, rfl, hq, hb⟩
end Go.Proofs.YtgdalejccbhjcaaDoor
