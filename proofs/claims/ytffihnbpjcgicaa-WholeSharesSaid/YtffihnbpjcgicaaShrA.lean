/- What share.less, share.Delta and share.Post answer. -/
import Derived.Test.YtffihnbpjcgicaaSocE
namespace Go.Proofs.Ytffihnbpjcgicaa
open Go.RowKit Go.Sort
set_option linter.unusedVariables false
set_option linter.unusedSimpArgs false

def leB (a b c d : Int) : Bool := (amtB a && amtB c && amtB (a - c)) && (amtB b && amtB d && amtB (b - d))
theorem sub_any (a b : Int) (w : World) (r : Bool) (hr : (amtB a && amtB b && amtB (a - b)) = r) :
    Calls Try.prog 47 #[.int .i64 a, .int .i64 b] w fun e w' => e = .returned (.tuple #[.int .i64 (if r = true then a - b else 0), .int .i64 (if r = true then 0 else 10)]) ∧ Below w.heap.size w w' := by
  cases h1 : amtB a && amtB b
  · rw [h1] at hr
    obtain rfl : r = false := by rw [← hr]; rfl
    exact sub_args a b w h1
  · cases h2 : amtB (a - b)
    · rw [h1, h2] at hr
      obtain rfl : r = false := by rw [← hr]; rfl
      exact sub_less a b w h1 h2
    · rw [h1, h2] at hr
      obtain rfl : r = true := by rw [← hr]; rfl
      exact sub_ok a b w h1 h2
set_option maxHeartbeats 1000000 in
theorem less_any (a b c d : Int) (w : World) (r : Bool) (hr : leB a b c d = r) :
    Calls Try.prog 29 #[.agg #[.int .i64 a, .int .i64 b], .agg #[.int .i64 c, .int .i64 d]] w fun e w' => e = .returned (.tuple #[.agg #[.int .i64 (if r = true then a - c else 0), .int .i64 (if r = true then b - d else 0)], .int .i64 (if r = true then 0 else 10)]) ∧ Below w.heap.size w w' := by
  have K1 := ((bx_new w [.int .i64 a, .int .i64 b] 47).alloc (.cells #[.int .i64 c, .int .i64 d] 47)).alloc (.cells #[.int .i64 0, .int .i64 0] 47)
  have K2 := (bx_at (w.alloc (.cells #[.int .i64 a, .int .i64 b] 47)) [.int .i64 c, .int .i64 d] 47 (n := w.heap.size + 1) (by simp)).alloc (.cells #[.int .i64 0, .int .i64 0] 47)
  have K3 := bx_at ((w.alloc (.cells #[.int .i64 a, .int .i64 b] 47)).alloc (.cells #[.int .i64 c, .int .i64 d] 47)) [.int .i64 0, .int .i64 0] 47 (n := w.heap.size + 1 + 1) (by simp)
  have B1 := ((below_new w (.cells #[.int .i64 a, .int .i64 b] 47)).alloc (by simp) (.cells #[.int .i64 c, .int .i64 d] 47)).alloc (by simp; omega) (.cells #[.int .i64 0, .int .i64 0] 47)
  have c1 := fun w => sub_any a c w (amtB a && amtB c && amtB (a - c)) rfl
  have c2 := fun w => sub_any b d w (amtB b && amtB d && amtB (b - d)) rfl
  unfold leB at hr
  have k10 := K1.cell (i := 0) rfl
  have k20 := K2.cell (i := 0) rfl
  have hp : w.heap.size ≤ w.heap.size + 1 + 1 := by omega
  cases h1 : amtB a && amtB c && amtB (a - c)
  · rw [h1] at c1 hr
    obtain rfl : r = false := by rw [← hr]; rfl
    simp only [if_neg Bool.false_ne_true] at c1 ⊢
    clear h1 c2 hr
    go_enter Try.func29, Try.ntmps29
    go_wp2_with (fail)
    with_reducible refine (c1 _).mono ?_
    rintro e w1 ⟨rfl, NB⟩
    have B2 := below_step B1 NB B1.size
    replace K3 := K3.below NB
    have f0 := K3.fr 0
    have f1 := K3.fr 1
    have k30 := K3.cell (i := 0) rfl
    have k31 := K3.cell (i := 1) rfl
    have Z := (K3.set 0 (.int .i64 0)).set 1 (.int .i64 0)
    have z0 := Z.cell (i := 0) rfl
    have z1 := Z.cell (i := 1) rfl
    clear k10 k20 K1 K2 K3 Z NB B1
    go_wp2
    exact bodyPost_ret (v := .tuple #[.agg #[.int .i64 0, .int .i64 0], .int .i64 10]) (by simp [results, Try.results29, go_sem, z0, z1]) rfl ⟨rfl, (B2.setCell (p := ⟨w.heap.size + 1 + 1, 0, none⟩) hp _).setCell (p := ⟨w.heap.size + 1 + 1, 1, none⟩) hp _⟩
  · rw [h1] at c1 hr
    simp only [if_true] at c1
    cases h2 : amtB b && amtB d && amtB (b - d)
    · rw [h2] at c2 hr
      obtain rfl : r = false := by rw [← hr]; rfl
      simp only [if_neg Bool.false_ne_true] at c2 ⊢
      clear h1 h2 hr
      generalize a - c = u at *
      go_enter Try.func29, Try.ntmps29
      go_wp2_with (fail)
      with_reducible refine (c1 _).mono ?_
      rintro e w1 ⟨rfl, NB⟩
      have B2 := below_step B1 NB B1.size
      replace K1 := K1.below NB
      replace K2 := K2.below NB
      replace K3 := K3.below NB
      have k11 := K1.cell (i := 1) rfl
      have k21 := K2.cell (i := 1) rfl
      clear k10 k20 NB B1
      go_wp2_with (fail)
      with_reducible refine (c2 _).mono ?_
      rintro e w2 ⟨rfl, NB⟩
      have B3 := below_step B2 NB B2.size
      replace K3 := K3.below NB
      have f0 := K3.fr 0
      have f1 := K3.fr 1
      have k30 := K3.cell (i := 0) rfl
      have k31 := K3.cell (i := 1) rfl
      have Z := (K3.set 0 (.int .i64 0)).set 1 (.int .i64 0)
      have z0 := Z.cell (i := 0) rfl
      have z1 := Z.cell (i := 1) rfl
      clear k11 k21 K1 K2 K3 Z NB B2
      go_wp2
      exact bodyPost_ret (v := .tuple #[.agg #[.int .i64 0, .int .i64 0], .int .i64 10]) (by simp [results, Try.results29, go_sem, z0, z1]) rfl ⟨rfl, (B3.setCell (p := ⟨w.heap.size + 1 + 1, 0, none⟩) hp _).setCell (p := ⟨w.heap.size + 1 + 1, 1, none⟩) hp _⟩
    · rw [h2] at c2 hr
      obtain rfl : r = true := by rw [← hr]; rfl
      simp only [if_true] at c2 ⊢
      clear h1 h2 hr
      generalize a - c = u at *
      generalize b - d = v at *
      go_enter Try.func29, Try.ntmps29
      go_wp2_with (fail)
      with_reducible refine (c1 _).mono ?_
      rintro e w1 ⟨rfl, NB⟩
      have B2 := below_step B1 NB B1.size
      replace K1 := K1.below NB
      replace K2 := K2.below NB
      replace K3 := K3.below NB
      have k11 := K1.cell (i := 1) rfl
      have k21 := K2.cell (i := 1) rfl
      clear k10 k20 NB B1
      go_wp2_with (fail)
      with_reducible refine (c2 _).mono ?_
      rintro e w2 ⟨rfl, NB⟩
      have B3 := below_step B2 NB B2.size
      replace K3 := K3.below NB
      have f0 := K3.fr 0
      have f1 := K3.fr 1
      have k30 := K3.cell (i := 0) rfl
      have k31 := K3.cell (i := 1) rfl
      have Z := (K3.set 0 (.int .i64 u)).set 1 (.int .i64 v)
      have z0 := Z.cell (i := 0) rfl
      have z1 := Z.cell (i := 1) rfl
      clear k11 k21 K1 K2 K3 Z NB B2
      go_wp2
      exact bodyPost_ret (v := .tuple #[.agg #[.int .i64 u, .int .i64 v], .int .i64 0]) (by simp [results, Try.results29, go_sem, z0, z1]) rfl ⟨rfl, (B3.setCell (p := ⟨w.heap.size + 1 + 1, 0, none⟩) hp _).setCell (p := ⟨w.heap.size + 1 + 1, 1, none⟩) hp _⟩
/-- what is wrong with one of the differences -/
def dlE (X Y U V : Nat → Int) (i : Nat) : Int := if leB (X i) (Y i) (U i) (V i) = true then 0 else 10
def dlL (X Y U V : Nat → Int) (n : Nat) : List (Int × Int) := (List.range n).map fun i => (X i - U i, Y i - V i)
theorem dlL_succ (X Y U V : Nat → Int) (n : Nat) : shc (dlL X Y U V (n + 1)) = shc (dlL X Y U V n) ++ [.int .i64 (X n - U n), .int .i64 (Y n - V n)] := by
  unfold dlL
  rw [List.range_succ, List.map_append, shc_app]; rfl
theorem dl_ten (X Y U V : Nat → Int) (n : Nat) : firstE (dlE X Y U V) n = 0 ∨ firstE (dlE X Y U V) n = 10 := by
  induction n with
  | zero => exact .inl rfl
  | succ n ih =>
    show (if firstE _ n = 0 then dlE _ _ _ _ n else firstE _ n) = 0 ∨ (if firstE _ n = 0 then dlE _ _ _ _ n else firstE _ n) = 10
    split
    · unfold dlE; split <;> simp
    · exact ih
theorem delta_len (A B : Option Addr) (n m c d : Nat) (w : World) (h : n ≠ m) :
    Calls Try.prog 21 #[.slice A n c, .slice B m d] w fun e w' => e = .returned (.tuple #[.slice none 0 0, .int .i64 3]) ∧ Below w.heap.size w w' := by
  have q : ((n : Int) != (m : Int)) = true := by simp; omega
  go_enter Try.func21, Try.ntmps21
  go_wp2
  go_ret2
  exact ⟨rfl, Below.refl _ _⟩
set_option maxRecDepth 100000 in
set_option maxHeartbeats 8000000 in
theorem delta_any (A B : Option Addr) (n c d : Nat) (X Y U V : Nat → Int) (w : World) (hA : Shs w A n X Y) (hB : Shs w B n U V) (hn : n ≤ 1000) :
    Calls Try.prog 21 #[.slice A n c, .slice B n d] w fun e w' => (firstE (dlE X Y U V) n = 0 → ∃ v, e = .returned (.tuple #[v, .int .i64 0]) ∧ w'.ownsRow w.heap.size 47 2 v n (shc (dlL X Y U V n))) ∧ (firstE (dlE X Y U V) n ≠ 0 → e = .returned (.tuple #[.slice none 0 0, .int .i64 10])) ∧ Below w.heap.size w w' := by
  have q : ((n : Int) != (n : Int)) = false := by simp
  have Bw := Below.refl w.heap.size w
  obtain ⟨i0, hi0, hz0, hz1, hz2⟩ := info_parts infoSh
  have Hi := Lib.hid hi0
  have Hz := Lib.hid hz0
  clear hi0 hz0
  go_enter Try.func21, Try.ntmps21
  go_wp2
  go_loopw [6, 17] (fun u k W => ∃ i : Nat, i ≤ n ∧ k = .int .i64 i ∧ W.ownsRow w.heap.size 47 2 u i (shc (dlL X Y U V i)) ∧ firstE (dlE X Y U V) i = 0 ∧ Below w.heap.size w W) (fun _ k _ => n - (intOf k).toNat)
  case atStart => exact ⟨0, Nat.zero_le _, rfl, World.ownsRow_nil _ _ _ _, rfl, Bw⟩
  case round =>
    clear Bw
    obtain ⟨i, hi, rfl, HO, hf, hbX⟩ := hrel
    by_cases hlt : i < n
    · obtain ⟨b1, o1, rfl, hc1⟩ := hA (by omega)
      obtain ⟨b2, o2, rfl, hc2⟩ := hB (by omega)
      obtain ⟨x0, x1⟩ := hc1 i hlt
      obtain ⟨u0, u1⟩ := hc2 i hlt
      replace x0 := cell_later hbX x0
      replace x1 := cell_later hbX x1
      replace u0 := cell_later hbX u0
      replace u1 := cell_later hbX u1
      have HD : Hid (dlE X Y U V i = if leB (X i) (Y i) (U i) (V i) = true then 0 else 10) := Lib.hid rfl
      have HL := Lib.hid (dlL_succ X Y U V i)
      have cL := fun r hr w => less_any (X i) (Y i) (U i) (V i) w r hr
      have HF := Lib.hid hf
      have HOO := Lib.hid HO
      have hil : (i : Int) < (n : Int) := by omega
      have hzz := hbX.size
      clear hc1 hc2 hf HO hA hB
      generalize X i = x at *
      generalize Y i = y at *
      generalize U i = u at *
      generalize V i = v at *
      have S0 : wr.cell? ⟨b1, o1 + i * 2, none⟩ = some (.int .i64 x) ∧ wr.cell? ⟨b1, o1 + i * 2 + 1, none⟩ = some (.int .i64 y) ∧ wr.cell? ⟨b2, o2 + i * 2, none⟩ = some (.int .i64 u) ∧ wr.cell? ⟨b2, o2 + i * 2 + 1, none⟩ = some (.int .i64 v) ∧ Below wr.heap.size wr wr := ⟨x0, x1, u0, u1, Below.refl _ _⟩
      have S1 : wr.drew.cell? ⟨b1, o1 + i * 2, none⟩ = some (.int .i64 x) ∧ wr.drew.cell? ⟨b1, o1 + i * 2 + 1, none⟩ = some (.int .i64 y) ∧ wr.drew.cell? ⟨b2, o2 + i * 2, none⟩ = some (.int .i64 u) ∧ wr.drew.cell? ⟨b2, o2 + i * 2 + 1, none⟩ = some (.int .i64 v) ∧ Below wr.heap.size wr wr.drew := ⟨x0, x1, u0, u1, (Below.refl _ _).drew⟩
      have mk : ∀ V : World, Below wr.heap.size wr V → (V.cell? ⟨b1, o1 + i * 2, none⟩ = some (.int .i64 x) ∧ V.cell? ⟨b1, o1 + i * 2 + 1, none⟩ = some (.int .i64 y) ∧ V.cell? ⟨b2, o2 + i * 2, none⟩ = some (.int .i64 u) ∧ V.cell? ⟨b2, o2 + i * 2 + 1, none⟩ = some (.int .i64 v) ∧ Below wr.heap.size wr V) := fun V hb => ⟨cell_later hb x0, cell_later hb x1, cell_later hb u0, cell_later hb u1, hb⟩
      have ZC : Bx (wr.alloc (.cells #[.int .i64 0, .int .i64 0] 47)).drew wr.heap.size 47 [.int .i64 0, .int .i64 0] := bx_new wr [.int .i64 0, .int .i64 0] 47
      cases hq : leB x y u v
      · have cL1 := cL false hq
        have hfe := first_stop (n := n) hlt HF.out (by rw [HD.out, hq]; simp)
        rw [HD.out, hq] at hfe
        have HFE := Lib.hid hfe
        clear cL hq hfe
        simp only [if_neg Bool.false_ne_true] at cL1
        go_wp2
        go_region_held3 (fun X => X.cell? ⟨b1, o1 + i * 2, none⟩ = some (.int .i64 x) ∧ X.cell? ⟨b1, o1 + i * 2 + 1, none⟩ = some (.int .i64 y) ∧ X.cell? ⟨b2, o2 + i * 2, none⟩ = some (.int .i64 u) ∧ X.cell? ⟨b2, o2 + i * 2 + 1, none⟩ = some (.int .i64 v) ∧ Below wr.heap.size wr X)
          ((first | exact S1 | assumption | exact mk _ (((below_new _ _)).drew) | exact mk _ ((SW.2.2.2.2.setCell (Nat.le_refl _) _).setCell (Nat.le_refl _) _) | exact mk _ (SW.2.2.2.2.alloc SW.2.2.2.2.size _)))
          (first
            | (go_at_call 29; with_reducible refine (cL1 _).mono ?_; rintro e w6 ⟨rfl, hb⟩; have SW : w6.cell? ⟨b1, o1 + i * 2, none⟩ = some (.int .i64 x) ∧ w6.cell? ⟨b1, o1 + i * 2 + 1, none⟩ = some (.int .i64 y) ∧ w6.cell? ⟨b2, o2 + i * 2, none⟩ = some (.int .i64 u) ∧ w6.cell? ⟨b2, o2 + i * 2 + 1, none⟩ = some (.int .i64 v) ∧ Below wr.heap.size wr w6 := mk _ (by first | exact below_step ((Below.refl _ _).drew) hb (Nat.le_refl _) | exact below_step ((below_new _ _).drew) hb (by simp)); have ZW : w6.cell? ⟨wr.heap.size, 0, none⟩ = some (.int .i64 0) ∨ True := .inr trivial; first | (have ZW := ZC.below hb; have z0 := ZW.cell (i := 0) rfl; have z1 := ZW.cell (i := 1) rfl; have z2 := ZW.fr 0; have z3 := ZW.fr 1) | skip))
        all_goals
          rename_i hH
          refine held_go (fun X => Below wr.heap.size wr X) hH.2.2.2.2 ?_
          intro W9 H9
          have B9 := below_step hbX H9 hbX.size
          clear S0 S1 mk ZC
          go_wp2
          go_ret2
          refine ⟨fun h0 => ?_, fun _ => rfl, B9⟩
          exfalso; rw [HFE.out] at h0; simp at h0
      · have cL1 := cL true hq
        have HFN := Lib.hid (first_succ HF.out (by rw [HD.out, hq]; rfl))
        clear cL hq
        simp only [if_true] at cL1
        go_wp2
        go_region_held3 (fun X => X.cell? ⟨b1, o1 + i * 2, none⟩ = some (.int .i64 x) ∧ X.cell? ⟨b1, o1 + i * 2 + 1, none⟩ = some (.int .i64 y) ∧ X.cell? ⟨b2, o2 + i * 2, none⟩ = some (.int .i64 u) ∧ X.cell? ⟨b2, o2 + i * 2 + 1, none⟩ = some (.int .i64 v) ∧ Below wr.heap.size wr X)
          ((first | exact S1 | assumption | exact mk _ (((below_new _ _)).drew) | exact mk _ ((SW.2.2.2.2.setCell (Nat.le_refl _) _).setCell (Nat.le_refl _) _) | exact mk _ (SW.2.2.2.2.alloc SW.2.2.2.2.size _)))
          (first
            | (go_at_call 29; with_reducible refine (cL1 _).mono ?_; rintro e w6 ⟨rfl, hb⟩; have SW : w6.cell? ⟨b1, o1 + i * 2, none⟩ = some (.int .i64 x) ∧ w6.cell? ⟨b1, o1 + i * 2 + 1, none⟩ = some (.int .i64 y) ∧ w6.cell? ⟨b2, o2 + i * 2, none⟩ = some (.int .i64 u) ∧ w6.cell? ⟨b2, o2 + i * 2 + 1, none⟩ = some (.int .i64 v) ∧ Below wr.heap.size wr w6 := mk _ (by first | exact below_step ((Below.refl _ _).drew) hb (Nat.le_refl _) | exact below_step ((below_new _ _).drew) hb (by simp)); have ZW : w6.cell? ⟨wr.heap.size, 0, none⟩ = some (.int .i64 0) ∨ True := .inr trivial; first | (have ZW := ZC.below hb; have z0 := ZW.cell (i := 0) rfl; have z1 := ZW.cell (i := 1) rfl; have z2 := ZW.fr 0; have z3 := ZW.fr 1) | skip))
        all_goals
          rename_i hH
          first
            | refine held_go (fun X => Below wr.heap.size wr X ∧ Bx X (w6.heap.size) 47 [.int .i64 (x - u), .int .i64 (y - v)]) ⟨hH.2.2.2.2, bx_new w6 [.int .i64 (x - u), .int .i64 (y - v)] _⟩ ?_
            | refine held_go (fun X => Below wr.heap.size wr X ∧ Bx X (wr.heap.size) 47 [.int .i64 (x - u), .int .i64 (y - v)]) ⟨hH.2.2.2.2, (ZW.set 0 (.int .i64 (x - u))).set 1 (.int .i64 (y - v))⟩ ?_
          rintro W9 ⟨H9, K9⟩
          have B9 := below_step hbX H9 hbX.size
          have k90 := K9.cell (i := 0) rfl
          have k91 := K9.cell (i := 1) rfl
          have HO9 := Lib.hid (own_below HOO.out H9)
          have Bc := B9.alloc B9.size (.cells #[.int .i64 (x - u), .int .i64 (y - v)] 47)
          have hcA := bx_add (bx_new W9 [.int .i64 (x - u), .int .i64 (y - v)] 47)
          have hc2 : ∀ v_1 ∈ ([.int .i64 (x - u), .int .i64 (y - v)] : List Value), v_1.oneCell' = true := by simp [Value.oneCell']
          have hc3 : i + 1 ≤ maxLen := by unfold maxLen; omega
          have hc4 : (i + 1) * 16 ≤ 140737488355328 := by omega
          have hc5 := Bc.size
          clear S0 S1 mk ZC
          go_wp2_with (at_builtin; first
           | (refine wpList_append_own_at _ rfl _ _ 33 rfl w.heap.size 47 i0 (.agg #[.int .i64 0, .int .i64 0]) 2 16 Try.underlying33 Hi.out Hz.out hz1 hz2 rfl (by decide) _ _ _ rfl (HO9.out.alloc _) ⟨W9.heap.size, 0, none⟩ 1 1 [.int .i64 (x - u), .int .i64 (y - v)] rfl rfl hcA hc2 hc3 hc4 hc5 ?_
              intro va wa hown hg _ _
              have OA : wa.ownsRow w.heap.size 47 2 va (i + 1) (shc (dlL X Y U V (i + 1))) := Eq.mpr (by rw [HL.out]) hown
              have Ba := Bc.grown hg hc5 (fun k hk => (HO9.out.lt k hk).1)
              clear hown hg))
          refine ⟨⟨i + 1, by omega, by go_num, OA, HFN.out, Ba⟩, ?_⟩
          simp [intOf]; omega
    · obtain rfl : i = n := by omega
      have hnl : ¬ (i : Int) < (i : Int) := by omega
      have HF := Lib.hid hf
      have HOO := Lib.hid HO
      clear hf HO hA hB
      go_wp2
      go_ret2
      exact ⟨fun _ => ⟨_, rfl, HOO.out⟩, fun h0 => absurd HF.out h0, hbX⟩
end Go.Proofs.Ytffihnbpjcgicaa
