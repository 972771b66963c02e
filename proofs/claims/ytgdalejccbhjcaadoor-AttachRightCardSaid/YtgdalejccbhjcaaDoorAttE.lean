/- What 'may' answers: may orders be, in the order in which they stand? -/
import Derived.Test.YtgdalejccbhjcaaDoorAttD
namespace Go.Proofs.YtgdalejccbhjcaaDoor
open Go.RowKit Go.Sort
set_option linter.unusedVariables false
set_option linter.unusedSimpArgs false

def stB (s : Sta) : Bool := decide (s.chk = 0) && decide (0 ≤ s.tk) && decide (0 ≤ s.ar) && decide (s.tk ≤ 100000000000) && decide (s.ar ≤ 100000000000)
def ahB (a b : Sta) : Bool := !(decide (b.pr < a.pr) || (decide (a.pr = b.pr) && decide (b.id ≤ a.id)))
def mayK (g : Nat → Sta) : Nat → Bool
  | 0 => true
  | k + 1 => mayK g k && (stB (g k) && (decide (k = 0) || ahB (g (k - 1)) (g k)))
def mayB (g : Nat → Sta) (n : Nat) : Bool := mayK g n && decide (n ≤ 20)
theorem mayK_stop {g : Nat → Sta} {k n : Nat} (hk : k < n) (h : (stB (g k) && (decide (k = 0) || ahB (g (k - 1)) (g k))) = false) : mayB g n = false := by
  have : mayK g n = false := by
    obtain ⟨m, rfl⟩ : ∃ m, n = k + 1 + m := ⟨n - k - 1, by omega⟩
    induction m with
    | zero => show (mayK g k && _) = false; rw [h]; simp
    | succ m ih =>
      have := ih (by omega)
      show (mayK g (k + 1 + m) && _) = false
      rw [this]; rfl
  unfold mayB
  rw [this]; rfl
theorem stB_ok {s : Sta} (h : stB s = true) : s.OK := by
  simp only [stB, Bool.and_eq_true, decide_eq_true_eq] at h
  exact ⟨h.1.1.1.1, ⟨h.1.1.1.2, h.1.2⟩, h.1.1.2, h.2⟩
theorem mayK_ok {g : Nat → Sta} {n : Nat} (h : mayK g n = true) : ∀ i, i < n → (g i).OK := by
  induction n with
  | zero => intro i hi; omega
  | succ n ih =>
    have h' : (mayK g n && (stB (g n) && (decide (n = 0) || ahB (g (n - 1)) (g n)))) = true := h
    simp only [Bool.and_eq_true] at h'
    intro i hi
    by_cases hin : i < n
    · exact ih h'.1 i hin
    · obtain rfl : i = n := by omega
      exact stB_ok h'.2.1
theorem mayB_ok {g : Nat → Sta} {n : Nat} (h : mayB g n = true) : n ≤ 20 ∧ ∀ i, i < n → (g i).OK := by
  simp only [mayB, Bool.and_eq_true, decide_eq_true_eq] at h
  exact ⟨h.2, mayK_ok h.1⟩
set_option maxRecDepth 100000 in
set_option maxHeartbeats 8000000 in
theorem may_any (A : Option Addr) (n c : Nat) (g : Nat → Sta) (w : World) (h : Ors w A n g) (hn : n ≤ 9223372036854775807) (v : Bool) (hv : mayB g n = v) :
    Calls Tryd.prog 10 #[.slice A n c] w fun e w' => e = .returned (.bool v) ∧ Below w.heap.size w w' := by
  have Bw := Below.refl w.heap.size w
  have HV := Lib.hid hv
  clear hv
  go_enter Tryd.func10, Tryd.ntmps10
  go_wp2
  go_loopw [7] (fun k W => ∃ i : Nat, i ≤ n ∧ k = .int .i64 i ∧ mayK g i = true ∧ Below w.heap.size w W) (fun k _ => n - (intOf k).toNat)
  case atStart => exact ⟨0, Nat.zero_le _, rfl, rfl, Bw⟩
  case round =>
    clear Bw
    obtain ⟨i, hi, rfl, hok, hB⟩ := hrel
    by_cases hlt : i < n
    · obtain ⟨b, o, rfl, hc⟩ := id (h (by omega))
      obtain ⟨c0, c1, c2, c3, c4, c5, c6⟩ := (hc i hlt).below hB
      have hil : (i : Int) < (n : Int) := by omega
      have hi1 : i + 1 ≤ n := by omega
      have HST : Hid ((stB (g i) && (decide (i = 0) || ahB (g (i - 1)) (g i))) = false → v = false) := Lib.hid (fun h0 => by rw [← HV.out]; exact mayK_stop hlt h0)
      have HGO : Hid ((stB (g i) && (decide (i = 0) || ahB (g (i - 1)) (g i))) = true → mayK g (i + 1) = true) := Lib.hid (fun h0 => by show (mayK g i && _) = true; rw [hok, h0]; rfl)
      have hsB : stB (g i) = (decide ((g i).chk = 0) && decide (0 ≤ (g i).tk) && decide (0 ≤ (g i).ar) && decide ((g i).tk ≤ 100000000000) && decide ((g i).ar ≤ 100000000000)) := rfl
      have cC := fun W => ocheck_any (g i).id (g i).pr (g i).am (g i).rt (g i).tot W (g i).chk rfl
      have hprev : 0 < i → ∃ pi pp, wr.cell? ⟨b, o + (i - 1) * 7, none⟩ = some (.int .i64 pi) ∧ wr.cell? ⟨b, o + (i - 1) * 7 + 1, none⟩ = some (.int .i64 pp) ∧ pi = (g (i - 1)).id ∧ pp = (g (i - 1)).pr := fun h0 => by
        obtain ⟨d0, d1, _⟩ := (hc (i - 1) (by omega)).below hB
        exact ⟨_, _, d0, d1, rfl, rfl⟩
      have haB : ahB (g (i - 1)) (g i) = !(decide ((g i).pr < (g (i - 1)).pr) || (decide ((g (i - 1)).pr = (g i).pr) && decide ((g i).id ≤ (g (i - 1)).id))) := rfl
      have HP := Lib.hid hprev
      have HA := Lib.hid haB
      have HS := Lib.hid hsB
      clear hprev haB hsB hc h hok

      generalize (g i).id = yi at *
      generalize (g i).pr = yp at *
      generalize (g i).am = ya at *
      generalize (g i).rt = yr at *
      generalize (g i).tot = yt at *
      generalize (g i).tk = yq at *
      generalize (g i).ar = yz at *
      generalize (g i).chk = ck at *
      have K := bx_new wr [.int .i64 yi, .int .i64 yp, .int .i64 ya, .int .i64 yr, .int .i64 yt, .int .i64 yq, .int .i64 yz] 32
      have NB := below_new wr (.cells #[.int .i64 yi, .int .i64 yp, .int .i64 ya, .int .i64 yr, .int .i64 yt, .int .i64 yq, .int .i64 yz] 32)
      have B2 := below_step hB NB hB.size
      have k0 := K.cell (i := 0) rfl
      have k1 := K.cell (i := 1) rfl
      have k2 := K.cell (i := 2) rfl
      have k3 := K.cell (i := 3) rfl
      have k4 := K.cell (i := 4) rfl
      have k5 := K.cell (i := 5) rfl
      have k6 := K.cell (i := 6) rfl
      go_wp2_with (fail)
      generalize wr.alloc (.cells #[.int .i64 yi, .int .i64 yp, .int .i64 ya, .int .i64 yr, .int .i64 yt, .int .i64 yq, .int .i64 yz] 32) = W3 at *
      have hwr := K.lt
      generalize hbx : wr.heap.size = bx at *
      have HBX := Lib.hid hbx
      clear hbx
      with_reducible refine (cC _).mono ?_
      rintro e w4 ⟨rfl, NB4⟩
      have B4 := below_step B2 NB4 B2.size
      have k40 := cell_later NB4 k0
      have k41 := cell_later NB4 k1
      have k45 := cell_later NB4 k5
      have k46 := cell_later NB4 k6
      have NB34 := Lib.hid (below_step NB NB4 (by omega))
      rw [← HBX.out] at NB34
      clear cC k0 k1 k2 k3 k4 k5 k6 c0 c1 c2 c3 c4 c5 c6 B2 K

      by_cases g0 : ck = 0
      rotate_left
      · have t0 : (ck != 0) = true := by simp [g0]
        have HR := Lib.hid (HST.out (by rw [HS.out]; simp [g0]))
        clear HST HGO HP
        go_wp2
        go_ret
        exact ⟨ret_b HR.out.symm, B4⟩
      have t0 : (ck != 0) = false := by simp [g0]
      by_cases g1 : 0 ≤ yq
      rotate_left
      · have tg1 : yq < 0 := by omega
        have HR := Lib.hid (HST.out (by rw [HS.out]; simp [g1]))
        clear g0
        clear HST HGO HP
        go_wp2
        go_ret
        exact ⟨ret_b HR.out.symm, B4⟩
      by_cases g2 : 0 ≤ yz
      rotate_left
      · have tg2 : yz < 0 := by omega
        have HR := Lib.hid (HST.out (by rw [HS.out]; simp [g2]))
        clear g0
        clear HST HGO HP
        go_wp2
        go_ret
        exact ⟨ret_b HR.out.symm, B4⟩
      by_cases g3 : yq ≤ 100000000000
      rotate_left
      · have tg3 : 100000000000 < yq := by omega
        have HR := Lib.hid (HST.out (by rw [HS.out]; simp [g3]))
        clear g0
        clear HST HGO HP
        go_wp2
        go_ret
        exact ⟨ret_b HR.out.symm, B4⟩
      by_cases g4 : yz ≤ 100000000000
      rotate_left
      · have tg4 : 100000000000 < yz := by omega
        have HR := Lib.hid (HST.out (by rw [HS.out]; simp [g4]))
        clear g0
        clear HST HGO HP
        go_wp2
        go_ret
        exact ⟨ret_b HR.out.symm, B4⟩
      have HS1 : Hid (stB (g i) = true) := Lib.hid (by rw [HS.out]; simp [g0, g1, g2, g3, g4])
      clear g0
      by_cases hi0 : i = 0
      · have u0 : decide ((0 : Int) < (i : Int)) = false := decide_eq_false (by omega)
        have u0n : decide (0 < i) = false := decide_eq_false (by omega)
        have u0m : ¬ 0 < i := by omega
        have HK := Lib.hid (HGO.out (by rw [HS1.out, decide_eq_true hi0]; rfl))
        clear HST HGO HP hi0
        go_wp2
        go_quiet (fail)
        go_wp2
        refine ⟨⟨i + 1, by omega, by go_num, HK.out, below_drewN B4 _⟩, ?_⟩
        simp [intOf]; omega
      · have u0 : decide ((0 : Int) < (i : Int)) = true := decide_eq_true (by omega)
        have u0n : decide (0 < i) = true := decide_eq_true (by omega)
        have u0m : 0 < i := by omega
        obtain ⟨pi, pp, d0, d1, e0, e1⟩ := HP.out (by omega)
        replace d0 := cell_later NB34.out d0
        replace d1 := cell_later NB34.out d1
        have HE := Lib.hid (And.intro e0 e1)
        have wl : IntKind.i64.wrap ((i : Int) - 1) = ((i - 1 : Nat) : Int) := by rw [IntWalk.i64_in _ (by omega)]; omega
        have wl0 : wrap64 ((i : Int) - 1) = ((i - 1 : Nat) : Int) := by rw [IntWalk.wrap64_in _ (by omega)]; omega
        have wl2 : ((i - 1 : Nat) : Int) < (n : Int) := by omega
        have hdi : decide (i = 0) = false := decide_eq_false hi0
        rw [hdi] at HST HGO
        rw [HS1.out] at HST HGO
        rw [HA.out, ← e0, ← e1] at HST HGO
        clear HP hi0 e0 e1 hdi HE HA HS1 HS
        by_cases p1 : yp < pp
        · have u1 : decide (yp < pp) = true := decide_eq_true p1
          have HR := Lib.hid (HST.out (by simp [p1]))
          clear HST HGO
          go_wp2
          go_quiet (fail)
          go_wp2
          go_ret
          exact ⟨ret_b HR.out.symm, below_drewN B4 _⟩
        have u1 : decide (yp < pp) = false := decide_eq_false p1
        by_cases p2 : pp = yp
        rotate_left
        · have u2 : (pp == yp) = false := by simp [p2]
          have HK := Lib.hid (HGO.out (by simp [p1, p2]))
          clear HST HGO p2
          go_wp2
          go_quiet (fail)
          go_wp2
          refine ⟨⟨i + 1, by omega, by go_num, HK.out, below_drewN B4 _⟩, ?_⟩
          simp [intOf]; omega
        have u2 : (pp == yp) = true := by simp [p2]
        by_cases p3 : yi ≤ pi
        · have u3 : decide (yi ≤ pi) = true := decide_eq_true p3
          have HR := Lib.hid (HST.out (by simp [p2, p3]))
          clear HST HGO p2
          go_wp2
          go_quiet (fail)
          go_wp2
          go_ret
          exact ⟨ret_b HR.out.symm, below_drewN B4 _⟩
        · have u3 : decide (yi ≤ pi) = false := decide_eq_false p3
          have HK := Lib.hid (HGO.out (by simp [p1, p2, p3]))
          clear HST HGO p2
          go_wp2
          go_quiet (fail)
          go_wp2
          refine ⟨⟨i + 1, by omega, by go_num, HK.out, below_drewN B4 _⟩, ?_⟩
          simp [intOf]; omega
    · obtain rfl : n = i := by omega
      have hnl : ¬ (n : Int) < (n : Int) := by omega
      have HR : Hid (v = decide ((n : Int) ≤ 20)) := Lib.hid (by rw [← HV.out]; unfold mayB; rw [hok]; simp; omega)
      clear h hok
      by_cases h20 : (n : Int) ≤ 20
      · have HR2 : Hid (v = true) := Lib.hid (by rw [HR.out]; exact decide_eq_true h20)
        have t1 : decide ((n : Int) ≤ 20) = true := decide_eq_true h20
        go_wp2
        go_ret
        exact ⟨ret_b (by rw [HR2.out]), hB⟩
      · have HR2 : Hid (v = false) := Lib.hid (by rw [HR.out]; exact decide_eq_false h20)
        have t1 : decide ((n : Int) ≤ 20) = false := decide_eq_false h20
        go_wp2
        go_ret
        exact ⟨ret_b (by rw [HR2.out]), hB⟩
end Go.Proofs.YtgdalejccbhjcaaDoor
