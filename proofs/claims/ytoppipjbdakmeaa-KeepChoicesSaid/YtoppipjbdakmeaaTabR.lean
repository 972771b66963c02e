/- What the document's most and least answer. -/
import Derived.Test.YtoppipjbdakmeaaTabQ
namespace Go.Proofs.Ytoppipjbdakmeaa
open Go.RowKit Go.Sort
set_option linter.unusedVariables false
set_option linter.unusedSimpArgs false

def mx0 (R : Nat → Int) (r : Int) : Nat → Int
  | 0 => 0
  | k + 1 => if mx0 R r k < R k + r then R k + r else mx0 R r k
def mostV : (Nat → CB) → Nat → Int
  | _, 0 => 0
  | C, n + 1 => mx0 (C 0).b.R (mostV (fun i => C (i + 1)) n) (C 0).b.n
theorem mx0_bd {R : Nat → Int} {r M : Int} (h0 : 0 ≤ r) (n : Nat) (h : ∀ i, i < n → 0 ≤ R i ∧ R i ≤ 10000) (hM : r + 10000 ≤ M) : 0 ≤ mx0 R r n ∧ mx0 R r n ≤ M := by
  induction n with
  | zero => exact ⟨Int.le_refl _, by show (0 : Int) ≤ M; omega⟩
  | succ n ih =>
    have := ih fun i hi => h i (by omega)
    have := h n (by omega)
    show 0 ≤ (if mx0 R r n < R n + r then R n + r else mx0 R r n) ∧ (if mx0 R r n < R n + r then R n + r else mx0 R r n) ≤ M
    split <;> omega
theorem mx0_ge {R : Nat → Int} {r : Int} (n : Nat) : ∀ i, i < n → R i + r ≤ mx0 R r n := by
  induction n with
  | zero => intro i hi; omega
  | succ n ih =>
    intro i hi
    show R i + r ≤ if mx0 R r n < R n + r then R n + r else mx0 R r n
    by_cases e : i = n
    · subst e; split <;> omega
    · have := ih i (by omega)
      split <;> omega
theorem mx0_is {R : Nat → Int} {r : Int} (h0 : 0 ≤ r) (n : Nat) (hn : 0 < n) (h : ∀ i, i < n → 0 ≤ R i ∧ R i ≤ 10000) : mx0 R r n = R (steep R n) + r := by
  apply Int.le_antisymm
  · have key : ∀ k, k ≤ n → mx0 R r k ≤ R (steep R n) + r := by
      intro k
      induction k with
      | zero =>
        intro _
        have := (h _ (steep_lt R hn)).1
        show (0 : Int) ≤ _
        omega
      | succ k ih =>
        intro hk
        have a := ih (by omega)
        have b := steep_top R (n := n) k (by omega)
        show (if mx0 R r k < R k + r then R k + r else mx0 R r k) ≤ _
        split <;> omega
    exact key n (Nat.le_refl _)
  · exact mx0_ge n _ (steep_lt R hn)
def GoodC (C : Nat → CB) (n : Nat) : Prop := ∀ i, i < n → 1 ≤ (C i).b.n ∧ (C i).b.n ≤ 8 ∧ ∀ j, j < (C i).b.n → 0 ≤ (C i).b.R j ∧ (C i).b.R j ≤ 10000
theorem GoodC.tail {C : Nat → CB} {n : Nat} (h : GoodC C (n + 1)) : GoodC (fun i => C (i + 1)) n := fun i hi => h (i + 1) (by omega)
theorem mostV_bd : ∀ (n : Nat) (C : Nat → CB), GoodC C n → 0 ≤ mostV C n ∧ mostV C n ≤ 10000 * n
  | 0, _, _ => ⟨Int.le_refl _, Int.le_refl _⟩
  | n + 1, C, h => by
    have a := mostV_bd n _ h.tail
    exact mx0_bd a.1 _ (h 0 (by omega)).2.2 (by omega)
theorem takeC_tail (C : Nat → CB) (n : Nat) : takeC C (n + 1) = (C 0).b.R (steep (C 0).b.R (C 0).b.n) + takeC (fun i => C (i + 1)) n := by
  induction n with
  | zero => exact (Int.zero_add _).trans (Int.add_zero _).symm
  | succ n ih =>
    show takeC C (n + 1) + (C (n + 1)).b.R (steep (C (n + 1)).b.R (C (n + 1)).b.n) = _
    rw [ih]
    show _ = _ + (takeC (fun i => C (i + 1)) n + (C (n + 1)).b.R (steep (C (n + 1)).b.R (C (n + 1)).b.n))
    exact Int.add_assoc _ _ _
theorem most_take : ∀ (n : Nat) (C : Nat → CB), GoodC C n → mostV C n = takeC C n
  | 0, _, _ => rfl
  | n + 1, C, h => by
    have a := mostV_bd n _ h.tail
    show mx0 _ _ _ = _
    rw [mx0_is a.1 _ (h 0 (by omega)).1 (h 0 (by omega)).2.2, takeC_tail, most_take n _ h.tail]
theorem conM_tail {w : World} {b o n : Nat} {C : Nat → CB} (h : ConM w (some ⟨b, o, none⟩) (n + 1) C) : ConM w (some ⟨b, o + 6, none⟩) n (fun i => C (i + 1)) := by
  intro hn
  obtain ⟨b', o', hA, hc⟩ := h (by omega)
  simp only [Option.some.injEq, Addr.mk.injEq] at hA
  obtain ⟨rfl, rfl, _⟩ := hA
  refine ⟨b, o + 6, rfl, fun i hi => ?_⟩
  have := hc (i + 1) (by omega)
  rw [show o + (i + 1) * 6 = o + 6 + i * 6 by omega] at this
  exact this
set_option maxHeartbeats 2000000 in
theorem most_any : ∀ (n : Nat) (A : Option Addr) (c : Nat) (C : Nat → CB) (w : World), ConM w A n C → GoodC C n → n ≤ 6 → n ≤ c →
    Calls Try.prog 24 #[.slice A n c] w fun e w' => e = .returned (.int .i64 (mostV C n)) ∧ Below w.heap.size w w'
  | 0, A, c, C, w, h, hg, hn, hcap => by
    go_enter Try.func24, Try.ntmps24
    go_wp2
    go_ret
    exact ⟨rfl, Below.refl _ _⟩
  | n + 1, A, c, C, w, h, hg, hn, hcap => by
    obtain ⟨b, o, rfl, hc⟩ := id (h (by omega))
    have hb := mostV_bd n _ hg.tail
    have ht := conM_tail h
    have ih := fun A' c' w' (q : ConM w' A' n (fun i => C (i + 1))) (r : n ≤ c') => most_any n A' c' (fun i => C (i + 1)) w' q hg.tail (by omega) r
    have t1 : (((n + 1 : Nat) : Int) == 0) = false := by simp; omega
    obtain ⟨g1, g8, hR⟩ := hg 0 (by omega)
    obtain ⟨_, _, d2, _, _, _, hBd⟩ := hc 0 (by omega)
    obtain ⟨b2, o2, hA2, hcb⟩ := id (hBd (by omega))
    have hdef : mostV C (n + 1) = mx0 (C 0).b.R (mostV (fun i => C (i + 1)) n) (C 0).b.n := rfl
    rw [hdef]
    have HM := Lib.hid (fun k (hk : k ≤ (C 0).b.n) => mx0_bd (R := (C 0).b.R) (r := mostV (fun i => C (i + 1)) n) (M := 10000 * n + 10000) hb.1 k (fun i hi => hR i (by omega)) (by omega))
    have HCB := Lib.hid hcb
    have HR := Lib.hid hR
    rw [hA2] at d2
    simp only [Nat.zero_mul, Nat.add_zero] at d2
    clear hcb hR hBd hA2 hdef hc h hg
    generalize mostV (fun i => C (i + 1)) n = r at *
    generalize (C 0).b.n = k at *
    generalize (C 0).b.R = R at *
    generalize (C 0).b.F = F at *
    generalize (C 0).b.E = E at *
    generalize (C 0).b.c = cc at *
    have fin : ∀ A' c', n ≤ c' → ConM w A' n (fun i => C (i + 1)) → Calls Try.prog 24 #[.slice A' n c'] w fun e w' => e = .returned (.int .i64 r) ∧ Below w.heap.size w w' := fun A' c' r q => ih A' c' w q r
    have fin1 := fin (some ⟨b, o + 6, none⟩) (c - 1) (by omega) ht
    have fin2 := fun (q : c = 1) => fin (some ⟨b, o, none⟩) (c - 1) (by omega) (fun h0 => by omega)
    clear ih fin ht
    have body : ∀ A' c', (Calls Try.prog 24 #[.slice A' n c'] w fun e w' => e = .returned (.int .i64 r) ∧ Below w.heap.size w w') → True := fun _ _ _ => trivial
    clear body
    by_cases c1 : c = 1
    · subst c1
      obtain rfl : n = 0 := by omega
      have fin3 : Calls Try.prog 24 #[.slice (some ⟨b, o, none⟩) 0 0] w fun e w' => e = .returned (.int .i64 r) ∧ Below w.heap.size w w' := fin2 rfl
      clear fin1 fin2
      go_enter Try.func24, Try.ntmps24
      go_wp2_with (fail)
      refine (fin3).mono ?_
      rintro e w2 ⟨rfl, hb2⟩
      have d3 := cell_later hb2 d2
      go_wp2
      go_loopw [18, 3] (fun kk l X => ∃ j : Nat, j ≤ k ∧ kk = .int .i64 j ∧ l = .int .i64 (mx0 R r j) ∧ Below w.heap.size w X) (fun kk _ _ => k - (intOf kk).toNat)
      case atStart => exact ⟨0, Nat.zero_le _, rfl, rfl, hb2⟩
      case round =>
        obtain ⟨j, hj, rfl, rfl, hB⟩ := hrel
        by_cases hlt : j < k
        · obtain ⟨p0, p1, p2⟩ := HCB.out j hlt
          have x0 := cell_later hB p0
          have x1 := cell_later hB p1
          have x2 := cell_later hB p2
          have hr := HR.out j hlt
          have hm := HM.out j hj
          have HN : Hid (mx0 R r (j + 1) = max (mx0 R r j) (R j + r)) := Lib.hid (by rw [max_is]; rfl)
          have B9 := hB.alloc (o := .cells #[.int .i64 (F j), .int .i64 (R j), .int .i64 (E j)] 41) hB.size
          clear p0 p1 p2
          generalize mx0 R r j = mj at *
          generalize R j = rj at *
          go_wp2
          go_roundw
          case rel => exact ⟨j + 1, by omega, by go_num, by rw [HN.out], B9⟩
          case measure => first | omega | (simp [intOf]; omega)
        · obtain rfl : j = k := by omega
          go_wp2
          go_ret
          exact ⟨rfl, hB⟩
    · clear fin2
      go_enter Try.func24, Try.ntmps24
      go_wp2_with (fail)
      refine (fin1).mono ?_
      rintro e w2 ⟨rfl, hb2⟩
      have d3 := cell_later hb2 d2
      go_wp2
      go_loopw [18, 3] (fun kk l X => ∃ j : Nat, j ≤ k ∧ kk = .int .i64 j ∧ l = .int .i64 (mx0 R r j) ∧ Below w.heap.size w X) (fun kk _ _ => k - (intOf kk).toNat)
      case atStart => exact ⟨0, Nat.zero_le _, rfl, rfl, hb2⟩
      case round =>
        obtain ⟨j, hj, rfl, rfl, hB⟩ := hrel
        by_cases hlt : j < k
        · obtain ⟨p0, p1, p2⟩ := HCB.out j hlt
          have x0 := cell_later hB p0
          have x1 := cell_later hB p1
          have x2 := cell_later hB p2
          have hr := HR.out j hlt
          have hm := HM.out j hj
          have HN : Hid (mx0 R r (j + 1) = max (mx0 R r j) (R j + r)) := Lib.hid (by rw [max_is]; rfl)
          have B9 := hB.alloc (o := .cells #[.int .i64 (F j), .int .i64 (R j), .int .i64 (E j)] 41) hB.size
          clear p0 p1 p2
          generalize mx0 R r j = mj at *
          generalize R j = rj at *
          go_wp2
          go_roundw
          case rel => exact ⟨j + 1, by omega, by go_num, by rw [HN.out], B9⟩
          case measure => first | omega | (simp [intOf]; omega)
        · obtain rfl : j = k := by omega
          go_wp2
          go_ret
          exact ⟨rfl, hB⟩
end Go.Proofs.Ytoppipjbdakmeaa
