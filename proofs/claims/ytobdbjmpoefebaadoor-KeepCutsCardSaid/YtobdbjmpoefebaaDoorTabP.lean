/- What keep.Pieces answers. -/
import Derived.Test.YtobdbjmpoefebaaDoorTabL
namespace Go.Proofs.YtobdbjmpoefebaaDoor
open Go.RowKit Go.Sort
set_option linter.unusedVariables false
set_option linter.unusedSimpArgs false

def longS (S : Nat → SB) : Nat → Int
  | 0 => 0
  | k + 1 => if longS S k < (S k).n then ((S k).n : Int) else longS S k
def bandsC (C : Nat → CB) : Nat → Int
  | 0 => 0
  | k + 1 => bandsC C k + ((C k).b.n : Int)
def pcs (T : TB) : Int := longS T.S T.nS + 4 + bandsC T.C T.nC + 3 * T.nC
theorem longS_ge (S : Nat → SB) (n : Nat) : ∀ i, i < n → ((S i).n : Int) ≤ longS S n := by
  induction n with
  | zero => intro i hi; omega
  | succ n ih =>
    intro i hi
    show _ ≤ if longS S n < (S n).n then ((S n).n : Int) else longS S n
    by_cases e : i = n
    · subst e; split <;> omega
    · have := ih i (by omega)
      split <;> omega
theorem longS_bd {S : Nat → SB} {M : Nat} (n : Nat) (h : ∀ i, i < n → (S i).n ≤ M) : 0 ≤ longS S n ∧ longS S n ≤ M := by
  induction n with
  | zero => exact ⟨Int.le_refl _, by show (0 : Int) ≤ M; omega⟩
  | succ n ih =>
    have := ih fun i hi => h i (by omega)
    have := h n (by omega)
    show 0 ≤ (if longS S n < (S n).n then ((S n).n : Int) else longS S n) ∧ (if longS S n < (S n).n then ((S n).n : Int) else longS S n) ≤ M
    split <;> omega
theorem bandsC_bd {C : Nat → CB} {M : Nat} (n : Nat) (h : ∀ i, i < n → (C i).b.n ≤ M) : 0 ≤ bandsC C n ∧ bandsC C n ≤ M * n := by
  induction n with
  | zero => exact ⟨Int.le_refl _, by show (0 : Int) ≤ M * 0; omega⟩
  | succ n ih =>
    have a := ih fun i hi => h i (by omega)
    have b := h n (by omega)
    show 0 ≤ bandsC C n + ((C n).b.n : Int) ∧ bandsC C n + ((C n).b.n : Int) ≤ M * ((n + 1 : Nat) : Int)
    have e : (M : Int) * ((n + 1 : Nat) : Int) = M * n + M := by rw [Int.natCast_add, Int.mul_add]; simp
    omega
theorem max_is (a b : Int) : max a b = if a < b then b else a := by
  rw [Int.max_def]; split <;> split <;> omega
set_option maxHeartbeats 2000000 in
theorem pieces_any (w : World) (T : TB) (h : Tm w T) (hs : SmP T) :
    Calls Tryd.prog 39 #[T.v] w fun e w' => e = .returned (.int .i64 (pcs T)) ∧ Below w.heap.size w w' := by
  have LB := Lib.hid (fun i (hi : i ≤ T.nS) => longS_bd (S := T.S) (M := 20) i fun j hj => hs.sb j (by omega))
  have CB' := Lib.hid (fun i (hi : i ≤ T.nC) => bandsC_bd (C := T.C) (M := 20) i fun j hj => hs.cb j (by omega))
  have s20 := hs.s
  have c20 := hs.c
  have SB20 := Lib.hid hs.sb
  have CB20 := Lib.hid hs.cb
  unfold pcs
  clear hs
  obtain ⟨AS, nS, cS, AC, nC, cC, AK, nK, cK, L, W, S, C, K⟩ := T
  dsimp only [TB.v] at *
  have B0 := below_new w (.cells #[.slice AS nS cS, .slice AC nC cC, .slice AK nK cK, .int .i64 L, .int .i64 W] 26)
  have M0 := h.below B0
  obtain ⟨z0, z1, z2, z3, z4⟩ := cells5 w (.slice AS nS cS) (.slice AC nC cC) (.slice AK nK cK) (.int .i64 L) (.int .i64 W) 26
  generalize hw1 : w.alloc (.cells #[.slice AS nS cS, .slice AC nC cC, .slice AK nK cK, .int .i64 L, .int .i64 W] 26) = w1 at *
  clear h
  have MS : SchM w1 AS nS S := M0.1
  have MC : ConM w1 AC nC C := M0.2.1
  go_enter Tryd.func39, Tryd.ntmps39
  go_wp2
  go_loop [12, 3] (fun kk l => ∃ i : Nat, i ≤ nS ∧ kk = .int .i64 i ∧ l = .int .i64 (longS S i)) (fun kk _ => nS - (intOf kk).toNat)
  case atStart => exact ⟨0, Nat.zero_le _, rfl, rfl⟩
  case round =>
    obtain ⟨i, hi, rfl, rfl⟩ := hrel
    by_cases hlt : i < nS
    · obtain ⟨b, o, rfl, hcc⟩ := id (MS (by omega))
      obtain ⟨g0, _⟩ := hcc i hlt
      have hb20 := SB20.out i hlt
      have HN : Hid (longS S (i + 1) = max (longS S i) ((S i).n : Int)) := Lib.hid (by rw [max_is]; rfl)
      have hl := LB.out i hi
      clear hcc
      generalize (S i).n = sn at *
      generalize (S i).A = sA at *
      generalize (S i).c = sc at *
      generalize longS S i = lg at *
      rcases Int.lt_or_le lg sn with hq | hq
      · rw [show max lg (sn : Int) = sn by omega] at HN
        go_wp2
        go_round
        case rel => exact ⟨i + 1, by omega, by go_num, by rw [HN.out] <;> go_num⟩
        case measure => first | omega | (simp [intOf]; omega)
      · go_wp2
        go_round
        case rel => exact ⟨i + 1, by omega, by go_num, by rw [HN.out]⟩
        case measure => first | omega | (simp [intOf]; omega)
    · obtain rfl : i = nS := by omega
      have hl := LB.out i hi
      generalize hlg : longS S i = lg at *
      have HLG := Lib.hid hlg
      clear hlg
      go_wp2
      go_loopw [26, 6] (fun kk l X => ∃ i : Nat, i ≤ nC ∧ kk = .int .i64 i ∧ l = .int .i64 (lg + 4 + bandsC C i + 3 * i) ∧ Below w1.heap.size w1 X) (fun kk _ _ => nC - (intOf kk).toNat)
      case atStart => exact ⟨0, Nat.zero_le _, rfl, by rw [show lg + 4 + bandsC C 0 + 3 * ((0 : Nat) : Int) = lg + 4 by show lg + 4 + 0 + 3 * 0 = lg + 4; omega], Below.refl _ _⟩
      case round =>
        obtain ⟨m, hm, rfl, rfl, hB⟩ := hrel
        by_cases hlm : m < nC
        · obtain ⟨b, o, rfl, hcc⟩ := id (MC (by omega))
          obtain ⟨g0, g1, g2, g3, g4, g5, _⟩ := hcc m hlm
          have d0 := cell_later hB g0
          have d1 := cell_later hB g1
          have d2 := cell_later hB g2
          have d3 := cell_later hB g3
          have d4 := cell_later hB g4
          have d5 := cell_later hB g5
          clear hcc g0 g1 g2 g3 g4 g5
          have hb20 := CB20.out m hlm
          have hc1 := CB'.out m hm
          have HN : Hid (lg + 4 + bandsC C (m + 1) + 3 * ((m + 1 : Nat) : Int) = lg + 4 + bandsC C m + 3 * m + ((C m).b.n + 3)) := Lib.hid (by
            show lg + 4 + (bandsC C m + ((C m).b.n : Int)) + 3 * ((m + 1 : Nat) : Int) = _
            omega)
          have B3 := hB.alloc (o := .cells #[.string (C m).N, .int .i64 (C m).B, .slice (C m).b.A (C m).b.n (C m).b.c, .int .i64 (C m).P, .int .i64 (C m).Y, .int .i64 (C m).W] 80) hB.size
          generalize bandsC C m = bm at *
          generalize (C m).b.n = bn at *
          go_wp2
          go_roundw
          case rel => exact ⟨m + 1, by omega, by go_num, by rw [HN.out] <;> go_num, B3⟩
          case measure => first | omega | (simp [intOf]; omega)
        · obtain rfl : m = nC := by omega
          go_wp2
          go_ret
          exact ⟨ret_i (by rw [← HLG.out]), below_step B0 hB B0.size⟩
end Go.Proofs.YtobdbjmpoefebaaDoor
