/- What a limit does to what is kept: plain. -/
import Derived.Test.YtobdbjmpoefebaaDoorCutA
namespace Go.Proofs.YtobdbjmpoefebaaDoor
set_option linter.unusedVariables false
set_option linter.unusedSimpArgs false
theorem mx (S : Nat → SB) (n : Nat) (l l' : Int) : l ≤ (allW S l n).2.2 ∧ ((allW S l n).2.2 = l ∨ (allW S l n).2.2 ≤ (allW S l' n).2.2) := by
  refine ⟨allW_limit S l n, ?_⟩
  rcases allW_is S l n with e | ⟨i, j, hi, hj, e⟩
  · rw [e]; exact .inl rfl
  · rw [e]; exact .inr (allW_top S l' n i j hi hj)
theorem chk_low {T : TB} (hv : T.chk = 0) {l : Int} (h0 : 0 ≤ l) (h1 : l ≤ 10000) : (lowT T l).chk = 0 := by
  obtain ⟨p1, p2, p3, p4⟩ := chkT_parts hv
  refine chkT_mk ?_ p2 p3 p4
  show headE l T.W = 0
  have r : rateB l = true := by
    unfold rateB
    simp [h0, h1]
  unfold headE at p1 ⊢
  rw [if_pos r]
  split at p1
  · exact p1
  · exact absurd p1 (by decide)
theorem low_kept (T : TB) (l : Int) : keptW (lowT T l) = 10000 - (allW T.S l T.nS).2.2 - takeC T.C T.nC := rfl
theorem kchk_of {T : TB} (h : T.chk = 0) : kchk T = if keptW T < 500 then 100 else 0 := by unfold kchk; rw [if_pos h]
theorem kchk_zero {T : TB} (h : kchk T = 0) : T.chk = 0 ∧ 500 ≤ keptW T := by
  unfold kchk at h
  split at h
  · refine ⟨by assumption, ?_⟩
    split at h
    · exact absurd h (by decide)
    · omega
  · exact absurd h (by assumption)
theorem cut_up {T : TB} (hv : T.chk = 0) (hr : 500 ≤ keptW T) (ha : (allW T.S T.L T.nS).1 < 0) :
    kchk (lowT T (T.L + (keptW T - 500))) = 0 ∧ kchk (lowT T (T.L + (keptW T - 500) + 1)) = 100 ∧ T.L + (keptW T - 500) + 1 ≤ 10000 := by
  have hL : (allW T.S T.L T.nS).2.2 = T.L := by
    rcases allW_is T.S T.L T.nS with e | ⟨i, j, hi, hj, e⟩
    · rw [e]
    · rw [e] at ha
      have : (i : Int) < 0 := ha
      omega
  have hk : keptW T = 10000 - (allW T.S T.L T.nS).2.2 - takeC T.C T.nC := rfl
  have l0 := (tok_of hv).l0
  have t0 := (sum_bd (tok_of hv) T.nC (Nat.le_refl _)).1
  have a1 := mx T.S T.nS (T.L + (keptW T - 500)) T.L
  have a2 := mx T.S T.nS (T.L + (keptW T - 500) + 1) T.L
  have k1 := low_kept T (T.L + (keptW T - 500))
  have k2 := low_kept T (T.L + (keptW T - 500) + 1)
  refine ⟨?_, ?_, by omega⟩
  · rw [kchk_of (chk_low hv (by omega) (by omega)), if_neg (by omega)]
  · rw [kchk_of (chk_low hv (by omega) (by omega)), if_pos (by omega)]
theorem room_is {T : TB} (hv : T.chk = 0) : roomV T = keptW T - 500 := by unfold roomV; rw [if_pos hv]
theorem cutL_lo {T : TB} (hv : T.chk = 0) (hr : keptW T < 500) : cutL T = T.L + (keptW T - 500) := by
  unfold cutL
  rw [room_is hv]
  omega
theorem cutL_hi {T : TB} (hv : T.chk = 0) (hr : 500 ≤ keptW T) : cutL T = T.L := by
  unfold cutL
  rw [room_is hv]
  omega
theorem cut_no {T : TB} (hv : T.chk = 0) (hr : keptW T < 500) (hk : kchk (lowT T (cutL T)) ≠ 0) : kchk (lowT T 0) = 100 := by
  rw [cutL_lo hv hr] at hk
  have l0 := (tok_of hv).l0
  have l1 := (tok_of hv).l1
  have hkt : keptW T = 10000 - (allW T.S T.L T.nS).2.2 - takeC T.C T.nC := rfl
  have k0 := low_kept T 0
  have a0 := mx T.S T.nS 0 0
  have aL := mx T.S T.nS T.L 0
  rw [kchk_of (chk_low hv (by omega) (by omega)), if_pos]
  by_cases hc : 0 ≤ T.L + (keptW T - 500)
  · rw [kchk_of (chk_low hv hc (by omega))] at hk
    have kc := low_kept T (T.L + (keptW T - 500))
    have ac := mx T.S T.nS (T.L + (keptW T - 500)) 0
    split at hk
    · omega
    · exact absurd rfl hk
  · omega
theorem cut_yes {T : TB} (hv : T.chk = 0) (hr : keptW T < 500) (hk : kchk (lowT T (cutL T)) = 0) : kchk (lowT T (cutL T + 1)) = 100 ∧ cutL T < T.L ∧ 0 ≤ cutL T := by
  rw [cutL_lo hv hr] at hk ⊢
  obtain ⟨h1, h2⟩ := kchk_zero hk
  have c0 : 0 ≤ T.L + (keptW T - 500) := (tok_of h1).l0
  have l1 := (tok_of hv).l1
  have hkt : keptW T = 10000 - (allW T.S T.L T.nS).2.2 - takeC T.C T.nC := rfl
  have kc := low_kept T (T.L + (keptW T - 500))
  have k1 := low_kept T (T.L + (keptW T - 500) + 1)
  have aL := mx T.S T.nS T.L (T.L + (keptW T - 500))
  have a1 := mx T.S T.nS (T.L + (keptW T - 500) + 1) 0
  refine ⟨?_, by omega, c0⟩
  rw [kchk_of (chk_low hv (by omega) (by omega)), if_pos (by omega)]
theorem kep_kchk {T V : TB} (h : KepT T V) (l : Int) : kchk (lowT V l) = kchk (lowT T l) := by
  unfold kchk
  rw [(h l).1, (h l).2]
end Go.Proofs.YtobdbjmpoefebaaDoor
