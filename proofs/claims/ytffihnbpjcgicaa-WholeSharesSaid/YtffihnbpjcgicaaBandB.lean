/- What the calls of band answer that seek among bands: Find, Top. -/
import Derived.Test.YtffihnbpjcgicaaBandA
namespace Go.Proofs.Ytffihnbpjcgicaa
open Go.RowKit

set_option maxHeartbeats 1000000 in
theorem find_any (x : Int) (A : Option Addr) (n c : Nat) (w : World) (F R E : Nat → Int) (h : Bds w A n F R E) (h1 : 1 ≤ n) (hn : n ≤ 9223372036854775807) :
    Calls Try.prog 61 #[.int .i64 x, .slice A n c] w fun e w' => e = .returned (.int .i64 (fnd F x n : Nat)) ∧ w = w' := by
  obtain ⟨b, o, rfl, hc⟩ := h (by omega)
  have w1 : IntKind.i64.wrap ((n : Int) - 1) = (n : Int) - 1 := IntWalk.i64_in _ (by omega)
  have k1 : (n : Int) - 1 = ((n - 1 : Nat) : Int) := by omega
  have K1 := Lib.hid k1
  clear k1
  go_enter Try.func61, Try.ntmps61
  go_wp2
  go_loop [5] (fun v => ∃ k : Nat, k + 1 ≤ n ∧ fnd F x n = fnd F x (k + 1) ∧ v = .int .i64 k) (fun v => (intOf v).toNat)
  case atStart => exact ⟨n - 1, by omega, by congr 1; omega, by rw [← K1.out]⟩
  case round =>
    obtain ⟨k, hk, hf, rfl⟩ := hrel
    obtain ⟨c0, -, -⟩ := hc k (by omega)
    by_cases h0 : 0 < k
    · by_cases hx : F k < x
      · have e : fnd F x n = k := hf.trans (if_pos ⟨h0, hx⟩)
        have HE := Lib.hid e
        clear e hf hc h
        go_wp2
        go_ret
        exact ⟨ret_i (by rw [HE.out]), rfl⟩
      · have e : fnd F x n = fnd F x (k - 1 + 1) := hf.trans ((if_neg (by omega)).trans (by congr 1; omega))
        have HE := Lib.hid e
        clear e hf hc h
        go_wp2
        go_round
        case rel => exact ⟨k - 1, by omega, HE.out, by congr 1; omega⟩
        case measure => first | omega | (simp [intOf]; omega)
    · have e : fnd F x n = 0 := by
        rw [hf]
        have : k = 0 := by omega
        subst this
        rfl
      have HE := Lib.hid e
      clear e hf hc h
      go_wp2
      go_ret
      exact ⟨ret_i (by rw [HE.out]; rfl), rfl⟩

end Go.Proofs.Ytffihnbpjcgicaa
