/- What sort.Search answers, of a question that makes memory. -/
import Derived.Test.YtcldknmhmbpboaaPcM
import Derived.Deep.LoopGhost
import Derived.Deep.Draws
import Derived.Shelf.Abstract
namespace Go.Proofs.Ytcldknmhmbpboaa
open Go.RowKit Go.Sort
set_option linter.unusedVariables false
set_option linter.unusedSimpArgs false

/-- how sort.Search ends: at the first place of which it is said -/
def SrP (n : Nat) (q : Nat → Bool) (w : World) (e : Ending) (w' : World) : Prop := ∃ i : Nat, i ≤ n ∧ e = .returned (.int .i64 i) ∧ (∀ t, t < i → q t = false) ∧ (∀ t, i ≤ t → t < n → q t = true) ∧ Below w.heap.size w w'
set_option maxHeartbeats 4000000 in
set_option maxRecDepth 1000000 in
theorem search_any (g : Nat) (cb : Array Value) (n : Nat) (q : Nat → Bool) (w : World) (eg : ∀ args w, (callFunc g args).run Try.prog w = .ok (.enter g args) w) (hsz : n < 4611686018427387904)
    (hf : ∀ W, Below w.heap.size w W → ∀ i : Nat, i < n → Calls Try.prog g (#[.int .i64 i] ++ cb) W fun e w' => e = .returned (.bool (q i)) ∧ Below W.heap.size W w')
    (hmono : ∀ a b, a ≤ b → b < n → q a = true → q b = true) :
    Calls Try.prog 36 #[.int .i64 n, .func (.func g) #[] cb] w (SrP n q w) := by
  have HF := Lib.hid hf
  have M := Lib.hid hmono
  clear hf hmono
  have hself := Below.refl w.heap.size w
  go_enter Try.func36, Try.ntmps36
  go_wp2
  go_loopg [5, 6] n (fun kx s5 s6 wr => ∃ (lo hi : Nat) (W2 : World), s5 = .int .i64 lo ∧ s6 = .int .i64 hi ∧ lo ≤ hi ∧ hi ≤ n ∧ hi - lo ≤ kx ∧ W2 = wr ∧ Below w.heap.size w W2 ∧
    Hid ((∀ t, t < lo → q t = false) ∧ (∀ t, hi ≤ t → t < n → q t = true)))
  case atStart => exact ⟨0, n, _, rfl, rfl, Nat.zero_le _, Nat.le_refl _, by omega, rfl, hself, Lib.hid ⟨fun t ht => absurd ht (Nat.not_lt_zero _), fun t h1 h2 => by omega⟩⟩
  case round =>
    obtain ⟨lo, hi, W2, rfl, rfl, hlh, hin, hg, rfl, hB, I⟩ := hrel
    by_cases hlt : lo < hi
    · have hc := HF.out W2 hB ((lo + hi) / 2) (by omega)
      rw [show (((lo + hi) / 2 : Nat) : Int) = ((lo : Int) + (hi : Int)) / 2 by omega] at hc
      cases hp : q ((lo + hi) / 2) <;> rw [hp] at hc
      · have HP := Lib.hid hp
        clear hp
        go_wp2_with (go_at_fn g; refine hc.mono ?_; rintro e w3 ⟨rfl, hb⟩)
        go_roundg (hi - ((lo + hi) / 2 + 1))
        case measure => omega
        case rel =>
          have I2 : Hid ((∀ t, t < (lo + hi) / 2 + 1 → q t = false) ∧ (∀ t, hi ≤ t → t < n → q t = true)) := Lib.hid ⟨fun t ht => (by
            cases h : q t with
            | false => rfl
            | true => have := M.out t ((lo + hi) / 2) (by omega) (by omega) h; rw [HP.out] at this; cases this), I.out.2⟩
          exact ⟨(lo + hi) / 2 + 1, hi, w3, by rw [show ((lo : Int) + (hi : Int)) / 2 + 1 = (((lo + hi) / 2 + 1 : Nat) : Int) by omega], rfl, by omega, hin, Nat.le_refl _, rfl, below_step hB hb hB.size, I2⟩
      · have HP := Lib.hid hp
        clear hp
        go_wp2_with (go_at_fn g; refine hc.mono ?_; rintro e w3 ⟨rfl, hb⟩)
        go_roundg ((lo + hi) / 2 - lo)
        case measure => omega
        case rel =>
          have I2 : Hid ((∀ t, t < lo → q t = false) ∧ (∀ t, (lo + hi) / 2 ≤ t → t < n → q t = true)) := Lib.hid ⟨I.out.1, fun t ht htn => M.out ((lo + hi) / 2) t ht htn HP.out⟩
          exact ⟨lo, (lo + hi) / 2, w3, rfl, by rw [show ((lo : Int) + (hi : Int)) / 2 = (((lo + hi) / 2 : Nat) : Int) by omega], by omega, by omega, Nat.le_refl _, rfl, below_step hB hb hB.size, I2⟩
    · obtain rfl : hi = lo := by omega
      have I2 : SrP n q w (.returned (.int .i64 hi)) W2 := ⟨hi, hin, rfl, I.out.1, I.out.2, hB⟩
      have HI := Lib.hid I2
      clear I2
      go_wp2
      go_ret
      exact HI.out
end Go.Proofs.Ytcldknmhmbpboaa
