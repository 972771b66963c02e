/- The first pieces of a function. -/
import Derived.Test.YtcldknmhmbpboaaPcT
import Derived.Test.YtcldknmhmbpboaaPcF
namespace Go.Proofs.Ytcldknmhmbpboaa
open Go.RowKit Go.Sort
set_option linter.unusedVariables false
set_option linter.unusedSimpArgs false
/-- the first k pieces -/
def Lf.pre (f : Lf) (k : Nat) : Lf := ⟨k, f.F, f.V, f.R⟩
theorem Lf.pre_vl (f : Lf) (k : Nat) (x : Int) : ∀ j, (f.pre k).vl x j = f.vl x j
  | 0 => rfl
  | j + 1 => by
    show (if f.F j ≤ x then f.ln j x else (f.pre k).vl x j) = (if f.F j ≤ x then f.ln j x else f.vl x j)
    rw [Lf.pre_vl f k x j]
theorem Lf.pre_val (f : Lf) (k : Nat) (x : Int) : (f.pre k).val x = f.vl x k := f.pre_vl k x k
theorem Lm.pre {W : World} {A : Option Addr} {f : Lf} (h : Lm W A f) {k : Nat} (hk : k ≤ f.n) : Lm W A (f.pre k) := fun h0 => by
  have h0' : 0 < k := h0
  obtain ⟨b, o, e, hc⟩ := h (by omega)
  exact ⟨b, o, e, fun i hi => hc i (Nat.lt_of_lt_of_le hi hk)⟩
theorem Rk.pre {f : Lf} (h : Rk f) {k : Nat} (hk : k ≤ f.n) : Rk (f.pre k) := ⟨fun i hi => h.fb i (Nat.lt_of_lt_of_le hi hk), fun i hi => h.rb i (Nat.lt_of_lt_of_le hi hk), fun i hi => h.vb i (Nat.lt_of_lt_of_le hi hk)⟩
/-- the value ahead of a piece, by those ahead of it -/
theorem Lf.Ord.pre_at {f : Lf} (hf : f.Ord) {i : Nat} (hi : i < f.n) (h0 : 0 < i) {x : Int} (h1 : f.F (i - 1) ≤ x) : (f.pre i).val x = f.ln (i - 1) x := by
  rw [f.pre_val]
  exact (hf.ix_is (k := i) (by omega) (i := i - 1) (by omega) h1 fun j a b => by omega).2
theorem at_pre (A : Option Addr) (c : Nat) (f : Lf) (k : Nat) (x : Int) (w : World) (h : Lm w A f) (hk : k ≤ f.n) (hn : f.n ≤ 1000) (hR : Rk f) (h0 : 0 ≤ x) (hT : x ≤ 10000000000) :
    Calls Try.prog 13 #[.slice A k c, .int .i64 x] w fun e w' => e = .returned (.int .i64 ((f.pre k).val x)) ∧ Below w.heap.size w w' :=
  lawat_any A c (f.pre k) x w (h.pre hk) (by show k ≤ _; omega) (hR.pre hk) h0 hT
end Go.Proofs.Ytcldknmhmbpboaa
