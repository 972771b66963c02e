/- What base's calls on contributions answer: On, Under, Right; and social's Exact and Due. -/
import Derived.Test.YtffihnbpjcgicaaPairD
import Derived.Test.YtffihnbpjcgicaaTabE
namespace Go.Proofs.Ytffihnbpjcgicaa
open Go.RowKit Go.Sort
set_option linter.unusedVariables false
set_option linter.unusedSimpArgs false

def onV (B t s : Int) : Int := if B = 1 then max t 0 else max s 0
def undP (P x : Int) : Int := if 0 < P then min (max x 0) P else max x 0
def undV (P Y x a : Int) : Int := if 0 < Y then min (undP P x) (max (Y - max a 0) 0) else undP P x
/-- a contribution's value -/
def CB.v (c : CB) : Value := .agg #[.string c.N, .int .i64 c.B, .slice c.b.A c.b.n c.b.c, .int .i64 c.P, .int .i64 c.Y, .int .i64 c.W]
theorem on_any (c : CB) (x t s : Int) (w : World) :
    Calls Try.prog 45 #[c.v, .agg #[.int .i64 x, .int .i64 t, .int .i64 s]] w fun e w' => e = .returned (.int .i64 (onV c.B t s)) ∧ Below w.heap.size w w' := by
  obtain ⟨N, B, ⟨A, n, cc, F, R, E⟩, P, Y, W⟩ := c
  dsimp only [CB.v]
  have B2 : Below w.heap.size w ((w.alloc (.cells #[.string N, .int .i64 B, .slice A n cc, .int .i64 P, .int .i64 Y, .int .i64 W] 58)).alloc (.cells #[.int .i64 x, .int .i64 t, .int .i64 s] 39)) := ((Below.refl _ _).alloc (Nat.le_refl _) _).alloc (by simp) _
  by_cases hB : B = 1
  · have q1 : (B == 1) = true := by simpa using hB
    rw [show onV B t s = max t 0 by simp [onV, hB]]
    clear hB
    rcases Int.lt_or_le 0 t with h0 | h0
    · rw [show max t 0 = t by omega]
      go_enter Try.func45, Try.ntmps45
      go_wp2
      go_ret
      exact ⟨rfl, B2⟩
    · rw [show max t 0 = 0 by omega]
      go_enter Try.func45, Try.ntmps45
      go_wp2
      all_goals
        go_ret
        exact ⟨ret_i (by omega), B2⟩
  · have q1 : (B == 1) = false := by simpa using hB
    rw [show onV B t s = max s 0 by simp [onV, hB]]
    clear hB
    rcases Int.lt_or_le 0 s with h0 | h0
    · rw [show max s 0 = s by omega]
      go_enter Try.func45, Try.ntmps45
      go_wp2
      go_ret
      exact ⟨rfl, B2⟩
    · rw [show max s 0 = 0 by omega]
      go_enter Try.func45, Try.ntmps45
      go_wp2
      all_goals
        go_ret
        exact ⟨ret_i (by omega), B2⟩
theorem bright_any (x t s : Int) (w : World) (v : Bool) (hv : (amtB x && amtB t && amtB s) = v) :
    Calls Try.prog 43 #[.agg #[.int .i64 x, .int .i64 t, .int .i64 s]] w fun e w' => e = .returned (.bool v) ∧ Below w.heap.size w w' := by
  have B2 : Below w.heap.size w ((w.alloc (.cells #[.int .i64 x, .int .i64 t, .int .i64 s] 39)).alloc (.cells #[.int .i64 x, .int .i64 t, .int .i64 s] 2)) := ((Below.refl _ _).alloc (Nat.le_refl _) _).alloc (by simp) _
  have hr : rowAt ((w.alloc (.cells #[.int .i64 x, .int .i64 t, .int .i64 s] 39)).alloc (.cells #[.int .i64 x, .int .i64 t, .int .i64 s] 2)) (some ⟨w.heap.size + 1, 0, none⟩) 3 fun i => .int .i64 ([x, t, s].getD i 0) := fun _ => ⟨_, _, rfl, fun i hi => by
    have : i = 0 ∨ i = 1 ∨ i = 2 := by omega
    rcases this with rfl | rfl | rfl <;> simp [go_sem]⟩
  have h := right_any (some ⟨w.heap.size + 1, 0, none⟩) 3 3 _ (fun i => [x, t, s].getD i 0) hr (by omega)
  have e : allB (fun i => [x, t, s].getD i 0) 3 = v := by rw [← hv]; simp [allB, List.range_succ, Bool.and_assoc]
  rw [e] at h
  clear hr e
  go_enter Try.func43, Try.ntmps43
  go_wp2_with (fail)
  with_reducible refine h.mono ?_
  rintro e w' ⟨rfl, rfl⟩
  go_wp2
  go_ret
  exact ⟨rfl, B2⟩
theorem under_any (c : CB) (x a : Int) (w : World) (ha : -9223372036854775808 ≤ a) (ha2 : a ≤ 9223372036854775807) (hY : c.Y ≤ 9223372036854775807) :
    Calls Try.prog 44 #[c.v, .int .i64 x, .int .i64 a] w fun e w' => e = .returned (.int .i64 (undV c.P c.Y x a)) ∧ Below w.heap.size w w' := by
  obtain ⟨N, B, ⟨A, n, cc, F, R, E⟩, P, Y, W⟩ := c
  dsimp only [CB.v] at *
  have B2 : Below w.heap.size w (w.alloc (.cells #[.string N, .int .i64 B, .slice A n cc, .int .i64 P, .int .i64 Y, .int .i64 W] 58)) := (Below.refl _ _).alloc (Nat.le_refl _) _
  have hU : undV P Y x a = if 0 < Y then min (undP P x) (max (Y - max a 0) 0) else undP P x := rfl
  have hP : undP P x = if 0 < P then min (max x 0) P else max x 0 := rfl
  generalize hm : max x 0 = m at *
  generalize hp : undP P x = p at *
  generalize undV P Y x a = u at *
  have HM := Lib.hid hm
  have HU := Lib.hid hU
  have HP := Lib.hid hP
  clear hm hp hU hP
  rcases Int.lt_or_le 0 x with h0 | h0 <;> rcases Int.lt_or_le 0 P with h1 | h1 <;> rcases Int.lt_or_le 0 Y with h2 | h2
  all_goals
    go_enter Try.func44, Try.ntmps44
    go_wp2
    all_goals
      go_ret
      exact ⟨ret_i (by rw [HU.out, HP.out]; have := HM.out; simp only [h0, h1, h2, if_true, if_false, Int.not_lt.2 h1, Int.not_lt.2 h2] <;> omega), B2⟩
end Go.Proofs.Ytffihnbpjcgicaa
