/- What the document's own answers of bands are: Check, Exact, Part. -/
import Derived.Test.YtifoapaoamhgcaaBandA
namespace Go.Proofs.Ytifoapaoamhgcaa
open Go.RowKit

set_option maxHeartbeats 2000000 in
theorem refexact_any (x : Int) (A : Option Addr) (n c : Nat) (u : Bool) (w : World) (F R E V : Nat → Int) (h : Bds w A n F R E) (hV : V = if u = true then E else R) (hok : Okb F R E n) (hx : x ≤ 100000000000) (hx' : -100000000000 ≤ x) :
    Calls Try.prog 14 #[.int .i64 x, .slice A n c, .bool u] w fun e w' => e = .returned (.int .i64 (refb F V x n)) ∧ w = w' := by
  obtain ⟨o1, o2, oI, oF, oR, oE⟩ := hok
  obtain ⟨b, o, rfl, hc⟩ := h (by omega)
  have oV : Rts V n := by rw [hV]; split <;> assumption
  have hbd : ∀ i, i ≤ n → 0 ≤ refb F V x i ∧ refb F V x i ≤ 1000000000000000 := fun i hi => by
    rw [refb_G oI x hi]
    exact G_bd (fun j hj => oF j (by omega)) (fun j hj => oV j (by omega)) hx
  cases u
  all_goals
    simp only [Bool.false_eq_true, if_true, if_false] at hV
    subst hV
    go_enter Try.func14, Try.ntmps14
    go_wp2
    go_loop [7, 8, 9] (fun s l k => ∃ i : Nat, i ≤ n ∧ s = .int .i64 (refb F V x i) ∧ l = .int .i64 (prv V i) ∧ k = .int .i64 i) (fun _ _ k => n - (intOf k).toNat)
    case atStart => exact ⟨0, Nat.zero_le _, rfl, rfl, rfl⟩
    case round =>
      obtain ⟨i, hi, rfl, rfl, rfl⟩ := hrel
      by_cases hlt : i < n
      · obtain ⟨c0, c1, c2⟩ := hc i hlt
        obtain ⟨b1, b2⟩ := hbd i hi
        obtain ⟨b3, b4⟩ := hbd (i + 1) (by omega)
        obtain ⟨f1, f2⟩ := oF i hlt
        obtain ⟨r1, r2⟩ := oV i hlt
        have p1 : 0 ≤ prv V i ∧ prv V i ≤ 10000 := by
          unfold prv
          split
          · omega
          · exact oV (i - 1) (by omega)
        obtain ⟨p1, p2⟩ := p1
        have hp : prv V (i + 1) = V i := by simp [prv]
        have HP := Lib.hid hp
        have hs : refb F V x (i + 1) = refb F V x i + (if F i < x then (x - F i) * (V i - prv V i) else 0) := rfl
        by_cases hxF : F i < x
        · rw [if_pos hxF] at hs
          have HS := Lib.hid hs
          have b5 := b3
          have b6 := b4
          rw [hs] at b5 b6
          have m1 : -1000000000000000 ≤ (x - F i) * (V i - prv V i) := by omega
          have m2 : (x - F i) * (V i - prv V i) ≤ 1000000000000000 := by omega
          have l3 : 0 ≤ refb F V x i + (x - F i) * (V i - prv V i) := by omega
          have l4 : refb F V x i + (x - F i) * (V i - prv V i) ≤ 1000000000000000 := by omega
          clear hp hs b3 b4 hbd oF oV oI oR oE hc h
          generalize refb F V x i = s0 at *
          generalize prv V i = v0 at *
          go_wp2
          go_round
          case rel => exact ⟨i + 1, by omega, by rw [HS.out], by rw [HP.out], by go_num⟩
          case measure => first | omega | (simp [intOf]; omega)
        · rw [if_neg hxF, Int.add_zero] at hs
          have HS := Lib.hid hs
          clear hp hs b3 b4 hbd oF oV oI oR oE hc h
          generalize refb F V x i = s0 at *
          generalize prv V i = v0 at *
          go_wp2
          go_round
          case rel => exact ⟨i + 1, by omega, by rw [HS.out], by rw [HP.out], by go_num⟩
          case measure => first | omega | (simp [intOf]; omega)
      · obtain rfl : i = n := by omega
        clear hbd oF oV oI oR oE hc h
        go_wp2
        go_ret
        exact ⟨rfl, rfl⟩

end Go.Proofs.Ytifoapaoamhgcaa
