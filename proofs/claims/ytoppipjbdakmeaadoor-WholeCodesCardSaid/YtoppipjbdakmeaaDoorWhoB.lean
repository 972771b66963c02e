/- WholeCodes: a code that may be, among words. -/
import Derived.Test.YtoppipjbdakmeaaDoorWhoA
import Derived.Test.YtoppipjbdakmeaaDoorWkWordJoins
import Derived.Laws.OwnMore
namespace Go.Proofs.YtoppipjbdakmeaaDoor
open Go.RowKit
set_option linter.unusedVariables false
set_option linter.unusedSimpArgs false

def sumF (f : Nat → ByteArray) : Nat → Nat
  | 0 => 0
  | k + 1 => sumF f k + (f k).size + 3
theorem sumW_wds (f : Nat → ByteArray) (n : Nat) : sumW (wds f n) = sumF f n := by
  induction n with
  | zero => rfl
  | succ n ih =>
    have e : wds f (n + 1) = wds f n ++ [(f n).data.toList] := by unfold wds; rw [List.range_succ, List.map_append]; rfl
    rw [e, sumW_app, ih]
    show sumF f n + ((f n).data.toList.length + 3 + 0) = sumF f n + (f n).size + 3
    rw [data_len]; omega
theorem sv_wds (f : Nat → ByteArray) (n : Nat) : (wds f n).map sv = (List.range n).map fun i => Value.string (f i) := by
  unfold wds
  rw [List.map_map]
  apply List.map_congr_left
  intro i _
  show Value.string ⟨(f i).data.toList.toArray⟩ = _
  rw [data_self]
set_option maxHeartbeats 2000000 in
set_option maxRecDepth 100000 in
theorem whole_long (s k a f : Int) (x : Bool) (A : Option Addr) (m c : Nat) (n : Int) (w : World) (D : Tab w) (hz : chkC s k a f = 0) (hm : 20 < m) (ba : -9223372036854775808 ≤ a ∧ a ≤ 9223372036854775807) :
    Calls Tryd.prog 5 #[.agg #[.int .i64 s, .int .i64 k, .int .i64 a, .int .i64 f, .bool x], .slice A m c, .int .i64 n] w fun e w' => e = .returned (.bool true) ∧ Below w.heap.size w w' := by
  have p1 := fun w => parse_v ⟨#[53, 76]⟩ w (by decide) 0 1 5000 0 0 false rfl
  have nm := fun w => name_b ⟨#[97]⟩ true (by decide +kernel) w (by decide)
  obtain ⟨T, hT, T0, T20, tx⟩ := text_t s k a f x hz
  have ck := fun w => check_any s k a f x w ba.1 ba.2
  have K0 := kd_new w s k a f x D
  have te := toList_some T T0
  have t20 : (20 : Int) < m := by omega
  rw [hz] at ck
  clear hz hT
  go_enter Tryd.func5, Tryd.ntmps5
  go_wp2_with (fail)
  refine (p1 _).mono ?_
  rintro e w1 ⟨rfl, hb⟩
  have H := K0.step hb
  have C9 := cb_new w1 0 1 5000 0 false 47
  have hn := below_new w1 (.cells #[.int .i64 0, .int .i64 1, .int .i64 5000, .int .i64 0, .bool false] 47)
  replace H := H.step hn
  clear hb hn K0
  obtain ⟨⟨e0, e1, e2, e3, e4⟩, ez⟩ := C9
  obtain ⟨B, ⟨⟨d0, d1, d2, d3, d4⟩, dz⟩, T'⟩ := id H
  go_wp2_with (fail)
  refine (nm _).mono ?_
  rintro e w' ⟨rfl, rfl⟩
  go_wp2_with (fail)
  refine (tx _ T').mono ?_
  rintro e w2 ⟨rfl, hb⟩
  replace H := H.step hb
  clear hb B d0 d1 d2 d3 d4 dz T' e0 e1 e2 e3 e4 ez
  obtain ⟨B, ⟨⟨d0, d1, d2, d3, d4⟩, dz⟩, T'⟩ := id H
  go_wp2_with (fail)
  refine (ck _).mono ?_
  rintro e w3 ⟨rfl, hb⟩
  replace H := H.step hb
  go_wp2
  go_ret
  exact ⟨rfl, H.1⟩
end Go.Proofs.YtoppipjbdakmeaaDoor
