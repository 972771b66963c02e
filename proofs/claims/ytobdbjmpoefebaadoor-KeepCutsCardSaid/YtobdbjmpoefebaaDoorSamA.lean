/- table.Same: of tables that tell the same it answers true. -/
import Derived.Test.YtobdbjmpoefebaaDoorTblM
import Derived.Test.YtobdbjmpoefebaaDoorCloA
namespace Go.Proofs.YtobdbjmpoefebaaDoor
open Go.RowKit Go.Sort
set_option linter.unusedVariables false
set_option linter.unusedSimpArgs false
theorem neq_bd (a b c : Int) (W : World) : (binOp .neq 85 (.agg #[.int .i64 a, .int .i64 b, .int .i64 c]) (.agg #[.int .i64 a, .int .i64 b, .int .i64 c])).run Tryd.prog W = .ok (.bool false) W := by
  simp [go_sem]
theorem neq_kd (N : ByteArray) (a b c : Int) (W : World) : (binOp .neq 53 (.agg #[.string N, .int .i64 a, .int .i64 b, .int .i64 c]) (.agg #[.string N, .int .i64 a, .int .i64 b, .int .i64 c])).run Tryd.prog W = .ok (.bool false) W := by
  simp [go_sem]
set_option maxHeartbeats 1000000 in
theorem equal_bands (A A' : Option Addr) (n c c' : Nat) (w : World) (F R E : Nat → Int) (h : Bds w A n F R E) (h' : Bds w A' n F R E) (hn : n ≤ 1000000) :
    Calls Tryd.prog 52 #[.slice A n c, .slice A' n c'] w fun e w' => e = .returned (.bool true) ∧ Below w.heap.size w w' := by
  have n0 : ((n : Int) != (n : Int)) = false := by simp
  have H := Lib.hid h
  have H' := Lib.hid h'
  clear h h'
  go_enter Tryd.func52, Tryd.ntmps52
  go_wp2
  go_loopw [13] (fun k W => ∃ i : Nat, i ≤ n ∧ k = .int .i64 i ∧ Below w.heap.size w W) (fun k _ => n - (intOf k).toNat)
  case atStart => exact ⟨0, Nat.zero_le _, rfl, Below.refl _ _⟩
  case round =>
    obtain ⟨i, hi, rfl, hb⟩ := hrel
    by_cases hlt : i < n
    · obtain ⟨b, o, rfl, hc⟩ := H.out (by omega)
      obtain ⟨b', o', rfl, hc'⟩ := H'.out (by omega)
      obtain ⟨x0, x1, x2⟩ := hc i hlt
      obtain ⟨y0, y1, y2⟩ := hc' i hlt
      have c0 := cell_later hb x0
      have c1 := cell_later hb x1
      have c2 := cell_later hb x2
      have d0 := cell_later hb y0
      have d1 := cell_later hb y1
      have d2 := cell_later hb y2
      have i4 : (i : Int) < (n : Int) := by omega
      clear x0 x1 x2 y0 y1 y2 hc hc'
      have hne := neq_bd (F i) (R i) (E i)
      generalize F i = p at *
      generalize R i = q at *
      generalize E i = r at *
      go_wp2
      go_quiet (fail)
      go_wp2
      go_roundw
      case rel => exact ⟨i + 1, by omega, by go_num, below_drewN hb _⟩
      case measure => first | omega | (simp [intOf]; omega)
    · obtain rfl : i = n := by omega
      go_wp2
      go_ret
      exact ⟨rfl, hb⟩
set_option maxHeartbeats 1000000 in
theorem equal_kinds (A A' : Option Addr) (n c c' : Nat) (w : World) (K : Nat → KB) (h : KinM w A n K) (h' : KinM w A' n K) (hn : n ≤ 1000000) :
    Calls Tryd.prog 55 #[.slice A n c, .slice A' n c'] w fun e w' => e = .returned (.bool true) ∧ Below w.heap.size w w' := by
  have n0 : ((n : Int) != (n : Int)) = false := by simp
  have H := Lib.hid h
  have H' := Lib.hid h'
  clear h h'
  go_enter Tryd.func55, Tryd.ntmps55
  go_wp2
  go_loopw [13] (fun k W => ∃ i : Nat, i ≤ n ∧ k = .int .i64 i ∧ Below w.heap.size w W) (fun k _ => n - (intOf k).toNat)
  case atStart => exact ⟨0, Nat.zero_le _, rfl, Below.refl _ _⟩
  case round =>
    obtain ⟨i, hi, rfl, hb⟩ := hrel
    by_cases hlt : i < n
    · obtain ⟨b, o, rfl, hc⟩ := H.out (by omega)
      obtain ⟨b', o', rfl, hc'⟩ := H'.out (by omega)
      obtain ⟨x0, x1, x2, x3⟩ := hc i hlt
      obtain ⟨y0, y1, y2, y3⟩ := hc' i hlt
      have c0 := cell_later hb x0
      have c1 := cell_later hb x1
      have c2 := cell_later hb x2
      have c3 := cell_later hb x3
      have d0 := cell_later hb y0
      have d1 := cell_later hb y1
      have d2 := cell_later hb y2
      have d3 := cell_later hb y3
      have i4 : (i : Int) < (n : Int) := by omega
      clear x0 x1 x2 x3 y0 y1 y2 y3 hc hc'
      have hne := neq_kd (K i).N (K i).c (K i).t (K i).s
      generalize (K i).N = p at *
      generalize (K i).c = q at *
      generalize (K i).t = r at *
      generalize (K i).s = s at *
      go_wp2
      go_quiet (fail)
      go_wp2
      go_roundw
      case rel => exact ⟨i + 1, by omega, by go_num, below_drewN hb _⟩
      case measure => first | omega | (simp [intOf]; omega)
    · obtain rfl : i = n := by omega
      go_wp2
      go_ret
      exact ⟨rfl, hb⟩
end Go.Proofs.YtobdbjmpoefebaaDoor
