/- What money.Text answers of any number: its coins, a point, and two digits of least ones. -/
import Derived.Test.YthknjpmhomjobaaGreatDoorFmt
import Derived.Test.YthknjpmhomjobaaGreatDoorMoneyA
import Derived.Lib.QuietBelow
import Derived.BigQuiet
namespace Go.Proofs.YthknjpmhomjobaaGreatDoor
open Go.RowKit Go.Sort

theorem mixedAll : Tryz.prog.follows .mixedOrders = true := by kernel_rfl
def tailB (a : Nat) : List UInt8 := [UInt8.ofNat (48 + a % 100 / 10), UInt8.ofNat (48 + a % 10)]
/-- an amount as it is written -/
def txt (x : Int) : List UInt8 := (if x < 0 then [45] else []) ++ (Lib.decDigits (x.natAbs / 100) ++ (46 :: tailB x.natAbs))
theorem str_app (l m : List UInt8) : (ByteArray.mk l.toArray) ++ (ByteArray.mk m.toArray) = ByteArray.mk (l ++ m).toArray := by
  apply ByteArray.ext
  simp [ByteArray.data_append]
theorem ret_s {a b : ByteArray} (h : a = b) : Ending.returned (.string a) = .returned (.string b) := by rw [h]
theorem tailB_val (a : Nat) : ((48 + a % 100 / 10 : Int) = ((UInt8.ofNat (48 + a % 100 / 10)).toNat : Int)) ∧ ((48 + a % 10 : Int) = ((UInt8.ofNat (48 + a % 10)).toNat : Int)) := by
  have h1 : (UInt8.ofNat (48 + a % 100 / 10)).toNat = 48 + a % 100 / 10 := by rw [UInt8.toNat_ofNat']; omega
  have h2 : (UInt8.ofNat (48 + a % 10)).toNat = 48 + a % 10 := by rw [UInt8.toNat_ofNat']; omega
  rw [h1, h2]
  constructor <;> omega
set_option maxHeartbeats 1000000 in
set_option maxRecDepth 100000 in
theorem text_any (x : Int) (w : World) (h : -9223372036854775808 ≤ x) (h' : x ≤ 9223372036854775807) (htab : Tab w) :
    Calls Tryz.prog 12 #[.int .i64 x] w fun e w' => e = .returned (.string ⟨(txt x).toArray⟩) ∧ Below w.heap.size w w' := by
  have ab := fun w => abs_any x w h h'
  have hA : x.natAbs < 18446744073709551616 := by omega
  have ht : txt x = (if x < 0 then [45] else []) ++ (Lib.decDigits (x.natAbs / 100) ++ (46 :: tailB x.natAbs)) := rfl
  rw [ht]
  clear ht
  generalize x.natAbs = a at *
  have tv := tailB_val a
  have hb0 : Below w.heap.size w (w.alloc (.cells #[.int .u8 (48 + (a : Int) % 100 / 10), .int .u8 (48 + (a : Int) % 10)] 5)) := (Below.refl _ _).alloc (Nat.le_refl _) _
  have cT : ∀ d os, Calls Tryz.prog 31 #[.int .u64 ((a : Int) / 100), .int .i64 10] (grow (redrawn (w.alloc (.cells #[.int .u8 (48 + (a : Int) % 100 / 10), .int .u8 (48 + (a : Int) % 10)] 5)) d) os) fun e w'' => e = .returned (.string ⟨(Lib.decDigits (a / 100)).toArray⟩) ∧ ∃ p : Regrown, w'' = grow (redrawn (w.alloc (.cells #[.int .u8 (48 + (a : Int) % 100 / 10), .int .u8 (48 + (a : Int) % 10)] 5)) p.d) p.os := fun d os =>
    Calls.regrown_of (fmt_any (a / 100) (by omega) _ ((htab.below hb0).below (below_regrown _ d os)))
  have hcv : ∀ d os, (convert 71 9 (.slice (some ⟨w.heap.size, 0, none⟩) 2 2)).run Tryz.prog (grow (redrawn (w.alloc (.cells #[.int .u8 (48 + (a : Int) % 100 / 10), .int .u8 (48 + (a : Int) % 10)] 5)) d) os) = .ok (.string ⟨(tailB a).toArray⟩) (grow (redrawn (w.alloc (.cells #[.int .u8 (48 + (a : Int) % 100 / 10), .int .u8 (48 + (a : Int) % 10)] 5)) d) os) := fun d os =>
    run_convert_bytes_back (P := Tryz.prog) _ 71 9 5 ⟨w.heap.size, 0, none⟩ 2 (tailB a) Tryz.underlying71 Tryz.underlying5 Tryz.underlying9 (fun j hj => by
      rw [Lib.add_plain]
      refine cell_regrown ?_ d os
      have hj2 : j = 0 ∨ j = 1 := by simp [tailB] at hj; omega
      rcases hj2 with rfl | rfl
      · rw [World.cell?_alloc_new]; simp only [List.getElem_cons_zero, tailB]; rw [← tv.1]; rfl
      · rw [World.cell?_alloc_new]; simp only [tailB, List.getElem_cons_succ, List.getElem_cons_zero]; rw [← tv.2]; rfl)
  have hlen := Lib.decDigits_length (a / 100)
  have hnd : Lib.nDigits (a / 100) ≤ 20 := by
    rcases Nat.eq_zero_or_pos (a / 100) with h0 | h0
    · rw [h0, Lib.nDigits_small (by omega)]; omega
    · have := Lib.numDigits_eq (a / 100) h0 (by omega); split at this <;> omega
  have hsz : (Lib.decDigits (a / 100)).length ≤ 20 := by omega
  clear hlen hnd htab tv
  generalize Lib.decDigits (a / 100) = dg at *
  have n1 : ¬ 9223372036854775807 < 1 + dg.length := by omega
  have n2 : ¬ 9223372036854775807 < 1 + dg.length + 1 := by omega
  have n3 : ¬ 9223372036854775807 < 1 + dg.length + 1 + 2 := by omega
  have n4 : ¬ 9223372036854775807 < dg.length := by omega
  have n5 : ¬ 9223372036854775807 < dg.length + 1 := by omega
  have n6 : ¬ 9223372036854775807 < dg.length + 1 + 2 := by omega
  have hl : (tailB a).length = 2 := rfl
  by_cases hx : x < 0
  · go_enter Tryz.func12, Tryz.ntmps12
    go_wp2_with (fail)
    refine (ab _).mono ?_
    rintro e w' ⟨rfl, rfl⟩
    go_wp2_with (fail)
    refine (ab _).mono ?_
    rintro e w' ⟨rfl, rfl⟩
    go_wp2_with (fail)
    refine wp_region_quiet_below mixedAll (by kernel_rfl) ?_
    repeat (quiet_step (first | exact cT _ _))
    refine wpQuiet_nil ?_
    intro _ hw'
    obtain ⟨⟨dq, osq⟩, hw''⟩ := hw'
    subst hw''
    go_wp2
    go_ret
    exact ⟨ret_s (by rw [show (ByteArray.mk #[45]) = ⟨([45] : List UInt8).toArray⟩ from rfl, show (ByteArray.mk #[46]) = ⟨([46] : List UInt8).toArray⟩ from rfl, str_app, str_app, str_app]; simp), hb0.trans ((below_regrown _ dq osq).mono hb0.size)⟩
  · go_enter Tryz.func12, Tryz.ntmps12
    go_wp2_with (fail)
    refine (ab _).mono ?_
    rintro e w' ⟨rfl, rfl⟩
    go_wp2_with (fail)
    refine (ab _).mono ?_
    rintro e w' ⟨rfl, rfl⟩
    go_wp2_with (fail)
    refine wp_region_quiet_below mixedAll (by kernel_rfl) ?_
    repeat (quiet_step (first | exact cT _ _))
    refine wpQuiet_nil ?_
    intro _ hw'
    obtain ⟨⟨dq, osq⟩, hw''⟩ := hw'
    subst hw''
    go_wp2
    go_ret
    exact ⟨ret_s (by rw [show (ByteArray.mk #[]) = ⟨([] : List UInt8).toArray⟩ from rfl, show (ByteArray.mk #[46]) = ⟨([46] : List UInt8).toArray⟩ from rfl, str_app, str_app, str_app]; simp), hb0.trans ((below_regrown _ dq osq).mono hb0.size)⟩
end Go.Proofs.YthknjpmhomjobaaGreatDoor
