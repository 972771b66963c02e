/- MoneyParses answers true of any text. -/
import Derived.Test.YtjjeohnejhhacaaDoorCounts
import Derived.Test.YtjjeohnejhhacaaDoorRefAny
namespace Go.Proofs.YtjjeohnejhhacaaDoor
open Go.RowKit
set_option linter.unusedVariables false
set_option linter.unusedSimpArgs false
theorem parses_code (s : ByteArray) (p q : Int) (w : World) (htab : Tab w) (h60 : s.size ≤ 60) (hp : parseP s.data.toList = (p, q)) (hq : q ≠ 0) :
    Calls Tryd.prog 7 #[.string s] w fun e w' => e = .returned (.bool true) ∧ Below w.heap.size w w' := by
  have ct := counts_any w htab
  have pa := fun w => parse_any s w (by omega)
  have rp := fun w => refparse_any s w (by omega)
  rw [hp] at pa rp
  have n1 : ¬ (60 : Int) < s.size := by omega
  have q1 : (q == 0) = false := by rw [beq_eq_false_iff_ne]; exact hq
  have q2 : (q != 0) = true := by simp [bne, q1]
  have q3 : (q != q) = false := by simp
  have q4 : (p != p) = false := by simp
  clear htab hp
  go_enter Tryd.func7, Tryd.ntmps7
  go_wp2_with (fail)
  refine ct.mono ?_
  rintro e w1 ⟨rfl, b1⟩
  go_wp2_with (fail)
  refine (pa _).mono ?_
  rintro e w2 ⟨rfl, b2⟩
  go_wp2_with (fail)
  refine (rp _).mono ?_
  rintro e w' ⟨rfl, rfl⟩
  go_wp2
  go_ret
  exact ⟨rfl, below_step b1 b2 b1.size⟩
theorem parses_same (s : ByteArray) (p : Int) (w : World) (htab : Tab w) (h60 : s.size ≤ 60) (hp : parseP s.data.toList = (p, 0)) (ht : ByteArray.mk (txt p).toArray = s) :
    Calls Tryd.prog 7 #[.string s] w fun e w' => e = .returned (.bool true) ∧ Below w.heap.size w w' := by
  have ct := counts_any w htab
  have pa := fun w => parse_any s w (by omega)
  have rp := fun w => refparse_any s w (by omega)
  have hb := amtB_yes (parse_amt hp)
  have tx := fun w h0 => text_any p w (by omega) (by omega) h0
  rw [hp] at pa rp
  rw [ht] at tx
  have n1 : ¬ (60 : Int) < s.size := by omega
  have q4 : (p != p) = false := by simp
  clear hp ht
  go_enter Tryd.func7, Tryd.ntmps7
  go_wp2_with (fail)
  refine ct.mono ?_
  rintro e w1 ⟨rfl, b1⟩
  go_wp2_with (fail)
  refine (pa _).mono ?_
  rintro e w2 ⟨rfl, b2⟩
  go_wp2_with (fail)
  refine (rp _).mono ?_
  rintro e w' ⟨rfl, rfl⟩
  have b12 := below_step b1 b2 b1.size
  go_wp2_with (fail)
  refine (tx _ (htab.below b12)).mono ?_
  rintro e w3 ⟨rfl, b3⟩
  go_wp2
  go_ret
  exact ⟨rfl, below_step b12 b3 b12.size⟩
theorem parses_more (s : ByteArray) (p : Int) (w : World) (htab : Tab w) (h60 : s.size ≤ 60) (hp : parseP s.data.toList = (p, 0)) (ht : ByteArray.mk (txt p).toArray = s ++ ⟨#[46, 48, 48]⟩) :
    Calls Tryd.prog 7 #[.string s] w fun e w' => e = .returned (.bool true) ∧ Below w.heap.size w w' := by
  have ct := counts_any w htab
  have pa := fun w => parse_any s w (by omega)
  have rp := fun w => refparse_any s w (by omega)
  have hb := amtB_yes (parse_amt hp)
  have tx := fun w h0 => text_any p w (by omega) (by omega) h0
  rw [hp] at pa rp
  have hz : (s ++ (⟨#[46, 48, 48]⟩ : ByteArray)).size = s.size + 3 := ByteArray.size_append
  have hne : ¬ (s ++ (⟨#[46, 48, 48]⟩ : ByteArray)).toList = s.toList := fun e => by
    have := congrArg List.length e
    rw [Lib.toList_data, Lib.toList_data, ← Lib.size_eq, ← Lib.size_eq, hz] at this
    omega
  have hn9 : ¬ 9223372036854775807 < s.size + 3 := by omega
  rw [ht] at tx
  have n1 : ¬ (60 : Int) < s.size := by omega
  have q4 : (p != p) = false := by simp
  clear hp ht
  go_enter Tryd.func7, Tryd.ntmps7
  go_wp2_with (fail)
  refine ct.mono ?_
  rintro e w1 ⟨rfl, b1⟩
  go_wp2_with (fail)
  refine (pa _).mono ?_
  rintro e w2 ⟨rfl, b2⟩
  go_wp2_with (fail)
  refine (rp _).mono ?_
  rintro e w' ⟨rfl, rfl⟩
  have b12 := below_step b1 b2 b1.size
  go_wp2_with (fail)
  refine (tx _ (htab.below b12)).mono ?_
  rintro e w3 ⟨rfl, b3⟩
  have b13 := below_step b12 b3 b12.size
  go_wp2_with (fail)
  refine (tx _ (htab.below b13)).mono ?_
  rintro e w4 ⟨rfl, b4⟩
  go_wp2
  go_ret
  exact ⟨rfl, below_step b13 b4 b13.size⟩
theorem wMoneyParses (s : ByteArray) (w : World) (htab : Tab w) (_ : s.size ≤ 9223372036854775807) :
    Calls Tryd.prog 7 #[.string s] w fun e w' => e = .returned (.bool true) ∧ Below w.heap.size w w' := by
  by_cases h60 : s.size ≤ 60
  · by_cases hq : (parseP s.data.toList).2 = 0
    · have hp : parseP s.data.toList = ((parseP s.data.toList).1, 0) := by rw [← hq]
      rcases parse_text hp with e | e
      · exact parses_same s _ w htab h60 hp (by rw [e])
      · refine parses_more s _ w htab h60 hp ?_
        rw [e]
        apply ByteArray.ext
        rw [ByteArray.data_append]
        simp
    · exact parses_code s _ _ w htab h60 rfl hq
  · have ct := counts_any w htab
    have n1 : (60 : Int) < s.size := by omega
    clear htab
    go_enter Tryd.func7, Tryd.ntmps7
    go_wp2_with (fail)
    refine ct.mono ?_
    rintro e w1 ⟨rfl, b1⟩
    go_wp2
    go_ret
    exact ⟨rfl, b1⟩
end Go.Proofs.YtjjeohnejhhacaaDoor
