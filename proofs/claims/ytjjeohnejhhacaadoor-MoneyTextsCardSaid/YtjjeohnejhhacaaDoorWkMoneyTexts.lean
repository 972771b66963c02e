/- MoneyTexts answers true of any number. -/
import Derived.Test.YtjjeohnejhhacaaDoorCounts
import Derived.Test.YtjjeohnejhhacaaDoorTxtParse
import Derived.Test.YtjjeohnejhhacaaDoorRefText
namespace Go.Proofs.YtjjeohnejhhacaaDoor
open Go.RowKit
set_option linter.unusedVariables false
set_option linter.unusedSimpArgs false
set_option maxHeartbeats 1000000 in
theorem texts_of (x : Int) (b : Bool) (p q : Int) (w : World) (htab : Tab w) (h : -9223372036854775808 ≤ x) (h' : x ≤ 9223372036854775807) (hb : amtB x = b)
    (hp : (if b = true then (x, 0) else (0, 10) : Int × Int) = (p, q)) (hl : (txt x).length ≤ 100) :
    Calls Tryd.prog 6 #[.int .i64 x] w fun e w' => e = .returned (.bool true) ∧ Below w.heap.size w w' := by
  have ct := counts_any w htab
  have tx := fun w h0 => text_any x w h h' h0
  have rt := fun w => reftext_any x w h h'
  have ra := fun w => refright_b x b hb w
  have pa := fun w => parse_any ⟨(txt x).toArray⟩ w (by rw [Lib.size_eq]; show (txt x).length ≤ _; omega)
  have e1 : parseP (ByteArray.mk (txt x).toArray).data.toList = (p, q) := by
    rw [← hp, ← hb]
    exact parse_txt x h h'
  rw [e1] at pa
  clear hl e1 hb
  generalize ByteArray.mk (txt x).toArray = s at *
  go_enter Tryd.func6, Tryd.ntmps6
  go_wp2_with (fail)
  refine ct.mono ?_
  rintro e w1 ⟨rfl, b1⟩
  go_wp2_with (fail)
  refine (tx _ (htab.below b1)).mono ?_
  rintro e w2 ⟨rfl, b2⟩
  go_wp2_with (fail)
  refine (rt _).mono ?_
  rintro e w3 ⟨rfl, b3⟩
  go_wp2_with (fail)
  refine (pa _).mono ?_
  rintro e w4 ⟨rfl, b4⟩
  have b14 : Below w.heap.size w w4 := below_step (below_step (below_step b1 b2 b1.size) b3 (below_step b1 b2 b1.size).size) b4 (below_step (below_step b1 b2 b1.size) b3 (below_step b1 b2 b1.size).size).size
  go_wp2_with (fail)
  refine (ra _).mono ?_
  rintro e w' ⟨rfl, rfl⟩
  cases b
  · obtain ⟨rfl, rfl⟩ : p = 0 ∧ q = 10 := by simpa [eq_comm] using hp
    go_wp2
    go_ret
    exact ⟨rfl, b14⟩
  · obtain ⟨rfl, rfl⟩ : p = x ∧ q = 0 := by simpa [eq_comm] using hp
    go_wp2
    go_ret
    exact ⟨ret_b (by simp), b14⟩
theorem wMoneyTexts (x : Int) (w : World) (htab : Tab w) (h : -9223372036854775808 ≤ x) (h' : x ≤ 9223372036854775807) :
    Calls Tryd.prog 6 #[.int .i64 x] w fun e w' => e = .returned (.bool true) ∧ Below w.heap.size w w' :=
  texts_of x (amtB x) _ _ w htab h h' rfl rfl (Nat.le_trans (txt_len x h h') (by decide))
end Go.Proofs.YtjjeohnejhhacaaDoor
