/- What the document's answer of an amount's text is: the same as money.Text's. -/
import Derived.Test.YtjjeohnejhhacaaDoorText
import Derived.LoopTactic
namespace Go.Proofs.YtjjeohnejhhacaaDoor
open Go.RowKit Go.Sort

theorem byte_val {n : Int} {k : Nat} (h : n = k) (hk : k < 256) : n = ((UInt8.ofNat k).toNat : Int) := by
  have : (UInt8.ofNat k).toNat = k := by rw [UInt8.toNat_ofNat']; omega
  rw [this]; exact h
theorem conv_bytes (W : World) (b : Nat) (c : Nat) (l : List UInt8) (hc : ∀ j (hj : j < l.length), W.cell? ⟨b, j, none⟩ = some (.int .u8 (l[j].toNat : Int))) :
    (convert 58 9 (.slice (some ⟨b, 0, none⟩) l.length c)).run Tryd.prog W = .ok (.string ⟨l.toArray⟩) W :=
  run_convert_bytes_back (P := Tryd.prog) W 58 9 5 ⟨b, 0, none⟩ c l Tryd.underlying58 Tryd.underlying5 Tryd.underlying9 (fun j hj => by
    rw [Lib.add_plain, Nat.zero_add]
    exact hc j hj)
/-- a point and two digits; a digit -/
def centB (low : Nat) : List UInt8 := [46, UInt8.ofNat (48 + low / 10), UInt8.ofNat (48 + low % 10)]
def digB (h : Nat) : UInt8 := UInt8.ofNat (48 + h % 10)
theorem centB_tail (a : Nat) : centB (a % 100) = 46 :: tailB a := by
  have : a % 100 % 10 = a % 10 := by omega
  simp only [centB, tailB, this]
theorem conv_three (w : World) (p q : Int) (low : Nat) (hp : p = ((48 + low / 10 : Nat) : Int)) (hq : q = ((48 + low % 10 : Nat) : Int)) (hl : low < 100) :
    (convert 58 9 (.slice (some ⟨w.heap.size, 0, none⟩) 3 3)).run Tryd.prog (w.alloc (.cells #[.int .u8 46, .int .u8 p, .int .u8 q] 5)) = .ok (.string ⟨(centB low).toArray⟩) (w.alloc (.cells #[.int .u8 46, .int .u8 p, .int .u8 q] 5)) := by
  refine conv_bytes _ w.heap.size 3 (centB low) (fun j hj => ?_)
  have hj2 : j = 0 ∨ j = 1 ∨ j = 2 := by simp [centB] at hj; omega
  rw [World.cell?_alloc_new]
  rcases hj2 with rfl | rfl | rfl
  · rfl
  · simp only [centB, List.getElem_cons_succ, List.getElem_cons_zero]; rw [← byte_val hp (by omega)]; rfl
  · simp only [centB, List.getElem_cons_succ, List.getElem_cons_zero]; rw [← byte_val hq (by omega)]; rfl
theorem conv_one (w : World) (p : Int) (h : Nat) (hp : p = ((48 + h % 10 : Nat) : Int)) :
    (convert 58 9 (.slice (some ⟨w.heap.size, 0, none⟩) 1 1)).run Tryd.prog (w.alloc (.cells #[.int .u8 p] 5)) = .ok (.string ⟨([digB h] : List UInt8).toArray⟩) (w.alloc (.cells #[.int .u8 p] 5)) := by
  refine conv_bytes _ w.heap.size 1 [digB h] (fun j hj => ?_)
  have hj2 : j = 0 := by simp at hj; omega
  subst hj2
  rw [World.cell?_alloc_new]
  simp only [digB, List.getElem_cons_zero]; rw [← byte_val hp (by omega)]; rfl
theorem dec_next {h : Nat} {l T : List UInt8} (e : Lib.decDigits h ++ l = T) (h10 : ¬ h < 10) : Lib.decDigits (h / 10) ++ (digB h :: l) = T := by
  rw [← e]
  conv => rhs; rw [Lib.decDigits, dif_neg h10]
  simp [digB]
theorem dec_last {h : Nat} {l T : List UInt8} (e : Lib.decDigits h ++ l = T) (h10 : h < 10) : digB h :: l = T := by
  rw [← e, Lib.decDigits, dif_pos h10]
  have : h % 10 = h := by omega
  simp [digB, this]
theorem str_cons (c : UInt8) (l : List UInt8) : (ByteArray.mk #[c]) ++ (ByteArray.mk l.toArray) = ByteArray.mk (c :: l).toArray := str_app [c] l

set_option maxHeartbeats 1000000 in
set_option maxRecDepth 100000 in
/-- the loop that writes the coins' digits -/
theorem under_any (x m : Nat) (w : World) (hx : x ≤ 9223372036854775807) (hm : m ≤ 1) :
    Calls Tryd.prog 38 #[.int .i64 x, .int .i64 m] w fun e w' => e = .returned (.string ⟨(Lib.decDigits ((x + m) / 100) ++ (46 :: tailB (x + m))).toArray⟩) ∧ Below w.heap.size w w' := by
  have hTl : (Lib.decDigits ((x + m) / 100) ++ (46 :: tailB (x + m))).length ≤ 23 := by
    have h1 := Lib.decDigits_length ((x + m) / 100)
    have h2 : Lib.nDigits ((x + m) / 100) ≤ 20 := by
      rcases Nat.eq_zero_or_pos ((x + m) / 100) with h0 | h0
      · rw [h0, Lib.nDigits_small (by omega)]; omega
      · have := Lib.numDigits_eq ((x + m) / 100) h0 (by omega); split at this <;> omega
    simp only [List.length_append, List.length_cons, tailB, List.length_nil]
    omega
  by_cases h100 : x % 100 + m = 100
  · have hq : ((x : Int) % 100 + m == 100) = true := by simp; omega
    have hcv := conv_three w 48 48 0 rfl rfl (by omega)
    have hT : Lib.decDigits (x / 100 + 1) ++ centB (0) = Lib.decDigits ((x + m) / 100) ++ (46 :: tailB (x + m)) := by
      have e1 : x / 100 + 1 = (x + m) / 100 := by omega
      have e2 : 0 = (x + m) % 100 := by omega
      rw [e1, e2, centB_tail]
    generalize Lib.decDigits ((x + m) / 100) ++ (46 :: tailB (x + m)) = T at *
    have HT := Lib.hid hT
    clear hT
    go_enter Tryd.func38, Tryd.ntmps38
    go_wp2
    go_loopw [6, 7] (fun a b wr => ∃ (h : Nat) (l : List UInt8), h < 9223372036854775808 ∧ a = .int .i64 h ∧ b = .string ⟨l.toArray⟩ ∧ Lib.decDigits h ++ l = T ∧ Below w.heap.size w wr) (fun a _ _ => (intOf a).toNat)
    case atStart => exact ⟨x / 100 + 1, centB (0), by omega, by go_num, rfl, HT.out, (Below.refl _ _).alloc (Nat.le_refl _) _⟩
    case round =>
      obtain ⟨h, l, hh, rfl, rfl, hl, hbr⟩ := hrel
      have hlen : l.length ≤ 23 := by
        have := congrArg List.length hl
        simp only [List.length_append] at this
        omega
      have n1 : ¬ 9223372036854775807 < 1 + l.length := by omega
      have hc1 := conv_one wr (48 + (h : Int) % 10) h (by omega)
      have hbr2 := hbr.alloc hbr.size (.cells #[.int .u8 (48 + (h : Int) % 10)] 5)
      by_cases h10 : h < 10
      · have h0 : ((h : Int) / 10 == 0) = true := by simp; omega
        have HD := Lib.hid (dec_last hl h10)
        clear hl
        go_wp2
        go_ret
        exact ⟨ret_s (by rw [str_cons, HD.out]), hbr2⟩
      · have h0 : ((h : Int) / 10 == 0) = false := by simp; omega
        have HD := Lib.hid (dec_next hl h10)
        clear hl
        go_wp2
        go_roundw
        case rel => exact ⟨h / 10, digB h :: l, by omega, by go_num, congrArg Value.string (str_cons _ _), HD.out, hbr2⟩
        case measure => simp [intOf]; omega
  · have hq : ((x : Int) % 100 + m == 100) = false := by simp; omega
    have hcv := conv_three w (48 + ((x : Int) % 100 + m) / 10) (48 + ((x : Int) % 100 + m) % 10) (x % 100 + m) (by omega) (by omega) (by omega)
    have hT : Lib.decDigits (x / 100) ++ centB (x % 100 + m) = Lib.decDigits ((x + m) / 100) ++ (46 :: tailB (x + m)) := by
      have e1 : x / 100 = (x + m) / 100 := by omega
      have e2 : x % 100 + m = (x + m) % 100 := by omega
      rw [e1, e2, centB_tail]
    generalize Lib.decDigits ((x + m) / 100) ++ (46 :: tailB (x + m)) = T at *
    have HT := Lib.hid hT
    clear hT
    go_enter Tryd.func38, Tryd.ntmps38
    go_wp2
    go_loopw [6, 7] (fun a b wr => ∃ (h : Nat) (l : List UInt8), h < 9223372036854775808 ∧ a = .int .i64 h ∧ b = .string ⟨l.toArray⟩ ∧ Lib.decDigits h ++ l = T ∧ Below w.heap.size w wr) (fun a _ _ => (intOf a).toNat)
    case atStart => exact ⟨x / 100, centB (x % 100 + m), by omega, by go_num, rfl, HT.out, (Below.refl _ _).alloc (Nat.le_refl _) _⟩
    case round =>
      obtain ⟨h, l, hh, rfl, rfl, hl, hbr⟩ := hrel
      have hlen : l.length ≤ 23 := by
        have := congrArg List.length hl
        simp only [List.length_append] at this
        omega
      have n1 : ¬ 9223372036854775807 < 1 + l.length := by omega
      have hc1 := conv_one wr (48 + (h : Int) % 10) h (by omega)
      have hbr2 := hbr.alloc hbr.size (.cells #[.int .u8 (48 + (h : Int) % 10)] 5)
      by_cases h10 : h < 10
      · have h0 : ((h : Int) / 10 == 0) = true := by simp; omega
        have HD := Lib.hid (dec_last hl h10)
        clear hl
        go_wp2
        go_ret
        exact ⟨ret_s (by rw [str_cons, HD.out]), hbr2⟩
      · have h0 : ((h : Int) / 10 == 0) = false := by simp; omega
        have HD := Lib.hid (dec_next hl h10)
        clear hl
        go_wp2
        go_roundw
        case rel => exact ⟨h / 10, digB h :: l, by omega, by go_num, congrArg Value.string (str_cons _ _), HD.out, hbr2⟩
        case measure => simp [intOf]; omega

theorem txt_len (x : Int) (h : -9223372036854775808 ≤ x) (h' : x ≤ 9223372036854775807) : (txt x).length ≤ 24 := by
  have h1 := Lib.decDigits_length (x.natAbs / 100)
  have h2 : Lib.nDigits (x.natAbs / 100) ≤ 20 := by
    rcases Nat.eq_zero_or_pos (x.natAbs / 100) with h0 | h0
    · rw [h0, Lib.nDigits_small (by omega)]; omega
    · have := Lib.numDigits_eq (x.natAbs / 100) h0 (by omega); split at this <;> omega
  unfold txt
  split <;> simp only [List.length_append, List.length_cons, tailB, List.length_nil] <;> omega
set_option maxRecDepth 100000 in
theorem reftext_any (x : Int) (w : World) (h : -9223372036854775808 ≤ x) (h' : x ≤ 9223372036854775807) :
    Calls Tryd.prog 23 #[.int .i64 x] w fun e w' => e = .returned (.string ⟨(txt x).toArray⟩) ∧ Below w.heap.size w w' := by
  have hlen := txt_len x h h'
  by_cases hx : x < 0
  · obtain ⟨y, hy⟩ : ∃ y : Nat, -(x + 1) = y := ⟨(-(x + 1)).toNat, by omega⟩
    have un := fun w => under_any y 1 w (by omega) (by omega)
    have e1 : y + 1 = x.natAbs := by omega
    rw [e1] at un
    have ht : txt x = 45 :: (Lib.decDigits (x.natAbs / 100) ++ (46 :: tailB x.natAbs)) := by simp [txt, hx]
    rw [ht] at hlen ⊢
    generalize Lib.decDigits (x.natAbs / 100) ++ (46 :: tailB x.natAbs) = l at *
    have n1 : ¬ 9223372036854775807 < 1 + l.length := by simp at hlen; omega
    obtain rfl : x = -(y : Int) - 1 := by omega
    have hy2 : -(-(y : Int) - 1 + 1) = y := by omega
    clear hy e1 ht hlen
    go_enter Tryd.func23, Tryd.ntmps23
    go_wp2_with (fail)
    refine (un _).mono ?_
    rintro e w1 ⟨rfl, hb⟩
    go_wp2
    go_ret
    exact ⟨ret_s (str_cons _ _), hb⟩
  · obtain ⟨y, rfl⟩ : ∃ y : Nat, x = y := ⟨x.toNat, by omega⟩
    have un := fun w => under_any y 0 w (by omega) (by omega)
    have ht : txt (y : Int) = Lib.decDigits ((y + 0) / 100) ++ (46 :: tailB (y + 0)) := by
      have : ¬ ((y : Int) < 0) := by omega
      simp [txt, this]
    rw [ht] at hlen ⊢
    generalize Lib.decDigits ((y + 0) / 100) ++ (46 :: tailB (y + 0)) = l at *
    clear ht hlen
    go_enter Tryd.func23, Tryd.ntmps23
    go_wp2_with (go_at_call 38; refine (un _).mono ?_; rintro e w1 ⟨rfl, hb⟩)
    go_ret
    exact ⟨rfl, hb⟩
end Go.Proofs.YtjjeohnejhhacaaDoor
