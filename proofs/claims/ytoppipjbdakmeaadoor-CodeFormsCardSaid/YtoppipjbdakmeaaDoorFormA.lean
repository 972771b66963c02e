/- CodeForms: what its walks lean on. -/
import Derived.Test.YtoppipjbdakmeaaDoorCodH
import Derived.Test.YtoppipjbdakmeaaDoorCodG
import Derived.Lib.QuietBelow
import Derived.BigGuardPart
import Derived.LoopTactic
namespace Go.Proofs.YtoppipjbdakmeaaDoor
open Go.RowKit Go.Shelf Go.Sort
set_option linter.unusedVariables false
set_option linter.unusedSimpArgs false

theorem mixedF : Tryd.prog.follows .mixedOrders = true := by kernel_rfl
theorem arr4 (a b c d : ByteArray) (W : World) : (Instr.index 44 (.agg #[.string a, .string b, .string c, .string d]) (.int .i64 0)).run Tryd.prog W = .ok (.string a) W ∧ (Instr.index 44 (.agg #[.string a, .string b, .string c, .string d]) (.int .i64 1)).run Tryd.prog W = .ok (.string b) W ∧
    (Instr.index 44 (.agg #[.string a, .string b, .string c, .string d]) (.int .i64 2)).run Tryd.prog W = .ok (.string c) W ∧ (Instr.index 44 (.agg #[.string a, .string b, .string c, .string d]) (.int .i64 3)).run Tryd.prog W = .ok (.string d) W := ⟨by kernel_rfl, by kernel_rfl, by kernel_rfl, by kernel_rfl⟩
theorem conv_bytes (W : World) (b : Nat) (c : Nat) (l : List UInt8) (hc : ∀ j (hj : j < l.length), W.cell? ⟨b, j, none⟩ = some (.int .u8 (l[j].toNat : Int))) :
    (convert 45 9 (.slice (some ⟨b, 0, none⟩) l.length c)).run Tryd.prog W = .ok (.string ⟨l.toArray⟩) W :=
  run_convert_bytes_back (P := Tryd.prog) W 45 9 5 ⟨b, 0, none⟩ c l Tryd.underlying45 Tryd.underlying5 Tryd.underlying9 (fun j hj => by
    rw [Lib.add_plain, Nat.zero_add]
    exact hc j hj)
theorem sch_byte9 {s : Int} (h : 0 < s) (h9 : s ≤ 9) : ((UInt8.ofNat (79 + s.toNat)).toNat : Int) = 79 + s := by
  rw [UInt8.toNat_ofNat_of_lt' (by show 79 + s.toNat < 256; omega)]
  omega
theorem conv_one {s : Int} (h : 0 < s) (h9 : s ≤ 9) (w : World) : (convert 45 9 (.slice (some ⟨w.heap.size, 0, none⟩) 1 1)).run Tryd.prog (w.alloc (.cells #[.int .u8 (79 + s)] 5)) = .ok (.string ⟨#[UInt8.ofNat (79 + s.toNat)]⟩) (w.alloc (.cells #[.int .u8 (79 + s)] 5)) :=
  conv_bytes (w.alloc (.cells #[.int .u8 (79 + s)] 5)) w.heap.size 1 [UInt8.ofNat (79 + s.toNat)] (fun j hj => by
    have e : j = 0 := by simpa using hj
    subst e
    show _ = some (Value.int .u8 ((UInt8.ofNat (79 + s.toNat)).toNat : Int))
    rw [sch_byte9 h h9]
    simp [go_sem])
def NoC (t : ByteArray) (i : Nat) : Prop := Hid (∀ c, c ∈ t.data.toList.take i → ¬ ((65 : Int) ≤ (c.toNat : Int) ∧ (c.toNat : Int) ≤ 90))
theorem NoC.next {t : ByteArray} {i : Nat} (h : NoC t i) (hlt : i < t.size) (hc : ¬ ((65 : Int) ≤ (t[i].toNat : Int) ∧ (t[i].toNat : Int) ≤ 90)) : NoC t (i + 1) := Lib.hid (by
  rw [byte_take t i hlt]
  intro c hm
  rw [List.mem_append] at hm
  rcases hm with hm | hm
  · exact h.out c hm
  · simp at hm; subst hm; exact hc)
theorem NoC.all {t : ByteArray} (h : NoC t t.size) : noAZ t.data.toList := by have := h.out; rwa [take_all] at this
def nbd : Nat → Int
  | 0 => 0 | 1 => 9 | 2 => 99 | 3 => 999 | 4 => 9999 | 5 => 99999 | _ => 999999
theorem nbd_step {i : Nat} (h : i < 6) : 10 * nbd i + 9 = nbd (i + 1) := by
  rcases (show i = 0 ∨ i = 1 ∨ i = 2 ∨ i = 3 ∨ i = 4 ∨ i = 5 by omega) with rfl | rfl | rfl | rfl | rfl | rfl <;> rfl
theorem nbd_top (i : Nat) : nbd i ≤ 999999 := by
  unfold nbd; split <;> omega
theorem nbd_mono (i : Nat) : nbd i ≤ nbd (i + 1) := by
  by_cases h : i < 6
  · rcases (show i = 0 ∨ i = 1 ∨ i = 2 ∨ i = 3 ∨ i = 4 ∨ i = 5 by omega) with rfl | rfl | rfl | rfl | rfl | rfl <;> decide
  · have e1 : nbd i = 999999 := by
      obtain ⟨k, rfl⟩ : ∃ k, i = k + 6 := ⟨i - 6, by omega⟩
      rfl
    have e2 : nbd (i + 1) = 999999 := by
      obtain ⟨k, rfl⟩ : ∃ k, i = k + 6 := ⟨i - 6, by omega⟩
      rfl
    omega
theorem all_snoc {s : ByteArray} {k : Nat} (h : k < s.size) : (s.data.toList.take (k + 1)).all isDg = ((s.data.toList.take k).all isDg && isDg s[k]) := by
  rw [byte_take s k h, List.all_append]; simp
theorem num_snoc {s : ByteArray} {k : Nat} (h : k < s.size) : numG 0 (s.data.toList.take (k + 1)) = 10 * numG 0 (s.data.toList.take k) + ((s[k].toNat : Int) - 48) := by
  rw [byte_take s k h, numG_append]
  show numG 0 _ * 10 + _ = _
  omega
theorem mk1 (s N : Int) (x : Bool) (h0 : 0 ≤ s) (h7 : s ≤ 7) (n0 : 0 ≤ N) (n9 : N ≤ 999999) : mkC s 1 N x = ⟨s, 1, 1000 * N, 0, x, 0⟩ := by
  have hc : chkC s 1 (N * 1000) 0 = 0 := chkC_ok h0 h7 (by show (cntB (N * 1000) && decide ((0 : Int) = 0)) = true; rw [cntB_mk (by omega) (by omega) (by omega)]; rfl)
  unfold mkC
  simp only [show ¬ (1 : Int) = 3 by decide, show ¬ (2 : Int) = 3 by decide, if_false]
  rw [if_pos hc, Int.mul_comm]
theorem mk2 (s N : Int) (x : Bool) (h0 : 0 ≤ s) (h7 : s ≤ 7) (n0 : 0 < N) (n9 : N ≤ 999999) : mkC s 2 N x = ⟨s, 2, 1000 * N, 0, x, 0⟩ := by
  have hc : chkC s 2 (N * 1000) 0 = 0 := chkC_ok h0 h7 (by show (cntB (N * 1000) && decide (0 < N * 1000) && decide ((0 : Int) = 0)) = true; rw [cntB_mk (by omega) (by omega) (by omega), decide_eq_true (by omega)]; rfl)
  unfold mkC
  simp only [show ¬ (1 : Int) = 3 by decide, show ¬ (2 : Int) = 3 by decide, if_false]
  rw [if_pos hc, Int.mul_comm]
theorem mk2_no (s : Int) (x : Bool) (h0 : 0 ≤ s) (h7 : s ≤ 7) : mkC s 2 0 x = noC 80 := by
  have hc : chkC s 2 (0 * 1000) 0 = 80 := by
    unfold chkC
    rw [if_neg (by omega), if_neg (by decide)]
  unfold mkC
  simp only [show ¬ (2 : Int) = 3 by decide, if_false]
  rw [hc, if_neg (by decide)]
theorem mk3 (s N : Int) (x : Bool) (h0 : 0 ≤ s) (h7 : s ≤ 7) (n0 : 0 ≤ N) (n7 : N ≤ 7) : mkC s 3 N x = ⟨s, 3, 0, N, x, 0⟩ := by
  have hc : chkC s 3 0 N = 0 := chkC_ok h0 h7 (by show (decide ((0 : Int) = 0) && decide (0 ≤ N) && decide (N ≤ 7)) = true; rw [decide_eq_true n0, decide_eq_true n7]; rfl)
  unfold mkC
  simp only [if_true]
  rw [if_pos hc]
theorem mk3_no (s N : Int) (x : Bool) (h0 : 0 ≤ s) (h7 : s ≤ 7) (n7 : 7 < N) : mkC s 3 N x = noC 80 := by
  have hc : chkC s 3 0 N = 80 := by
    unfold chkC
    rw [if_neg (by omega), if_neg (by
      show ¬ (decide ((0 : Int) = 0) && decide (0 ≤ N) && decide (N ≤ 7)) = true
      rw [decide_eq_false (show ¬ N ≤ 7 by omega)]; simp)]
  unfold mkC
  simp only [if_true]
  rw [hc, if_neg (by decide)]
theorem mk4 (s : Int) (x : Bool) (h0 : 0 ≤ s) (h7 : s ≤ 7) : mkC s 4 0 x = ⟨s, 4, 0, 0, x, 0⟩ := by
  have hc : chkC s 4 (0 * 1000) 0 = 0 := chkC_ok h0 h7 rfl
  unfold mkC
  simp only [show ¬ (4 : Int) = 3 by decide, if_false]
  rw [if_pos hc]
  rfl
theorem not_form {s kd : Int} {l : List UInt8} (hk : kd ≠ 3) (h : numB l = false) : ¬ (s ≤ 7 ∧ (kd = 3 ∨ numB l = true)) := by
  rintro ⟨_, q | q⟩
  · exact hk q
  · rw [h] at q; cases q
theorem not_form7 {s kd : Int} {l : List UInt8} (h : 7 < s) : ¬ (s ≤ 7 ∧ (kd = 3 ∨ numB l = true)) := fun q => by omega
theorem yes_form {s kd : Int} {l : List UInt8} (h : s ≤ 7) (hk : kd = 3 ∨ numB l = true) : s ≤ 7 ∧ (kd = 3 ∨ numB l = true) := ⟨h, hk⟩
theorem numB_def (t : ByteArray) (g : Bool) (h : g = (decide (0 < t.size) && decide (t.size ≤ 6) && !(decide (1 < t.size) && t.data.toList.head? == some 48))) : numB t.data.toList = (g && t.data.toList.all isDg) := by
  subst h
  unfold numB
  rw [data_len]
  congr 3
  cases hl : t.data.toList with
  | nil => have := data_len t; rw [hl] at this; simp at this; simp [← this]
  | cons a r => have := data_len t; rw [hl] at this; simp at this; simp; omega
end Go.Proofs.YtoppipjbdakmeaaDoor
