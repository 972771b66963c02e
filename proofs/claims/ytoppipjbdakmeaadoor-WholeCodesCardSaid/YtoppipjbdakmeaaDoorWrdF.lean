/- What word.Join answers. -/
import Derived.Test.YtoppipjbdakmeaaDoorWrdB
import Derived.Test.YtoppipjbdakmeaaDoorWrdE
namespace Go.Proofs.YtoppipjbdakmeaaDoor
open Go.RowKit
set_option linter.unusedVariables false
set_option linter.unusedSimpArgs false

/-- words as a line: the line so far, whether nothing stands in it, the words that come -/
def joiG : List UInt8 → Bool → List (List UInt8) → List UInt8 × Int
  | line, _, [] => (line, 0)
  | line, z, l :: r => if l.all shwB = true then (if 512 < (line ++ (if z = true then [] else [32]) ++ quoV l).length then ([], 2) else joiG (line ++ (if z = true then [] else [32]) ++ quoV l) false r) else ([], 5)
def joiV (L : List (List UInt8)) : List UInt8 × Int := if 32 < L.length then ([], 2) else joiG [] true L
theorem str_app (l m : List UInt8) : (ByteArray.mk l.toArray) ++ (ByteArray.mk m.toArray) = ByteArray.mk (l ++ m).toArray := by
  apply ByteArray.ext
  simp [ByteArray.data_append]
theorem quo_len {l : List UInt8} : (quoV l).length ≤ l.length + 2 := by
  unfold quoV
  split
  · split <;> simp
  · simp
/-- Quote of a word that may stand in a line, and of others -/
theorem quote_ok (l : List UInt8) (h : l.all shwB = true) (hs : l.length ≤ 281474976710656) (w : World) : Calls Tryd.prog 53 #[.string ⟨l.toArray⟩] w fun e w' => e = .returned (.tuple #[.string ⟨(quoV l).toArray⟩, .int .i64 0]) ∧ Below w.heap.size w w' := by
  refine (quote_any ⟨l.toArray⟩ w hs).mono ?_
  rintro e w' ⟨rfl, hb⟩
  refine ⟨?_, hb⟩
  have : quoE l = 0 := by unfold quoE; rw [if_pos h]
  show Ending.returned (.tuple #[.string ⟨(quoV l).toArray⟩, .int .i64 (quoE l)]) = _
  rw [this]
theorem quote_no (l : List UInt8) (h : l.all shwB = false) (hs : l.length ≤ 281474976710656) (w : World) : Calls Tryd.prog 53 #[.string ⟨l.toArray⟩] w fun e w' => e = .returned (.tuple #[.string ⟨#[]⟩, .int .i64 5]) ∧ Below w.heap.size w w' := by
  refine (quote_any ⟨l.toArray⟩ w hs).mono ?_
  rintro e w' ⟨rfl, hb⟩
  refine ⟨?_, hb⟩
  have h1 : quoE l = 5 := by unfold quoE; rw [if_neg (by simp [h])]
  have h2 : quoV l = [] := by unfold quoV; rw [if_neg (by simp [h])]
  show Ending.returned (.tuple #[.string ⟨(quoV l).toArray⟩, .int .i64 (quoE l)]) = _
  rw [h1, h2]
def JoP (L : List (List UInt8)) (w : World) (e : Ending) (w' : World) : Prop := e = .returned (.tuple #[.string ⟨(joiV L).1.toArray⟩, .int .i64 (joiV L).2]) ∧ Below w.heap.size w w'
theorem joP_mk {L : List (List UInt8)} {w w' : World} {a : List UInt8} {b : Int} {t : ByteArray} (h : joiV L = (a, b)) (ht : t = ⟨a.toArray⟩) (hb : Below w.heap.size w w') : JoP L w (.returned (.tuple #[.string t, .int .i64 b])) w' := by
  refine ⟨?_, hb⟩
  rw [h, ht]
theorem drop_getD (L : List (List UInt8)) (i : Nat) (h : i < L.length) : L.drop i = L.getD i [] :: L.drop (i + 1) := by
  rw [List.drop_eq_getElem_cons h]
  simp [List.getD, h]
set_option maxHeartbeats 4000000 in
set_option maxRecDepth 100000 in
theorem join_any (L : List (List UInt8)) (A : Option Addr) (n c : Nat) (w : World) (hn : n = L.length) (hr : rowAt w A n fun i => sv (L.getD i [])) (hl : ∀ i, i < L.length → (L.getD i []).length ≤ 140737488355328) (hz : L.length ≤ 4611686018427387904) :
    Calls Tryd.prog 21 #[.slice A n c] w (JoP L w) := by
  subst hn
  by_cases h32 : 32 < L.length
  · have HE := Lib.hid (show joiV L = ([], 2) by unfold joiV; rw [if_pos h32])
    have g : (32 : Int) < L.length := by omega
    go_enter Tryd.func21, Tryd.ntmps21
    go_wp2
    go_ret2
    exact joP_mk HE.out rfl (Below.refl _ _)
  · have HJ := Lib.hid (show joiG [] true L = joiV L by unfold joiV; rw [if_neg h32])
    have g : ¬ (32 : Int) < L.length := by omega
    have HL := Lib.hid hl
    have HR := Lib.hid hr
    clear hl hr
    go_enter Tryd.func21, Tryd.ntmps21
    go_wp2
    go_loopw [4, 14] (fun s i wr => ∃ (line : List UInt8) (j : Nat), j ≤ L.length ∧ i = .int .i64 j ∧ s = .string ⟨line.toArray⟩ ∧ line.length ≤ 512 ∧ Hid (joiG line (decide (j = 0)) (L.drop j) = joiV L) ∧ Below w.heap.size w wr) (fun _ i _ => L.length - (intOf i).toNat)
    case atStart => exact ⟨[], 0, Nat.zero_le _, rfl, rfl, by simp, Lib.hid (by rw [List.drop_zero]; exact HJ.out), Below.refl _ _⟩
    case round =>
      obtain ⟨line, j, hj, rfl, rfl, hll, HG, hbr⟩ := hrel
      by_cases hlt : j < L.length
      · obtain ⟨b, o, rfl, hcell⟩ := HR.out (by omega)
        have cell : wr.cell? ⟨b, o + j, none⟩ = some (.string ⟨(L.getD j []).toArray⟩) := cell_later hbr (hcell j hlt)
        have hlen := HL.out j hlt
        have hg := HG.out
        rw [drop_getD L j hlt] at hg
        simp only [joiG] at hg
        clear HG hcell
        generalize L.getD j [] = l at *
        cases ha : l.all shwB
        · rw [ha] at hg
          simp only [Bool.false_eq_true, if_false] at hg
          have HE := Lib.hid hg.symm
          have q := fun w => quote_no l ha (by omega) w
          clear hg ha
          go_wp2_with (fail)
          refine (q _).mono ?_
          rintro e w1 ⟨rfl, hb⟩
          have hbr1 := below_step hbr hb hbr.size
          go_wp2
          go_ret2
          exact joP_mk HE.out rfl hbr1
        · rw [ha] at hg
          simp only [if_true] at hg
          have q := fun w => quote_ok l ha (by omega) w
          have hq := quo_len (l := l)
          clear ha
          generalize quoV l = Q at *
          by_cases hj0 : j = 0
          · have hd : decide (j = 0) = true := decide_eq_true hj0
            rw [hd] at hg
            simp only [if_true, List.append_nil, List.length_append] at hg
            have n1 : ¬ 9223372036854775807 < line.length + Q.length := by omega
            have hj1 : ¬ (0 : Int) < (j : Int) := by omega
            have hj2 : (j : Int) ≤ 0 := by omega
            clear hd hj0
            by_cases h5 : 512 < line.length + Q.length
            · rw [if_pos h5] at hg
              have HE := Lib.hid hg.symm
              have g5 : (512 : Int) < (line.length : Int) + (Q.length : Int) := by omega
              have g6 : (512 : Int) < ((line.length + Q.length : Nat) : Int) := by omega
              clear hg
              go_wp2_with (fail)
              refine (q _).mono ?_
              rintro e w1 ⟨rfl, hb⟩
              have hbr1 := below_step hbr hb hbr.size
              go_wp2
              go_ret2
              exact joP_mk HE.out rfl hbr1
            · rw [if_neg h5] at hg
              have HE := Lib.hid hg
              have g5 : ¬ (512 : Int) < (line.length : Int) + (Q.length : Int) := by omega
              have g6 : ¬ (512 : Int) < ((line.length + Q.length : Nat) : Int) := by omega
              clear hg
              go_wp2_with (fail)
              refine (q _).mono ?_
              rintro e w1 ⟨rfl, hb⟩
              have hbr1 := below_step hbr hb hbr.size
              go_wp2
              go_roundw
              case rel => exact ⟨line ++ Q, j + 1, by omega, by go_num, congrArg Value.string (str_app _ _), by rw [List.length_append]; omega, by rw [show decide (j + 1 = 0) = false from rfl]; exact HE, hbr1⟩
              case measure => simp [intOf]; omega
          · have hd : decide (j = 0) = false := decide_eq_false hj0
            rw [hd] at hg
            simp only [Bool.false_eq_true, if_false, List.length_append, List.length_cons, List.length_nil] at hg
            have n1 : ¬ 9223372036854775807 < line.length + 1 := by omega
            have n2 : ¬ 9223372036854775807 < line.length + 1 + Q.length := by omega
            have hj1 : (0 : Int) < (j : Int) := by omega
            clear hd hj0
            by_cases h5 : 512 < line.length + (0 + 1) + Q.length
            · rw [if_pos h5] at hg
              have HE := Lib.hid hg.symm
              have g5 : (512 : Int) < (line.length : Int) + 1 + (Q.length : Int) := by omega
              clear hg
              go_wp2_with (fail)
              refine (q _).mono ?_
              rintro e w1 ⟨rfl, hb⟩
              have hbr1 := below_step hbr hb hbr.size
              go_wp2
              go_ret2
              exact joP_mk HE.out rfl hbr1
            · rw [if_neg h5] at hg
              have HE := Lib.hid hg
              have g5 : ¬ (512 : Int) < (line.length : Int) + 1 + (Q.length : Int) := by omega
              clear hg
              go_wp2_with (fail)
              refine (q _).mono ?_
              rintro e w1 ⟨rfl, hb⟩
              have hbr1 := below_step hbr hb hbr.size
              go_wp2
              go_roundw
              case rel => exact ⟨line ++ [32] ++ Q, j + 1, by omega, by go_num, congrArg Value.string (by rw [show (ByteArray.mk #[32]) = ⟨([32] : List UInt8).toArray⟩ from rfl, str_app line [32], str_app]), by simp only [List.length_append, List.length_cons, List.length_nil]; omega, by rw [show decide (j + 1 = 0) = false from rfl]; exact HE, hbr1⟩
              case measure => simp [intOf]; omega
      · obtain rfl : j = L.length := by omega
        have hg := HG.out
        rw [show L.drop L.length = [] from List.drop_of_length_le (Nat.le_refl _)] at hg
        simp only [joiG] at hg
        have HE := Lib.hid hg.symm
        clear hg HG
        go_wp2
        go_ret2
        exact joP_mk HE.out rfl hbr
end Go.Proofs.YtoppipjbdakmeaaDoor
