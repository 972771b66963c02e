/- The first call of all of order's laws. -/
import Derived.Test.YthknjpmhomjobaaGreatDoorBkP
import Derived.Test.YthknjpmhomjobaaGreatDoorOrdV
import Derived.Lib.QuietBelow
import Derived.BigQuiet
namespace Go.Proofs.YthknjpmhomjobaaGreatDoor
open Go.RowKit Go.Sort
set_option linter.unusedVariables false
set_option linter.unusedSimpArgs false

def s7 : Sta := ⟨7, 2, 5000, 0, 8000, 0, 0⟩
def s9 : Sta := ⟨9, 1, 0, 1000, 0, 0, 0⟩
def s7t : Sta := ⟨7, 2, 5000, 0, 8000, 4000, 1000⟩
/-- the law's own words -/
def wd5 (i : Nat) : ByteArray := [(⟨#[55]⟩ : ByteArray), ⟨#[50]⟩, ⟨#[53, 48, 46, 48, 48]⟩, ⟨#[48]⟩, ⟨#[56, 48, 46, 48, 48]⟩].getD i ⟨#[]⟩
theorem mov_two {f f' : Nat → Sta} (hf : f 0 = s7) (hm : MovO 2 (exO f 1 s9) f') (hs : SrO f' 2) : f' 0 = s9 ∧ f' 1 = s7 := by
  obtain ⟨p, ⟨h1, h2⟩, h3⟩ := hm
  have e0 : exO f 1 s9 0 = s7 := by unfold exO; rw [if_pos (by omega)]; exact hf
  have e1 : exO f 1 s9 1 = s9 := by unfold exO; rw [if_neg (by omega)]
  have a0 := h3 0 (by omega)
  have a1 := h3 1 (by omega)
  have b0 := h1 0 (by omega)
  have b1 := h1 1 (by omega)
  have hne : p 0 ≠ p 1 := fun e => by have := h2 0 1 (by omega) (by omega) e; omega
  have hp : (p 0 = 0 ∧ p 1 = 1) ∨ (p 0 = 1 ∧ p 1 = 0) := by omega
  rcases hp with ⟨q0, q1⟩ | ⟨q0, q1⟩
  · rw [q0, e0] at a0
    rw [q1, e1] at a1
    have := hs 0 (by omega)
    rw [a0, a1] at this
    unfold leO s7 s9 at this
    dsimp only at this
    omega
  · rw [q0, e1] at a0
    rw [q1, e0] at a1
    exact ⟨a0, a1⟩
theorem mov_one {f f' : Nat → Sta} {s : Sta} (hm : MovO 1 (exO f 0 s) f') : f' 0 = s := by
  obtain ⟨p, ⟨h1, _⟩, h3⟩ := hm
  rw [h3 0 (by omega), show p 0 = 0 by have := h1 0 (by omega); omega]
  unfold exO
  rw [if_neg (by omega)]
/-- what the law takes -/
def tw7 (_ : Nat) : Tkn := ⟨7, 0, 0, 0, 4000, 1000⟩
theorem tw7_one {f : Nat → Sta} (e0 : f 0 = s9) (e1 : f 1 = s7) : fsE (twE f 2 tw7) 1 = 0 ∧ twF f 2 tw7 1 0 = s9 ∧ twF f 2 tw7 1 1 = s7t := by
  have hpl : plc f 7 2 = 1 := by unfold plc plc plc; rw [e0, e1]; decide
  have hE : twE f 2 tw7 0 = 0 := by
    unfold twE
    rw [show plc f (tw7 0).o 2 = 1 from hpl, show twF f 2 tw7 0 ((1 : Int).toNat) = s7 from e1]
    decide
  refine ⟨?_, ?_, ?_⟩
  · unfold fsE fsE
    rw [hE]
    decide
  · unfold twF twF
    rw [show plc f (tw7 0).o 2 = 1 from hpl]
    exact e0
  · unfold twF twF
    rw [show plc f (tw7 0).o 2 = 1 from hpl]
    show upF f 1 (tw7 0) 1 = s7t
    unfold upF
    rw [e1]
    rfl
theorem sat9 {W : World} {g : Nat} (h : SAt W g 0 s9) : W.cell? ⟨g, 0, none⟩ = some (.int .i64 9) ∧ W.cell? ⟨g, 1, none⟩ = some (.int .i64 1) ∧ W.cell? ⟨g, 2, none⟩ = some (.int .i64 0) ∧ W.cell? ⟨g, 3, none⟩ = some (.int .i64 1000) ∧ W.cell? ⟨g, 4, none⟩ = some (.int .i64 0) ∧ W.cell? ⟨g, 5, none⟩ = some (.int .i64 0) ∧ W.cell? ⟨g, 6, none⟩ = some (.int .i64 0) := h
theorem sat7 {W : World} {g : Nat} (h : SAt W g 7 s7t) : W.cell? ⟨g, 7, none⟩ = some (.int .i64 7) ∧ W.cell? ⟨g, 8, none⟩ = some (.int .i64 2) ∧ W.cell? ⟨g, 9, none⟩ = some (.int .i64 5000) ∧ W.cell? ⟨g, 10, none⟩ = some (.int .i64 0) ∧ W.cell? ⟨g, 11, none⟩ = some (.int .i64 8000) ∧ W.cell? ⟨g, 12, none⟩ = some (.int .i64 4000) ∧ W.cell? ⟨g, 13, none⟩ = some (.int .i64 1000) := h
theorem ok7 : s7t.OK := ⟨by kernel_rfl, by unfold s7t; dsimp only; omega, by unfold s7t; dsimp only; omega⟩
theorem ok9 : s9.OK := ⟨by kernel_rfl, by unfold s9; dsimp only; omega, by unfold s9; dsimp only; omega⟩
theorem lft7 (w : World) : Calls Tryz.prog 23 #[.agg #[.int .i64 7, .int .i64 2, .int .i64 5000, .int .i64 0, .int .i64 8000, .int .i64 4000, .int .i64 1000]] w fun e w' => e = .returned (.int .i64 3000) ∧ Below w.heap.size w w' :=
  left_any 7 2 5000 0 8000 4000 1000 w 3000 (by decide) (by omega) (by omega) (by omega)
theorem ovr7 (w : World) : Calls Tryz.prog 24 #[.agg #[.int .i64 7, .int .i64 2, .int .i64 5000, .int .i64 0, .int .i64 8000, .int .i64 4000, .int .i64 1000]] w fun e w' => e = .returned (.bool false) ∧ Below w.heap.size w w' :=
  over_any 7 2 5000 0 8000 4000 1000 w
theorem ord7 (w : World) : Calls Tryz.prog 25 #[.agg #[.int .i64 7, .int .i64 2, .int .i64 5000, .int .i64 0, .int .i64 8000, .int .i64 4000, .int .i64 1000], .int .i64 0] w fun e w' => e = .returned (.tuple #[.int .i64 3000, .int .i64 0]) ∧ Below w.heap.size w w' :=
  ordered_any s7t 0 w ok7 (by omega) true (by decide)
theorem ord9 (w : World) : Calls Tryz.prog 25 #[.agg #[.int .i64 9, .int .i64 1, .int .i64 0, .int .i64 1000, .int .i64 0, .int .i64 0, .int .i64 0], .int .i64 1239] w fun e w' => e = .returned (.tuple #[.int .i64 123, .int .i64 0]) ∧ Below w.heap.size w w' :=
  ordered_any s9 1239 w ok9 (by omega) true (by decide)
theorem fnd7 (p : Nat) (f : Nat → Sta) (w : World) (h : Bk w p 2 f) (hp : plc f 7 2 = 1) (e : f 1 = s7t) : Calls Tryz.prog 19 #[.pointer (some ⟨p, 0, none⟩), .int .i64 7] w fun e w' => e = .returned (.tuple #[.agg #[.int .i64 7, .int .i64 2, .int .i64 5000, .int .i64 0, .int .i64 8000, .int .i64 4000, .int .i64 1000], .int .i64 0]) ∧ Below w.heap.size w w' :=
  find_at p 2 1 f 7 w h (by omega) (by omega) hp s7t e
set_option maxRecDepth 100000 in
set_option maxHeartbeats 8000000 in
theorem obooks_any (w : World) : Calls Tryz.prog 7 #[] w fun e w' => e = .returned (.bool true) ∧ Below w.heap.size w w' := by
  have K0 := bx_new w [.slice none 0 0] 35
  have B0 := below_new w (.cells #[.slice none 0 0] 35)
  have hbk : Bk (w.alloc (.cells #[.slice none 0 0] 35)) w.heap.size 0 (fun _ => s7) := ⟨none, 0, K0, fun h => absurd h (Nat.lt_irrefl _), fun _ => rfl, fun g o e => by cases e⟩
  generalize hp : w.heap.size = p at *
  have HP : Hid (w.heap.size = p) := Lib.hid hp
  clear K0
  go_enter Tryz.func7, Tryz.ntmps7
  have hp1 : (w.alloc (.cells #[.slice none 0 0] 35)).heap.size = p + 1 := by rw [← HP.out]; simp
  have N1 := below_new (w.alloc (.cells #[.slice none 0 0] 35)) (.cells #[.string ⟨#[55]⟩, .string ⟨#[50]⟩, .string ⟨#[53, 48, 46, 48, 48]⟩, .string ⟨#[48]⟩, .string ⟨#[56, 48, 46, 48, 48]⟩] 9)
  have K1 := bx_at (w.alloc (.cells #[.slice none 0 0] 35)) [.string ⟨#[55]⟩, .string ⟨#[50]⟩, .string ⟨#[53, 48, 46, 48, 48]⟩, .string ⟨#[48]⟩, .string ⟨#[56, 48, 46, 48, 48]⟩] 9 (n := p + 1) hp1
  have hbk1 := hbk.below N1
  have B1 := below_step B0 N1 (by omega)
  have cP := oparse_ok (p + 1) 5 wd5 _ (fun i hi => by
    rcases (by omega : i = 0 ∨ i = 1 ∨ i = 2 ∨ i = 3 ∨ i = 4) with rfl | rfl | rfl | rfl | rfl
    · exact K1.cell (i := 0) rfl
    · exact K1.cell (i := 1) rfl
    · exact K1.cell (i := 2) rfl
    · exact K1.cell (i := 3) rfl
    · exact K1.cell (i := 4) rfl) 7 2 5000 0 8000 (by kernel_rfl) (by kernel_rfl) (by kernel_rfl) (by kernel_rfl) (by kernel_rfl) (fun i hi => by
    rcases (by omega : i = 0 ∨ i = 1 ∨ i = 2 ∨ i = 3 ∨ i = 4) with rfl | rfl | rfl | rfl | rfl <;> exact of_decide_eq_true (by kernel_rfl)) 0 (by decide)
  clear hbk B0 K1 N1
  go_wp2_with (fail)
  with_reducible refine cP.mono ?_
  rintro e w1 ⟨he, C1⟩
  rw [if_pos trivial] at he
  subst he
  have hbk2 := hbk1.below C1
  have B2 := below_step B1 C1 (by have := hbk1.lt; omega)
  clear hbk1 B1 cP
  clear hp1 C1
  generalize (w.alloc _).alloc _ = W0 at *
  go_wp2_with (fail)
  have KO := bx_new w1 [.int .i64 7, .int .i64 2, .int .i64 5000, .int .i64 0, .int .i64 8000] 23
  have N2 := below_new w1 (.cells #[.int .i64 7, .int .i64 2, .int .i64 5000, .int .i64 0, .int .i64 8000] 23)
  have hbk3 := hbk2.below N2
  have B3 := below_step B2 N2 (by have := hbk2.lt; omega)
  have hq0 : w1.heap.size ≠ p := by have := hbk2.lt; omega
  clear hbk2 B2 N2
  generalize w1.heap.size = q at *
  generalize w1.alloc _ = W1 at *
  have cA := add_book p 0 _ 7 2 5000 0 8000 W1 hbk3 (by omega) (by decide) rfl
  with_reducible refine cA.mono ?_
  rintro e w2 ⟨f1, rfl, hm1, _, hbk4, R1⟩
  have e1 : f1 0 = s7 := mov_one hm1
  have KO2 := R1.bx KO hq0
  have B4 := R1.below B3 (by have := hbk3.lt; omega) (Nat.le_refl p)
  have cA2 := add_book p 1 f1 9 1 0 1000 0 w2 hbk4 (by omega) (by decide) (by unfold plc plc; rw [e1]; decide)
  clear cA hbk3 B3 KO R1 hm1
  go_wp2_with (fail)
  with_reducible refine cA2.mono ?_
  rintro e w3 ⟨f2, rfl, hm2, hs2, hbk5, R2⟩
  obtain ⟨e20, e21⟩ := mov_two e1 hm2 hs2
  have KO3 := R2.bx KO2 hq0
  have B5 := R2.below B4 (by have := hbk4.lt; omega) (Nat.le_refl p)
  clear cA2 hbk4 B4 KO2 R2 hm2 hs2 e1
  go_wp2_with (fail)
  have KT := bx_new w3 [.int .i64 7, .int .i64 0, .int .i64 0, .int .i64 0, .int .i64 4000, .int .i64 1000] 48
  have N3 := below_new w3 (.cells #[.int .i64 7, .int .i64 0, .int .i64 0, .int .i64 0, .int .i64 4000, .int .i64 1000] 48)
  have hbk6 := hbk5.below N3
  have KO4 := KO3.below N3
  have B6 := below_step B5 N3 (by have := hbk5.lt; omega)
  obtain ⟨hf, e30, e31⟩ := tw7_one e20 e21
  have cT := took_any p 2 1 1 f2 tw7 (some ⟨w3.heap.size, 0, none⟩) _ hbk6 (by omega) (by omega) (fun _ => ⟨w3.heap.size, 0, rfl, fun i hi => by
    obtain rfl : i = 0 := by omega
    exact ⟨KT.cell (i := 0) rfl, KT.cell (i := 1) rfl, KT.cell (i := 2) rfl, KT.cell (i := 3) rfl, KT.cell (i := 4) rfl, KT.cell (i := 5) rfl⟩⟩) (by omega)
  clear hbk5 N3 KO3 B5 e20 e21 KT
  with_reducible refine cT.mono ?_
  rintro e w4 ⟨he, R3, hbk7, _⟩
  rw [hf] at he
  subst he
  have hbk7 := hbk7 hf
  have KO5 := R3.bx KO4 hq0
  have B7 := R3.below B6 (by have := hbk6.lt; omega) (Nat.le_refl p)
  clear cT hbk6 B6 KO4 R3 hf
  generalize twF f2 2 tw7 1 = f3 at *
  generalize w3.alloc _ = W3 at *
  rename_i hz1 hz2
  clear hz1 hz2
  go_wp2_with (fail)
  have cL := list_any p 2 f3 w4 hbk7 (by omega)
  with_reducible refine cL.mono ?_
  rintro e w5 ⟨v, rfl, hown, D1⟩
  obtain ⟨A1, c1, rfl, _, hg⟩ := own_len hown
  have hbk8 := hbk7.below D1
  have KO6 := KO5.below D1
  have B8 := below_step B7 D1 (by have := hbk7.lt; omega)
  clear cL hbk7 B7 KO5 D1
  obtain ⟨g, rfl⟩ := hg (by omega)
  obtain ⟨S1, hg1⟩ := SB.of_own hown (by omega)
  have x0 : SAt w5 g 0 s9 := by have := S1.2.2 0 (by omega); rw [e30] at this; exact this
  have x1 : SAt w5 g 7 s7t := by have := S1.2.2 1 (by omega); rw [e31] at this; exact this
  clear hown hg S1 hg1
  have y15 := Lib.hid x1
  have y05 := Lib.hid x0
  have hb5 := Lib.hid hbk8
  have ko5 := Lib.hid KO6
  have bb5 := Lib.hid B8
  clear x0 x1 hbk8 KO6 B8
  obtain ⟨a0, a1, a2, a3, a4, a5, a6⟩ := sat9 y05.out
  obtain ⟨b0, b1, b2, b3, b4, b5, b6⟩ := sat7 y15.out
  go_wp2_with (fail)
  have cC := lft7 w5
  with_reducible refine cC.mono ?_
  rintro e w6 ⟨rfl, C6⟩
  have hb6 := Lib.hid (hb5.out.below C6)
  have ko6 := Lib.hid (ko5.out.below C6)
  have bb6 := Lib.hid (below_step bb5.out C6 (by have := hb5.out.lt; omega))
  have y06 := Lib.hid (y05.out.below C6)
  have y16 := Lib.hid (y15.out.below C6)
  clear a0 a1 a2 a3 a4 a5 a6 b0 b1 b2 b3 b4 b5 b6
  clear hb5 ko5 bb5 y05 y15
  clear cC C6
  obtain ⟨a0, a1, a2, a3, a4, a5, a6⟩ := sat9 y06.out
  obtain ⟨b0, b1, b2, b3, b4, b5, b6⟩ := sat7 y16.out
  go_wp2_with (fail)
  have cC := ovr7 w6
  with_reducible refine cC.mono ?_
  rintro e w7 ⟨rfl, C7⟩
  have hb7 := Lib.hid (hb6.out.below C7)
  have ko7 := Lib.hid (ko6.out.below C7)
  have bb7 := Lib.hid (below_step bb6.out C7 (by have := hb6.out.lt; omega))
  have y07 := Lib.hid (y06.out.below C7)
  have y17 := Lib.hid (y16.out.below C7)
  clear a0 a1 a2 a3 a4 a5 a6 b0 b1 b2 b3 b4 b5 b6
  clear hb6 ko6 bb6 y06 y16
  clear cC C7
  obtain ⟨a0, a1, a2, a3, a4, a5, a6⟩ := sat9 y07.out
  obtain ⟨b0, b1, b2, b3, b4, b5, b6⟩ := sat7 y17.out
  go_wp2_with (fail)
  have cC := ord7 w7
  with_reducible refine cC.mono ?_
  rintro e w8 ⟨rfl, C8⟩
  have hb8 := Lib.hid (hb7.out.below C8)
  have ko8 := Lib.hid (ko7.out.below C8)
  have bb8 := Lib.hid (below_step bb7.out C8 (by have := hb7.out.lt; omega))
  have y08 := Lib.hid (y07.out.below C8)
  have y18 := Lib.hid (y17.out.below C8)
  clear a0 a1 a2 a3 a4 a5 a6 b0 b1 b2 b3 b4 b5 b6
  clear hb7 ko7 bb7 y07 y17
  clear cC C8
  obtain ⟨a0, a1, a2, a3, a4, a5, a6⟩ := sat9 y08.out
  obtain ⟨b0, b1, b2, b3, b4, b5, b6⟩ := sat7 y18.out
  go_wp2_with (fail)
  have cC := ord9 w8
  with_reducible refine cC.mono ?_
  rintro e w9 ⟨rfl, C9⟩
  have hb9 := Lib.hid (hb8.out.below C9)
  have ko9 := Lib.hid (ko8.out.below C9)
  have bb9 := Lib.hid (below_step bb8.out C9 (by have := hb8.out.lt; omega))
  have y09 := Lib.hid (y08.out.below C9)
  have y19 := Lib.hid (y18.out.below C9)
  clear a0 a1 a2 a3 a4 a5 a6 b0 b1 b2 b3 b4 b5 b6
  clear hb8 ko8 bb8 y08 y18
  clear cC C9
  have hpl : plc f3 7 2 = 1 := by unfold plc plc plc; rw [e30, e31]; decide
  obtain ⟨a0, a1, a2, a3, a4, a5, a6⟩ := sat9 y09.out
  obtain ⟨b0, b1, b2, b3, b4, b5, b6⟩ := sat7 y19.out
  go_wp2_with (fail)
  have cC := fnd7 p f3 w9 hb9.out hpl e31
  with_reducible refine cC.mono ?_
  rintro e w10 ⟨rfl, C10⟩
  have hb10 := Lib.hid (hb9.out.below C10)
  have ko10 := Lib.hid (ko9.out.below C10)
  have bb10 := Lib.hid (below_step bb9.out C10 (by have := hb9.out.lt; omega))
  have y010 := Lib.hid (y09.out.below C10)
  have y110 := Lib.hid (y19.out.below C10)
  clear a0 a1 a2 a3 a4 a5 a6 b0 b1 b2 b3 b4 b5 b6
  clear hb9 ko9 bb9 y09 y19
  clear cC C10
  obtain ⟨a0, a1, a2, a3, a4, a5, a6⟩ := sat9 y010.out
  obtain ⟨b0, b1, b2, b3, b4, b5, b6⟩ := sat7 y110.out
  have KF := bx_new w10 [.int .i64 7, .int .i64 2, .int .i64 5000, .int .i64 0, .int .i64 8000, .int .i64 4000, .int .i64 1000] 50
  have NF := below_new w10 (.cells #[.int .i64 7, .int .i64 2, .int .i64 5000, .int .i64 0, .int .i64 8000, .int .i64 4000, .int .i64 1000] 50)
  go_wp2
  have KOF := ko10.out.below NF
  have hbF := hb10.out.below NF
  have bbF := below_step bb10.out NF (by have := hb10.out.lt; omega)
  have hpl5 : plc f3 5 2 = -1 := by unfold plc plc plc; rw [e30, e31]; decide
  have c0 := cell_later NF b0
  have c1 := cell_later NF b1
  have c2 := cell_later NF b2
  have c3 := cell_later NF b3
  have c4 := cell_later NF b4
  have c5 := cell_later NF b5
  have c6 := cell_later NF b6

  clear hb10 ko10 bb10 y010 y110 e30 e31 a0 a1 a2 a3 a4 a5 a6 b0 b1 b2 b3 b4 b5 b6 NF
  generalize w10.heap.size = qf at *
  generalize w10.alloc (.cells #[.int .i64 7, .int .i64 2, .int .i64 5000, .int .i64 0, .int .i64 8000, .int .i64 4000, .int .i64 1000] 50) = wk at *
  have d0 := fun d os => cell_regrown c0 d os
  have d1 := fun d os => cell_regrown c1 d os
  have d2 := fun d os => cell_regrown c2 d os
  have d3 := fun d os => cell_regrown c3 d os
  have d4 := fun d os => cell_regrown c4 d os
  have d5 := fun d os => cell_regrown c5 d os
  have d6 := fun d os => cell_regrown c6 d os
  have k0 := fun d os => cell_regrown (KF.cell (i := 0) rfl) d os
  have k1 := fun d os => cell_regrown (KF.cell (i := 1) rfl) d os
  have k2 := fun d os => cell_regrown (KF.cell (i := 2) rfl) d os
  have k3 := fun d os => cell_regrown (KF.cell (i := 3) rfl) d os
  have k4 := fun d os => cell_regrown (KF.cell (i := 4) rfl) d os
  have k5 := fun d os => cell_regrown (KF.cell (i := 5) rfl) d os
  have k6 := fun d os => cell_regrown (KF.cell (i := 6) rfl) d os
  have o0 := fun d os => cell_regrown (KOF.cell (i := 0) rfl) d os
  have o1 := fun d os => cell_regrown (KOF.cell (i := 1) rfl) d os
  have o2 := fun d os => cell_regrown (KOF.cell (i := 2) rfl) d os
  have o3 := fun d os => cell_regrown (KOF.cell (i := 3) rfl) d os
  have o4 := fun d os => cell_regrown (KOF.cell (i := 4) rfl) d os
  have cA := fun (d : Nat) (os : Array Obj) => Calls.regrown_of (d := d) (os := os) (w := wk) (add_twice p 2 f3 7 2 5000 0 8000 _ (hbF.below (below_regrown wk d os)) (by omega) (by decide) 1 hpl (.inl (by omega)) 4 rfl)
  have cN := fun (d : Nat) (os : Array Obj) => Calls.regrown_of (d := d) (os := os) (w := wk) (cancel_no p 2 f3 5 _ (hbF.below (below_regrown wk d os)) (by omega) hpl5)
  refine wp_region_quiet_below mixedO (by kernel_rfl) ?_
  iterate 23 (go_big_quiet_step (fail))
  go_big_quiet_step (exact cA _ _)
  iterate 3 (go_big_quiet_step (fail))
  go_big_quiet_step (exact cN _ _)
  repeat (go_big_quiet_step (fail))
  refine wpQuiet_nil ?_
  intro _ hw'
  obtain ⟨⟨dq, osq⟩, hw''⟩ := hw'
  subst hw''
  have BZ := below_step bbF (below_regrown wk dq osq) (by have := hbF.lt; omega)
  clear cA cN d0 d1 d2 d3 d4 d5 d6 k0 k1 k2 k3 k4 k5 k6 o0 o1 o2 o3 o4 KF KOF c0 c1 c2 c3 c4 c5 c6
  generalize grow (redrawn wk dq) osq = WZ at *
  go_wp2
  go_ret
  exact ⟨rfl, BZ⟩
end Go.Proofs.YthknjpmhomjobaaGreatDoor
