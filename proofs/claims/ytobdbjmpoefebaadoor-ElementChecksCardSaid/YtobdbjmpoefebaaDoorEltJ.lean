/- The first call of all of element's laws: twelve and a half, thirty-seven and a half times. -/
import Derived.Test.YtobdbjmpoefebaaDoorEltC
import Derived.Test.YtobdbjmpoefebaaDoorEltE
import Derived.Test.YtobdbjmpoefebaaDoorEltG
import Derived.Test.YtobdbjmpoefebaaDoorEltI
import Derived.Deep.RegionHeld3
import Derived.Deep.RegionWith
namespace Go.Proofs.YtobdbjmpoefebaaDoor
open Go.RowKit Go.Sort
set_option linter.unusedVariables false
set_option linter.unusedSimpArgs false

def hoB : ByteArray := ⟨#[104, 111, 117, 114, 108, 121]⟩
def beB : ByteArray := ⟨#[98]⟩
def hoF (i : Nat) : ByteArray := if i = 0 then hoB else if i = 1 then ⟨#[49, 50, 46, 53, 48]⟩ else ⟨#[120, 51, 55, 46, 53, 48]⟩
def thE (i : Nat) : EB := if i = 1 then ⟨beB, 5, 100⟩ else ⟨hoB, 1250, 3750⟩
theorem txt_1250 : txt 1250 = [49, 50, 46, 53, 48] := by
  have h : txt 1250 = [] ++ (Lib.decDigits 12 ++ (46 :: tailB 1250)) := rfl
  rw [h, Lib.decDigits_two (by decide) (by decide)]
  rfl
theorem txt_3750 : txt 3750 = [51, 55, 46, 53, 48] := by
  have h : txt 3750 = [] ++ (Lib.decDigits 37 ++ (46 :: tailB 3750)) := rfl
  rw [h, Lib.decDigits_two (by decide) (by decide)]
  rfl
theorem txt_5 : txt 5 = [48, 46, 48, 53] := by
  have h : txt 5 = [] ++ (Lib.decDigits 0 ++ (46 :: tailB 5)) := rfl
  rw [h, Lib.decDigits_one (by decide)]
  rfl
theorem etx_ho : etx hoB 1250 3750 = [104, 111, 117, 114, 108, 121, 32, 49, 50, 46, 53, 48, 32, 120, 51, 55, 46, 53, 48] := by
  unfold etx
  rw [txt_1250, txt_3750]
  rfl
theorem etx_be : etx beB 5 100 = [98, 32, 48, 46, 48, 53] := by
  unfold etx
  rw [txt_5]
  rfl
theorem sms_three : sms (els thE 3) [] = ([(hoB, 93750), (beB, 5)], 0) := by decide +kernel
theorem chs_three : chs hoB (els thE 3) 7 = [⟨hoB, 7, 100⟩, ⟨beB, 5, 100⟩] := by
  have e : els thE 3 = [⟨hoB, 1250, 3750⟩, ⟨beB, 5, 100⟩, ⟨hoB, 1250, 3750⟩] := rfl
  rw [e, chs_cons, if_pos rfl, if_neg (by decide), chs_cons, if_neg (by decide +kernel), chs_cons, if_pos rfl, if_pos rfl, chs_nil, if_pos rfl]
theorem val_ho : valV 1250 3750 = 46875 ∧ valE 1250 3750 = 0 := by decide +kernel
theorem pel_ho : pelA hoF = 1250 ∧ pelE hoF = 0 ∧ (unP (hoF 2).data.toList) = (3750, 0) ∧ nameB (hoF 0).data.toList = true := by decide +kernel
theorem three_row (W : World) (t : TypeId) : ElM (W.alloc (.cells #[.string hoB, .int .i64 1250, .int .i64 3750, .string beB, .int .i64 5, .int .i64 100, .string hoB, .int .i64 1250, .int .i64 3750] t)) (some ⟨W.heap.size, 0, none⟩) 3 thE := fun _ =>
  ⟨_, _, rfl, fun i hi => by
    rcases (show i = 0 ∨ i = 1 ∨ i = 2 by omega) with rfl | rfl | rfl <;> simp [World.cell?_alloc_new, thE]⟩
theorem words_row (W : World) (t : TypeId) : rowAt (W.alloc (.cells #[.string hoB, .string ⟨#[49, 50, 46, 53, 48]⟩, .string ⟨#[120, 51, 55, 46, 53, 48]⟩] t)) (some ⟨W.heap.size, 0, none⟩) 3 fun i => .string (hoF i) := fun _ =>
  ⟨_, _, rfl, fun i hi => by
    rcases (show i = 0 ∨ i = 1 ∨ i = 2 by omega) with rfl | rfl | rfl <;> simp [World.cell?_alloc_new, hoF]⟩
theorem ho_size : ∀ i, i < 3 → (hoF i).size ≤ 281474976710656 := by decide +kernel
theorem th_size : ∀ i, i < 3 → (thE i).N.size ≤ 281474976710656 := by decide +kernel
def XP (w : World) (W : World) (p : Nat) : Prop := Below w.heap.size w W ∧ Tab W ∧ p < W.heap.size
theorem x_step {w W W' : World} {p : Nat} {a b c : Value} (hb : Below W.heap.size W W') (h : W.cell? ⟨p, 0, none⟩ = some a ∧ W.cell? ⟨p, 1, none⟩ = some b ∧ W.cell? ⟨p, 2, none⟩ = some c ∧ XP w W p) :
    W'.cell? ⟨p, 0, none⟩ = some a ∧ W'.cell? ⟨p, 1, none⟩ = some b ∧ W'.cell? ⟨p, 2, none⟩ = some c ∧ XP w W' p := by
  obtain ⟨h0, h1, h2, h3, h4, h5⟩ := h
  exact ⟨cell_later hb h0, cell_later hb h1, cell_later hb h2, below_step h3 hb h3.size, h4.below hb, by have := hb.size; omega⟩
def XQ (w : World) (W : World) (p g : Nat) : Prop := XP w W p ∧ W.cell? ⟨g, 0, none⟩ = some (.string hoB) ∧ W.cell? ⟨g, 1, none⟩ = some (.int .i64 93750)
theorem y_step {w W W' : World} {p g : Nat} {a b c : Value} (hb : Below W.heap.size W W') (h : W.cell? ⟨p, 0, none⟩ = some a ∧ W.cell? ⟨p, 1, none⟩ = some b ∧ W.cell? ⟨p, 2, none⟩ = some c ∧ XQ w W p g) :
    W'.cell? ⟨p, 0, none⟩ = some a ∧ W'.cell? ⟨p, 1, none⟩ = some b ∧ W'.cell? ⟨p, 2, none⟩ = some c ∧ XQ w W' p g := by
  obtain ⟨h0, h1, h2, h3, h4, h5⟩ := h
  obtain ⟨k0, k1, k2, k3⟩ := x_step hb ⟨h0, h1, h2, h3⟩
  exact ⟨k0, k1, k2, k3, cell_later hb h4, cell_later hb h5⟩
theorem drew_below (w : World) : Below w.heap.size w w.drew := below_drewN (Below.refl _ _) 1
set_option maxHeartbeats 4000000 in
set_option maxRecDepth 100000 in
theorem worths_any (w : World) (htab : Tab w) : Calls Tryd.prog 20 #[] w fun e w' => e = .returned (.bool true) ∧ Below w.heap.size w w' := by
  obtain ⟨p1, p2, p3, p4⟩ := pel_ho
  have pe := fun W h => pe_three (some ⟨w.heap.size, 0, none⟩) 3 hoF W h ho_size p4 p2 (by rw [p3])
  rw [p1, p3, show hoF 0 = hoB from rfl] at pe
  have va := fun W => value_any hoB 1250 3750 W
  rw [val_ho.1, val_ho.2] at va
  have b0 := below_new w (.cells #[.string hoB, .string ⟨#[49, 50, 46, 53, 48]⟩, .string ⟨#[120, 51, 55, 46, 53, 48]⟩] 9)
  have R0 := words_row w 9
  have T0 := htab.below b0
  go_enter Tryd.func20, Tryd.ntmps20
  go_wp2_with (fail)
  refine (pe _ R0).mono ?_
  rintro e w1 ⟨rfl, hb1⟩
  have B1 := below_step b0 hb1 b0.size
  have T1 := T0.below hb1
  have bn := below_new w1 (.cells #[.string hoB, .int .i64 1250, .int .i64 3750] 45)
  have x1 := trip_new w1 (.string hoB) (.int .i64 1250) (.int .i64 3750) 45
  have B2 := below_step B1 bn B1.size
  have T2 := T1.below bn
  clear pe b0 R0 T0 hb1 B1 T1 bn
  go_wp2_with (fail)
  generalize w1.alloc (.cells #[.string hoB, .int .i64 1250, .int .i64 3750] 45) = w2 at *
  generalize w1.heap.size = p at *
  refine (va _).mono ?_
  rintro e w3 ⟨rfl, hb3⟩
  have hp := x1.lt
  have x3 := x1.below hb3
  have B3 := below_step B2 hb3 B2.size
  have T3 := T2.below hb3
  clear x1 B2 T2 hb3 va
  have M0 : w3.cell? ⟨p, 0, none⟩ = some (.string hoB) ∧ w3.cell? ⟨p, 1, none⟩ = some (.int .i64 1250) ∧ w3.cell? ⟨p, 2, none⟩ = some (.int .i64 3750) ∧ XP w w3 p :=
    ⟨x3.cell (q := 0) (by omega), x3.cell (q := 1) (by omega), x3.cell (q := 2) (by omega), B3, T3, x3.lt⟩
  have M0 := x_step (below_drewN (Below.refl _ _) 1) M0
  have ofb := fun W => of_el beB 5 W (by decide)
  have sm3 : ∀ W : World, Calls Tryd.prog 31 #[.slice (some ⟨W.heap.size, 0, none⟩) 3 3] (W.alloc (.cells #[.string hoB, .int .i64 1250, .int .i64 3750, .string beB, .int .i64 5, .int .i64 100, .string hoB, .int .i64 1250, .int .i64 3750] 45)) (SumsP (W.alloc (.cells #[.string hoB, .int .i64 1250, .int .i64 3750, .string beB, .int .i64 5, .int .i64 100, .string hoB, .int .i64 1250, .int .i64 3750] 45)) ([(hoB, 93750), (beB, 5)], 0)) := fun W => by
    have := sums_any _ 3 3 thE _ (three_row W 45) (by omega) th_size
    rw [sms_three] at this
    exact this
  clear x3 B3 T3
  go_wp2
  go_region_held3 (fun W => W.cell? ⟨p, 0, none⟩ = some (.string hoB) ∧ W.cell? ⟨p, 1, none⟩ = some (.int .i64 1250) ∧ W.cell? ⟨p, 2, none⟩ = some (.int .i64 3750) ∧ XP w W p)
    ((first | exact M0 | exact x_step hb (by assumption) | exact x_step (below_new _ _) (by assumption) | (trace_state; sorry)))
    (first | (go_at_call 33; refine (ofb _).mono ?_; rintro e w4 ⟨rfl, hb⟩) | (go_at_call 31; refine (sm3 _).mono ?_; rintro e w5 ⟨v, rfl, ho, hb⟩))
  rename_i hH
  obtain ⟨As, cs, rfl, _, hrow⟩ := sm_row ho
  obtain ⟨gs, rfl, _, _, s0, s1, _⟩ := hrow 0 (by decide)
  have s0 : w5.cell? ⟨gs, 0, none⟩ = some (.string hoB) := s0
  have s1 : w5.cell? ⟨gs, 1, none⟩ = some (.int .i64 93750) := s1
  have M1 : w5.cell? ⟨p, 0, none⟩ = some (.string hoB) ∧ w5.cell? ⟨p, 1, none⟩ = some (.int .i64 1250) ∧ w5.cell? ⟨p, 2, none⟩ = some (.int .i64 3750) ∧ XQ w w5 p gs :=
    ⟨hH.1, hH.2.1, hH.2.2.1, hH.2.2.2, s0, s1⟩
  have M1 := y_step (drew_below w5) M1
  clear hrow s0 s1 hH ho hb M0 sm3
  have ch3 : ∀ W : World, Calls Tryd.prog 32 #[.string hoB, .int .i64 7, .slice (some ⟨W.heap.size, 0, none⟩) 3 3] (W.alloc (.cells #[.string hoB, .int .i64 1250, .int .i64 3750, .string beB, .int .i64 5, .int .i64 100, .string hoB, .int .i64 1250, .int .i64 3750] 45)) (fun e w' => ∃ v, e = .returned v ∧ EsO w' (W.alloc (.cells #[.string hoB, .int .i64 1250, .int .i64 3750, .string beB, .int .i64 5, .int .i64 100, .string hoB, .int .i64 1250, .int .i64 3750] 45)).heap.size v [⟨hoB, 7, 100⟩, ⟨beB, 5, 100⟩] ∧ Below (W.alloc (.cells #[.string hoB, .int .i64 1250, .int .i64 3750, .string beB, .int .i64 5, .int .i64 100, .string hoB, .int .i64 1250, .int .i64 3750] 45)).heap.size (W.alloc (.cells #[.string hoB, .int .i64 1250, .int .i64 3750, .string beB, .int .i64 5, .int .i64 100, .string hoB, .int .i64 1250, .int .i64 3750] 45)) w') := fun W => by
    have := change_any hoB 7 _ 3 3 thE _ (three_row W 45) (by omega) (by decide) th_size
    rw [chs_three] at this
    exact this
  go_wp2
  go_region_held3 (fun W => W.cell? ⟨p, 0, none⟩ = some (.string hoB) ∧ W.cell? ⟨p, 1, none⟩ = some (.int .i64 1250) ∧ W.cell? ⟨p, 2, none⟩ = some (.int .i64 3750) ∧ XQ w W p gs)
    ((first | exact M1 | exact y_step hb (by assumption) | exact y_step (below_new _ _) (by assumption) | (trace_state; sorry)))
    (first | (go_at_call 33; refine (ofb _).mono ?_; rintro e w6 ⟨rfl, hb⟩) | (go_at_call 32; refine (ch3 _).mono ?_; rintro e w7 ⟨v, rfl, ho, hb⟩))
  rename_i hH
  obtain ⟨Al, cl, rfl, _, hl⟩ := es_elm ho
  obtain ⟨gl, ol, rfl, hlc⟩ := hl (by decide)
  obtain ⟨l0, l1, l2⟩ := hlc 0 (by decide)
  have l0 : w7.cell? ⟨gl, ol, none⟩ = some (.string hoB) := l0
  have l1 : w7.cell? ⟨gl, ol + 1, none⟩ = some (.int .i64 7) := l1
  have l2 : w7.cell? ⟨gl, ol + 2, none⟩ = some (.int .i64 100) := l2
  obtain ⟨x0, x1, x2, ⟨B7, T7, _⟩, s0, s1⟩ := hH
  have R7 : ElM w7 (some ⟨gl, ol, none⟩) 2 (fun i => [(⟨hoB, 7, 100⟩ : EB), ⟨beB, 5, 100⟩].getD i ⟨⟨#[]⟩, 0, 0⟩) := hl
  clear hlc ho hb M1 ch3 hl
  have k0 := fun d os => cell_regrown x0 d os
  have k1 := fun d os => cell_regrown x1 d os
  have k2 := fun d os => cell_regrown x2 d os
  have k3 := fun d os => cell_regrown s0 d os
  have k4 := fun d os => cell_regrown s1 d os
  have k5 := fun d os => cell_regrown l0 d os
  have k6 := fun d os => cell_regrown l1 d os
  have k7 := fun d os => cell_regrown l2 d os
  have cA := fun (d : Nat) (os : Array Obj) => Calls.regrown_of (d := d) (os := os) (w := w7) (etext_any hoB 1250 3750 _ (by decide) (by decide) (by decide) (T7.below (below_regrown w7 d os)))
  have cB := fun (d : Nat) (os : Array Obj) => Calls.regrown_of (d := d) (os := os) (w := w7) (of_el beB 5 _ (by decide))
  have cC := fun (d : Nat) (os : Array Obj) => Calls.regrown_of (d := d) (os := os) (w := w7) (etext_any beB 5 100 _ (by decide) (by decide) (by decide) (T7.below (below_regrown w7 d os)))
  have cD := fun (d : Nat) (os : Array Obj) => Calls.regrown_of (d := d) (os := os) (w := w7) (of_el hoB 7 _ (by decide))
  have cE := fun (d : Nat) (os : Array Obj) => Calls.regrown_of (d := d) (os := os) (w := w7) (same_els (some ⟨gl, ol, none⟩) (some ⟨gl, ol, none⟩) 2 cl cl _ _ (R7.below (below_regrown w7 d os)) (R7.below (below_regrown w7 d os)) (by omega))
  rw [etx_ho] at cA
  rw [etx_be] at cC
  have h1 : ∀ W, (binOp .eql 69 (.agg #[.string hoB, .int .i64 93750]) (.agg #[.string ⟨#[104, 111, 117, 114, 108, 121]⟩, .int .i64 93750])).run Tryd.prog W = .ok (.bool true) W := fun W => by
    show (binOp .eql 69 (.agg #[.string hoB, .int .i64 93750]) (.agg #[.string hoB, .int .i64 93750])).run Tryd.prog W = .ok (.bool true) W
    simp [go_sem]
  have h2 : ∀ W, (binOp .eql 45 (.agg #[.string hoB, .int .i64 7, .int .i64 100]) (.agg #[.string hoB, .int .i64 7, .int .i64 100])).run Tryd.prog W = .ok (.bool true) W := fun W => by
    simp [go_sem]
  clear R7 T7 ofb x0 x1 x2 s0 s1 l0 l1 l2
  go_wp2
  refine wp_region_quiet_below mixedAll (by kernel_rfl) ?_
  iterate 12 (go_big_quiet_step (fail))
  go_big_quiet_step (exact cA _ _)
  iterate 3 (go_big_quiet_step (fail))
  go_big_quiet_step (exact cB _ _)
  go_big_quiet_step (exact cC _ _)
  iterate 23 (go_big_quiet_step (fail))
  go_big_quiet_step (exact cD _ _)
  iterate 11 (go_big_quiet_step (fail))
  go_big_quiet_step (exact cE _ _)
  repeat (go_big_quiet_step (fail))
  refine wpQuiet_nil ?_
  intro _ hw'
  obtain ⟨⟨dq, osq⟩, hw''⟩ := hw'
  subst hw''
  go_wp2
  go_ret
  exact ⟨rfl, below_step B7 (below_regrown w7 dq osq) B7.size⟩
end Go.Proofs.YtobdbjmpoefebaaDoor
