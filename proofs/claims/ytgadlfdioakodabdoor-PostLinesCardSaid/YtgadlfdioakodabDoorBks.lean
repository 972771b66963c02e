/- The first call of all of post's laws. -/
import Derived.Test.YtgadlfdioakodabDoorOf
import Derived.Deep.RegionHeld3
namespace Go.Proofs.YtgadlfdioakodabDoor
open Go.RowKit Go.Sort
set_option linter.unusedVariables false
set_option linter.unusedSimpArgs false

def bnkB : ByteArray := ⟨#[98, 97, 110, 107]⟩
/-- the law's own entries -/
def e0 (i : Nat) : En := [((⟨#[119, 97, 103, 101, 115]⟩ : ByteArray), (1000 : Int)), (⟨#[98, 117, 114, 100, 101, 110]⟩, 60), (⟨#[116, 97, 120]⟩, -100), (⟨#[102, 117, 110, 100, 45, 99, 97, 114, 101]⟩, -110), (⟨#[111, 114, 100, 101, 114, 115]⟩, -50), (⟨#[98, 97, 110, 107]⟩, -800)].getD i (⟨#[]⟩, 0)
/-- .. by their accounts -/
def g0 (i : Nat) : En := [((⟨#[98, 97, 110, 107]⟩ : ByteArray), (-800 : Int)), (⟨#[98, 117, 114, 100, 101, 110]⟩, 60), (⟨#[102, 117, 110, 100, 45, 99, 97, 114, 101]⟩, -110), (⟨#[111, 114, 100, 101, 114, 115]⟩, -50), (⟨#[116, 97, 120]⟩, -100), (⟨#[119, 97, 103, 101, 115]⟩, 1000)].getD i (⟨#[]⟩, 0)
def M0 : List UInt8 → Int := tot (fun _ => 0) e0 6
def P0 (l : List UInt8) : Bool := M0 l != 0
theorem chk_e0 : chkP e0 6 = 0 := by decide
theorem po_e0 : firstE (poE (fun _ => 0) e0) 6 = 0 := by decide
theorem M0_amt (l : List UInt8) : amtB (M0 l) = true := tot_amt (M := fun _ => 0) (f := e0) (fun _ => rfl) po_e0 l
theorem full_g0 : Full M0 P0 g0 6 := by
  refine ⟨fun l => ?_, fun i hi => ?_, fun i j hij hj => ?_, fun i hi => ?_⟩
  · by_cases h0 : l = [98, 97, 110, 107]
    · subst h0; decide
    by_cases h1 : l = [98, 117, 114, 100, 101, 110]
    · subst h1; decide
    by_cases h2 : l = [102, 117, 110, 100, 45, 99, 97, 114, 101]
    · subst h2; decide
    by_cases h3 : l = [111, 114, 100, 101, 114, 115]
    · subst h3; decide
    by_cases h4 : l = [116, 97, 120]
    · subst h4; decide
    by_cases h5 : l = [119, 97, 103, 101, 115]
    · subst h5; decide
    · have a : inB g0 6 l = false := by
        show (decide (l = [119, 97, 103, 101, 115]) || (decide (l = [116, 97, 120]) || (decide (l = [111, 114, 100, 101, 114, 115]) || (decide (l = [102, 117, 110, 100, 45, 99, 97, 114, 101]) || (decide (l = [98, 117, 114, 100, 101, 110]) || (decide (l = [98, 97, 110, 107]) || false)))))) = false
        simp [h0, h1, h2, h3, h4, h5]
      have b : inB e0 6 l = false := by
        show (decide (l = [98, 97, 110, 107]) || (decide (l = [111, 114, 100, 101, 114, 115]) || (decide (l = [102, 117, 110, 100, 45, 99, 97, 114, 101]) || (decide (l = [116, 97, 120]) || (decide (l = [98, 117, 114, 100, 101, 110]) || (decide (l = [119, 97, 103, 101, 115]) || false)))))) = false
        simp [h0, h1, h2, h3, h4, h5]
      have c : M0 l = 0 := tot_out b
      rw [a]
      unfold P0
      rw [c]; rfl
  · have : i = 0 ∨ i = 1 ∨ i = 2 ∨ i = 3 ∨ i = 4 ∨ i = 5 := by omega
    rcases this with rfl | rfl | rfl | rfl | rfl | rfl <;> decide
  · have hi : i = 0 ∨ i = 1 ∨ i = 2 ∨ i = 3 ∨ i = 4 := by omega
    have hj' : j = 1 ∨ j = 2 ∨ j = 3 ∨ j = 4 ∨ j = 5 := by omega
    rcases hi with rfl | rfl | rfl | rfl | rfl <;> rcases hj' with rfl | rfl | rfl | rfl | rfl <;> first | omega | decide
  · have : i = 0 ∨ i = 1 ∨ i = 2 ∨ i = 3 ∨ i = 4 ∨ i = 5 := by omega
    rcases this with rfl | rfl | rfl | rfl | rfl | rfl <;> decide
theorem join_g0 : joinE g0 6 ⟨#[44, 32]⟩ = [98, 97, 110, 107, 32, 45, 56, 46, 48, 48, 44, 32, 98, 117, 114, 100, 101, 110, 32, 48, 46, 54, 48, 44, 32, 102, 117, 110, 100, 45, 99, 97, 114, 101, 32, 45, 49, 46, 49, 48, 44, 32, 111, 114, 100, 101, 114, 115, 32, 45, 48, 46, 53, 48, 44, 32, 116, 97, 120, 32, 45, 49, 46, 48, 48, 44, 32, 119, 97, 103, 101, 115, 32, 49, 48, 46, 48, 48] := by kernel_rfl
/-- what post.Of gives of the law's own payslip -/
theorem ofown (h : Nat) (W : World) (hn : W.cell? ⟨h + 1, 0, none⟩ = some (.string ⟨#[99, 97, 114, 101]⟩)) (s0 s1 : Nat)
    (hs : W.cell? ⟨s0, 0, none⟩ = some (.int .i64 50) ∧ W.cell? ⟨s0, 1, none⟩ = some (.int .i64 60)) (ht : Bx W s1 73 [.int .i64 0, .int .i64 0, .int .i64 0, .int .i64 0, .int .i64 50, .int .i64 0]) :
    Calls Tryd.prog 27 #[.agg (fundV h).toArray, .agg #[.int .i64 1, .int .i64 1000, .int .i64 0, .int .i64 0, .int .i64 100, .int .i64 0, .slice (some ⟨s0, 0, none⟩) 1 1, .int .i64 850, .slice (some ⟨s1, 0, none⟩) 1 1, .int .i64 800]] W fun e w' =>
      ∃ g cap, e = .returned (.tuple #[.slice (some ⟨g, 0, none⟩) 6 cap, .int .i64 0]) ∧ w'.ownsRow W.heap.size 26 2 (.slice (some ⟨g, 0, none⟩) 6 cap) 6 (enL e0 6) ∧ Below W.heap.size W w' := by
  have c := of_any none 0 0 (some ⟨h + 1, 0, none⟩) 1 1 none 0 0 0 0 1 1000 0 0 100 0 (some ⟨s0, 0, none⟩) 1 1 850 (some ⟨s1, 0, none⟩) 1 1 800 (fun _ => ⟨#[99, 97, 114, 101]⟩) (fun _ => 50) (fun _ => 60) (fun _ => ⟨0, 0, 0, 0, 50, 0⟩) W
    (fun _ => ⟨_, _, rfl, fun i hi => by obtain rfl : i = 0 := by omega
                                         exact hn⟩)
    (fun _ => ⟨_, _, rfl, fun i hi => by obtain rfl : i = 0 := by omega
                                         exact hs⟩)
    (fun _ => ⟨_, _, rfl, fun i hi => by obtain rfl : i = 0 := by omega
                                         exact ⟨ht.cell (i := 0) rfl, ht.cell (i := 1) rfl, ht.cell (i := 2) rfl, ht.cell (i := 3) rfl, ht.cell (i := 4) rfl, ht.cell (i := 5) rfl⟩⟩) (by omega) (by omega) (by omega) (fun i _ => by decide)
  refine Calls.mono c ?_
  rintro e w' ⟨⟨v, rfl, _, h2⟩, hb⟩
  have hx : ofX 1 1 (fun _ => 50) (fun _ => 60) (fun _ => (⟨0, 0, 0, 0, 50, 0⟩ : Tkn)) 1 = 0 := by decide
  have h3 := h2 hx
  have hN : fltN (ofL 1000 (tsm (fun _ => 60) 1) 100 (fun _ => 50) (fun _ => 60) (fun _ => ⟨#[99, 97, 114, 101]⟩) 1 (sumT (fun _ => (⟨0, 0, 0, 0, 50, 0⟩ : Tkn)) 1) 800) (1 + 5) = 6 := by kernel_rfl
  have hL : enL (fltF (ofL 1000 (tsm (fun _ => 60) 1) 100 (fun _ => 50) (fun _ => 60) (fun _ => ⟨#[99, 97, 114, 101]⟩) 1 (sumT (fun _ => (⟨0, 0, 0, 0, 50, 0⟩ : Tkn)) 1) 800) (1 + 5)) 6 = enL e0 6 := by kernel_rfl
  rw [hN, hL] at h3
  rw [hx]
  obtain ⟨A, c', rfl, hA, hg⟩ := own_len h3
  obtain ⟨g, rfl⟩ := hg (by omega)
  exact ⟨g, c', rfl, h3, hb⟩
set_option maxRecDepth 100000 in
set_option maxHeartbeats 8000000 in
theorem books_any (w : World) (hT : Tab w) : Calls Tryd.prog 8 #[] w fun e w' => e = .returned (.bool true) ∧ Below w.heap.size w w' := by
  have HT := Lib.hid hT
  clear hT
  have N1 := below_new w (.cells #[.int .i64 50, .int .i64 60] 70)
  have N2 := below_new (w.alloc (.cells #[.int .i64 50, .int .i64 60] 70)) (.cells #[.int .i64 0, .int .i64 0, .int .i64 0, .int .i64 0, .int .i64 50, .int .i64 0] 73)
  have N3 := below_new ((w.alloc (.cells #[.int .i64 50, .int .i64 60] 70)).alloc (.cells #[.int .i64 0, .int .i64 0, .int .i64 0, .int .i64 0, .int .i64 50, .int .i64 0] 73)) (.cells #[.int .i64 1, .int .i64 1000, .int .i64 0, .int .i64 0, .int .i64 100, .int .i64 0, .slice (some ⟨w.heap.size, 0, none⟩) 1 1, .int .i64 850, .slice (some ⟨w.heap.size + 1, 0, none⟩) 1 1, .int .i64 800] 76)
  have B3 := below_step (below_step N1 N2 N1.size) N3 (Nat.le_trans N1.size N2.size)
  have K1 := ((bx_new w [.int .i64 50, .int .i64 60] 70).below N2).below N3
  have K2 := (bx_at (w.alloc (.cells #[.int .i64 50, .int .i64 60] 70)) [.int .i64 0, .int .i64 0, .int .i64 0, .int .i64 0, .int .i64 50, .int .i64 0] 73 (n := w.heap.size + 1) (by simp)).below N3
  have K3 := bx_at ((w.alloc (.cells #[.int .i64 50, .int .i64 60] 70)).alloc (.cells #[.int .i64 0, .int .i64 0, .int .i64 0, .int .i64 0, .int .i64 50, .int .i64 0] 73)) [.int .i64 1, .int .i64 1000, .int .i64 0, .int .i64 0, .int .i64 100, .int .i64 0, .slice (some ⟨w.heap.size, 0, none⟩) 1 1, .int .i64 850, .slice (some ⟨w.heap.size + 1, 0, none⟩) 1 1, .int .i64 800] 76 (n := w.heap.size + 1 + 1) (by simp)
  clear N1 N2 N3
  go_enter Tryd.func8, Tryd.ntmps8
  go_wp2_with (fail)
  generalize hq : w.heap.size + 1 + 1 = q at *
  generalize hs1 : w.heap.size + 1 = s1 at *
  have HWQ : Hid (w.heap.size ≤ s1 ∧ w.heap.size ≤ q) := Lib.hid (by omega)
  clear hq hs1
  generalize ((w.alloc _).alloc _).alloc _ = W3 at *
  have HB3 := Lib.hid B3
  have HK := Lib.hid (And.intro K1 K2)
  have k_0 := K3.cell (i := 0) rfl
  have k_1 := K3.cell (i := 1) rfl
  have k_2 := K3.cell (i := 2) rfl
  have k_3 := K3.cell (i := 3) rfl
  have k_4 := K3.cell (i := 4) rfl
  have k_5 := K3.cell (i := 5) rfl
  have k_6 := K3.cell (i := 6) rfl
  have k_7 := K3.cell (i := 7) rfl
  have k_8 := K3.cell (i := 8) rfl
  have k_9 := K3.cell (i := 9) rfl
  have hT3 := HT.out.below B3
  have S1 : W3.drew.cell? ⟨q, 0, none⟩ = some (.int .i64 1) ∧ W3.drew.cell? ⟨q, 1, none⟩ = some (.int .i64 1000) ∧ W3.drew.cell? ⟨q, 2, none⟩ = some (.int .i64 0) ∧ W3.drew.cell? ⟨q, 3, none⟩ = some (.int .i64 0) ∧ W3.drew.cell? ⟨q, 4, none⟩ = some (.int .i64 100) ∧ W3.drew.cell? ⟨q, 5, none⟩ = some (.int .i64 0) ∧ W3.drew.cell? ⟨q, 6, none⟩ = some (.slice (some ⟨w.heap.size, 0, none⟩) 1 1) ∧ W3.drew.cell? ⟨q, 7, none⟩ = some (.int .i64 850) ∧ W3.drew.cell? ⟨q, 8, none⟩ = some (.slice (some ⟨s1, 0, none⟩) 1 1) ∧ W3.drew.cell? ⟨q, 9, none⟩ = some (.int .i64 800) := ⟨k_0, k_1, k_2, k_3, k_4, k_5, k_6, k_7, k_8, k_9⟩
  have mk : ∀ V : World, Below W3.heap.size W3 V → (V.cell? ⟨q, 0, none⟩ = some (.int .i64 1) ∧ V.cell? ⟨q, 1, none⟩ = some (.int .i64 1000) ∧ V.cell? ⟨q, 2, none⟩ = some (.int .i64 0) ∧ V.cell? ⟨q, 3, none⟩ = some (.int .i64 0) ∧ V.cell? ⟨q, 4, none⟩ = some (.int .i64 100) ∧ V.cell? ⟨q, 5, none⟩ = some (.int .i64 0) ∧ V.cell? ⟨q, 6, none⟩ = some (.slice (some ⟨w.heap.size, 0, none⟩) 1 1) ∧ V.cell? ⟨q, 7, none⟩ = some (.int .i64 850) ∧ V.cell? ⟨q, 8, none⟩ = some (.slice (some ⟨s1, 0, none⟩) 1 1) ∧ V.cell? ⟨q, 9, none⟩ = some (.int .i64 800)) := fun V hb => ⟨cell_later hb k_0, cell_later hb k_1, cell_later hb k_2, cell_later hb k_3, cell_later hb k_4, cell_later hb k_5, cell_later hb k_6, cell_later hb k_7, cell_later hb k_8, cell_later hb k_9⟩
  have cF := fund_any
  have cO := fun h (V : World) hn (hb : Below W3.heap.size W3 V) => ofown h V hn w.heap.size s1 ⟨(HK.out.1.below hb).cell (i := 0) rfl, (HK.out.1.below hb).cell (i := 1) rfl⟩ (HK.out.2.below hb)
  have hsz3 : W3.heap.size ≤ W3.heap.size := Nat.le_refl _
  clear K1 K2 K3 B3
  clear k_0 k_1 k_2 k_3 k_4 k_5 k_6 k_7 k_8 k_9
  go_region_held3 (fun X => X.cell? ⟨q, 0, none⟩ = some (.int .i64 1) ∧ X.cell? ⟨q, 1, none⟩ = some (.int .i64 1000) ∧ X.cell? ⟨q, 2, none⟩ = some (.int .i64 0) ∧ X.cell? ⟨q, 3, none⟩ = some (.int .i64 0) ∧ X.cell? ⟨q, 4, none⟩ = some (.int .i64 100) ∧ X.cell? ⟨q, 5, none⟩ = some (.int .i64 0) ∧ X.cell? ⟨q, 6, none⟩ = some (.slice (some ⟨w.heap.size, 0, none⟩) 1 1) ∧ X.cell? ⟨q, 7, none⟩ = some (.int .i64 850) ∧ X.cell? ⟨q, 8, none⟩ = some (.slice (some ⟨s1, 0, none⟩) 1 1) ∧ X.cell? ⟨q, 9, none⟩ = some (.int .i64 800))
    ((first | exact S1 | assumption | exact mk _ hwF | exact mk _ hwO))
    (first
      | (go_at_call 28; (with_reducible refine (cF _).mono ?_); rintro e wF ⟨rfl, hnm, hbF⟩; have hwF := below_step ((Below.refl W3.heap.size W3).drew) hbF hsz3)
      | (go_at_call 27; (with_reducible refine (cO W3.heap.size _ hnm hwF).mono ?_); rintro e wO ⟨g, cap, rfl, ownO, hbO⟩; have hwO := below_step hwF hbO hwF.size))
  rename_i hHeld
  have BO := below_step HB3.out hwO HB3.out.size
  have hTO := HT.out.below BO
  have hEO := en_own ownO
  have hgl := (ownO.lt g rfl).2
  have HBO := Lib.hid BO
  clear hHeld mk S1 cF cO hsz3 hT3 HK hnm hbF hwF ownO hbO hwO HB3 BO
  have cN := pnew_any wO
  go_wp2_with (fail)
  with_reducible refine cN.mono ?_
  rintro e w1 ⟨p, b, rfl, hBk, hbl, hpl, hb1⟩
  have hE1 := hEO.below hb1
  have hT1 := hTO.below hb1
  obtain ⟨g', o', e1, hcE⟩ := hE1 (by omega)
  obtain ⟨rfl, rfl⟩ : g = g' ∧ 0 = o' := by
    have := Option.some.inj e1
    simp only [Addr.mk.injEq, and_true] at this
    exact this
  obtain ⟨x0, x1⟩ := hcE 3 (by omega)
  replace x0 : w1.cell? ⟨g, 6, none⟩ = some (.string ⟨#[102, 117, 110, 100, 45, 99, 97, 114, 101]⟩) := x0
  replace x1 : w1.cell? ⟨g, 7, none⟩ = some (.int .i64 (-110)) := x1
  have cP := ppost_any hBk (some ⟨g, 0, none⟩) 6 cap e0 hE1 (by omega) (fun i hi => by
    have : i = 0 ∨ i = 1 ∨ i = 2 ∨ i = 3 ∨ i = 4 ∨ i = 5 := by omega
    rcases this with rfl | rfl | rfl | rfl | rfl | rfl <;> decide) (fun _ => rfl) (fun _ => rfl) (by omega) (by omega)
  have HP := Lib.hid (And.intro hbl (And.intro hpl hb1))
  have HTT := Lib.hid hT1
  clear cN hEO hTO hE1 hcE e1 hbl hpl hb1 hBk hT1 hgl
  go_wp2_with (fail)
  refine Calls.mono cP ?_
  rintro e w2 ⟨-, -, h3⟩
  obtain ⟨rfl, hBk2, hsz2, hcm2, hrr2⟩ := h3 chk_e0 po_e0
  have hB2 := Calm.new (w := wO) HP.out.2.2 hcm2 hsz2 hrr2 HP.out.2.1 HP.out.1
  have hTw := (HT.out.below HBO.out).below hB2
  have hEx : EnM (w2.alloc (.cells #[.string ⟨#[120]⟩, .int .i64 1] 26)) (some ⟨w2.heap.size, 0, none⟩) 1 (fun _ => (⟨#[120]⟩, 1)) := fun _ => ⟨_, _, rfl, fun i hi => by
    obtain rfl : i = 0 := by omega
    exact ⟨(bx_new w2 [.string ⟨#[120]⟩, .int .i64 1] 26).cell (i := 0) rfl, (bx_new w2 [.string ⟨#[120]⟩, .int .i64 1] 26).cell (i := 1) rfl⟩⟩
  have NX := below_new w2 (.cells #[.string ⟨#[120]⟩, .int .i64 1] 26)
  have cQ := ppost_any (hBk2.below NX) (some ⟨w2.heap.size, 0, none⟩) 1 1 (fun _ => (⟨#[120]⟩, 1)) hEx (by omega) (fun i hi => by decide) M0_amt (fun _ => rfl) (by omega) (by omega)
  have HW2 := Lib.hid (And.intro hBk2 (And.intro hB2 (And.intro hTw NX)))
  clear cP h3 hBk2 hsz2 hcm2 hrr2 hB2 hTw hEx NX x0 x1 HTT HP
  go_wp2_with (fail)
  refine Calls.mono cQ ?_
  rintro e w4 ⟨h1, -, -⟩
  obtain ⟨e1, hb4⟩ := h1 (by decide)
  obtain rfl : e = .returned (.int .i64 6) := e1.trans (by rfl)
  have hb24 := below_step HW2.out.2.2.2 hb4 HW2.out.2.2.2.size
  have hBk4 := HW2.out.1.below hb24
  have hT4 := HW2.out.2.2.1.below hb24
  have B4 := below_step HBO.out (below_step HW2.out.2.1 hb24 HW2.out.2.1.size) HBO.out.size
  clear cQ h1 e1 hb4 hb24 HW2
  have cOn := on_any hBk4 ⟨#[98, 97, 110, 107]⟩ (by decide)
  have cEn := entries_any hBk4
  have HSZ : Hid (∀ l, P0 l = true → l.length ≤ 281474976710656) := Lib.hid (fun l hl => by
    rw [← full_g0.1] at hl
    obtain ⟨i, hi, rfl⟩ := inB_iff.1 hl
    have : i = 0 ∨ i = 1 ∨ i = 2 ∨ i = 3 ∨ i = 4 ∨ i = 5 := by omega
    rcases this with rfl | rfl | rfl | rfl | rfl | rfl <;> decide)
  have cL := blines_any hBk4 hT4 (by omega) HSZ.out M0_amt
  have HB4 := Lib.hid (And.intro hBk4 (And.intro hT4 B4))
  clear hBk4 hT4 B4
  go_wp2_with (fail)
  refine Calls.mono cOn ?_
  rintro e w5 ⟨e5, rfl⟩
  obtain rfl : e = .returned (.int .i64 (-800)) := e5.trans (by rfl)
  clear cOn e5
  go_wp2_with (fail)
  refine Calls.mono cEn ?_
  rintro e w5 ⟨e5, rfl⟩
  obtain rfl : e = .returned (.int .i64 6) := e5.trans (by rfl)
  clear cEn e5
  go_wp2_with (fail)
  refine Calls.mono cL ?_
  rintro e w5 ⟨v, n, f, rfl, hown, hb5, hn, hF⟩
  obtain ⟨rfl, hfe⟩ := hF.same full_g0
  have hj : joinE f 6 ⟨#[44, 32]⟩ = joinE g0 6 ⟨#[44, 32]⟩ := by
    unfold joinE linS
    rw [List.map_congr_left (f := fun i => lineE (f i)) (g := fun i => lineE (g0 i)) (fun i hi => by rw [hfe i (List.mem_range.1 hi)])]
  have hj2 := hj.trans join_g0
  have cJ := join_own ⟨#[44, 32]⟩ hown (by omega) (by rw [hj2]; decide)
  rw [hj2] at cJ
  have hBk5 := HB4.out.1.below hb5
  have HB5 := Lib.hid (And.intro hBk5 (below_step HB4.out.2.2 hb5 HB4.out.2.2.size))
  clear cL hfe hj hj2 hF hn hown hBk5 hb5
  go_wp2_with (fail)
  refine Calls.mono cJ ?_
  rintro e w6 ⟨rfl, hb6⟩
  have hBk6 := HB5.out.1.below hb6
  have B6 := below_step HB5.out.2 hb6 HB5.out.2.size
  have cBal := bal_any hBk6 (by omega) HSZ.out
  clear cJ hb6 hBk6
  go_wp2_with (fail)
  refine Calls.mono cBal ?_
  rintro e w7 ⟨v7, n7, f7, rfl, hown7, hb7, hn7, hF7⟩
  obtain ⟨rfl, -⟩ := hF7.same full_g0
  obtain ⟨A7, c7, rfl, -, -⟩ := own_len hown7
  have B7 := below_step B6 hb7 B6.size
  clear cBal hown7 hb7 hF7 B6
  go_wp2
  go_ret
  exact ⟨rfl, B7⟩
end Go.Proofs.YtgadlfdioakodabDoor
