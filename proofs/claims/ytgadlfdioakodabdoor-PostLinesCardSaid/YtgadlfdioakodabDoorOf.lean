/- What post.Of answers of any payslip. -/
import Derived.Test.YtgadlfdioakodabDoorDlf
import Derived.Test.YtgadlfdioakodabDoorSid
import Derived.Deep.Onto
namespace Go.Proofs.YtgadlfdioakodabDoor
open Go.RowKit Go.Sort
set_option linter.unusedVariables false
set_option linter.unusedSimpArgs false

/-- a payslip, by value -/
def slpV (p b0 b1 b2 tax sh : Int) (SA : Option Addr) (n sc : Nat) (net : Int) (TA : Option Addr) (k tc : Nat) (pay : Int) : Value :=
  .agg #[.int .i64 p, .int .i64 b0, .int .i64 b1, .int .i64 b2, .int .i64 tax, .int .i64 sh, .slice SA n sc, .int .i64 net, .slice TA k tc, .int .i64 pay]
def tblV (ZA : Option Addr) (zn zc : Nat) (CA : Option Addr) (m cc : Nat) (KA : Option Addr) (kn kc : Nat) (lim rnd : Int) : Value :=
  .agg #[.slice ZA zn zc, .slice CA m cc, .slice KA kn kc, .int .i64 lim, .int .i64 rnd]
/-- contributions' names, wherever they lie -/
def NmM (w : World) (A : Option Addr) (n : Nat) (nm : Nat → ByteArray) : Prop := 0 < n → ∃ b o, A = some ⟨b, o, none⟩ ∧ ∀ i, i < n → w.cell? ⟨b, o + i * 6, none⟩ = some (.string (nm i))
theorem NmM.below {w w' : World} {A : Option Addr} {n : Nat} {nm : Nat → ByteArray} (h : NmM w A n nm) (hb : Below w.heap.size w w') : NmM w' A n nm := fun h0 => by
  obtain ⟨b, o, e, hc⟩ := h h0
  exact ⟨b, o, e, fun i hi => cell_later hb (hc i hi)⟩
def fundB : ByteArray := ⟨#[102, 117, 110, 100, 45]⟩
/-- all entries of a payslip, those of nothing too -/
def ofL (cash er tax : Int) (X Y : Nat → Int) (nm : Nat → ByteArray) (n : Nat) (tk pay : Int) (i : Nat) : En :=
  if i = 0 then (⟨#[119, 97, 103, 101, 115]⟩, cash) else if i = 1 then (⟨#[98, 117, 114, 100, 101, 110]⟩, er) else if i = 2 then (⟨#[116, 97, 120]⟩, wrap64 (-tax))
  else if i < n + 3 then (fundB ++ nm (i - 3), wrap64 (-(addV (X (i - 3)) (Y (i - 3))).1)) else if i = n + 3 then (⟨#[111, 114, 100, 101, 114, 115]⟩, wrap64 (-tk)) else (⟨#[98, 97, 110, 107]⟩, wrap64 (-pay))
/-- what is wrong with a share -/
def thE (X Y : Nat → Int) (i : Nat) : Int := (addV (X i) (Y i)).2
/-- why a payslip can't be booked -/
def ofX (n m : Nat) (X Y : Nat → Int) (f : Nat → Tkn) (k : Nat) : Int := if n ≠ m then 3 else if okT X Y n = false then 10 else if okS f k = false then 10 else firstE (thE X Y) n
/-- what post.Of gives -/
def OfP (B : Nat) (n m : Nat) (X Y : Nat → Int) (f : Nat → Tkn) (k : Nat) (L : Nat → En) (e : Ending) (w' : World) : Prop :=
  ∃ v, e = .returned (.tuple #[v, .int .i64 (ofX n m X Y f k)]) ∧ (ofX n m X Y f k ≠ 0 → v = .slice none 0 0) ∧ (ofX n m X Y f k = 0 → w'.ownsRow B 26 2 v (fltN L (n + 5)) (enL (fltF L (n + 5)) (fltN L (n + 5))))
set_option maxRecDepth 100000 in
set_option maxHeartbeats 8000000 in
theorem of_any (ZA : Option Addr) (zn zc : Nat) (CA : Option Addr) (m cc : Nat) (KA : Option Addr) (kn kc : Nat) (lim rnd : Int) (p b0 b1 b2 tax sh : Int) (SA : Option Addr) (n sc : Nat) (net : Int) (TA : Option Addr) (k tc : Nat) (pay : Int)
    (nm : Nat → ByteArray) (X Y : Nat → Int) (f : Nat → Tkn) (w : World) (hC : NmM w CA m nm) (hS : Shs w SA n X Y) (hT : Tks w TA k f) (hn : n ≤ 1000) (hk : k ≤ 1000) (hm : m ≤ 1000) (hsz : ∀ i, i < m → (nm i).size ≤ 281474976710656) :
    Calls Tryd.prog 27 #[tblV ZA zn zc CA m cc KA kn kc lim rnd, slpV p b0 b1 b2 tax sh SA n sc net TA k tc pay] w fun e w' =>
      OfP w.heap.size n m X Y f k (ofL b0 (tsm Y n) tax X Y nm n (sumT f k) pay) e w' ∧ Below w.heap.size w w' := by
  have HH := Lib.hid (And.intro hC (And.intro hS hT))
  have HN := Lib.hid (And.intro hn (And.intro hk hm))
  have HZ := Lib.hid hsz
  clear hC hS hT hn hk hm hsz
  unfold tblV slpV
  obtain ⟨i0, hi0, hz0, hz1, hz2⟩ := info_parts infoEn
  have Hi := Lib.hid hi0
  have Hz := Lib.hid hz0
  clear hi0 hz0
  have K1 := bx_new w [.slice ZA zn zc, .slice CA m cc, .slice KA kn kc, .int .i64 lim, .int .i64 rnd] 83
  have N1 := below_new w (.cells #[.slice ZA zn zc, .slice CA m cc, .slice KA kn kc, .int .i64 lim, .int .i64 rnd] 83)
  have K2 := bx_new (w.alloc (.cells #[.slice ZA zn zc, .slice CA m cc, .slice KA kn kc, .int .i64 lim, .int .i64 rnd] 83)) [.int .i64 p, .int .i64 b0, .int .i64 b1, .int .i64 b2, .int .i64 tax, .int .i64 sh, .slice SA n sc, .int .i64 net, .slice TA k tc, .int .i64 pay] 76
  have N2 := below_new (w.alloc (.cells #[.slice ZA zn zc, .slice CA m cc, .slice KA kn kc, .int .i64 lim, .int .i64 rnd] 83)) (.cells #[.int .i64 p, .int .i64 b0, .int .i64 b1, .int .i64 b2, .int .i64 tax, .int .i64 sh, .slice SA n sc, .int .i64 net, .slice TA k tc, .int .i64 pay] 76)
  have B2 := below_step N1 N2 N1.size
  have J1 := K1.below N2
  rw [show (w.alloc (.cells #[.slice ZA zn zc, .slice CA m cc, .slice KA kn kc, .int .i64 lim, .int .i64 rnd] 83)).heap.size = w.heap.size + 1 by simp] at K2
  have j_0 := J1.cell (i := 0) rfl
  have j_1 := J1.cell (i := 1) rfl
  have k_0 := K2.cell (i := 0) rfl
  have k_1 := K2.cell (i := 1) rfl
  have k_2 := K2.cell (i := 2) rfl
  have k_3 := K2.cell (i := 3) rfl
  have k_4 := K2.cell (i := 4) rfl
  have k_5 := K2.cell (i := 5) rfl
  have k_6 := K2.cell (i := 6) rfl
  have k_7 := K2.cell (i := 7) rfl
  have k_8 := K2.cell (i := 8) rfl
  have k_9 := K2.cell (i := 9) rfl
  by_cases hnm : n = m
  rotate_left
  · have hnm' : ((n : Int) != (m : Int)) = true := by simp; omega
    have HX : Hid (ofX n m X Y f k = 3) := Lib.hid (if_pos hnm)
    have HB2 := Lib.hid B2
    have HNM := Lib.hid hnm
    clear K1 N1 N2 B2 J1 K2 hnm
    go_enter Tryd.func27, Tryd.ntmps27
    go_wp2
    go_ret2
    exact ⟨⟨_, by rw [HX.out]; rfl, fun _ => rfl, fun e => absurd (HX.out.symm.trans e) (by decide)⟩, HB2.out⟩
  subst hnm
  go_enter Tryd.func27, Tryd.ntmps27
  go_wp2_with (fail)
  have cS := sides_any SA n sc _ X Y (HH.out.2.1.below B2) (by have := HN.out; omega)
  clear K1 N1 N2
  generalize ((w.alloc (.cells #[.slice ZA zn zc, .slice CA n cc, .slice KA kn kc, .int .i64 lim, .int .i64 rnd] 83)).alloc (.cells #[.int .i64 p, .int .i64 b0, .int .i64 b1, .int .i64 b2, .int .i64 tax, .int .i64 sh, .slice SA n sc, .int .i64 net, .slice TA k tc, .int .i64 pay] 76)) = w2 at *
  cases hoT : okT X Y n
  · have HX : Hid (ofX n n X Y f k = 10) := Lib.hid (by unfold ofX; rw [if_neg (by simp), if_pos hoT])
    rw [show totV X Y n = _ from (totV_no hoT).symm] at cS
    clear hoT
    with_reducible refine cS.mono ?_
    rintro e w3 ⟨rfl, hb3⟩
    have HB3 := Lib.hid ((below_step B2 hb3 B2.size).alloc (Nat.le_trans B2.size hb3.size) (.cells #[.int .i64 0, .int .i64 0] 70))
    clear cS hb3 B2 J1 K2
    clear j_0 j_1
    clear k_0 k_1 k_2 k_3 k_4 k_5 k_6 k_7 k_8 k_9
    go_wp2
    go_ret2
    exact ⟨⟨_, by rw [HX.out]; rfl, fun _ => rfl, fun e => absurd (HX.out.symm.trans e) (by decide)⟩, HB3.out⟩
  have HT := Lib.hid hoT
  rw [show totV X Y n = _ from (totV_yes hoT).symm] at cS
  clear hoT
  generalize hex : tsm X n = ex at *
  clear hex
  generalize hey : tsm Y n = ey at *
  have HEY := Lib.hid hey
  clear hey
  with_reducible refine cS.mono ?_
  rintro e w3 ⟨rfl, hb3⟩
  have K3 := bx_new w3 [.int .i64 ex, .int .i64 ey] 70
  have N3 := below_new w3 (.cells #[.int .i64 ex, .int .i64 ey] 70)
  have B23 := below_step hb3 N3 hb3.size
  have B3 := below_step B2 B23 B2.size
  have J3 := J1.below B23
  have L3 := K2.below B23
  clear j_0 j_1
  clear k_0 k_1 k_2 k_3 k_4 k_5 k_6 k_7 k_8 k_9
  have j_0 := J3.cell (i := 0) rfl
  have j_1 := J3.cell (i := 1) rfl
  have k_0 := L3.cell (i := 0) rfl
  have k_1 := L3.cell (i := 1) rfl
  have k_2 := L3.cell (i := 2) rfl
  have k_3 := L3.cell (i := 3) rfl
  have k_4 := L3.cell (i := 4) rfl
  have k_5 := L3.cell (i := 5) rfl
  have k_6 := L3.cell (i := 6) rfl
  have k_7 := L3.cell (i := 7) rfl
  have k_8 := L3.cell (i := 8) rfl
  have k_9 := L3.cell (i := 9) rfl
  have x_0 := K3.cell (i := 0) rfl
  have x_1 := K3.cell (i := 1) rfl
  clear cS hb3 J1 K2 N3 B23 B2
  go_wp2_with (fail)
  have HT3 := Lib.hid (HH.out.2.2.below B3)
  have hsb := K3.lt
  generalize hxb : w3.heap.size = xb at *
  clear hxb
  generalize w3.alloc (.cells #[.int .i64 ex, .int .i64 ey] 70) = w4 at *
  cases hoS : okS f k
  · have HX : Hid (ofX n n X Y f k = 10) := Lib.hid (by unfold ofX; rw [if_neg (by simp), if_neg (by rw [HT.out]; decide), if_pos hoS])
    have cT := tsum_any TA k tc f w4 HT3.out (by have := HN.out; omega) false hoS 0 10 rfl rfl
    clear hoS
    with_reducible refine cT.mono ?_
    rintro e w5 ⟨rfl, hb5⟩
    have HB5 := Lib.hid (below_step B3 hb5 B3.size)
    clear cT hb5 B3 J3 L3 K3
    clear j_0 j_1
    clear k_0 k_1 k_2 k_3 k_4 k_5 k_6 k_7 k_8 k_9
    clear x_0 x_1
    go_wp2
    go_ret2
    exact ⟨⟨_, by rw [HX.out]; rfl, fun _ => rfl, fun e => absurd (HX.out.symm.trans e) (by decide)⟩, HB5.out⟩
  have HS := Lib.hid hoS
  have cT := tsum_any TA k tc f w4 HT3.out (by have := HN.out; omega) true hoS (sumT f k) 0 rfl rfl
  clear hoS
  generalize htk : sumT f k = tk at *
  have HTK := Lib.hid htk
  clear htk
  with_reducible refine cT.mono ?_
  rintro e w5 ⟨rfl, hb5⟩
  have J5 := J3.below hb5
  have L5 := L3.below hb5
  have X5 := K3.below hb5
  have B5 := below_step B3 hb5 B3.size
  clear j_0 j_1
  clear k_0 k_1 k_2 k_3 k_4 k_5 k_6 k_7 k_8 k_9
  clear x_0 x_1
  have j_0 := J5.cell (i := 0) rfl
  have j_1 := J5.cell (i := 1) rfl
  have k_0 := L5.cell (i := 0) rfl
  have k_1 := L5.cell (i := 1) rfl
  have k_2 := L5.cell (i := 2) rfl
  have k_3 := L5.cell (i := 3) rfl
  have k_4 := L5.cell (i := 4) rfl
  have k_5 := L5.cell (i := 5) rfl
  have k_6 := L5.cell (i := 6) rfl
  have k_7 := L5.cell (i := 7) rfl
  have k_8 := L5.cell (i := 8) rfl
  have k_9 := L5.cell (i := 9) rfl
  have x_0 := X5.cell (i := 0) rfl
  have x_1 := X5.cell (i := 1) rfl
  have HB5 := Lib.hid B5
  have HXS := Lib.hid (Nat.lt_of_lt_of_le hsb hb5.size)
  clear cT hb5 J3 L3 K3 hsb
  have N6 := below_new w5 (.cells #[.string ⟨#[119, 97, 103, 101, 115]⟩, .int .i64 b0, .string ⟨#[98, 117, 114, 100, 101, 110]⟩, .int .i64 ey, .string ⟨#[116, 97, 120]⟩, .int .i64 (wrap64 (-tax))] 26)
  have J6 := J5.below N6
  have L6 := L5.below N6
  have O6 := World.ownsRow_lit (base := w5.heap.size) (e := 26) (size := 2) w5 #[.string ⟨#[119, 97, 103, 101, 115]⟩, .int .i64 b0, .string ⟨#[98, 117, 114, 100, 101, 110]⟩, .int .i64 ey, .string ⟨#[116, 97, 120]⟩, .int .i64 (wrap64 (-tax))] 3 (Nat.le_refl _) (by unfold maxLen; omega) rfl
  have q_0 := J6.cell (i := 0) rfl
  have q_1 := J6.cell (i := 1) rfl
  have r_0 := L6.cell (i := 0) rfl
  have r_1 := L6.cell (i := 1) rfl
  have r_2 := L6.cell (i := 2) rfl
  have r_3 := L6.cell (i := 3) rfl
  have r_4 := L6.cell (i := 4) rfl
  have r_5 := L6.cell (i := 5) rfl
  have r_6 := L6.cell (i := 6) rfl
  have r_7 := L6.cell (i := 7) rfl
  have r_8 := L6.cell (i := 8) rfl
  have r_9 := L6.cell (i := 9) rfl
  have hL3 : enL (ofL b0 ey tax X Y nm n tk pay) (3 + 0) = [.string ⟨#[119, 97, 103, 101, 115]⟩, .int .i64 b0, .string ⟨#[98, 117, 114, 100, 101, 110]⟩, .int .i64 ey, .string ⟨#[116, 97, 120]⟩, .int .i64 (wrap64 (-tax))] := rfl
  have hO6 : (w5.alloc (.cells #[.string ⟨#[119, 97, 103, 101, 115]⟩, .int .i64 b0, .string ⟨#[98, 117, 114, 100, 101, 110]⟩, .int .i64 ey, .string ⟨#[116, 97, 120]⟩, .int .i64 (wrap64 (-tax))] 26)).ownsRow w5.heap.size 26 2 (.slice (some ⟨w5.heap.size, 0, none⟩) 3 3) (3 + 0) (enL (ofL b0 ey tax X Y nm n tk pay) (3 + 0)) := by
    rw [hL3]; exact O6
  have HO6 := Lib.hid hO6
  have HN6 := Lib.hid N6
  have HJ := Lib.hid (And.intro J5 L5)
  have HEX := Lib.hid (Nat.le_of_lt X5.lt)
  clear hO6 hL3 O6 N6 J6 L6 J5 L5 X5 B3 B5
  go_wp2
  clear j_0 j_1
  clear k_0 k_1 k_2 k_3 k_4 k_5 k_6 k_7 k_8 k_9
  clear x_0 x_1
  clear q_0 q_1
  clear r_0 r_1 r_2 r_3 r_4 r_5 r_6 r_7 r_8 r_9
  go_loopw [9, 54] (fun v a W => ∃ (i : Nat) (A : Addr) (c : Nat), i ≤ n ∧ a = .int .i64 i ∧ v = .slice (some A) (3 + i) c ∧ W.ownsRow w5.heap.size 26 2 v (3 + i) (enL (ofL b0 ey tax X Y nm n tk pay) (3 + i)) ∧ firstE (thE X Y) i = 0 ∧ Below w5.heap.size w5 W) (fun _ a _ => n - (intOf a).toNat)
  case atStart => exact ⟨0, _, _, Nat.zero_le _, rfl, rfl, HO6.out, rfl, HN6.out⟩
  case round =>
    obtain ⟨i, A, c, hi, rfl, rfl, hown, hfe, hbX⟩ := hrel
    by_cases hlt : i < n
    · have hil : (i : Int) < (n : Int) := by omega
      have hwi : wrap64 ((i : Int) + 1) = (i : Int) + 1 := IntWalk.wrap64_in _ (by have := HN.out; omega)
      obtain ⟨b, o, rfl, hc⟩ := (HH.out.2.1.below HB5.out).below hbX (by omega)
      obtain ⟨x0, x1⟩ := hc i hlt
      obtain ⟨bn, on, rfl, hcn⟩ := (HH.out.1.below HB5.out).below hbX (by omega)
      have x2 := hcn i hlt
      have J := HJ.out.1.below hbX
      have L := HJ.out.2.below hbX
      have j_0 := J.cell (i := 0) rfl
      have j_1 := J.cell (i := 1) rfl
      have k_0 := L.cell (i := 0) rfl
      have k_1 := L.cell (i := 1) rfl
      have k_2 := L.cell (i := 2) rfl
      have k_3 := L.cell (i := 3) rfl
      have k_4 := L.cell (i := 4) rfl
      have k_5 := L.cell (i := 5) rfl
      have k_6 := L.cell (i := 6) rfl
      have k_7 := L.cell (i := 7) rfl
      have k_8 := L.cell (i := 8) rfl
      have k_9 := L.cell (i := 9) rfl
      have HFE := Lib.hid hfe
      have HBX := Lib.hid hbX
      have HL := Lib.hid hlt
      have HZI := Lib.hid (HZ.out i hlt)
      have cA := add_any (X i) (Y i)
      have HST := Lib.hid (first_stop (f := thE X Y) hlt hfe)
      have HSU := Lib.hid (fun e => first_succ (f := thE X Y) hfe e)
      unfold thE at HST HSU
      have HE : Hid (enL (ofL b0 ey tax X Y nm n tk pay) (3 + (i + 1)) = enL (ofL b0 ey tax X Y nm n tk pay) (3 + i) ++ [.string (fundB ++ nm i), .int .i64 (wrap64 (-(addV (X i) (Y i)).1))]) := Lib.hid (by
        show enL _ (3 + i) ++ enC _ = _
        congr 1
        have : ofL b0 ey tax X Y nm n tk pay (3 + i) = (fundB ++ nm i, wrap64 (-(addV (X i) (Y i)).1)) := by
          unfold ofL
          rw [if_neg (by omega), if_neg (by omega), if_neg (by omega), if_pos (by omega), show 3 + i - 3 = i by omega]
        exact (congrArg enC this).trans rfl)
      have KX := bx_new wr [.int .i64 (X i), .int .i64 (Y i)] 70
      have NX := below_new wr (.cells #[.int .i64 (X i), .int .i64 (Y i)] 70)
      have HO := Lib.hid (own_below hown NX)
      have JX := J.below NX
      have LX := L.below NX
      have q_0 := JX.cell (i := 0) rfl
      have q_1 := JX.cell (i := 1) rfl
      have r_0 := LX.cell (i := 0) rfl
      have r_1 := LX.cell (i := 1) rfl
      have r_2 := LX.cell (i := 2) rfl
      have r_3 := LX.cell (i := 3) rfl
      have r_4 := LX.cell (i := 4) rfl
      have r_5 := LX.cell (i := 5) rfl
      have r_6 := LX.cell (i := 6) rfl
      have r_7 := LX.cell (i := 7) rfl
      have r_8 := LX.cell (i := 8) rfl
      have r_9 := LX.cell (i := 9) rfl
      have x_0 := KX.cell (i := 0) rfl
      have x_1 := KX.cell (i := 1) rfl
      have z2 := cell_later NX x2
      have HB7 := Lib.hid (below_step hbX NX hbX.size)
      generalize (addV (X i) (Y i)).1 = sv at *
      generalize (addV (X i) (Y i)).2 = se at *
      generalize X i = xi at *
      generalize Y i = yi at *
      generalize nm i = N at *
      clear hc hcn hown hfe hbX hlt hi NX J L LX KX
      go_wp2_with (fail)
      with_reducible refine (cA _).mono ?_
      rintro e w7 ⟨rfl, hb7⟩
      by_cases hse : se = 0
      rotate_left
      · have e1 : (se != 0) = true := by simp [hse]
        have HSE := Lib.hid hse
        have HX : Hid (ofX n n X Y f k = se) := Lib.hid (by
          unfold ofX
          rw [if_neg (by simp), if_neg (by rw [HT.out]; decide), if_neg (by rw [HS.out]; decide)]
          exact HST.out hse)
        have HB8 := Lib.hid (below_step HB5.out (below_step HB7.out hb7 HB7.out.size) HB5.out.size)
        clear hse cA hb7 x0 x1 x2 z2 JX
        clear j_0 j_1
        clear k_0 k_1 k_2 k_3 k_4 k_5 k_6 k_7 k_8 k_9
        clear q_0 q_1
        clear r_0 r_1 r_2 r_3 r_4 r_5 r_6 r_7 r_8 r_9
        clear x_0 x_1
        go_wp2
        go_ret2
        exact ⟨⟨_, by rw [HX.out]; rfl, fun _ => rfl, fun e => absurd (HX.out.symm.trans e) HSE.out⟩, HB8.out⟩
      · have HF1 := Lib.hid (HSU.out hse)
        have hb8 := below_step HB7.out hb7 HB7.out.size
        have own8 := own_below HO.out hb7
        have J7 := JX.below hb7
        have y2 := cell_later hb7 z2
        have hsz : ∀ a b : ByteArray, (a ++ b).size = a.size + b.size := fun a b => ByteArray.size_append
        have zadd := fun W => Go.run_string_add_sum (P := Tryd.prog) W fundB N (by have := HZI.out; have : fundB.size = 5 := rfl; omega)
        have hc3 : Hid (3 + i + 1 ≤ maxLen) := Lib.hid (by have := HN.out; have := HL.out; unfold maxLen; omega)
        have hc4 : Hid ((3 + i + 1) * 24 ≤ 140737488355328) := Lib.hid (by have := HN.out; have := HL.out; omega)
        subst hse
        clear j_0 j_1
        clear k_0 k_1 k_2 k_3 k_4 k_5 k_6 k_7 k_8 k_9
        clear q_0 q_1
        clear r_0 r_1 r_2 r_3 r_4 r_5 r_6 r_7 r_8 r_9
        clear x_0 x_1
        have j_0 := J7.cell (i := 0) rfl
        have j_1 := J7.cell (i := 1) rfl
        clear cA hb7 x0 x1 x2 z2 JX J7 hsz HST HSU
        generalize hst : fundB ++ N = st at *
        unfold fundB at zadd
        have HST2 := Lib.hid hst
        clear hst
        have hone : ∀ u ∈ ([.string st, .int .i64 (wrap64 (-sv))] : List Value), u.oneCell' = true := by simp [Value.oneCell']
        have own9 := own_below own8 (below_new w7 (.cells #[.string st, .int .i64 (wrap64 (-sv))] 26))
        have b9 := hb8.alloc hb8.size (.cells #[.string st, .int .i64 (wrap64 (-sv))] 26)
        go_wp2_with (refine wpList_append_lies _ rfl (.tmp 70) (.tmp 81) 22 rfl w5.heap.size 26 i0 (.agg #[.string ⟨#[]⟩, .int .i64 0]) 2 24 Tryd.underlying22 Hi.out Hz.out hz1 hz2 (by rfl) (by decide) _ (3 + i) (enL (ofL b0 ey tax X Y nm n tk pay) (3 + i)) (by rfl) own9 ⟨_, 0, none⟩ 1 1 [.string st, .int .i64 (wrap64 (-sv))] (by rfl) (by rfl) (cells_at2 _ _ _ _ rfl) hone (by decide) hc3.out hc4.out b9.size _ rfl ?_; intro g9 cap9 w9 hown9 hgrow hat hlt9)
        have B9 := b9.grown hgrow b9.size (fun k hk => by have := (own9.lt k hk).1; omega)
        exact ⟨⟨i + 1, _, _, Nat.succ_le_of_lt HL.out, by go_num, rfl, by rw [HE.out]; exact hown9, HF1.out, B9⟩, by first | exact meas_step HL.out | (rw [hwi]; exact meas_step HL.out)⟩
    · obtain rfl : i = n := by omega
      have hnl : ¬ (i : Int) < (i : Int) := by omega
      have L := HJ.out.2.below hbX
      have k_0 := L.cell (i := 0) rfl
      have k_1 := L.cell (i := 1) rfl
      have k_2 := L.cell (i := 2) rfl
      have k_3 := L.cell (i := 3) rfl
      have k_4 := L.cell (i := 4) rfl
      have k_5 := L.cell (i := 5) rfl
      have k_6 := L.cell (i := 6) rfl
      have k_7 := L.cell (i := 7) rfl
      have k_8 := L.cell (i := 8) rfl
      have k_9 := L.cell (i := 9) rfl
      have HFE := Lib.hid hfe
      have HBX := Lib.hid hbX
      have hc3 : Hid (3 + i + 2 ≤ maxLen) := Lib.hid (by have := HN.out; unfold maxLen; omega)
      have hc4 : Hid ((3 + i + 2) * 24 ≤ 140737488355328) := Lib.hid (by have := HN.out; omega)
      have hone : ∀ u ∈ ([.string ⟨#[111, 114, 100, 101, 114, 115]⟩, .int .i64 (wrap64 (-tk)), .string ⟨#[98, 97, 110, 107]⟩, .int .i64 (wrap64 (-pay))] : List Value), u.oneCell' = true := by simp [Value.oneCell']
      have own9 := own_below hown (below_new wr (.cells #[.string ⟨#[111, 114, 100, 101, 114, 115]⟩, .int .i64 (wrap64 (-tk)), .string ⟨#[98, 97, 110, 107]⟩, .int .i64 (wrap64 (-pay))] 26))
      have b9 := hbX.alloc hbX.size (.cells #[.string ⟨#[111, 114, 100, 101, 114, 115]⟩, .int .i64 (wrap64 (-tk)), .string ⟨#[98, 97, 110, 107]⟩, .int .i64 (wrap64 (-pay))] 26)
      have KX := bx_new wr [.string ⟨#[111, 114, 100, 101, 114, 115]⟩, .int .i64 (wrap64 (-tk)), .string ⟨#[98, 97, 110, 107]⟩, .int .i64 (wrap64 (-pay))] 26
      clear hi hown hfe hbX hlt L
      go_wp2_with (refine wpList_append_lies _ rfl (.tmp 84) (.tmp 92) 22 rfl w5.heap.size 26 i0 (.agg #[.string ⟨#[]⟩, .int .i64 0]) 2 24 Tryd.underlying22 Hi.out Hz.out hz1 hz2 (by rfl) (by decide) _ (3 + i) (enL (ofL b0 ey tax X Y nm i tk pay) (3 + i)) (by rfl) own9 ⟨_, 0, none⟩ 2 2 [.string ⟨#[111, 114, 100, 101, 114, 115]⟩, .int .i64 (wrap64 (-tk)), .string ⟨#[98, 97, 110, 107]⟩, .int .i64 (wrap64 (-pay))] (by rfl) (by rfl) (bx_add KX) hone (by decide) hc3.out hc4.out b9.size _ rfl ?_; intro g9 cap9 w9 hown9 hgrow hat hlt9)
      have B9 := b9.grown hgrow b9.size (fun k hk => by have := (own9.lt k hk).1; omega)
      have hL : enL (ofL b0 ey tax X Y nm i tk pay) (3 + i) ++ [.string ⟨#[111, 114, 100, 101, 114, 115]⟩, .int .i64 (wrap64 (-tk)), .string ⟨#[98, 97, 110, 107]⟩, .int .i64 (wrap64 (-pay))] = enL (ofL b0 ey tax X Y nm i tk pay) (3 + i + 2) := by
        have e1 : ofL b0 ey tax X Y nm i tk pay (3 + i) = (⟨#[111, 114, 100, 101, 114, 115]⟩, wrap64 (-tk)) := by
          unfold ofL
          rw [if_neg (by omega), if_neg (by omega), if_neg (by omega), if_neg (by omega), if_pos (by omega)]
        have e2 : ofL b0 ey tax X Y nm i tk pay (3 + i + 1) = (⟨#[98, 97, 110, 107]⟩, wrap64 (-pay)) := by
          unfold ofL
          rw [if_neg (by omega), if_neg (by omega), if_neg (by omega), if_neg (by omega), if_neg (by omega)]
        show _ = (enL _ (3 + i) ++ enC _) ++ enC (ofL b0 ey tax X Y nm i tk pay (3 + i + 1))
        rw [e2]
        have e3 := congrArg enC e1
        rw [List.append_assoc]
        congr 1
        exact (congrArg (· ++ enC (⟨#[98, 97, 110, 107]⟩, wrap64 (-pay))) e3).symm
      rw [hL] at hown9
      have cD := del_both w5.heap.size g9 (3 + i + 2) cap9 _ w9 hown9 (by have := HN.out; omega) B9.size
      have HX : Hid (ofX i i X Y f k = 0) := Lib.hid (by
        unfold ofX
        rw [if_neg (by simp), if_neg (by rw [HT.out]; decide), if_neg (by rw [HS.out]; decide)]
        exact HFE.out)
      have HB9 := Lib.hid B9
      clear hL hown9 hgrow hat hlt9 own9 b9 KX B9 hone
      with_reducible refine cD.mono ?_
      rintro e w10 ⟨rfl, own10, hb10⟩
      have HO10 := Lib.hid own10
      have HB10 := Lib.hid (below_step HB5.out (HB9.out.trans hb10) HB5.out.size)
      clear cD own10 hb10
      clear k_0 k_1 k_2 k_3 k_4 k_5 k_6 k_7 k_8 k_9
      go_wp2
      go_ret2
      refine ⟨⟨_, by rw [HX.out]; rfl, fun e => absurd HX.out e, fun _ => ?_⟩, HB10.out⟩
      have := HO10.out.mono HB5.out.size
      rw [HEY.out, HTK.out, show i + 5 = 3 + i + 2 by omega]
      exact this
end Go.Proofs.YtgadlfdioakodabDoor
