/- The walk of the law PostBooks. -/
import Derived.Test.YtgadlfdioakodabDoorPbM
import Derived.Test.YtgadlfdioakodabDoorOpenP
import Derived.Maps.Range
import Derived.Maps.RangeWalk
import Derived.Deep.CutRange
import Derived.Deep.RegionLaw
import Derived.Lib.QuietBelow
import Derived.BigQuiet
import Derived.Deep.RegionHeld3
namespace Go.Proofs.YtgadlfdioakodabDoor
open Go.RowKit Go.Sort Go.Maps
set_option linter.unusedVariables false
set_option linter.unusedSimpArgs false

/-- what the law holds: a book, and a map that says the same of it -/
def PB (w1 X : World) (p b bw c cw : Nat) (k : Int) (i : Nat) (M : List UInt8 → Int) (Q : List UInt8 → Bool) : Prop :=
  BkA X p b c k M (fun l => M l != 0) ∧ MapA X bw cw M Q ∧ BInv M ∧ (bw ≠ p ∧ bw ≠ b ∧ p ≠ b ∧ w1.heap.size ≤ bw ∧ w1.heap.size ≤ p ∧ w1.heap.size ≤ b) ∧ (c ≤ 30 * i ∧ cw ≤ 30 * i ∧ 0 ≤ k ∧ k ≤ 30 * (i : Int)) ∧ Below w1.heap.size w1 X
theorem PB.below {w1 X Y : World} {p b bw c cw : Nat} {k : Int} {i : Nat} {M : List UInt8 → Int} {Q : List UInt8 → Bool} (h : PB w1 X p b bw c cw k i M Q) (hb : Below X.heap.size X Y) : PB w1 Y p b bw c cw k i M Q := by
  obtain ⟨h1, h2, h3, h4, h5, h6⟩ := h
  exact ⟨h1.below hb, h2.below hb, h3, h4, h5, below_step h6 hb h6.size⟩
/-- names that are still to come aren't in the copy -/
def cpM (M : List UInt8 → Int) (left : Lit → Bool) (l : List UInt8) : Int := if left (.string l) = true then 0 else M l
theorem cpM_step {M : List UInt8 → Int} {left : Lit → Bool} {x : List UInt8} : (fun z => if z = x then M x else cpM M left z) = cpM M (fun z => left z && !z.sameKey (.string x)) := by
  funext z
  unfold cpM
  by_cases hz : z = x
  · subst hz
    have e : (Lit.string z).sameKey (.string z) = true := WideAt.sameKey_self (by trivial)
    simp [e]
  · have e : (Lit.string z).sameKey (.string x) = false := sameKey_ne (by simpa using hz)
    simp [hz, e]
theorem mixedB : Tryd.prog.follows .mixedOrders = true := by kernel_rfl
theorem strle_no {s t : ByteArray} (h : t.data.toList < s.data.toList) : (Op.bytesLess s.toList t.toList || s.toList == t.toList) = false := by
  rw [ByteArray.toList_eq, ByteArray.toList_eq, bytesLess_eq, Bool.or_eq_false_iff]
  refine ⟨decide_eq_false fun e => List.lt_irrefl _ (List.lt_trans h e), ?_⟩
  rw [beq_eq_false_iff_ne]
  intro e
  rw [e] at h
  exact List.lt_irrefl _ h
/-- what the law takes for the answer, behind so many entries -/
def fcd (M : List UInt8 → Int) (f : Nat → En) (m j : Nat) : Int := if chkP f m ≠ 0 then chkP f m else firstE (poE M f) j
theorem fcd_zero {M : List UInt8 → Int} {f : Nat → En} {m j : Nat} (h : fcd M f m j = 0) : chkP f m = 0 ∧ firstE (poE M f) j = 0 := by
  unfold fcd at h
  by_cases h1 : chkP f m = 0
  · rw [if_neg (by simp [h1])] at h; exact ⟨h1, h⟩
  · rw [if_pos h1] at h; exact absurd h h1
theorem fcd_stay {M : List UInt8 → Int} {f : Nat → En} {m j : Nat} (h : fcd M f m j ≠ 0) : fcd M f m (j + 1) = fcd M f m j := by
  unfold fcd at h ⊢
  by_cases h1 : chkP f m = 0
  · rw [if_neg (by simp [h1])] at h ⊢
    rw [if_neg (by simp [h1])]
    show (if firstE (poE M f) j = 0 then poE M f j else firstE (poE M f) j) = _
    rw [if_neg h]
  · rw [if_pos h1, if_pos h1]
theorem fcd_next {M : List UInt8 → Int} {f : Nat → En} {m j : Nat} (h : fcd M f m j = 0) : fcd M f m (j + 1) = poE M f j := by
  obtain ⟨h1, h2⟩ := fcd_zero h
  unfold fcd
  rw [if_neg (by simp [h1])]
  show (if firstE (poE M f) j = 0 then poE M f j else firstE (poE M f) j) = _
  rw [if_pos h2]
theorem poE_is {M : List UInt8 → Int} {f : Nat → En} {j : Nat} (h1 : amtB (tot M f j (acc f j)) = true) (h2 : amtB (f j).2 = true) : poE M f j = if amtB (tot M f j (acc f j) + (f j).2) = true then 0 else 10 := by
  unfold poE addV
  rw [h1, h2]
  simp only [Bool.true_and]
  split <;> rfl
theorem tot_put {M : List UInt8 → Int} {f : Nat → En} {j : Nat} : (fun z => if z = acc f j then tot M f j (acc f j) + (f j).2 else tot M f j z) = tot M f (j + 1) := by
  funext z
  show _ = if z = acc f j then tot M f j z + (f j).2 else tot M f j z
  by_cases hz : z = acc f j
  · subst hz; rfl
  · rw [if_neg hz, if_neg hz]
set_option maxRecDepth 100000 in
set_option maxHeartbeats 16000000 in
theorem wPostBooks (A : Option Addr) (n c : Nat) (g : Nat → EL) (w : World) (hT : Tab w) (hE : ElsM w A n g) (hn : n ≤ 9223372036854775807 ∧ n ≤ c) (hf : ∀ i, i < n → ElF (g i)) :
    Calls Tryd.prog 4 #[.slice A n c] w fun e w' => e = .returned (.bool true) ∧ Below w.heap.size w w' := by
  have hmm := @run_makeMap Tryd.prog
  have HH := Lib.hid (And.intro hT (And.intro hE (And.intro hn hf)))
  have cB := books_any w hT
  clear hT hE hn hf
  go_enter Tryd.func4, Tryd.ntmps4
  go_wp2_with (fail)
  with_reducible refine cB.mono ?_
  rintro e w1 ⟨rfl, B1⟩
  clear cB
  by_cases h30 : n ≤ 30
  rotate_left
  · have hgt2 : decide ((30 : Int) < (n : Int)) = true := by simp; omega
    have hgt : ((30 : Int) < (n : Int)) := by omega
    clear h30
    go_wp2
    go_ret
    exact ⟨rfl, B1⟩
  have hle : decide ((30 : Int) < (n : Int)) = false := by simp; omega
  have HN := Lib.hid h30
  have HB1 := Lib.hid B1
  have cN := pnew_any w1
  clear h30 B1
  go_wp2_with (fail)
  with_reducible refine cN.mono ?_
  rintro e w2 ⟨p, b, rfl, hBk, hbl, hpl, hb2⟩
  have m0 := mapA_new w2
  have NM : Below w2.heap.size w2 (w2.alloc (.map #[] 0)) := (Below.refl _ _).alloc (Nat.le_refl _) _
  have hpb : p ≠ b := hBk.2.far (hBk.1.cell (i := 0) rfl)
  have hpl2 := hBk.1.lt
  have hbl2 := hBk.2.lt
  have hPB : PB w1 (w2.alloc (.map #[] 0)) p b w2.heap.size 0 0 0 0 (fun _ => 0) (fun _ => false) :=
    ⟨hBk.below NM, m0, BInv.none, ⟨by omega, by omega, hpb, hb2.size, hpl, hbl⟩, ⟨by omega, by omega, by omega, by omega⟩, below_step hb2 NM hb2.size⟩
  clear cN hBk hbl hpl hb2 m0 NM hpb hpl2 hbl2
  go_wp2
  go_loopw [4, 5, 30] (fun a s j X => ∃ (i bw c cw : Nat) (k : Int) (M : List UInt8 → Int) (Q : List UInt8 → Bool), i ≤ n ∧ j = .int .i64 i ∧ a = .map (some bw) ∧ s = .int .i64 k ∧ PB w1 X p b bw c cw k i M Q) (fun _ _ j _ => n - (intOf j).toNat)
  case atStart => exact ⟨0, _, 0, 0, 0, _, _, Nat.zero_le _, rfl, rfl, rfl, hPB⟩
  case round =>
    clear hPB
    obtain ⟨i, bw, cb, cw, k, M, Q, hi, rfl, rfl, rfl, hP⟩ := hrel
    by_cases hlt : i < n
    · have hil : (i : Int) < (n : Int) := by omega
      have hwi : wrap64 ((i : Int) + 1) = (i : Int) + 1 := IntWalk.wrap64_in _ (by have := HN.out; omega)
      have hbw := below_step HB1.out hP.2.2.2.2.2 HB1.out.size
      obtain ⟨bl, o, rfl, hc⟩ := HH.out.2.1.below hbw (by omega)
      obtain ⟨x0, hL⟩ := hc i hlt
      have HEL := Lib.hid (And.intro hL (HH.out.2.2.2 i hlt).2)
      have hEw : EnM w (g i).A (g i).n (g i).f := by
        obtain ⟨bl', o', e', hc'⟩ := HH.out.2.1 (by omega)
        exact (hc' i hlt).2
      have HEW := Lib.hid hEw
      clear hEw
      have HL := Lib.hid (And.intro hlt HN.out)
      have HP := Lib.hid hP
      have HBW := Lib.hid hbw
      clear hc hL hP hbw hlt hi
      generalize (g i).f = f at *
      generalize (g i).A = LA at *
      generalize (g i).n = m at *
      generalize (g i).c = lc at *
      by_cases h30 : m ≤ 30
      rotate_left
      · have hgt2 : decide ((30 : Int) < (m : Int)) = true := by simp; omega
        have hgt : ((30 : Int) < (m : Int)) := by omega
        clear h30
        go_wp2
        go_ret
        exact ⟨rfl, HBW.out⟩
      have hle2 : decide ((30 : Int) < (m : Int)) = false := by simp; omega
      have HM := Lib.hid h30
      have cC := pcheck_any LA m lc f wr HEL.out.1 (by omega)
      clear h30
      go_wp2_with (fail)
      with_reducible refine cC.mono ?_
      rintro e w5 ⟨rfl, hb5⟩
      have NM : Below w5.heap.size w5 (w5.alloc (.map #[] 0)) := (Below.refl _ _).alloc (Nat.le_refl _) _
      have m0 := mapA_new w5
      have hP6 := (HP.out.below hb5).below NM
      have HE6 := Lib.hid ((HEL.out.1.below hb5).below NM)
      have HZ := Lib.hid (fun j hj => show (f j).1.size ≤ 281474976710656 by have := (HEL.out.2 j hj).1; omega)
      have HV := Lib.hid (fun j hj => (HEL.out.2 j hj).2)
      have hbn : w5.heap.size ≠ bw ∧ w5.heap.size ≠ p ∧ w5.heap.size ≠ b ∧ w1.heap.size ≤ w5.heap.size ∧ w.heap.size ≤ w5.heap.size := by
        have a4 := (HP.out.below hb5).2.2.2.2.2.size
        have a5 := HB1.out.size
        have a1 := (HP.out.below hb5).2.1.lt
        have a2 := (HP.out.below hb5).1.1.lt
        have a3 := (HP.out.below hb5).1.2.lt
        omega
      have hb6 := below_step HBW.out (below_step hb5 NM hb5.size) HBW.out.size
      have hsz6 : w5.heap.size < (w5.alloc (.map #[] 0)).heap.size := by simp
      clear cC hb5 HEL NM x0
      obtain ⟨D, hown, hIs, hAt, hHas⟩ := hP6.2.1
      have HD := Lib.hid (And.intro hIs (And.intro hAt hHas))
      have HP6 := Lib.hid hP6
      have HSD := Lib.hid hown.size_le
      have HBN := Lib.hid hbn
      have HB6 := Lib.hid hb6
      clear hIs hAt hHas hP6 hbn hb6
      go_wp2_with (at_range; refine wpList_range_own _ rfl _ 37 rfl 9 2 keyedS Tryd.underlying37 _ bw cw D rfl hown ?_; intro w7 hrg0 hg0 hs0)
      generalize hbn : w5.heap.size = bn at *
      generalize w5.alloc (.map #[] 0) = w6 at *
      have HB7 := Lib.hid ((Below.refl w6.heap.size w6).grown hg0 (Nat.le_refl _) (fun k hk => by cases hk))
      have m7 : MapA w7 bn 0 (cpM M (has D)) (fun l => Q l && !has D (.string l)) := (m0.of_block (hg0.block bn (by omega) (by simp))).congr (funext fun l => by
        unfold cpM
        rw [HD.out.2.2]
        cases hq : Q l
        · have e := atKey_of_not_has (D := D) (k := Lit.string l) (by rw [HD.out.2.2]; exact hq) (.lit (.int .i64 0))
          rw [HD.out.2.1] at e
          simpa using e.symm
        · rw [if_pos rfl]) (funext fun l => by rw [HD.out.2.2]; cases Q l <;> rfl)
      have hsz7 : w6.heap.size + 1 ≤ w7.heap.size := Nat.le_of_eq hs0.symm
      have hsame7 : ∀ r, r < w6.heap.size → r ≠ bn → w7.heap[r]? = w6.heap[r]? := fun r hr _ => hg0.block r hr (by simp)
      have hcm7 : Calm w6 w7 := ⟨hg0.os, hg0.tape, hg0.output⟩
      have HS6 := Lib.hid hsz6
      clear m0 hg0 hs0 hown hsz6 hbn
      go_frame
      go_loopw [42] (fun _ X => ∃ (left : Lit → Bool) (cn c2 : Nat), X.ranges Tryd.prog 9 (plainElem Tryd.prog 2) bw w6.heap.size cw D left cn ∧ MapA X bn c2 (cpM M left) (fun l => Q l && !left (.string l)) ∧ c2 + cn ≤ cw ∧ w6.heap.size + 1 ≤ X.heap.size ∧ Calm w6 X ∧ ∀ r, r < w6.heap.size → r ≠ bn → X.heap[r]? = w6.heap[r]?) (fun _ X => X.rangeLeft bw w6.heap.size)
      case atStart => exact ⟨_, _, 0, hrg0, m7, by have := HSD.out; omega, hsz7, hcm7, hsame7⟩
      case round =>
        clear hrg0 m7 hsz7 hcm7 hsame7
        obtain ⟨left, cn, c2, hrg, hMp, hcc, hwl, hcm, hsm⟩ := hrel
        go_wp2_with (at_next; refine wpList_next_ranges _ rfl _ rfl 9 keyedS (plainElem Tryd.prog 2) (fun l : List UInt8 => Value.string ⟨l.toArray⟩) (Value.int .i64) invStr invInt bw w6.heap.size cw D left cn rfl hrg ?_ ?_)
        · intro hc0 hl0
          obtain ⟨w9, hw9⟩ : ∃ w9, w9 = wr := ⟨_, rfl⟩
          subst hw9
          have hP9 : PB w1 w9 p b bw cb cw k i M Q := by
            obtain ⟨h1, h2, h3, h4, h5, h6⟩ := HP6.out
            exact ⟨⟨h1.1.of_block (hsm p h1.1.lt (fun e => HBN.out.2.1 e.symm)), h1.2.of_block (hsm b h1.2.lt (fun e => HBN.out.2.2.1 e.symm))⟩, h2.of_block (hsm bw h2.lt (fun e => HBN.out.1 e.symm)), h3, h4, h5, Calm.new h6 hcm (by omega) (fun r hr hr1 _ => hsm r hr hr1) HBN.out.2.2.2.1 HBN.out.2.2.2.1⟩
          have hB9 : Below w.heap.size w w9 := Calm.new HB6.out hcm (by omega) (fun r hr hr1 _ => hsm r hr hr1) HBN.out.2.2.2.2 HBN.out.2.2.2.2
          have hM9 : MapA w9 bn c2 M Q := hMp.congr (funext fun l => by unfold cpM; rw [hl0]; rfl) (funext fun l => by rw [hl0]; simp)
          have hc9 : c2 ≤ cw := by omega
          have HP9 := Lib.hid hP9
          have HB9 := Lib.hid hB9
          have hcr := Calm.of (Below.refl w9.heap.size w9)
          have hszr := Nat.le_refl w9.heap.size
          clear hP9 hB9 hMp hcc hwl hcm hsm hc0 hl0 hrg
          go_wp2
          go_loopw [8, 52] (fun a s X => ∃ (j : Nat), j ≤ m ∧ s = .int .i64 j ∧ a = .int .i64 (fcd M f m j) ∧ (fcd M f m j = 0 → ∃ c3 Qn, MapA X bn c3 (tot M f j) Qn ∧ c3 ≤ cw + j) ∧ w9.heap.size ≤ X.heap.size ∧ Calm w9 X ∧ ∀ r, r < w9.heap.size → r ≠ bn → X.heap[r]? = w9.heap[r]?) (fun _ s _ => m - (intOf s).toNat)
          case atStart =>
            refine ⟨0, Nat.zero_le _, rfl, ?_, fun _ => ⟨c2, Q, hM9, hc9⟩, hszr, hcr, fun r _ _ => rfl⟩
            unfold fcd
            by_cases h1 : chkP f m = 0
            · rw [if_neg (by simp [h1]), h1]; rfl
            · rw [if_pos h1]
          case round =>
            clear hM9 hc9 hcr hszr
            obtain ⟨j, hj, rfl, rfl, hmp, hsz, hcm, hsm⟩ := hrel
            have hbX : Below w.heap.size w wr := Calm.new HB9.out hcm hsz (fun r hr hr1 _ => hsm r hr hr1) HBN.out.2.2.2.2 HBN.out.2.2.2.2
            by_cases hlt : j < m
            · have hjl : (j : Int) < (m : Int) := by omega
              have hwj : wrap64 ((j : Int) + 1) = (j : Int) + 1 := IntWalk.wrap64_in _ (by have := HM.out; omega)
              obtain ⟨bb, ob, rfl, hc⟩ := HEW.out.below hbX (by omega)
              obtain ⟨x0, x1⟩ := hc j hlt
              have hs := HZ.out j hlt
              have hs2 : (f j).1.size ≤ maxLen := Nat.le_trans hs (by decide)
              have HJ := Lib.hid hlt
              have KX := bx_new wr [.string (f j).1, .int .i64 (f j).2] 26
              have NX := below_new wr (.cells #[.string (f j).1, .int .i64 (f j).2] 26)
              have hszX : w9.heap.size ≤ (wr.alloc (.cells #[.string (f j).1, .int .i64 (f j).2] 26)).heap.size := Nat.le_trans hsz NX.size
              have hcmX : Calm w9 (wr.alloc (.cells #[.string (f j).1, .int .i64 (f j).2] 26)) := hcm.below NX
              have hsmX : ∀ r, r < w9.heap.size → r ≠ bn → (wr.alloc (.cells #[.string (f j).1, .int .i64 (f j).2] 26)).heap[r]? = w9.heap[r]? := fun r hr hrn => (NX.block r (by omega)).trans (hsm r hr hrn)
              have kx_0 := KX.cell (i := 0) rfl
              have kx_1 := KX.cell (i := 1) rfl
              by_cases hF : fcd M f m j = 0
              rotate_left
              · have e1 : (fcd M f m j == 0) = false := by simp [hF]
                have HFS := Lib.hid (fcd_stay hF)
                have HF := Lib.hid hF
                have HX := Lib.hid (And.intro hszX (And.intro hcmX hsmX))
                clear hszX hcmX hsmX hc hmp hsz hcm hsm hbX hlt hj hF KX NX hs hs2
                generalize fcd M f m j = F at *
                generalize (f j).1 = N at *
                generalize (f j).2 = v at *
                go_wp2
                exact ⟨⟨j + 1, Nat.succ_le_of_lt HJ.out, by go_num, by rw [HFS.out], fun e => absurd (HFS.out.symm.trans e) HF.out, HX.out⟩, by first | exact meas_step HJ.out | (rw [hwj]; exact meas_step HJ.out)⟩
              · obtain ⟨c3, Qn, hmap, hc3⟩ := hmp hF
                obtain ⟨hck, hpo⟩ := fcd_zero hF
                have hen := en_ok (first_zero (chk_parts hck).1 j hlt)
                have ht := tot_amt HP9.out.2.2.1.1 hpo (acc f j)
                obtain ⟨y, hy⟩ : ∃ y, tot M f j (acc f j) + (f j).2 = y := ⟨_, rfl⟩
                have hpe := poE_is ht hen.1
                rw [hy] at hpe
                have HFN := Lib.hid (fcd_next hF)
                have b1 := amtB_yes ht
                have b2 := amtB_yes hen.1
                have hM1 := hmap.below NX
                have hlk : (Instr.lookup 37 (.map (some bn)) (.string (f j).1) false).run Tryd.prog (wr.alloc (.cells #[.string (f j).1, .int .i64 (f j).2] 26)) = .ok (.int .i64 (tot M f j (acc f j))) _ := hM1.look hs2
                obtain ⟨W9, hrun, hM9, hg9⟩ := hM1.put (by have := HP9.out.2.2.2.2.1.2.1; have := HL.out; have := HM.out; omega) hs2 (y := y) (by omega)
                have hM9' : MapA W9 bn (c3 + 1) (tot M f (j + 1)) (fun z => decide (z = acc f j) || Qn z) := hM9.congr (by rw [← hy]; exact tot_put) rfl
                have hlk2 : (Instr.lookup 37 (.map (some bn)) (.string (f j).1) false).run Tryd.prog W9 = .ok (.int .i64 y) W9 := by
                  have h := hM9'.look hs2
                  have e : tot M f (j + 1) (f j).1.data.toList = y := by
                    rw [← hy]
                    show (if _ = acc f j then tot M f j _ + (f j).2 else _) = _
                    exact if_pos rfl
                  rw [e] at h
                  exact h
                have hnb : wr.heap.size ≠ bn := by have := hmap.lt; omega
                have KX9 : Bx W9 wr.heap.size 26 [.string (f j).1, .int .i64 (f j).2] := KX.of_block (hg9.block _ KX.lt (fun e => hnb (Option.some.inj e)))
                have y_0 := KX9.cell (i := 0) rfl
                have y_1 := KX9.cell (i := 1) rfl
                have hX9 : w9.heap.size ≤ W9.heap.size ∧ Calm w9 W9 ∧ ∀ r, r < w9.heap.size → r ≠ bn → W9.heap[r]? = w9.heap[r]? := ⟨Nat.le_trans hszX hg9.size, hcmX.grown hg9, fun r hr hrn => (hg9.block r (by omega) (fun e => hrn (Option.some.inj e))).trans (hsmX r hr hrn)⟩
                have HX := Lib.hid hX9
                have HMM := Lib.hid (And.intro hM9' (show c3 + 1 ≤ cw + (j + 1) by omega))
                have hsw : wrap64 (tot M f j (acc f j) + (f j).2) = y := by rw [hy]; exact IntWalk.wrap64_in _ (by omega)
                have HPE := Lib.hid hpe
                have hF1 : (fcd M f m j == 0) = true := by simp [hF]
                clear hszX hcmX hsmX hc hmp hsz hcm hsm hbX hlt hj hF KX NX hs hs2 hM9 hM9' hM1 hmap hX9 hg9 hc3 hck hpo hen ht hpe KX9 hnb b1 b2 hy
                generalize fcd M f m j = F at *
                generalize tot M f j (acc f j) = tv at *
                generalize (f j).1 = N at *
                generalize (f j).2 = v at *
                by_cases hgt : 100000000000 < y
                · have g1 : decide ((100000000000 : Int) < y) = true := by simpa using hgt
                  have HE : Hid (fcd M f m (j + 1) = 10) := Lib.hid (by rw [HFN.out, HPE.out, if_neg (by unfold amtB; simp; omega)])
                  clear hgt
                  go_wp2
                  exact ⟨⟨j + 1, Nat.succ_le_of_lt HJ.out, by go_num, by rw [HE.out], (fun e => by rw [HE.out] at e; cases e), HX.out⟩, by first | exact meas_step HJ.out | (rw [hwj]; exact meas_step HJ.out)⟩
                have g1 : decide ((100000000000 : Int) < y) = false := by simpa using hgt
                by_cases hlo : y < -100000000000
                · have g2 : decide (y < (-100000000000 : Int)) = true := by simpa using hlo
                  have HE : Hid (fcd M f m (j + 1) = 10) := Lib.hid (by rw [HFN.out, HPE.out, if_neg (by unfold amtB; simp; omega)])
                  clear hgt hlo
                  go_wp2
                  exact ⟨⟨j + 1, Nat.succ_le_of_lt HJ.out, by go_num, by rw [HE.out], (fun e => by rw [HE.out] at e; cases e), HX.out⟩, by first | exact meas_step HJ.out | (rw [hwj]; exact meas_step HJ.out)⟩
                have g2 : decide (y < (-100000000000 : Int)) = false := by simpa using hlo
                have HE : Hid (fcd M f m (j + 1) = 0) := Lib.hid (by rw [HFN.out, HPE.out, if_pos (by unfold amtB; simp; omega)])
                clear hgt hlo
                have hF0 : F = 0 := by simpa using hF1
                subst hF0
                go_wp2
                exact ⟨⟨j + 1, Nat.succ_le_of_lt HJ.out, by go_num, by rw [HE.out], (fun _ => ⟨c3 + 1, _, HMM.out.1, HMM.out.2⟩), HX.out⟩, by first | exact meas_step HJ.out | (rw [hwj]; exact meas_step HJ.out)⟩
            · obtain rfl : j = m := by omega
              have hnl : ¬ (j : Int) < (j : Int) := by omega
              have hP10 : PB w1 wr p b bw cb cw k i M Q := by
                obtain ⟨h1, h2, h3, h4, h5, h6⟩ := HP9.out
                exact ⟨⟨h1.1.of_block (hsm p h1.1.lt (fun e => HBN.out.2.1 e.symm)), h1.2.of_block (hsm b h1.2.lt (fun e => HBN.out.2.2.1 e.symm))⟩, h2.of_block (hsm bw h2.lt (fun e => HBN.out.1 e.symm)), h3, h4, h5, Calm.new h6 hcm (by omega) (fun r hr hr1 _ => hsm r hr hr1) HBN.out.2.2.2.1 HBN.out.2.2.2.1⟩
              have cP := ppost_any hP10.1 LA j lc f (HEW.out.below hbX) (by have := HM.out; omega) HZ.out hP10.2.2.1.1 (fun _ => rfl) (by have := hP10.2.2.2.2.1.1; have := HL.out; omega) (by have := hP10.2.2.2.2.1; have := HL.out; omega)
              have HP10 := Lib.hid hP10
              have HB10 := Lib.hid hbX
              have HMP := Lib.hid hmp
              clear hP10 hmp hsz hcm hsm hbX hlt hj
              go_wp2_with (fail)
              refine Calls.mono cP ?_
              rintro e wx ⟨h1, h2, h3⟩
              have hE : e = .returned (.int .i64 (fcd M f j j)) := by
                unfold fcd
                by_cases hck : chkP f j = 0
                · rw [if_neg (by simp [hck])]
                  by_cases hpo : firstE (poE M f) j = 0
                  · rw [hpo]; exact (h3 hck hpo).1
                  · exact (h2 hck hpo).1
                · rw [if_pos hck]
                  exact (h1 hck).1
              have hY : fcd M f j j = 0 → ∃ c3 Qn, PB w1 wx p b bn (cb + j) c3 (k + j) (i + 1) (tot M f j) Qn := fun hF => by
                obtain ⟨hck, hpo⟩ := fcd_zero hF
                obtain ⟨-, hBk, hsz, hcm, hrr⟩ := h3 hck hpo
                obtain ⟨c3, Qn, hmap, hc3⟩ := HMP.out hF
                obtain ⟨q1, q2, q3, q4, q5, q6⟩ := HP10.out
                have := HM.out
                exact ⟨c3, Qn, hBk, hmap.of_block (hrr bn hmap.lt HBN.out.2.1 HBN.out.2.2.1), q3.tot hck hpo, ⟨HBN.out.2.1, HBN.out.2.2.1, q4.2.2.1, HBN.out.2.2.2.1, q4.2.2.2.2.1, q4.2.2.2.2.2⟩, ⟨by omega, by omega, by omega, by omega⟩, Calm.new q6 hcm hsz hrr q4.2.2.2.2.1 q4.2.2.2.2.2⟩
              have hNo : fcd M f j j ≠ 0 → PB w1 wx p b bw cb cw k (i + 1) M Q := fun hF => by
                have hbx : Below wr.heap.size wr wx := by
                  unfold fcd at hF
                  by_cases hck : chkP f j = 0
                  · rw [if_neg (by simp [hck])] at hF
                    exact (h2 hck hF).2
                  · exact (h1 hck).2
                obtain ⟨q1, q2, q3, q4, q5, q6⟩ := HP10.out.below hbx
                exact ⟨q1, q2, q3, q4, ⟨by omega, by omega, by omega, by omega⟩, q6⟩
              have hkb : 0 ≤ k ∧ k ≤ 30 * (i : Int) := HP10.out.2.2.2.2.1.2.2
              have hkw : wrap64 (k + (j : Int)) = k + (j : Int) := IntWalk.wrap64_in _ (by have := HM.out; have := HL.out; omega)
              have HR := Lib.hid (And.intro hY hNo)
              subst hE
              have e1 : (fcd M f j j != fcd M f j j) = false := by simp
              clear cP h1 h2 h3 hY hNo hkb
              generalize fcd M f j j = F at *
              go_upto_if 84 with (fail)
              go_cut [4, 5] from 83 to 89 (fun s4 s5 wx => ∃ (bw' cb' cw' : Nat) (k' : Int) (M' : List UInt8 → Int) (Q' : List UInt8 → Bool), s4 = .map (some bw') ∧ s5 = .int .i64 k' ∧ PB w1 wx p b bw' cb' cw' k' (i + 1) M' Q')
              case first =>
                by_cases hF : F = 0
                · obtain ⟨c3, Qn, hPn⟩ := HR.out.1 hF
                  have HPN := Lib.hid hPn
                  have e2 : (F == 0) = true := by simp [hF]
                  clear hPn hF
                  go_wp2
                  go_meet
                  case rel => exact ⟨bn, cb + j, c3, k + j, _, Qn, rfl, by show Value.int .i64 (wrap64 (k + (j : Int))) = _; rw [hkw], HPN.out⟩
                · have HPN := Lib.hid (HR.out.2 hF)
                  have e2 : (F == 0) = false := by simp [hF]
                  clear hF
                  go_wp2
                  go_meet
                  case rel => exact ⟨bw, cb, cw, k, _, Q, rfl, rfl, HPN.out⟩
              case rest =>
                obtain ⟨bw', cb', cw', k', M', Q', rfl, rfl, hPn⟩ := hcut
                have hbc : Below w.heap.size w wc := below_step HB1.out hPn.2.2.2.2.2 HB1.out.size
                have hcb : cb' ≤ 100000 := by have := hPn.2.2.2.2.1.1; have := HL.out; omega
                have hcb2 : cw' ≤ 100000 := by have := hPn.2.2.2.2.1.2.1; have := HL.out; omega
                have cBal := bal_any hPn.1 hcb (fun l hl => by have := (acc_len (hPn.2.2.1.2.1 l (by simpa using hl))).2; omega)
                have HPN := Lib.hid hPn
                have HBC := Lib.hid hbc
                have HCW := Lib.hid (And.intro hcb hcb2)
                clear hPn hbc hcb hcb2
                go_wp2_with (fail)
                with_reducible refine cBal.mono ?_
                rintro e w11 ⟨v11, nb, fb, rfl, hown, hb11, hnb, hF⟩
                obtain ⟨A11, c11, rfl, -, -⟩ := own_len hown
                have hE11 := en_own hown
                have hP11 := HPN.out.below hb11
                have HP11 := Lib.hid hP11
                have HE11 := Lib.hid hE11
                have HFU := Lib.hid hF
                have HNB : Hid (nb ≤ 100000) := Lib.hid (Nat.le_trans hnb HCW.out.1)
                have Bw := Below.refl w11.heap.size w11
                clear cBal hown hE11 hP11 hF hnb hb11
                go_wp2
                go_loopw [14, 15, 16, 93] (fun a s t q X => ∃ (j : Nat), j ≤ nb ∧ q = .int .i64 j ∧ a = .int .i64 (enS fb j) ∧ s = .int .i64 j ∧ (∃ st : ByteArray, t = .string st ∧ ∀ j', j = j' + 1 → st = (fb j').1) ∧ (j = 0 → t = .string ⟨#[]⟩) ∧ Below w11.heap.size w11 X) (fun _ _ _ q _ => nb - (intOf q).toNat)
                case atStart => exact ⟨0, Nat.zero_le _, rfl, rfl, rfl, ⟨_, rfl, fun j' e => absurd e (Nat.succ_ne_zero _).symm⟩, fun _ => rfl, Bw⟩
                case round =>
                  clear Bw
                  obtain ⟨q, hq, rfl, rfl, rfl, ⟨st, rfl, hst⟩, hst0, hbX⟩ := hrel
                  by_cases hlt : q < nb
                  · have hql : (q : Int) < (nb : Int) := by omega
                    have hwq : wrap64 ((q : Int) + 1) = (q : Int) + 1 := IntWalk.wrap64_in _ (by have := HNB.out; omega)
                    obtain ⟨bb, ob, rfl, hc⟩ := HE11.out.below hbX (by omega)
                    obtain ⟨x0, x1⟩ := hc q hlt
                    have hp12 := HP11.out.below hbX
                    have KX := bx_new wr [.string (fb q).1, .int .i64 (fb q).2] 26
                    have NX := below_new wr (.cells #[.string (fb q).1, .int .i64 (fb q).2] 26)
                    have HQ := Lib.hid hlt
                    have HBX := Lib.hid (below_step hbX NX hbX.size)
                    have hv : (fb q).2 = M' (acc fb q) := HFU.out.2.1 q hlt
                    have hps := hp12.2.2.1.pos HFU.out hlt
                    have hal := acc_len (hp12.2.2.1.2.1 _ hps.1)
                    have hs2 : (fb q).1.size ≤ maxLen := by have : (acc fb q).length = (fb q).1.size := by simp [acc]
                                                            unfold maxLen; omega
                    have hv0 : ((fb q).2 == 0) = false := by rw [hv]; simp [hps.1]
                    have hls : (Op.bytesLess (fb q).1.toList st.toList || (fb q).1.toList == st.toList) = false := strle_no (by
                      show _ < acc fb q
                      cases q with
                      | zero =>
                        have e := Value.string.inj (hst0 rfl)
                        subst e
                        show ([] : List UInt8) < acc fb 0
                        generalize acc fb 0 = l at *
                        cases l with
                        | nil => exact absurd hps.2 (by simp)
                        | cons a l => simp
                      | succ q =>
                        rw [hst q rfl]
                        exact HFU.out.2.2.1 q (q + 1) (Nat.lt_succ_self _) hlt)
                    have HS1 : Hid (enS fb (q + 1) = enS fb q + (fb q).2) := Lib.hid rfl
                    have hee : firstE (enE fb) q = 0 := first_of_zero fun i hi => by
                      have h1 := hp12.2.2.1.pos HFU.out (show i < nb by omega)
                      have h2 := hp12.2.2.1.2.1 _ h1.1
                      have h3 := hp12.2.2.1.1 (acc fb i)
                      rw [← HFU.out.2.1 i (by omega)] at h3
                      unfold enE
                      rw [h3]
                      have h4 : accB (fb i).1 = true := h2
                      rw [h4]; rfl
                    have hsb := enS_bd hee
                    have hvb := amtB_yes (hp12.2.2.1.1 (acc fb q))
                    rw [← hv] at hvb
                    have hsw : wrap64 (enS fb q + (fb q).2) = enS fb (q + 1) := by
                      rw [HS1.out]
                      exact IntWalk.wrap64_in _ (by have := HNB.out; omega)
                    have HST : Hid (∀ j', q + 1 = j' + 1 → (fb q).1 = (fb j').1) := Lib.hid fun j' e => by rw [Nat.succ.inj e]
                    have hp13 := hp12.below NX
                    have KW := Lib.hid KX
                    clear hc hp12 KX hst hst0 hee hsb hvb hlt hq
                    generalize hNN : (fb q).1 = N at *
                    generalize hvv : (fb q).2 = v at *
                    have hv' := Lib.hid hv
                    have HNN := Lib.hid hNN
                    clear hv hps hNN hvv
                    go_wp2
                    generalize wr.alloc (.cells #[.string N, .int .i64 v] 26) = wk at *
                    have kx_0 := fun d os => cell_regrown (KW.out.cell (i := 0) rfl) d os
                    have kx_1 := fun d os => cell_regrown (KW.out.cell (i := 1) rfl) d os
                    have hMN : M' N.data.toList = v := by rw [hv'.out, ← HNN.out]; rfl
                    have hlk : ∀ d os, (Instr.lookup 37 (.map (some bw')) (.string N) false).run Tryd.prog (grow (redrawn wk d) os) = .ok (.int .i64 v) (grow (redrawn wk d) os) := fun d os => by
                      have h := (hp13.2.1.below (below_regrown wk d os)).look hs2
                      rw [hMN] at h
                      exact h
                    have cO := fun (d : Nat) (os : Array Obj) => Calls.regrown_of (d := d) (os := os) (w := wk) ((on_any (hp13.1.below (below_regrown wk d os)) N hs2).mono (by rintro e w' ⟨rfl, rfl⟩; exact ⟨rfl, Below.refl _ _⟩))
                    rw [hMN] at cO
                    have HP13 := Lib.hid hp13
                    clear hp13 hMN
                    refine wp_region_quiet_below mixedB (by kernel_rfl) ?_
                    iterate 16 (go_big_quiet_step (fail))
                    go_big_quiet_step (exact cO _ _)
                    repeat (go_big_quiet_step (fail))
                    refine wpQuiet_nil ?_
                    intro _ hw'
                    obtain ⟨⟨dq, osq⟩, hw''⟩ := hw'
                    subst hw''
                    have NB := below_regrown wk dq osq
                    have hbz := Lib.hid (below_step HBX.out NB HBX.out.size)
                    have KZ := KW.out.below NB
                    clear cO hlk kx_0 kx_1 NX x0 x1 hls hv0
                    generalize grow (redrawn wk dq) osq = wz at *
                    have kz_0 := KZ.cell (i := 0) rfl
                    have kz_1 := KZ.cell (i := 1) rfl
                    clear NB KZ
                    go_wp2
                    exact ⟨⟨q + 1, Nat.succ_le_of_lt HQ.out, by go_num, by first | rfl | rw [hsw], by go_num, ⟨_, rfl, by first | exact HST.out | (rw [← HNN.out]; exact HST.out)⟩, fun e => absurd e (Nat.succ_ne_zero _), hbz.out⟩, by first | exact meas_step HQ.out | (rw [hwq]; exact meas_step HQ.out)⟩
                  · obtain rfl : q = nb := by omega
                    have hnl2 : ¬ (q : Int) < (q : Int) := by omega
                    have hp12 := HP11.out.below hbX
                    obtain ⟨D5, hown5, hIs5, hAt5, hHas5⟩ := hp12.2.1
                    have hrs := Rest.start (left := has D5) hHas5 (fun l hq0 => by
                      have e := atKey_of_not_has (D := D5) (k := Lit.string l) (by rw [hHas5]; exact hq0) (.lit (.int .i64 0))
                      rw [hAt5] at e
                      simpa using e) HFU.out
                    have hlen := keysE_len fb q
                    have hes : enS fb q = 0 := hp12.2.2.1.2.2.full HFU.out
                    have hA5 := Lib.hid hAt5
                    have HP12 := Lib.hid hp12
                    obtain ⟨wy, hwy⟩ : ∃ wy, wy = wr := ⟨_, rfl⟩
                    subst hwy
                    have HBY := Lib.hid hbX
                    rw [hes]
                    generalize keysE fb q = S0 at *
                    have HNBq := Lib.hid (And.intro hlen HNB.out)
                    clear hIs5 hAt5 hHas5 hp12 hes hst hst0 hbX hlt hq hlen
                    go_wp2_with (at_range; refine wpList_range_own _ rfl _ 37 rfl 9 2 keyedS Tryd.underlying37 _ bw' cw' D5 rfl hown5 ?_; intro w20 hrg0 hg0 hs0)
                    have hb20 : Below wy.heap.size wy w20 := (Below.refl _ _).grown hg0 (Nat.le_refl _) (fun k hk => by cases hk)
                    have hz20 : wy.heap.size + 1 ≤ w20.heap.size := Nat.le_of_eq hs0.symm
                    clear hg0 hs0 hown5
                    try go_frame
                    go_loopw [15] (fun a X => ∃ (left : Lit → Bool) (cn : Nat) (S : List (List UInt8)), X.ranges Tryd.prog 9 (plainElem Tryd.prog 2) bw' wy.heap.size cw' D5 left cn ∧ a = .int .i64 S.length ∧ Rest M' left S ∧ S.length ≤ 100000 ∧ wy.heap.size + 1 ≤ X.heap.size ∧ Below wy.heap.size wy X) (fun _ X => X.rangeLeft bw' wy.heap.size)
                    case atStart => exact ⟨_, _, S0, hrg0, by rw [HNBq.out.1], hrs, by have := HNBq.out; omega, hz20, hb20⟩
                    case round =>
                      clear hrg0 hrs hz20 hb20
                      obtain ⟨left, cn, S, hrg, rfl, hR, hSl, hwl, hbX⟩ := hrel
                      go_wp2_with (at_next; refine wpList_next_ranges _ rfl _ rfl 9 keyedS (plainElem Tryd.prog 2) (fun l : List UInt8 => Value.string ⟨l.toArray⟩) (Value.int .i64) invStr invInt bw' wy.heap.size cw' D5 left cn rfl hrg ?_ ?_)
                      · intro hc0 hl0
                        obtain rfl : S = [] := hR.done hl0
                        have hp14 := HP12.out.below hbX
                        have cEn := entries_any hp14.1
                        have cOn := on_any hp14.1 ⟨#[110, 111, 98, 111, 100, 121, 32, 104, 101, 114, 101]⟩ (by decide)
                        have hno : M' [110, 111, 98, 111, 100, 121, 32, 104, 101, 114, 101] = 0 := Classical.byContradiction fun e => by
                          have := hp14.2.2.1.2.1 _ e
                          rw [show (⟨[110, 111, 98, 111, 100, 121, 32, 104, 101, 114, 101].toArray⟩ : ByteArray) = ⟨#[110, 111, 98, 111, 100, 121, 32, 104, 101, 114, 101]⟩ from rfl, nobody] at this
                          cases this
                        rw [show M' (⟨#[110, 111, 98, 111, 100, 121, 32, 104, 101, 114, 101]⟩ : ByteArray).data.toList = 0 from hno] at cOn
                        rw [show (([] : List (List UInt8)).length : Int) = 0 from rfl]
                        have HP14 := Lib.hid hp14
                        clear hp14 hno hR hSl hl0 hrg hc0 hwl hbX
                        go_wp2_with (fail)
                        with_reducible refine cEn.mono ?_
                        rintro e w30 ⟨rfl, rfl⟩
                        clear cEn
                        go_wp2_with (fail)
                        with_reducible refine cOn.mono ?_
                        rintro e w30 ⟨rfl, rfl⟩
                        clear cOn
                        go_wp2
                        exact ⟨⟨i + 1, bw', cb', cw', k', M', Q', Nat.succ_le_of_lt HL.out.1, by go_num, rfl, rfl, HP14.out⟩, by first | exact meas_step HL.out.1 | (rw [hwi]; exact meas_step HL.out.1)⟩
                      · intro x cv kl y yp w8 cn' hkx hlx hRy hat hrg1 hlt1 hg1 hs1 hen
                        obtain ⟨x2, hx2, rfl, hxl⟩ := Maps.keyOf_str Tryd.underlying9 hkx
                        have hxx : (⟨x.toArray⟩ : ByteArray) = ⟨x2.toArray⟩ := Value.string.inj hx2
                        have hx3 : x = x2 := by
                          have := congrArg (fun s : ByteArray => s.data.toList) hxx
                          simpa using this
                        subst hx3
                        obtain ⟨cv', e1, e2, _⟩ := plainElem_int_inv Tryd.underlying2 hRy
                        obtain rfl : cv = cv' := by simpa using e1
                        obtain ⟨rfl, _⟩ := Prod.mk.inj e2
                        have hcv : M' x = cv := by
                          have a := hat (.lit (.int .i64 0))
                          rw [hA5.out] at a
                          simpa using a
                        obtain ⟨S', hR', hS0, hS1⟩ := hR.step hlx
                        rw [hcv] at hS0 hS1
                        have hb8 : Below wy.heap.size wy w8 := hbX.grown hg1 hbX.size (fun k hk => by have := Option.some.inj hk; omega)
                        have hms : w8.rangeLeft bw' wy.heap.size < wr.rangeLeft bw' wy.heap.size := by rw [hrg1.left_eq, hrg.left_eq]; exact hlt1
                        have hz8 : wy.heap.size + 1 ≤ w8.heap.size := by have := hg1.size; omega
                        have HALL := Lib.hid (And.intro hrg1 (And.intro hR' (And.intro hz8 (And.intro hb8 hms))))
                        by_cases hc0 : cv = 0
                        · have HS0 := Lib.hid (And.intro (hS0 hc0) hSl)
                          have e1' : (cv != 0) = false := by simp [hc0]
                          clear hrg1 hR' hz8 hb8 hms hS0 hS1 hc0 hR hrg hwl hbX hSl hcv hat hRy e1 e2 hxx hx2 hkx hlx hlt1 hg1 hs1 hxl
                          go_wp2
                          exact ⟨⟨_, cn', S', HALL.out.1, by rw [HS0.out.1], HALL.out.2.1, by have := HS0.out; omega, HALL.out.2.2.1, HALL.out.2.2.2.1⟩, HALL.out.2.2.2.2⟩
                        · have HS0 := Lib.hid (And.intro (hS1 hc0) hSl)
                          have e1' : (cv != 0) = true := by simp [hc0]
                          have hsb : wrap64 ((S.length : Int) - 1) = (S'.length : Int) := by
                            have := HS0.out
                            rw [show (S.length : Int) - 1 = (S'.length : Int) by omega]
                            exact IntWalk.wrap64_in _ (by omega)
                          clear hrg1 hR' hz8 hb8 hms hS0 hS1 hc0 hR hrg hwl hbX hSl hcv hat hRy e1 e2 hxx hx2 hkx hlx hlt1 hg1 hs1 hxl
                          generalize S.length = sl at *
                          go_wp2
                          exact ⟨⟨_, cn', S', HALL.out.1, by first | rfl | rw [hsb], HALL.out.2.1, by have := HS0.out; omega, HALL.out.2.2.1, HALL.out.2.2.2.1⟩, HALL.out.2.2.2.2⟩
        · intro x cv kl y yp w8 cn' hkx hlx hRy hat hrg1 hlt1 hg1 hs1 hen
          obtain ⟨x2, hx2, rfl, hxl⟩ := Maps.keyOf_str Tryd.underlying9 hkx
          have hxx : (⟨x.toArray⟩ : ByteArray) = ⟨x2.toArray⟩ := Value.string.inj hx2
          have hx3 : x = x2 := by
            have := congrArg (fun s : ByteArray => s.data.toList) hxx
            simpa using this
          subst hx3
          obtain ⟨cv', e1, e2, _⟩ := plainElem_int_inv Tryd.underlying2 hRy
          obtain rfl : cv = cv' := by simpa using e1
          obtain ⟨rfl, _⟩ := Prod.mk.inj e2
          have hcv : M x = cv := by
            have a := hat (.lit (.int .i64 0))
            rw [HD.out.2.1] at a
            simpa using a
          have hqx : Q x = true := by rw [← HD.out.2.2]; exact has_true_of_atKey hat
          have hM2 : MapA w8 bn c2 (cpM M left) (fun l => Q l && !left (.string l)) := hMp.of_block (hg1.block bn hMp.lt (fun e => by have := Option.some.inj e; have := HS6.out; omega))
          have hav := amtB_yes (HP6.out.2.2.1.1 x)
          rw [hcv] at hav
          have hcw : c2 < 1000000 := by have := HP6.out.2.2.2.2.1.2.1; have := HL.out; omega
          obtain ⟨W9, hrun, hM9, hg9⟩ := hM2.put hcw (s := ⟨x.toArray⟩) (y := cv) (by simpa [ByteArray.size] using hxl) (by omega)
          simp only [List.toList_toArray] at hM9
          have hM9' : MapA W9 bn (c2 + 1) (cpM M fun z => left z && !z.sameKey (.string x)) (fun l => Q l && !(left (.string l) && !(Lit.string l).sameKey (.string x))) := hM9.congr (by rw [← hcv]; exact cpM_step) (funext fun z => by
            by_cases hz : z = x
            · subst hz
              have e : (Lit.string z).sameKey (.string z) = true := WideAt.sameKey_self (by trivial)
              simp [e, hqx]
            · have e : (Lit.string z).sameKey (.string x) = false := sameKey_ne (by simpa using hz)
              simp [hz, e])
          have hR9 := hrg1.kept hg9 (fun e => HBN.out.1 (Option.some.inj e).symm) (fun e => by have := Option.some.inj e; have := HS6.out; omega)
          have hS9 : ∀ r, r < w6.heap.size → r ≠ bn → W9.heap[r]? = w6.heap[r]? := fun r hr hrn => (hg9.block r (by have := hg1.size; omega) (fun e => hrn (Option.some.inj e))).trans ((hg1.block r (by omega) (fun e => by have := Option.some.inj e; omega)).trans (hsm r hr hrn))
          have hZ9 : w6.heap.size + 1 ≤ W9.heap.size := by have := hg1.size; have := hg9.size; omega
          have hcc9 : c2 + 1 + cn' ≤ cw := by omega
          have hms : W9.rangeLeft bw w6.heap.size < wr.rangeLeft bw w6.heap.size := by rw [hR9.left_eq, hrg.left_eq]; exact hlt1
          have HALL := Lib.hid (And.intro hR9 (And.intro hM9' (And.intro hcc9 (And.intro hZ9 (And.intro ((hcm.grown hg1).grown hg9) hS9)))))
          have HMS := Lib.hid hms
          clear hR9 hM9' hcc9 hZ9 hS9 hms hM9 hg9 hM2 hcw hav hqx hcv hat hRy e1 e2 hxx hx2 hkx hlx hrg1 hlt1 hg1 hs1 hrg hMp hcc hwl hcm hsm hxl
          go_wp2
          exact ⟨⟨_, cn', c2 + 1, HALL.out⟩, HMS.out⟩
    · obtain rfl : i = n := by omega
      have hnl : ¬ (i : Int) < (i : Int) := by omega
      have HB := Lib.hid (below_step HB1.out hP.2.2.2.2.2 HB1.out.size)
      clear hP hlt hi
      go_wp2
      go_ret
      exact ⟨rfl, HB.out⟩
end Go.Proofs.YtgadlfdioakodabDoor
