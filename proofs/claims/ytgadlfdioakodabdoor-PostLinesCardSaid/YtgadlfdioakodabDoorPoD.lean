/- What post.Post answers of any entries. -/
import Derived.Test.YtgadlfdioakodabDoorPoC
import Derived.Maps.Range
import Derived.Maps.RangeWalk
import Derived.StringKeys
import Derived.Sort.EncStr
import Derived.Sort.KeysCollected
namespace Go.Proofs.YtgadlfdioakodabDoor
open Go.RowKit Go.Sort Go.Maps
set_option linter.unusedVariables false
set_option linter.unusedSimpArgs false

/-- nothing but memory has changed -/
def Calm (W X : World) : Prop := X.os = W.os ∧ X.tape = W.tape ∧ X.output = W.output
theorem Calm.grown {W X Y : World} {k : Option Nat} (h : Calm W X) (hg : X.grownBy Y k) : Calm W Y := ⟨hg.os.trans h.1, hg.tape.trans h.2.1, hg.output.trans h.2.2⟩
theorem Calm.below {W X Y : World} {B : Nat} (h : Calm W X) (hb : Below B X Y) : Calm W Y := ⟨hb.os.trans h.1, hb.tape.trans h.2.1, hb.output.trans h.2.2⟩
theorem Calm.of {W X : World} {B : Nat} (hb : Below B W X) : Calm W X := ⟨hb.os, hb.tape, hb.output⟩
/-- what has changed is new -/
theorem Calm.new {w W W' : World} {p b : Nat} (h : Below w.heap.size w W) (hc : Calm W W') (hs : W.heap.size ≤ W'.heap.size) (hr : ∀ r, r < W.heap.size → r ≠ p → r ≠ b → W'.heap[r]? = W.heap[r]?) (hp : w.heap.size ≤ p) (hb : w.heap.size ≤ b) : Below w.heap.size w W' :=
  ⟨hc.1.trans h.os, hc.2.1.trans h.tape, hc.2.2.trans h.output, Nat.le_trans h.size hs, fun k hk => (hr k (Nat.lt_of_lt_of_le hk h.size) (by omega) (by omega)).trans (h.block k hk)⟩
/-- a grown map leaves all other blocks -/
theorem below_grown {w W W' : World} {b : Nat} (h : Below w.heap.size w W) (hg : W.grownBy W' (some b)) (hb : w.heap.size ≤ b) : Below w.heap.size w W' := h.grown hg h.size (fun k hk => by cases hk; exact hb)
/-- what stands on an account where the names that are still to come aren't booked yet -/
def lfM (M : List UInt8 → Int) (f : Nat → En) (n : Nat) (left : Lit → Bool) (l : List UInt8) : Int := if (inB f n l && !left (.string l)) = true then tot M f n l else M l
theorem lfM_done {M : List UInt8 → Int} {f : Nat → En} {n : Nat} {left : Lit → Bool} (h : ∀ kl, left kl = false) : lfM M f n left = tot M f n := by
  funext l
  unfold lfM
  rw [h]
  cases hi : inB f n l
  · rw [if_neg (by decide)]; exact (tot_out hi).symm
  · rw [if_pos (by decide)]
theorem lfM_start {M : List UInt8 → Int} {f : Nat → En} {n : Nat} {left : Lit → Bool} (h : ∀ l, left (.string l) = inB f n l) : lfM M f n left = M := by
  funext l
  unfold lfM
  rw [h]
  cases inB f n l
  · rw [if_neg (by decide)]
  · rw [if_neg (by decide)]
theorem lfM_step {M : List UInt8 → Int} {f : Nat → En} {n : Nat} {left : Lit → Bool} {s : List UInt8} (hi : inB f n s = true) : (fun z => if z = s then tot M f n s else lfM M f n left z) = lfM M f n (fun kl => left kl && !kl.sameKey (.string s)) := by
  funext z
  by_cases hz : z = s
  · subst hz
    have e : (Lit.string z).sameKey (.string z) = true := WideAt.sameKey_self (by trivial)
    simp [lfM, hi, e]
  · have e : (Lit.string z).sameKey (.string s) = false := sameKey_ne (by simpa using hz)
    simp [lfM, hz, e]
theorem MapA.of_del {W : World} {b c : Nat} {M : List UInt8 → Int} {P : List UInt8 → Bool} {D : DataW Unit} {s : List UInt8} (hI : IsMap D) (hA : ∀ l, D.atKey (.string l) (.lit (.int .i64 0)) = .lit (.int .i64 (M l))) (hH : ∀ l, has D (.string l) = P l) (how : W.ownsMap Tryd.prog 9 (plainElem Tryd.prog 2) b c (D.del (.string s))) : MapA W b c (fun z => if z = s then 0 else M z) (fun z => !decide (z = s) && P z) := by
  refine ⟨_, how, hI.del _, fun z => ?_, fun z => ?_⟩
  · dsimp only
    by_cases hz : z = s
    · subst hz
      rw [if_pos rfl]
      exact atKey_del_same _
    · rw [if_neg hz, atKey_del_other (by simpa using hz)]
      exact hA z
  · dsimp only
    by_cases hz : z = s
    · subst hz
      rw [decide_eq_true rfl, Bool.not_true, Bool.false_and]
      exact has_del_same
    · rw [decide_eq_false hz, Bool.not_false, Bool.true_and, has_del_other (by simpa using hz)]
      exact hH z
theorem lfP_put {L L' : List UInt8 → Int} {s : List UInt8} {v : Int} (h : (fun z => if z = s then v else L z) = L') (hv : v ≠ 0) : (fun z => decide (z = s) || L z != 0) = fun z => L' z != 0 := by
  funext z
  have e := congrFun h z
  rw [← e]
  by_cases hz : z = s
  · simp [hz, hv]
  · simp [hz]
theorem lfP_del {L L' : List UInt8 → Int} {s : List UInt8} (h : (fun z => if z = s then 0 else L z) = L') : (fun z => !decide (z = s) && L z != 0) = fun z => L' z != 0 := by
  funext z
  have e := congrFun h z
  rw [← e]
  by_cases hz : z = s
  · simp [hz]
  · simp [hz]
theorem invStr : ∀ key kl, keyOf Tryd.prog 9 key = some kl → ∃ x : List UInt8, key = Value.string ⟨x.toArray⟩ := fun key kl hk => by
  obtain ⟨x, hx, _⟩ := Maps.keyOf_str Tryd.underlying9 hk
  exact ⟨x, hx⟩
theorem invInt : ∀ v y, plainElem (H := Unit) Tryd.prog 2 v = some y → ∃ c : Int, v = Value.int .i64 c := fun v y hv => by
  obtain ⟨c, rfl, _⟩ := plainElem_int_inv Tryd.underlying2 hv
  exact ⟨c, rfl⟩
theorem inB_len {f : Nat → En} {N : Nat} : ∀ {n : Nat} {l : List UInt8}, (∀ i, i < n → (f i).1.size ≤ N) → inB f n l = true → l.length ≤ N
  | 0, _, _, h => by cases h
  | n + 1, l, hs, h => by
    have h2 : l = acc f n ∨ inB f n l = true := by
      have : (decide (l = acc f n) || inB f n l) = true := h
      simpa only [Bool.or_eq_true, decide_eq_true_eq] using this
    rcases h2 with e | e
    · subst e
      have := hs n (Nat.lt_succ_self _)
      unfold acc
      simpa using this
    · exact inB_len (fun i hi => hs i (by omega)) e
theorem ranges_keep {w w' : World} {b r n cnt : Nat} {D : DataW Unit} {left : Lit → Bool} (h : w.ranges Tryd.prog 9 (plainElem Tryd.prog 2) b r n D left cnt) (hb : w'.heap[b]? = w.heap[b]?) (hr : w'.heap[r]? = w.heap[r]?) : w'.ranges Tryd.prog 9 (plainElem Tryd.prog 2) b r n D left cnt := by
  obtain ⟨es, clock, since, seen, c0, h1, F, hs, hD, h2, rest⟩ := h
  exact ⟨es, clock, since, seen, c0, hb.trans h1, F, hs, hD, hr.trans h2, rest⟩
theorem MapA.mono {W : World} {b c c' : Nat} {M : List UInt8 → Int} {P : List UInt8 → Bool} (h : MapA W b c M P) (hc : c ≤ c') : MapA W b c' M P := by
  obtain ⟨D, h1, h2⟩ := h
  exact ⟨D, h1.mono hc, h2⟩
theorem MapA.congr {W : World} {b c : Nat} {M M' : List UInt8 → Int} {P P' : List UInt8 → Bool} (h : MapA W b c M P) (e : M = M') (e' : P = P') : MapA W b c M' P' := by subst e e'; exact h
set_option maxRecDepth 100000 in
set_option maxHeartbeats 8000000 in
theorem ppost_any {W : World} {p b c : Nat} {k : Int} {M : List UInt8 → Int} {P : List UInt8 → Bool} (h : BkA W p b c k M P) (A : Option Addr) (n q : Nat) (f : Nat → En) (hE : EnM W A n f) (hn : n ≤ 1000) (hsz : ∀ i, i < n → (f i).1.size ≤ 281474976710656) (hM : ∀ l, amtB (M l) = true) (hP : ∀ l, P l = (M l != 0)) (hc : c ≤ 100000) (hk : 0 ≤ k ∧ k ≤ 1000000) :
    Calls Tryd.prog 13 #[.pointer (some ⟨p, 0, none⟩), .slice A n q] W fun e w' =>
      (chkP f n ≠ 0 → e = .returned (.int .i64 (chkP f n)) ∧ Below W.heap.size W w') ∧ (chkP f n = 0 → firstE (poE M f) n ≠ 0 → e = .returned (.int .i64 (firstE (poE M f) n)) ∧ Below W.heap.size W w') ∧
      (chkP f n = 0 → firstE (poE M f) n = 0 → e = .returned (.int .i64 0) ∧ BkA w' p b (c + n) (k + n) (tot M f n) (fun l => tot M f n l != 0) ∧ W.heap.size ≤ w'.heap.size ∧ Calm W w' ∧ ∀ r, r < W.heap.size → r ≠ p → r ≠ b → w'.heap[r]? = W.heap[r]?) := by
  have hmm := @run_makeMap Tryd.prog
  have cC := pcheck_any A n q f W hE (by omega)
  have HN := Lib.hid hn
  have HZ := Lib.hid hsz
  have HMM := Lib.hid (And.intro hM (And.intro hP (And.intro hc hk)))
  clear hn hsz hM hP hc hk
  go_enter Tryd.func13, Tryd.ntmps13
  go_wp2_with (fail)
  with_reducible refine cC.mono ?_
  rintro e w1 ⟨rfl, hb⟩
  replace h := h.below hb
  replace hE := hE.below hb
  by_cases hc : chkP f n = 0
  rotate_left
  · have e0 : (chkP f n != 0) = true := by simp [hc]
    have HC := Lib.hid hc
    clear hc
    generalize hEE : chkP f n = E at *
    have HEE := Lib.hid hEE
    clear hEE
    go_wp2
    go_ret
    exact ⟨fun _ => ⟨ret_i HEE.out.symm, hb⟩, fun e => absurd (HEE.out.symm.trans e) HC.out, fun e => absurd (HEE.out.symm.trans e) HC.out⟩
  have m0 := mapA_new w1
  rw [show (fun _ : List UInt8 => (0 : Int)) = bhM M f 0 from funext fun l => by simp [bhM, inB], show (fun _ : List UInt8 => false) = inB f 0 from funext fun l => rfl] at m0
  have NM : Below w1.heap.size w1 (w1.alloc (.map #[] 0)) := (Below.refl _ _).alloc (Nat.le_refl _) _
  have HBk := Lib.hid h
  have HE := Lib.hid hE
  have HB0 := Lib.hid hb
  rw [hc]
  have HC := Lib.hid hc
  clear cC hc h hE hb
  go_wp2
  go_loopw [23] (fun j X => ∃ i cnt : Nat, i ≤ n ∧ cnt ≤ i ∧ j = .int .i64 i ∧ MapA X w1.heap.size cnt (bhM M f i) (inB f i) ∧ firstE (poE M f) i = 0 ∧ Below w1.heap.size w1 X) (fun j _ => n - (intOf j).toNat)
  case atStart => exact ⟨0, 0, Nat.zero_le _, Nat.le_refl _, rfl, m0, rfl, NM⟩
  case round =>
    clear m0 NM
    obtain ⟨i, cnt, hi, hcn, rfl, hMap, h0, hbX⟩ := hrel
    by_cases hlt : i < n
    · have hil : (i : Int) < (n : Int) := by omega
      have hwi : wrap64 ((i : Int) + 1) = (i : Int) + 1 := IntWalk.wrap64_in _ (by have := HN.out; omega)
      obtain ⟨bb, o, rfl, hc⟩ := HE.out (by omega)
      obtain ⟨x0, x1⟩ := hc i hlt
      replace x0 := cell_later hbX x0
      replace x1 := cell_later hbX x1
      have X0 := Lib.hid x0
      have X1 := Lib.hid x1
      have HL := Lib.hid hlt
      have HCN : Hid (cnt + 1 ≤ i + 1 ∧ cnt < 1000000) := Lib.hid (by have := HN.out; omega)
      have hs := HZ.out i hlt
      have hs2 : (f i).1.size ≤ maxLen := Nat.le_trans hs (by decide)
      have KX := bx_new wr [.string (f i).1, .int .i64 (f i).2] 26
      have NX := below_new wr (.cells #[.string (f i).1, .int .i64 (f i).2] 26)
      have hM1 := hMap.below NX
      have hlk := hM1.look_ok hs2
      have hbX1 := below_step hbX NX hbX.size
      have hB1 := HBk.out.below hbX1
      have cO := on_any hB1 (f i).1 hs2
      have cA := fun w => add_any (tot M f i (acc f i)) (f i).2 w
      rw [show (addV (tot M f i (acc f i)) (f i).2).2 = poE M f i from rfl] at cA
      have HMN : Hid (poE M f i = 0 → (fun z => if z = acc f i then (addV (tot M f i (acc f i)) (f i).2).1 else bhM M f i z) = bhM M f (i + 1)) := Lib.hid fun e => bhM_succ e
      have HIN : Hid ((fun z => decide (z = acc f i) || inB f i z) = inB f (i + 1)) := Lib.hid rfl
      have HTM : Hid (poE M f i = 0 → amtB (addV (tot M f i (acc f i)) (f i).2).1 = true) := Lib.hid fun e => by
        have := tot_amt HMM.out.1 (i := i + 1) (first_succ h0 e) (acc f i)
        unfold poE addV at e
        unfold addV
        split
        · rename_i hb
          simp only [Bool.and_eq_true] at hb
          exact hb.2
        · rename_i hb
          rw [if_neg hb] at e
          cases e
      have HST : Hid (poE M f i ≠ 0 → firstE (poE M f) n = poE M f i) := Lib.hid fun e => first_stop hlt h0 e
      have HSU : Hid (poE M f i = 0 → firstE (poE M f) (i + 1) = 0) := Lib.hid fun e => first_succ h0 e
      have hTO : Hid (inB f i (acc f i) = false → M (f i).1.data.toList = tot M f i (acc f i)) := Lib.hid fun e => (tot_out e).symm
      have hbh : bhM M f i (f i).1.data.toList = if inB f i (f i).1.data.toList = true then tot M f i (acc f i) else 0 := rfl
      rw [hbh] at hlk
      have HM1 := Lib.hid hM1
      have HSZ := Lib.hid hs2
      have HPUT : Hid (poE M f i = 0 → ∀ V, Below (wr.alloc (.cells #[.string (f i).1, .int .i64 (f i).2] 26)).heap.size (wr.alloc (.cells #[.string (f i).1, .int .i64 (f i).2] 26)) V → ∃ W', (Instr.mapUpdate 37 (.map (some w1.heap.size)) (.string (f i).1) (.int .i64 (addV (tot M f i (acc f i)) (f i).2).1)).run Tryd.prog V = .ok () W' ∧ MapA W' w1.heap.size (cnt + 1) (bhM M f (i + 1)) (inB f (i + 1)) ∧ V.grownBy W' (some w1.heap.size)) := Lib.hid fun e V hb => by
        have a := amtB_yes (HTM.out e)
        obtain ⟨W', r1, r2, r3⟩ := (HM1.out.below hb).put HCN.out.2 HSZ.out (y := (addV (tot M f i (acc f i)) (f i).2).1) (by omega)
        refine ⟨W', r1, ?_, r3⟩
        rw [← HMN.out e, ← HIN.out]
        exact r2
      have kx_0 := KX.cell (i := 0) rfl
      have kx_1 := KX.cell (i := 1) rfl
      clear hbh hc hi hcn hlt h0 hMap hbX NX hM1 hs hs2 hB1 x0 x1
      have hTO2 : inB f i (f i).1.data.toList = false → M (f i).1.data.toList = tot M f i (acc f i) := hTO.out
      generalize inB f i (f i).1.data.toList = I0 at *
      clear hTO HTM HMN HIN HM1 HSZ
      generalize poE M f i = pE at *
      generalize (addV (tot M f i (acc f i)) (f i).2).1 = sV at *
      generalize tot M f i (acc f i) = tV at *
      generalize (f i).1 = N at *
      generalize (f i).2 = v at *
      have x0 := cell_later (show Below wr.heap.size wr wr from Below.refl _ _) X0.out
      have x1 := cell_later (show Below wr.heap.size wr wr from Below.refl _ _) X1.out
      cases I0
      · rw [hTO2 rfl] at cO
        rw [if_neg (by decide)] at hlk
        clear hTO2
        go_wp2_with (fail)
        with_reducible refine cO.mono ?_
        rintro e w7 ⟨rfl, hw7⟩
        subst hw7
        clear x0 x1
        go_wp2_with (fail)
        with_reducible refine (cA _).mono ?_
        rintro e w9 ⟨rfl, hb9⟩
        have K9 := KX.below hb9
        have hbX9 := below_step hbX1 hb9 hbX1.size
        clear kx_0 kx_1
        have kx_0 := K9.cell (i := 0) rfl
        have kx_1 := K9.cell (i := 1) rfl
        by_cases hpe : pE = 0
        rotate_left
        · have e1 : (pE != 0) = true := by simp [hpe]
          have HPE := Lib.hid hpe
          have BF := Lib.hid (below_step HB0.out hbX9 HB0.out.size)
          clear hpe cA cO hlk KX K9 hbX1 hb9 hbX9
          go_wp2
          go_ret
          exact ⟨fun e => absurd HC.out e, fun _ _ => ⟨ret_i (HST.out HPE.out).symm, BF.out⟩, fun _ e => absurd ((HST.out HPE.out).symm.trans e) HPE.out⟩
        · obtain ⟨W9, hrun, hM9, hg⟩ := HPUT.out hpe w9 hb9
          have HF := Lib.hid (HSU.out hpe)
          have HM9 := Lib.hid hM9
          have HB9 := Lib.hid (below_grown hbX9 hg (Nat.le_refl _))
          rw [hpe] at *
          clear hM9 hg hbX9 hbX1 hb9 K9 KX cA cO hlk HST HSU HPUT
          go_wp2
          exact ⟨⟨i + 1, cnt + 1, Nat.succ_le_of_lt HL.out, HCN.out.1, by go_num, HM9.out, HF.out, HB9.out⟩, by first | exact meas_step HL.out | (rw [hwi]; exact meas_step HL.out)⟩
      · rw [if_pos rfl] at hlk
        clear hTO2
        go_wp2_with (fail)
        with_reducible refine (cA _).mono ?_
        rintro e w9 ⟨rfl, hb9⟩
        have K9 := KX.below hb9
        have hbX9 := below_step hbX1 hb9 hbX1.size
        clear kx_0 kx_1
        have kx_0 := K9.cell (i := 0) rfl
        have kx_1 := K9.cell (i := 1) rfl
        by_cases hpe : pE = 0
        rotate_left
        · have e1 : (pE != 0) = true := by simp [hpe]
          have HPE := Lib.hid hpe
          have BF := Lib.hid (below_step HB0.out hbX9 HB0.out.size)
          clear hpe cA cO hlk KX K9 hbX1 hb9 hbX9
          go_wp2
          go_ret
          exact ⟨fun e => absurd HC.out e, fun _ _ => ⟨ret_i (HST.out HPE.out).symm, BF.out⟩, fun _ e => absurd ((HST.out HPE.out).symm.trans e) HPE.out⟩
        · obtain ⟨W9, hrun, hM9, hg⟩ := HPUT.out hpe w9 hb9
          have HF := Lib.hid (HSU.out hpe)
          have HM9 := Lib.hid hM9
          have HB9 := Lib.hid (below_grown hbX9 hg (Nat.le_refl _))
          rw [hpe] at *
          clear hM9 hg hbX9 hbX1 hb9 K9 KX cA cO hlk HST HSU HPUT
          go_wp2
          exact ⟨⟨i + 1, cnt + 1, Nat.succ_le_of_lt HL.out, HCN.out.1, by go_num, HM9.out, HF.out, HB9.out⟩, by first | exact meas_step HL.out | (rw [hwi]; exact meas_step HL.out)⟩
    · obtain rfl : i = n := by omega
      have hnl : ¬ (i : Int) < (i : Int) := by omega
      obtain ⟨D, hown, hIs, hAt, hHas⟩ := hMap
      have hBk := HBk.out.below hbX
      have hBX := below_step HB0.out hbX HB0.out.size
      have HF0 := Lib.hid h0
      have HCN := Lib.hid (And.intro hcn hown.size_le)
      obtain ⟨wy, hwy⟩ : ∃ wy, wy = wr := ⟨_, rfl⟩
      subst hwy
      have HAT := Lib.hid (And.intro hIs (And.intro hAt hHas))
      have hpw : p < w1.heap.size := HBk.out.1.lt
      have hbw : b < w1.heap.size := HBk.out.2.lt
      have hwy1 : w1.heap.size ≤ wy.heap.size := hbX.size
      have HPB := Lib.hid (And.intro hpw (And.intro hbw hwy1))
      have HBX := Lib.hid hBX
      have HBk2 := Lib.hid hBk
      clear hIs hAt hHas h0 hcn hi hlt hbX hBX hBk hpw hbw hwy1
      go_wp2_with (at_range; refine wpList_range_own _ rfl _ 37 rfl 9 2 keyedS Tryd.underlying37 _ w1.heap.size cnt D rfl hown ?_; intro w0 hrg0 hg0 hs0)
      have hsub : ∀ X, wy.grownBy X none → BkA X p b c k M P := fun X hg => ⟨HBk2.out.1.of_block (hg.block p HBk2.out.1.lt (by simp)), HBk2.out.2.of_block (hg.block b HBk2.out.2.lt (by simp))⟩
      have hst : BkA w0 p b c k (lfM M f i (has D)) (fun l => lfM M f i (has D) l != 0) := by
        have e := lfM_start (M := M) (f := f) (n := i) (left := has D) HAT.out.2.2
        have h1 := hsub w0 hg0
        refine ⟨h1.1, h1.2.congr e.symm ?_⟩
        rw [e]
        exact funext HMM.out.2.1
      have hhp : ∀ r, r < W.heap.size → r ≠ b → w0.heap[r]? = W.heap[r]? := fun r hr _ => (hg0.block r (Nat.lt_of_lt_of_le hr HBX.out.size) (by simp)).trans (HBX.out.block r hr)
      have hcs : c + size D ≤ c + i := Nat.add_le_add_left (Nat.le_trans HCN.out.2 HCN.out.1) c
      have hwl : wy.heap.size + 1 ≤ w0.heap.size := Nat.le_of_eq hs0.symm
      go_loopw [13] (fun _ X => ∃ (left : Lit → Bool) (cn c2 : Nat), X.ranges Tryd.prog 9 (plainElem Tryd.prog 2) w1.heap.size wy.heap.size cnt D left cn ∧ BkA X p b c2 k (lfM M f i left) (fun l => lfM M f i left l != 0) ∧ c2 + cn ≤ c + i ∧ wy.heap.size + 1 ≤ X.heap.size ∧ Calm W X ∧ ∀ r, r < W.heap.size → r ≠ b → X.heap[r]? = W.heap[r]?) (fun _ X => X.rangeLeft w1.heap.size wy.heap.size)
      case atStart => exact ⟨_, _, c, hrg0, hst, hcs, hwl, (Calm.of HBX.out).grown hg0, hhp⟩
      case round =>
        clear hrg0 hg0 hs0 hst hhp hcs hwl hsub hown
        obtain ⟨left, cn, c2, hrg, hBk, hcc, hwl, hcm, hhp⟩ := hrel
        have HCM := Lib.hid hcm
        clear hcm
        have HCC := Lib.hid hcc
        have HWL := Lib.hid hwl
        have HHP := Lib.hid hhp
        clear hcc hwl hhp
        go_wp2_with (at_next; refine wpList_next_ranges _ rfl _ rfl 9 keyedS (plainElem Tryd.prog 2) (fun l : List UInt8 => Value.string ⟨l.toArray⟩) (Value.int .i64) invStr invInt w1.heap.size wy.heap.size cnt D left cn rfl hrg ?_ ?_)
        · intro hc0 hl0
          have e : lfM M f i left = tot M f i := lfM_done hl0
          rw [e] at hBk
          have HBK := Lib.hid hBk
          have c0 := hBk.1.cell (i := 0) rfl
          have c1 := hBk.1.cell (i := 1) rfl
          have f1 := hBk.1.fr 1
          have hkn : wrap64 (k + (i : Int)) = k + (i : Int) := IntWalk.wrap64_in _ (by have := HMM.out.2.2.2; have := HN.out; omega)
          have hpb : b ≠ p := fun e => by
            subst e
            exact hBk.2.far c0 rfl
          have HPBN := Lib.hid hpb
          clear hBk e hrg hl0 hpb
          go_wp2
          go_ret
          refine ⟨fun e => absurd HC.out e, fun _ e => absurd HF0.out e, fun _ _ => ⟨rfl, ⟨HBK.out.1.set 1 _, ?_⟩, ?_, HCM.out, ?_⟩⟩
          · exact (HBK.out.2.mono (by have := HCC.out; omega)).of_block (Go.Deep.blk_setCell_other _ _ _ _ (by exact HPBN.out))
          · have := HWL.out; have := HBX.out.size; simp; omega
          · intro r hr hrp hrb
            exact (Go.Deep.blk_setCell_other _ _ _ _ (by exact hrp)).trans (HHP.out r hr hrb)
        · intro x cv kl y yp w2 cn' hkx hlx hRy hat hrg1 hlt1 hg1 hs1 hen
          obtain ⟨x2, hx2, rfl, hxl⟩ := Maps.keyOf_str Tryd.underlying9 hkx
          have hxx : (⟨x.toArray⟩ : ByteArray) = ⟨x2.toArray⟩ := Value.string.inj hx2
          have hx3 : x = x2 := by
            have := congrArg (fun s : ByteArray => s.data.toList) hxx
            simpa using this
          subst hx3
          obtain ⟨cv', e1, e2, _⟩ := plainElem_int_inv Tryd.underlying2 hRy
          obtain rfl : cv = cv' := by simpa using e1
          obtain ⟨rfl, _⟩ := Prod.mk.inj e2
          have hin : inB f i x = true := by rw [← HAT.out.2.2]; exact has_true_of_atKey hat
          have hcv : tot M f i x = cv := by
            have a := hat (.lit (.int .i64 0))
            rw [HAT.out.2.1] at a
            have b2 : bhM M f i x = cv := by simpa using a
            rw [← b2]
            unfold bhM
            rw [if_pos hin]
          have hstep := lfM_step (M := M) (f := f) (n := i) (left := left) hin
          rw [hcv] at hstep
          have hpl : p < wy.heap.size := Nat.lt_of_lt_of_le HPB.out.1 HPB.out.2.2
          have hbl : b < wy.heap.size := Nat.lt_of_lt_of_le HPB.out.2.1 HPB.out.2.2
          have hwr := HWL.out
          have hB2 : BkA w2 p b c2 k (lfM M f i left) (fun l => lfM M f i left l != 0) := ⟨hBk.1.of_block (hg1.block p (by omega) (fun e => by have := Option.some.inj e; omega)), hBk.2.of_block (hg1.block b (by omega) (fun e => by have := Option.some.inj e; omega))⟩
          have hH2 : ∀ r, r < W.heap.size → r ≠ b → w2.heap[r]? = W.heap[r]? := fun r hr hrb => by
            have h1 := HBX.out.size
            exact (hg1.block r (by omega) (fun e => by have := Option.some.inj e; omega)).trans (HHP.out r hr hrb)
          have HH2 := Lib.hid hH2
          have HCM2 := Lib.hid (HCM.out.grown hg1)
          have HXS : Hid (x.length ≤ 281474976710656) := Lib.hid (inB_len HZ.out hin)
          have HCV : Hid (amtB cv = true) := Lib.hid (by rw [← hcv]; exact tot_amt HMM.out.1 HF0.out x)
          have HST := Lib.hid hstep
          have HLT := Lib.hid hlt1
          have HRL := Lib.hid hrg.left_eq
          have HS2 : Hid (wy.heap.size + 1 ≤ w2.heap.size) := Lib.hid (by omega)
          have HPL := Lib.hid (And.intro hpl hbl)
          have hnb1 : some w1.heap.size ≠ some b := fun e => by have := Option.some.inj e; have := HPB.out.2.1; omega
          have hnb2 : some wy.heap.size ≠ some b := fun e => by have := Option.some.inj e; omega
          have HNB := Lib.hid (And.intro hnb1 hnb2)
          have k0 := hB2.1.cell (i := 0) rfl
          have HK2 := Lib.hid hB2.1
          have hx64 : x.length ≤ maxLen := hxl
          have HXL := Lib.hid hxl
          clear hin hcv hstep hpl hbl hwr hH2 hnb1 hnb2 hRy hat e1 e2 hlx hlt1 hs1 hg1 hx2 hxx hxl hx64 hrg hBk
          have HB2 := Lib.hid hB2.2
          have HRG := Lib.hid hrg1
          have HKX := Lib.hid hkx
          clear hB2 hrg1 hkx
          by_cases hz : cv = 0
          · have z1 : (cv == 0) = true := by rw [hz]; rfl
            subst hz
            obtain ⟨D2, how2, hI2, hA2, hP2⟩ := HB2.out
            go_wp2_with (at_delete; refine wpList_delete_own _ rfl _ _ 37 9 rfl 2 keyedS Tryd.underlying37 _ b c2 D2 rfl how2 _ _ rfl HKX.out ?_; intro w3 how3 hturn; go_frame)
            have hpb := HB2.out.far k0
            have hg := hturn.grown
            have hs2 := HS2.out
            have hwz := HBX.out.size
            have hpl := HPL.out
            have HR3 := HRG.out.kept hg HNB.out.1 HNB.out.2
            refine ⟨⟨_, cn', c2, HR3, ⟨HK2.out.of_block (hg.block p (by omega) (fun e => hpb (Option.some.inj e))), (MapA.of_del hI2 hA2 hP2 how3).congr HST.out (lfP_del HST.out)⟩, ?_, ?_, HCM2.out.grown hg, ?_⟩, ?_⟩
            · have := HCC.out; have := HLT.out; omega
            · have := hg.size; omega
            · intro r hr hrb
              exact (hg.block r (by omega) (fun e => hrb (Option.some.inj e))).trans (HH2.out r hr hrb)
            · rw [HR3.left_eq, HRL.out]; exact HLT.out
          · have z1 : (cv == 0) = false := by rw [beq_eq_false_iff_ne]; exact hz
            have cl := fun w => strclone_any ⟨x.toArray⟩ w (by simpa [ByteArray.size] using HXS.out)
            have hw : Below w2.heap.size w2 w2.drew := (Below.refl _ _).drew
            have HPUT : ∀ V, Below w2.heap.size w2 V → ∃ W', (Instr.mapUpdate 37 (.map (some b)) (.string ⟨x.toArray⟩) (.int .i64 cv)).run Tryd.prog V = .ok () W' ∧ MapA W' b (c2 + 1) (lfM M f i (fun z => left z && !z.sameKey (.string x))) (fun l => lfM M f i (fun z => left z && !z.sameKey (.string x)) l != 0) ∧ V.grownBy W' (some b) := fun V hb => by
              have a := amtB_yes HCV.out
              obtain ⟨W', r1, r2, r3⟩ := (HB2.out.below hb).put (by have := HCC.out; have := HMM.out.2.2.1; have := HN.out; omega) (s := ⟨x.toArray⟩) (y := cv) (by simpa [ByteArray.size] using HXL.out) (by omega)
              refine ⟨W', r1, ?_, r3⟩
              simp only [List.toList_toArray] at r2
              exact r2.congr HST.out (lfP_put HST.out hz)
            have HPB2 := Lib.hid (HB2.out.far k0)
            clear hz
            go_wp2
            go_region_law
              (first
                | (go_simp; go_at_call 36; (with_reducible refine (cl _).mono ?_); rintro e w6 ⟨rfl, hb6⟩; have hw6 := below_step hw hb6 hw.size; have k6 := cell_later hw6 k0; obtain ⟨W9, hrun, hM9, hg9⟩ := HPUT w6 hw6))
            all_goals
              have hs6 := hw6.size
              have hs2 := HS2.out
              have hwz := HBX.out.size
              have hpl := HPL.out
              have hR6 := ranges_keep HRG.out (hw6.block _ HRG.out.owns.lt) (hw6.block _ HRG.out.lt)
              have hR9 := hR6.kept hg9 HNB.out.1 HNB.out.2
              have hK9 : Bx W9 p 62 [.map (some b), .int .i64 k] := (HK2.out.below hw6).of_block (hg9.block p (by omega) (fun e => HPB2.out (Option.some.inj e)))
              have hH9 : ∀ r, r < W.heap.size → r ≠ b → W9.heap[r]? = W.heap[r]? := fun r hr hrb => (hg9.block r (by omega) (fun e => hrb (Option.some.inj e))).trans ((hw6.block r (by omega)).trans (HH2.out r hr hrb))
              have hC9 := (HCM2.out.below hw6).grown hg9
              have hS9 : wy.heap.size + 1 ≤ W9.heap.size := by have := hg9.size; omega
              have hcc : c2 + 1 + cn' ≤ c + i := by have := HCC.out; have := HLT.out; omega
              have hms : W9.rangeLeft w1.heap.size wy.heap.size < wr.rangeLeft w1.heap.size wy.heap.size := by rw [hR9.left_eq, HRL.out]; exact HLT.out
              have HALL := Lib.hid (And.intro hR9 (And.intro (show BkA W9 p b (c2 + 1) k _ _ from ⟨hK9, hM9⟩) (And.intro hcc (And.intro hS9 (And.intro hC9 hH9)))))
              have HMS := Lib.hid hms
              clear hs6 hs2 hwz hpl hR6 hR9 hK9 hH9 hC9 hS9 hcc hms hM9 hg9 hrun k6 hw6 hb6 HPUT hw cl k0 z1
              go_wp2
              exact ⟨⟨_, cn', c2 + 1, HALL.out.1, HALL.out.2.1, HALL.out.2.2.1, HALL.out.2.2.2.1, HALL.out.2.2.2.2.1, HALL.out.2.2.2.2.2⟩, HMS.out⟩
end Go.Proofs.YtgadlfdioakodabDoor
