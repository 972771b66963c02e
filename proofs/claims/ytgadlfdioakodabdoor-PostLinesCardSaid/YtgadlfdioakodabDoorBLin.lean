/- What post.Lines answers of any book. -/
import Derived.Test.YtgadlfdioakodabDoorBal
import Derived.Test.YtgadlfdioakodabDoorText
import Derived.Deep.RegionHeld3
namespace Go.Proofs.YtgadlfdioakodabDoor
open Go.RowKit Go.Sort
set_option linter.unusedVariables false
set_option linter.unusedSimpArgs false

theorem infoStr : (Tryd.prog.info? 9).map (fun i => (i.zero, i.size, i.bytes)) = some (some (.string ⟨#[]⟩), 1, 16) := by kernel_rfl
theorem one_str (x : ByteArray) : ∀ u ∈ [Value.string x], u.oneCell' = true := by intro u hu; simp only [List.mem_singleton] at hu; subst hu; rfl
theorem txt_len (x : Int) (h : -9223372036854775808 ≤ x) (h' : x ≤ 9223372036854775807) : (txt x).length ≤ 24 := by
  unfold txt tailB
  have hlen := Lib.decDigits_length (x.natAbs / 100)
  have hnd : Lib.nDigits (x.natAbs / 100) ≤ 20 := by
    rcases Nat.eq_zero_or_pos (x.natAbs / 100) with h0 | h0
    · rw [h0, Lib.nDigits_small (by omega)]; omega
    · have := Lib.numDigits_eq (x.natAbs / 100) h0 (by omega); split at this <;> omega
  simp only [List.length_append, List.length_cons, List.length_nil]
  split <;> simp <;> omega
/-- an entry's line -/
def lineE (x : En) : ByteArray := x.1 ++ ⟨#[32]⟩ ++ ⟨(txt x.2).toArray⟩
def linE (f : Nat → En) (n : Nat) : List Value := (List.range n).map fun i => .string (lineE (f i))
theorem linE_succ (f : Nat → En) (n : Nat) : linE f (n + 1) = linE f n ++ [.string (lineE (f n))] := by
  unfold linE
  rw [List.range_succ, List.map_append]; rfl
theorem en_own1 {w : World} {B n : Nat} {e : TypeId} {v : Value} {f : Nat → En} (h : w.ownsRow B e 2 v n (enL f n)) : ∃ A c, v = .slice A n c ∧ EnM w A n f := by
  obtain ⟨A, c, rfl, _, _⟩ := own_len h
  exact ⟨A, c, rfl, en_own h⟩
set_option maxRecDepth 100000 in
set_option maxHeartbeats 8000000 in
theorem blines_any {W : World} {p b c : Nat} {k : Int} {M : List UInt8 → Int} {P : List UInt8 → Bool} (h : BkA W p b c k M P) (hT : Tab W) (hc : c ≤ 100000) (hsz : ∀ l, P l = true → l.length ≤ 281474976710656) (hM : ∀ l, amtB (M l) = true) :
    Calls Tryd.prog 17 #[.pointer (some ⟨p, 0, none⟩)] W fun e w' => ∃ v n f, e = .returned v ∧ w'.ownsRow W.heap.size 9 1 v n (linE f n) ∧ Below W.heap.size W w' ∧ n ≤ c ∧ Full M P f n := by
  obtain ⟨i0, hi0, hz0, hz1, hz2⟩ := info_parts infoStr
  have cB := bal_any h hc hsz
  have HC := Lib.hid hc
  have HZ := Lib.hid hsz
  have HM := Lib.hid hM
  clear hc hsz hM h
  go_enter Tryd.func17, Tryd.ntmps17
  go_wp2_with (fail)
  with_reducible refine cB.mono ?_
  rintro e w1 ⟨v, n, f, rfl, hown, hb1, hnc, hF⟩
  obtain ⟨A, cc, rfl, hE⟩ := en_own1 hown
  replace hT := hT.below hb1
  have HF := Lib.hid hF
  have HB1 := Lib.hid hb1
  have HNC := Lib.hid hnc
  have hn : n ≤ 100000 := Nat.le_trans hnc HC.out
  have HE := Lib.hid hE
  have HN := Lib.hid hn
  have Bw := Below.refl w1.heap.size w1
  clear cB hown hF hnc hE hn hb1
  go_wp2
  go_loopw [3, 9] (fun u j X => ∃ i : Nat, i ≤ n ∧ j = .int .i64 i ∧ X.ownsRow w1.heap.size 9 1 u i (linE f i) ∧ Below w1.heap.size w1 X) (fun _ j _ => n - (intOf j).toNat)
  case atStart => exact ⟨0, Nat.zero_le _, rfl, World.ownsRow_nil _ _ _ _, Bw⟩
  case round =>
    clear Bw
    obtain ⟨i, hi, rfl, OA, hbX⟩ := hrel
    by_cases hlt : i < n
    · have hil : (i : Int) < (n : Int) := by omega
      have hwi : wrap64 ((i : Int) + 1) = (i : Int) + 1 := IntWalk.wrap64_in _ (by have := HN.out; omega)
      obtain ⟨bb, o, rfl, hcl⟩ := HE.out (by omega)
      obtain ⟨x0, x1⟩ := hcl i hlt
      replace x0 := cell_later hbX x0
      replace x1 := cell_later hbX x1
      have hin : inB f n (acc f i) = true := inB_iff.2 ⟨i, hlt, rfl⟩
      have lN : (f i).1.size ≤ 281474976710656 := by
        have := HZ.out (acc f i) (by rw [← HF.out.1]; exact hin)
        unfold acc at this
        simpa using this
      have hy := amtB_yes (HM.out (acc f i))
      rw [← HF.out.2.1 i hlt] at hy
      have y1 : -9223372036854775808 ≤ (f i).2 := by omega
      have y2 : (f i).2 ≤ 9223372036854775807 := by omega
      have cX := fun w h => text_any (f i).2 w y1 y2 h
      have lX : (⟨(txt (f i).2).toArray⟩ : ByteArray).size ≤ 24 := by have := txt_len (f i).2 y1 y2; simpa [ByteArray.size] using this
      have HL : Hid (linE f (i + 1) = linE f i ++ [.string (lineE (f i))]) := Lib.hid (linE_succ f i)
      unfold lineE at HL
      have HLT := Lib.hid hlt
      have KX := bx_new wr [.string (f i).1, .int .i64 (f i).2] 26
      have NX := below_new wr (.cells #[.string (f i).1, .int .i64 (f i).2] 26)
      have B3 := below_step hbX NX hbX.size
      have hT3 := hT.below B3
      have O3 := own_below OA NX
      have HO := Lib.hid O3
      have hc3 : Hid (i + 1 ≤ maxLen) := Lib.hid (by have := HN.out; unfold maxLen; omega)
      have hc4 : Hid ((i + 1) * 16 ≤ 140737488355328) := Lib.hid (by have := HN.out; omega)
      have hsep : Hid (∀ j, u3.ownBlock = some j → w1.heap.size ≤ j ∧ j < wr.heap.size) := Lib.hid (fun j hj => OA.lt j hj)
      clear y1 y2 hy hin hcl OA O3 hT NX hbX hlt hi
      generalize (⟨(txt (f i).2).toArray⟩ : ByteArray) = tX at *
      generalize (f i).1 = N at *
      generalize (f i).2 = v at *
      have hb1 : (⟨#[32]⟩ : ByteArray).size = 1 := rfl
      have sz : ∀ a b : ByteArray, (a ++ b).size = a.size + b.size := fun a b => ByteArray.size_append
      have e1 : (N ++ ⟨#[32]⟩).size = N.size + 1 := by rw [sz, hb1]
      have z1 := fun W => Go.run_string_add_sum (P := Tryd.prog) W N ⟨#[32]⟩ (by rw [hb1]; omega)
      have z2 := fun W => Go.run_string_add_sum (P := Tryd.prog) W (N ++ ⟨#[32]⟩) tX (by rw [e1]; omega)
      clear hb1 sz e1 lX lN
      go_wp2
      clear x0 x1
      have s0 := KX.cell (i := 0) rfl
      have s1 := KX.cell (i := 1) rfl
      have hsl := KX.lt
      have hsl2 : wr.heap.size = wr.heap.size := rfl
      generalize wr.alloc (.cells #[.string N, .int .i64 v] 26) = W3 at *
      generalize hsb : wr.heap.size = sb at *
      have S1 : W3.drew.cell? ⟨sb, 0, none⟩ = some (.string N) ∧ W3.drew.cell? ⟨sb, 1, none⟩ = some (.int .i64 v) := ⟨s0, s1⟩
      have mk : ∀ V : World, Below W3.heap.size W3 V → (V.cell? ⟨sb, 0, none⟩ = some (.string N) ∧ V.cell? ⟨sb, 1, none⟩ = some (.int .i64 v)) := fun V hb => ⟨cell_later hb s0, cell_later hb s1⟩
      have far : ∀ V V' : World, Below W3.heap.size W3 V → V.grownBy V' u3.ownBlock → (V'.cell? ⟨sb, 0, none⟩ = some (.string N) ∧ V'.cell? ⟨sb, 1, none⟩ = some (.int .i64 v)) := fun V V' hb hg => by
        have sz := hb.size
        have bk : V'.heap[sb]? = V.heap[sb]? := hg.block sb (by omega) (fun e => by have := hsep.out sb e.symm; omega)
        obtain ⟨a1, a2⟩ := mk V hb
        exact ⟨(World.cell?_of_block bk).trans a1, (World.cell?_of_block bk).trans a2⟩
      have hT4 : Tab W3.drew := hT3.below (Below.refl _ _).drew
      go_region_held3 (fun X => X.cell? ⟨sb, 0, none⟩ = some (.string N) ∧ X.cell? ⟨sb, 1, none⟩ = some (.int .i64 v))
        ((first | exact S1 | assumption | exact far _ _ (hw.alloc hw.size _) hgrow | exact mk _ hw | exact mk _ (hw.alloc hw.size _)))
        (first
          | (go_at_call 40; with_reducible refine (cX _ hT4).mono ?_; rintro e w7 ⟨rfl, hb⟩; have hw := below_step ((Below.refl W3.heap.size W3).drew) hb (Nat.le_refl _))
          | (refine step_append_lies _ (by rfl) (.tmp 13) (.tmp 21) 40 (by rfl) w1.heap.size 9 i0 (.string ⟨#[]⟩) 1 16 Tryd.underlying40 hi0 hz0 hz1 hz2 (by rfl) (by decide) u3 i (linE f i) (by rfl) (own_below HO.out (hw.alloc hw.size _)) ⟨w7.heap.size, 0, none⟩ 1 1 [_] (by rfl) (by rfl) (Go.cell_one_new _ _ _) (one_str _) (by decide) hc3.out hc4.out (below_step B3 (hw.alloc hw.size _) B3.size).size _ rfl ?_; intro g9 cap9 w9 hown9 hgrow hat hlt9; have hw9 := (below_step B3 (hw.alloc hw.size _) B3.size).grown hgrow (below_step B3 (hw.alloc hw.size _) B3.size).size (fun k hk => (hsep.out k hk).1)))
      all_goals
        have OB3 : w9.ownsRow w1.heap.size 9 1 (.slice (some ⟨g9, 0, none⟩) (i + 1) cap9) (i + 1) (linE f (i + 1)) := by rw [HL.out]; exact hown9
        clear S1 mk far
        go_wp2
        exact ⟨⟨i + 1, Nat.succ_le_of_lt HLT.out, by go_num, OB3, hw9⟩, by first | exact meas_step HLT.out | (rw [hwi]; exact meas_step HLT.out)⟩
    · obtain rfl : i = n := by omega
      have hnl : ¬ (i : Int) < (i : Int) := by omega
      have B8 := Lib.hid (below_step HB1.out hbX HB1.out.size)
      have O8 := Lib.hid (OA.mono HB1.out.size)
      clear OA hbX hT
      go_wp2
      go_ret
      exact ⟨_, rfl, i, f, O8.out, B8.out, HNC.out, HF.out⟩
end Go.Proofs.YtgadlfdioakodabDoor
