/- What share.Lines answers of any row of a table's size. -/
import Derived.Test.YtgdalejccbhjcaaDoorShrD
import Derived.Test.YtgdalejccbhjcaaDoorShrE
namespace Go.Proofs.YtgdalejccbhjcaaDoor
open Go.RowKit Go.Sort
set_option linter.unusedVariables false
set_option linter.unusedSimpArgs false

/-- the contributions' names, where they lie -/
def ConN (w : World) (A : Option Addr) (n : Nat) (N : Nat → ByteArray) : Prop := 0 < n → ∃ b o, A = some ⟨b, o, none⟩ ∧ ∀ i, i < n → w.cell? ⟨b, o + i * 6, none⟩ = some (.string (N i))
theorem ConN.below {w w' : World} {A : Option Addr} {n : Nat} {N : Nat → ByteArray} (h : ConN w A n N) (hb : Below w.heap.size w w') : ConN w' A n N := fun h0 => by
  obtain ⟨b, o, e, hc⟩ := h h0
  exact ⟨b, o, e, fun i hi => cell_later hb (hc i hi)⟩
theorem txt_len (x : Int) (h : -9223372036854775808 ≤ x) (h' : x ≤ 9223372036854775807) : (txt x).length ≤ 24 := by
  unfold txt tailB
  have hlen := Lib.decDigits_length (x.natAbs / 100)
  have hnd : Lib.nDigits (x.natAbs / 100) ≤ 20 := by
    rcases Nat.eq_zero_or_pos (x.natAbs / 100) with h0 | h0
    · rw [h0, Lib.nDigits_small (by omega)]; omega
    · have := Lib.numDigits_eq (x.natAbs / 100) h0 (by omega); split at this <;> omega
  simp only [List.length_append, List.length_cons, List.length_nil]
  split <;> simp <;> omega
/-- a contribution's line -/
def lineV (N : ByteArray) (x y : Int) : ByteArray := N ++ ⟨#[32]⟩ ++ ⟨(txt x).toArray⟩ ++ ⟨#[32]⟩ ++ ⟨(txt y).toArray⟩
def linL (N : Nat → ByteArray) (X Y : Nat → Int) (n : Nat) : List Value := (List.range n).map fun i => .string (lineV (N i) (X i) (Y i))
theorem linL_succ (N : Nat → ByteArray) (X Y : Nat → Int) (n : Nat) : linL N X Y (n + 1) = linL N X Y n ++ [.string (lineV (N n) (X n) (Y n))] := by
  unfold linL
  rw [List.range_succ, List.map_append]; rfl
set_option maxRecDepth 100000 in
set_option maxHeartbeats 4000000 in
theorem lines_len (AS AC AK : Option Addr) (nS nC nK cS cC cK : Nat) (L Wd : Int) (A : Option Addr) (n c : Nat) (w : World) (hn : n ≠ nC) :
    Calls Tryd.prog 22 #[.agg #[.slice AS nS cS, .slice AC nC cC, .slice AK nK cK, .int .i64 L, .int .i64 Wd], .slice A n c] w fun e w' => e = .returned (.slice none 0 0) ∧ Below w.heap.size w w' := by
  have K1 := bx_new w [.slice AS nS cS, .slice AC nC cC, .slice AK nK cK, .int .i64 L, .int .i64 Wd] 59
  have B1 := below_new w (.cells #[.slice AS nS cS, .slice AC nC cC, .slice AK nK cK, .int .i64 L, .int .i64 Wd] 59)
  have k1 := K1.cell (i := 1) rfl
  have q : ((n : Int) != (nC : Int)) = true := by simp; omega
  go_enter Tryd.func22, Tryd.ntmps22
  go_wp2
  go_ret
  exact ⟨rfl, B1⟩
set_option maxRecDepth 100000 in
set_option maxHeartbeats 4000000 in
theorem lines_any (AS AC AK : Option Addr) (nS nC nK cS cC cK : Nat) (L Wd : Int) (N : Nat → ByteArray) (A : Option Addr) (n c : Nat) (X Y : Nat → Int) (w : World) (hT : Tab w) (hc : ConN w AC nC N) (hr : Shs w A n X Y) (hn : n = nC) (h30 : n ≤ 30)
    (hN : ∀ i, i < n → (N i).size ≤ 140737488355328) (hX : ∀ i, i < n → (-9223372036854775808 ≤ X i ∧ X i ≤ 9223372036854775807) ∧ (-9223372036854775808 ≤ Y i ∧ Y i ≤ 9223372036854775807)) :
    Calls Tryd.prog 22 #[.agg #[.slice AS nS cS, .slice AC nC cC, .slice AK nK cK, .int .i64 L, .int .i64 Wd], .slice A n c] w fun e w' => ∃ u, e = .returned u ∧ w'.ownsRow w.heap.size 9 1 u n (linL N X Y n) ∧ Below w.heap.size w w' := by
  subst hn
  have K1 := bx_new w [.slice AS nS cS, .slice AC n cC, .slice AK nK cK, .int .i64 L, .int .i64 Wd] 59
  have B1 := below_new w (.cells #[.slice AS nS cS, .slice AC n cC, .slice AK nK cK, .int .i64 L, .int .i64 Wd] 59)
  replace hT := hT.below B1
  replace hc := hc.below B1
  replace hr := hr.below B1
  have k1 := K1.cell (i := 1) rfl
  have q : ((n : Int) != (n : Int)) = false := by simp
  obtain ⟨i0, hi0, hz0, hz1, hz2⟩ := info_parts infoStr
  have HXX := Lib.hid hX
  have HNN := Lib.hid hN
  clear hX hN
  go_enter Tryd.func22, Tryd.ntmps22
  go_wp2_with (fail)
  generalize w.alloc (.cells #[.slice AS nS cS, .slice AC n cC, .slice AK nK cK, .int .i64 L, .int .i64 Wd] 59) = w1 at *
  have Bw := Below.refl w1.heap.size w1
  clear k1
  go_loopw [5, 16] (fun u k W => ∃ i : Nat, i ≤ n ∧ k = .int .i64 i ∧ W.ownsRow w1.heap.size 9 1 u i (linL N X Y i) ∧ Below w1.heap.size w1 W) (fun _ k _ => n - (intOf k).toNat)
  case atStart => exact ⟨0, Nat.zero_le _, rfl, World.ownsRow_nil _ _ _ _, Bw⟩
  case round =>
    clear Bw
    obtain ⟨i, hi, rfl, OA, hbX⟩ := hrel
    by_cases hlt : i < n
    · obtain ⟨bc, oc, rfl, hcc⟩ := id (hc (by omega))
      obtain ⟨b, o, rfl, hcr⟩ := id (hr (by omega))
      obtain ⟨r0, r1⟩ := hcr i hlt
      replace r0 := cell_later hbX r0
      replace r1 := cell_later hbX r1
      have n0 := cell_later hbX (hcc i hlt)
      have k1 := (K1.below hbX).cell (i := 1) rfl
      obtain ⟨⟨x1, x2⟩, y1, y2⟩ := HXX.out i hlt
      have cX := fun w h => text_any (X i) w x1 x2 h
      have cY := fun w h => text_any (Y i) w y1 y2 h
      have lX : (⟨(txt (X i)).toArray⟩ : ByteArray).size ≤ 24 := by have := txt_len (X i) x1 x2; simpa [ByteArray.size] using this
      have lY : (⟨(txt (Y i)).toArray⟩ : ByteArray).size ≤ 24 := by have := txt_len (Y i) y1 y2; simpa [ByteArray.size] using this
      have lN := HNN.out i hlt
      have HL : Hid (linL N X Y (i + 1) = linL N X Y i ++ [.string (lineV (N i) (X i) (Y i))]) := Lib.hid (linL_succ N X Y i)
      have hin : (i : Int) < (n : Int) := by omega
      have K3 := bx_new wr [.int .i64 (X i), .int .i64 (Y i)] 71
      have NB := below_new wr (.cells #[.int .i64 (X i), .int .i64 (Y i)] 71)
      have B3 := below_step hbX NB hbX.size
      have hT3 := hT.below B3
      have k13 := cell_later NB k1
      have n3 := cell_later NB n0
      have O3 := own_below OA NB
      have hsep : ∀ j, u5.ownBlock = some j → w1.heap.size ≤ j ∧ j < wr.heap.size := fun j hj => OA.lt j hj
      have hwl : w1.heap.size ≤ wr.heap.size := hbX.size
      have hcl := K1.lt
      have hnl2 : bc < w1.heap.size := World.block_lt_of_cell? _ _ (hcc i hlt)
      have HO := Lib.hid O3
      clear x1 x2 y1 y2 hcc hcr OA O3 hc hr hT NB
      unfold lineV at HL
      generalize htx : (⟨(txt (X i)).toArray⟩ : ByteArray) = tX at *
      generalize hty : (⟨(txt (Y i)).toArray⟩ : ByteArray) = tY at *
      clear htx hty
      generalize hxi : X i = xi at *
      generalize hyi : Y i = yi at *
      generalize hni : N i = ni at *
      clear hxi hyi hni
      have hb1 : (⟨#[32]⟩ : ByteArray).size = 1 := rfl
      have sz : ∀ a b : ByteArray, (a ++ b).size = a.size + b.size := fun a b => ByteArray.size_append
      have e1 : (ni ++ ⟨#[32]⟩).size = ni.size + 1 := by rw [sz, hb1]
      have e2 : (ni ++ ⟨#[32]⟩ ++ tX).size = ni.size + 1 + tX.size := by rw [sz, e1]
      have e3 : (ni ++ ⟨#[32]⟩ ++ tX ++ ⟨#[32]⟩).size = ni.size + 1 + tX.size + 1 := by rw [sz, e2, hb1]
      have z1 := fun W => Go.run_string_add_sum (P := Tryd.prog) W ni ⟨#[32]⟩ (by rw [hb1]; omega)
      have z2 := fun W => Go.run_string_add_sum (P := Tryd.prog) W (ni ++ ⟨#[32]⟩) tX (by rw [e1]; omega)
      have z3 := fun W => Go.run_string_add_sum (P := Tryd.prog) W (ni ++ ⟨#[32]⟩ ++ tX) ⟨#[32]⟩ (by rw [e2, hb1]; omega)
      have z4 := fun W => Go.run_string_add_sum (P := Tryd.prog) W (ni ++ ⟨#[32]⟩ ++ tX ++ ⟨#[32]⟩) tY (by rw [e3]; omega)
      clear hb1 sz e1 e2 e3 lX lY lN
      go_wp2
      clear r0 r1 k1 n0
      have s0 := K3.cell (i := 0) rfl
      have s1 := K3.cell (i := 1) rfl
      have hsl := K3.lt
      generalize wr.alloc (.cells #[.int .i64 xi, .int .i64 yi] 71) = W3 at *
      generalize wr.heap.size = sb at *
      have S1 : W3.drew.cell? ⟨w.heap.size, 1, none⟩ = some (.slice (some ⟨bc, oc, none⟩) n cC) ∧ W3.drew.cell? ⟨bc, oc + i * 6, none⟩ = some (.string ni) ∧ W3.drew.cell? ⟨sb, 0, none⟩ = some (.int .i64 xi) ∧ W3.drew.cell? ⟨sb, 1, none⟩ = some (.int .i64 yi) := ⟨k13, n3, s0, s1⟩
      have mk : ∀ V : World, Below W3.heap.size W3 V → (V.cell? ⟨w.heap.size, 1, none⟩ = some (.slice (some ⟨bc, oc, none⟩) n cC) ∧ V.cell? ⟨bc, oc + i * 6, none⟩ = some (.string ni) ∧ V.cell? ⟨sb, 0, none⟩ = some (.int .i64 xi) ∧ V.cell? ⟨sb, 1, none⟩ = some (.int .i64 yi)) := fun V hb => ⟨cell_later hb k13, cell_later hb n3, cell_later hb s0, cell_later hb s1⟩
      have far : ∀ V V' : World, Below W3.heap.size W3 V → V.grownBy V' u5.ownBlock → (V'.cell? ⟨w.heap.size, 1, none⟩ = some (.slice (some ⟨bc, oc, none⟩) n cC) ∧ V'.cell? ⟨bc, oc + i * 6, none⟩ = some (.string ni) ∧ V'.cell? ⟨sb, 0, none⟩ = some (.int .i64 xi) ∧ V'.cell? ⟨sb, 1, none⟩ = some (.int .i64 yi)) := fun V V' hb hg => by
        have sz := hb.size
        have bk : ∀ g, g < W3.heap.size → (∀ j, u5.ownBlock = some j → j ≠ g) → V'.heap[g]? = V.heap[g]? := fun g h1 h2 => hg.block g (by omega) (fun e => h2 g e.symm rfl)
        obtain ⟨a1, a2, a3, a4⟩ := mk V hb
        exact ⟨(World.cell?_of_block (bk w.heap.size (by omega) (fun j hj e => by have := hsep j hj; omega))).trans a1, (World.cell?_of_block (bk bc (by omega) (fun j hj e => by have := hsep j hj; omega))).trans a2, (World.cell?_of_block (bk sb hsl (fun j hj e => by have := hsep j hj; omega))).trans a3, (World.cell?_of_block (bk sb hsl (fun j hj e => by have := hsep j hj; omega))).trans a4⟩
      have hT4 : Tab W3.drew := hT3.below (Below.refl _ _).drew
      have hTb : ∀ V, Below W3.heap.size W3 V → Tab V := fun V h => hT3.below h
      have hc3 : i + 1 ≤ maxLen := by unfold maxLen; omega
      go_region_held3 (fun X => X.cell? ⟨w.heap.size, 1, none⟩ = some (.slice (some ⟨bc, oc, none⟩) n cC) ∧ X.cell? ⟨bc, oc + i * 6, none⟩ = some (.string ni) ∧ X.cell? ⟨sb, 0, none⟩ = some (.int .i64 xi) ∧ X.cell? ⟨sb, 1, none⟩ = some (.int .i64 yi))
        ((first | exact S1 | assumption | exact far _ _ (hw.alloc hw.size _) hgrow | exact mk _ hw | exact mk _ (hw.alloc hw.size _)))
        (first
          | (go_at_call 36; with_reducible refine (cX _ hT4).mono ?_; rintro e w6 ⟨rfl, hb⟩; have hw := below_step ((Below.refl W3.heap.size W3).drew) hb (Nat.le_refl _); have hT5 := hT3.below hw)
          | (go_at_call 36; with_reducible refine (cY _ hT4).mono ?_; rintro e w6 ⟨rfl, hb⟩; have hw := below_step ((Below.refl W3.heap.size W3).drew) hb (Nat.le_refl _); have hT5 := hT3.below hw)
          | (go_at_call 36; with_reducible refine (cX _ hT5).mono ?_; rintro e w7 ⟨rfl, hb⟩; have hw := below_step hw hb hw.size)
          | (go_at_call 36; with_reducible refine (cY _ hT5).mono ?_; rintro e w7 ⟨rfl, hb⟩; have hw := below_step hw hb hw.size)
          | (refine step_append_lies _ (by rfl) (.tmp 21) (.tmp 38) 50 (by rfl) w1.heap.size 9 i0 (.string ⟨#[]⟩) 1 16 Tryd.underlying50 hi0 hz0 hz1 hz2 (by rfl) (by decide) u5 i (linL N X Y i) (by rfl) (own_below HO.out (hw.alloc hw.size _)) ⟨w7.heap.size, 0, none⟩ 1 1 [_] (by rfl) (by rfl) (Go.cell_one_new _ _ _) (one_str _) (by decide) hc3 (by omega) (below_step B3 (hw.alloc hw.size _) B3.size).size _ rfl ?_; intro g9 cap9 w9 hown9 hgrow hat hlt9; have hw9 := (below_step B3 (hw.alloc hw.size _) B3.size).grown hgrow (below_step B3 (hw.alloc hw.size _) B3.size).size (fun k hk => (hsep k hk).1)))
      all_goals
        have OB3 : w9.ownsRow w1.heap.size 9 1 (.slice (some ⟨g9, 0, none⟩) (i + 1) cap9) (i + 1) (linL N X Y (i + 1)) := by rw [HL.out]; exact hown9
        clear S1 mk far
        go_wp2
        refine ⟨⟨i + 1, by omega, by go_num, OB3, hw9⟩, ?_⟩
        simp [intOf]; omega
    · obtain rfl : n = i := by omega
      have B8 := below_step B1 hbX B1.size
      have O8 := Lib.hid (own_mono OA B1.size)
      have hnl : ¬ (n : Int) < (n : Int) := by omega
      clear OA hc hr hT K1
      go_wp2
      go_ret
      exact ⟨_, rfl, O8.out, B8⟩
end Go.Proofs.YtgdalejccbhjcaaDoor
