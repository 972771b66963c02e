/- The walk of the law FracAdds. -/
import Derived.Test.YtjjeohnejhhacaaFracP
import Derived.Laws.AppendOwn
import Derived.OwnWalk
namespace Go.Proofs.Ytjjeohnejhhacaa
open Go.RowKit
set_option linter.unusedVariables false

theorem cell_lt {w : World} {b o : Nat} {v : Value} (h : w.cell? ⟨b, o, none⟩ = some v) : b < w.heap.size := World.block_lt_of_cell? w ⟨b, o, none⟩ h
/-- what lay below the heap's end still lies there -/
theorem row_below {w w' : World} {A : Option Addr} {n : Nat} {f : Nat → Value} (h : rowAt w A n f) (hb : Below w.heap.size w w') : rowAt w' A n f := fun hn => by
  obtain ⟨b, o, e, hc⟩ := h hn
  refine ⟨b, o, e, fun i hi => ?_⟩
  have h1 := hc i hi
  rw [hb.cell (p := ⟨b, o + i, none⟩) (cell_lt h1)]
  exact h1
/-- a row of the call's own, as a slice that is read -/
theorem row_own {w : World} {base : Nat} {e : TypeId} {v : Value} {n : Nat} {f : Nat → Value} (h : w.ownsRow base e 1 v n ((List.range n).map f)) :
    ∃ A c, v = .slice A n c ∧ rowAt w A n f := by
  rcases h.2 with ⟨rfl, hn⟩ | ⟨g, cap, cur, rfl, _⟩
  · subst hn
    exact ⟨none, 0, rfl, fun h0 => absurd h0 (Nat.lt_irrefl 0)⟩
  · refine ⟨_, _, rfl, fun _ => ⟨g, 0, rfl, fun i hi => ?_⟩⟩
    have := h.cells (g := g) rfl i (f i) (by simp [hi])
    rw [Nat.zero_add]
    unfold Addr.add at this
    split at this
    · rename_i hz
      rw [hz] at this
      rw [hz]
      exact this
    · simpa using this

/-- the sum so far, and whether it may be -/
def ExSt (f : Nat → Int) (i : Nat) (s : Int) (b : Bool) : Prop := (b = true ∧ exAcc f i = some s) ∨ (b = false ∧ exAcc f i = none)
theorem exSt_bad {f : Nat → Int} {i : Nat} {s t : Int} (h : exAcc f i = some s) (hB : (exB (f i) && exB (s + f i)) = false) : ExSt f (i + 1) t false :=
  .inr ⟨rfl, by simp only [exAcc, h]; rw [hB]; rfl⟩
theorem exSt_ok {f : Nat → Int} {i : Nat} {s : Int} (h : exAcc f i = some s) (hB : (exB (f i) && exB (s + f i)) = true) : ExSt f (i + 1) (s + f i) true :=
  .inl ⟨rfl, by simp only [exAcc, h]; rw [hB]; rfl⟩
theorem exSt_none {f : Nat → Int} {i : Nat} {s : Int} (h : exAcc f i = none) : ExSt f (i + 1) s false :=
  .inr ⟨rfl, by simp only [exAcc, h]⟩
theorem own_next {w : World} {base : Nat} {e : TypeId} {v : Value} {i : Nat} {f : Nat → Value} (h : w.ownsRow base e 1 v (i + 1) ((List.range i).map f ++ [f i])) :
    w.ownsRow base e 1 v (i + 1) ((List.range (i + 1)).map f) := by
  rw [List.range_succ, List.map_append]
  exact h

theorem exact_info : (Try.prog.info? 29).map (fun i => (i.zero, i.size, i.bytes)) = some (some (.int .i64 0), 1, 8) := by kernel_rfl
set_option maxHeartbeats 2000000 in
set_option maxRecDepth 100000 in
theorem wFracAdds (A : Option Addr) (n c : Nat) (f : Nat → Int) (m : Int) (w : World) (h : rowAt w A n fun i => .int .i64 (f i)) (hn : n ≤ 9223372036854775807) (hf : ∀ i, -9223372036854775808 ≤ f i ∧ f i ≤ 9223372036854775807) (hm : -9223372036854775808 ≤ m) (hm' : m ≤ 9223372036854775807) :
    Calls Try.prog 6 #[.slice A n c, .int .i64 m] w fun e w' => e = .returned (.bool true) ∧ Below w.heap.size w w' := by
  have pa := parts_any w
  by_cases h60 : 60 < n
  · go_enter Try.func6, Try.ntmps6
    go_wp2_with (fail)
    refine pa.mono ?_
    rintro e w1 ⟨rfl, hb1⟩
    go_wp2
    go_ret
    exact ⟨rfl, hb1⟩
  · have h60' : n ≤ 60 := by omega
    clear h60
    obtain ⟨i0, hi, hz0, hz1, hz2⟩ := info_parts exact_info
    go_enter Try.func6, Try.ntmps6
    go_wp2_with (fail)
    refine pa.mono ?_
    rintro e w1 ⟨rfl, hb1⟩
    have h1 := row_below h hb1
    go_wp2
    go_loopw [5, 6, 7, 23] (fun l p b k wr => ∃ (i : Nat) (s : Int) (t : Bool), i ≤ n ∧ k = .int .i64 i ∧ p = .int .i64 s ∧ b = .bool t ∧ ExSt f i s t ∧ wr.ownsRow w1.heap.size 29 1 l i ((List.range i).map fun j => .int .i64 (f j)) ∧ Below w1.heap.size w1 wr) (fun _ _ _ k _ => n - (intOf k).toNat)
    case atStart => exact ⟨0, 0, true, Nat.zero_le _, rfl, rfl, rfl, .inl ⟨rfl, rfl⟩, World.ownsRow_nil _ _ _ _, Below.refl _ _⟩
    case round =>
      obtain ⟨i, s, t, hin, rfl, rfl, rfl, hst, hown, hbr⟩ := hrel
      by_cases hlt : i < n
      · obtain ⟨b, o, rfl, hc⟩ := h1 (by omega)
        have hcell : wr.cell? ⟨b, o + i, none⟩ = some (.int .i64 (f i)) := by
          rw [hbr.cell (p := ⟨b, o + i, none⟩) (cell_lt (hc i hlt))]
          exact hc i hlt
        obtain ⟨f1, f2⟩ := hf i
        clear hc
        have hc1 := cell_one_new wr (.int .i64 (f i)) 29
        have hc2 : ∀ u ∈ [Value.int .i64 (f i)], u.oneCell' = true := by simp [Value.oneCell']
        have hc3 : i + 1 ≤ maxLen := by unfold maxLen; omega
        have hc4 : (i + 1) * 8 ≤ 140737488355328 := by omega
        have hc5 : w1.heap.size ≤ (wr.alloc (.cells #[.int .i64 (f i)] 29)).heap.size := by have := hbr.size; simp; omega
        rcases hst with ⟨rfl, ha⟩ | ⟨rfl, ha⟩
        · obtain ⟨s1, s2⟩ := exAcc_b f i s ha
          cases hB : exB (f i)
          · have HS := Lib.hid (exSt_bad (t := s) ha (by rw [hB]; rfl))
            have g := exB_no hB
            clear ha hB
            rcases g with g | g
            · have g2 : ¬ 1000000000000000 < f i := by omega
              go_wp2_with (at_builtin; refine wpList_append_own _ rfl _ _ 38 rfl w1.heap.size 29 i0 (.int .i64 0) 1 8 Try.underlying38 hi hz0 hz1 hz2 rfl (by decide) _ _ _ rfl (hown.alloc _) ⟨wr.heap.size, 0, none⟩ 1 1 [.int .i64 (f i)] rfl rfl hc1 hc2 hc3 hc4 hc5 ?_; intro v' w2 hown2 hg2 _)
              have hbr2 : Below w1.heap.size w1 w2 := (hbr.alloc hbr.size _).grown hg2 hc5 (fun k hk => (hown.lt k hk).1)
              go_roundw
              case rel => exact ⟨i + 1, s, false, by omega, by go_num, rfl, rfl, HS.out, own_next hown2, hbr2⟩
              case measure => simp [intOf]; omega
            · go_wp2_with (at_builtin; refine wpList_append_own _ rfl _ _ 38 rfl w1.heap.size 29 i0 (.int .i64 0) 1 8 Try.underlying38 hi hz0 hz1 hz2 rfl (by decide) _ _ _ rfl (hown.alloc _) ⟨wr.heap.size, 0, none⟩ 1 1 [.int .i64 (f i)] rfl rfl hc1 hc2 hc3 hc4 hc5 ?_; intro v' w2 hown2 hg2 _)
              have hbr2 : Below w1.heap.size w1 w2 := (hbr.alloc hbr.size _).grown hg2 hc5 (fun k hk => (hown.lt k hk).1)
              go_roundw
              case rel => exact ⟨i + 1, s, false, by omega, by go_num, rfl, rfl, HS.out, own_next hown2, hbr2⟩
              case measure => simp [intOf]; omega
          · obtain ⟨g1, g2⟩ := exB_yes hB
            cases hS : exB (s + f i)
            · have HS := Lib.hid (exSt_bad (t := s + f i) ha (by rw [hB, hS]; rfl))
              have g := exB_no hS
              clear ha hB hS
              rcases g with g | g
              · have g3 : s + f i ≤ 1000000000000000 := by omega
                have g4 : decide (-1000000000000000 ≤ s + f i) = false := by simp; omega
                go_wp2_with (at_builtin; refine wpList_append_own _ rfl _ _ 38 rfl w1.heap.size 29 i0 (.int .i64 0) 1 8 Try.underlying38 hi hz0 hz1 hz2 rfl (by decide) _ _ _ rfl (hown.alloc _) ⟨wr.heap.size, 0, none⟩ 1 1 [.int .i64 (f i)] rfl rfl hc1 hc2 hc3 hc4 hc5 ?_; intro v' w2 hown2 hg2 _)
                have hbr2 : Below w1.heap.size w1 w2 := (hbr.alloc hbr.size _).grown hg2 hc5 (fun k hk => (hown.lt k hk).1)
                go_roundw
                case rel => exact ⟨i + 1, s + f i, false, by omega, by go_num, rfl, rfl, HS.out, own_next hown2, hbr2⟩
                case measure => simp [intOf]; omega
              · go_wp2_with (at_builtin; refine wpList_append_own _ rfl _ _ 38 rfl w1.heap.size 29 i0 (.int .i64 0) 1 8 Try.underlying38 hi hz0 hz1 hz2 rfl (by decide) _ _ _ rfl (hown.alloc _) ⟨wr.heap.size, 0, none⟩ 1 1 [.int .i64 (f i)] rfl rfl hc1 hc2 hc3 hc4 hc5 ?_; intro v' w2 hown2 hg2 _)
                have hbr2 : Below w1.heap.size w1 w2 := (hbr.alloc hbr.size _).grown hg2 hc5 (fun k hk => (hown.lt k hk).1)
                go_roundw
                case rel => exact ⟨i + 1, s + f i, false, by omega, by go_num, rfl, rfl, HS.out, own_next hown2, hbr2⟩
                case measure => simp [intOf]; omega
            · have HS := Lib.hid (exSt_ok ha (by rw [hB, hS]; rfl))
              obtain ⟨g3, g4⟩ := exB_yes hS
              clear ha hB hS
              go_wp2_with (at_builtin; refine wpList_append_own _ rfl _ _ 38 rfl w1.heap.size 29 i0 (.int .i64 0) 1 8 Try.underlying38 hi hz0 hz1 hz2 rfl (by decide) _ _ _ rfl (hown.alloc _) ⟨wr.heap.size, 0, none⟩ 1 1 [.int .i64 (f i)] rfl rfl hc1 hc2 hc3 hc4 hc5 ?_; intro v' w2 hown2 hg2 _)
              have hbr2 : Below w1.heap.size w1 w2 := (hbr.alloc hbr.size _).grown hg2 hc5 (fun k hk => (hown.lt k hk).1)
              go_roundw
              case rel => exact ⟨i + 1, s + f i, true, by omega, by go_num, rfl, rfl, HS.out, own_next hown2, hbr2⟩
              case measure => simp [intOf]; omega
        · have HS := Lib.hid (exSt_none (s := s) ha)
          clear ha
          go_wp2_with (at_builtin; refine wpList_append_own _ rfl _ _ 38 rfl w1.heap.size 29 i0 (.int .i64 0) 1 8 Try.underlying38 hi hz0 hz1 hz2 rfl (by decide) _ _ _ rfl (hown.alloc _) ⟨wr.heap.size, 0, none⟩ 1 1 [.int .i64 (f i)] rfl rfl hc1 hc2 hc3 hc4 hc5 ?_; intro v' w2 hown2 hg2 _)
          have hbr2 : Below w1.heap.size w1 w2 := (hbr.alloc hbr.size _).grown hg2 hc5 (fun k hk => (hown.lt k hk).1)
          go_roundw
          case rel => exact ⟨i + 1, s, false, by omega, by go_num, rfl, rfl, HS.out, own_next hown2, hbr2⟩
          case measure => simp [intOf]; omega
      · obtain rfl : i = n := by omega
        obtain ⟨A2, c2, rfl, hrow⟩ := row_own hown
        rcases hst with ⟨rfl, ha⟩ | ⟨rfl, ha⟩
        · obtain ⟨s1, s2⟩ := exAcc_b f i s ha
          have ad := exadd_any A2 i c2 wr f hrow (by omega) s 0 (.inl ⟨ha, rfl⟩)
          cases hm : modeB m
          · have k1 := fun w => coins_mode s m w (exB_mk s1 s2) hm
            have k2 := fun w => round_bad s 10000 m w (.inr hm)
            clear ha hm hown
            go_wp2_with (fail)
            refine ad.mono ?_
            rintro e w2 ⟨rfl, rfl⟩
            go_wp2_with (fail)
            refine (k1 _).mono ?_
            rintro e w2 ⟨rfl, rfl⟩
            go_wp2_with (fail)
            refine (k2 _).mono ?_
            rintro e w2 ⟨rfl, rfl⟩
            go_wp2
            go_ret
            exact ⟨rfl, below_step hb1 hbr hb1.size⟩
          · have k1 := fun w => coins_ok s m w (exB_mk s1 s2) hm
            have k2 := fun w => round_ok s 10000 m w (by omega) (by omega) (by omega) (by omega) hm
            generalize rnd s 10000 m = q at *
            clear ha hm hown
            go_wp2_with (fail)
            refine ad.mono ?_
            rintro e w2 ⟨rfl, rfl⟩
            go_wp2_with (fail)
            refine (k1 _).mono ?_
            rintro e w2 ⟨rfl, j1, rfl⟩
            go_wp2_with (fail)
            refine (k2 _).mono ?_
            rintro e w2 ⟨rfl, j2, rfl⟩
            go_wp2
            go_ret
            exact ⟨ret_b (by first | rfl | (simp; done)), below_drewN (below_step hb1 hbr hb1.size) _⟩
        · have ad := exadd_any A2 i c2 wr f hrow (by omega) 0 10 (.inr ⟨ha, rfl, rfl⟩)
          clear ha hown
          go_wp2_with (fail)
          refine ad.mono ?_
          rintro e w2 ⟨rfl, rfl⟩
          go_wp2
          go_ret
          exact ⟨rfl, below_step hb1 hbr hb1.size⟩
end Go.Proofs.Ytjjeohnejhhacaa
