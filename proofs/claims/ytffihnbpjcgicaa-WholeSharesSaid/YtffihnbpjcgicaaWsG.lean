/- What slices.Grow of nothing, and slices.Concat of two lists of bases, answer: a row of the call's own. -/
import Derived.Test.YtffihnbpjcgicaaClB
import Derived.Lib.AppendZerosOnto
import Derived.Lib.SliceRun
import Derived.Laws.AppendOwnNone
import Derived.Lib.Walk
namespace Go.Proofs.Ytffihnbpjcgicaa
open Go.RowKit Go.Sort
set_option linter.unusedVariables false
set_option linter.unusedSimpArgs false

theorem grow_any (n : Nat) (w : World) (hn : n ≤ 100000) :
    Calls Try.prog 19 #[.slice none 0 0, .int .i64 n] w (ClP 39 3 [] 0 w) := by
  rcases Nat.eq_zero_or_pos n with h0 | h0
  · subst h0
    go_enter Try.func19, Try.ntmps19
    go_wp2
    go_ret
    exact ⟨_, rfl, World.ownsRow_nil _ _ _ _, Below.refl _ _⟩
  · obtain ⟨i0, hi0, hz0, hz1, hz2⟩ := info_parts infoBs
    have hrz : ∀ ty, (Builtin.append_ #[27, 3] ty #[.slice none 0 0, .int .i64 (n : Int)]).run Try.prog w =
        .ok (.slice (some ⟨w.heap.size, 0, none⟩) n (grownCap w n 0 39)) (w.drew.alloc (.cells (#[] ++ Builtin.zeroCells ((.agg #[.int .i64 0, .int .i64 0, .int .i64 0]) : Value).cells n ++ Builtin.zeroCells ((.agg #[.int .i64 0, .int .i64 0, .int .i64 0]) : Value).cells (grownCap w n 0 39 - n)) 39)) := fun ty => by
      have h := Lib.run_append_grow_zeros w 27 3 ty 39 i0 (.agg #[.int .i64 0, .int .i64 0, .int .i64 0]) .i64 .i64 Try.underlying27 Try.underlying3 hi0 hz0 none 0 0 [] (run_firstCells_none w.drew i0.size 0 0 0) n h0 (by rw [hz1]; decide) (by omega) (by omega) (by rw [hz2]; omega) (by rw [Nat.zero_add, hz2]; exact growslice_fits (by omega) (by omega))
      rw [Nat.zero_add] at h
      exact h
    have hGn : n ≤ grownCap w n 0 39 := grownCap_ge w _ _ _
    have hGm := grownCap_le_maxLen w n 0 39 (by unfold maxLen; omega)
    generalize grownCap w n 0 39 = G at *
    have hown : (w.alloc (.cells (Builtin.zeroCells #[.int .i64 0, .int .i64 0, .int .i64 0] n ++ Builtin.zeroCells #[.int .i64 0, .int .i64 0, .int .i64 0] (G - n)) 39)).drew.ownsRow w.heap.size 39 3 (.slice (some ⟨w.heap.size, 0, none⟩) 0 G) 0 [] := World.ownsRow_made (base := w.heap.size) (e := 39) (size := 3) w _ G (Nat.le_refl _) hGm (by
      rw [Array.size_append, size_zeroCells, size_zeroCells]
      simp
      omega)
    have hb : Below w.heap.size w (w.alloc (.cells (Builtin.zeroCells #[.int .i64 0, .int .i64 0, .int .i64 0] n ++ Builtin.zeroCells #[.int .i64 0, .int .i64 0, .int .i64 0] (G - n)) 39)).drew := ((Below.refl _ _).alloc (Nat.le_refl _) _).drew
    clear hGn hi0 hz0
    have t1 : ¬ ((n : Int) < 0) := by omega
    have t2 : ((n : Int) > 0) := by omega
    go_enter Try.func19, Try.ntmps19
    go_wp2_with (at_builtin; refine Lib.wpList_append_run _ rfl _ _ _ _ rfl _ _ rfl rfl _ _ (hrz _) ?_)
    all_goals
      go_ret
      exact ⟨_, rfl, hown, hb⟩
theorem own_room {w : World} {B n k : Nat} {e : TypeId} {A : Option Addr} {c : Nat} {xs : List Value} (h : w.ownsRow B e k (.slice A n c) n xs) : n ≤ c := by
  obtain ⟨hl, h | ⟨g, cap, cur, hv, hg, hh, h1, h2, h3, h4⟩⟩ := h
  · have := h.2; omega
  · obtain ⟨_, _, rfl⟩ := Value.slice.inj hv
    exact h1
theorem own_none {w : World} {B n k : Nat} {e : TypeId} {c : Nat} {xs : List Value} (h : w.ownsRow B e k (.slice none n c) n xs) : n = 0 ∧ c = 0 := by
  obtain ⟨hl, h | ⟨g, cap, cur, hv, _⟩⟩ := h
  · obtain ⟨_, h1, h2⟩ := Value.slice.inj h.1
    exact ⟨h1, h2⟩
  · cases (Value.slice.inj hv).1
set_option maxRecDepth 100000 in
set_option maxHeartbeats 4000000 in
theorem concat_two (A A2 : Option Addr) (m m2 q q2 : Nat) (X_ T S X' T' S' : Nat → Int) (w : World) (b : Nat) (hb0 : w.cell? ⟨b, 0, none⟩ = some (.slice A m q)) (hb1 : w.cell? ⟨b, 1, none⟩ = some (.slice A2 m2 q2)) (h : BasM w A m X_ T S) (h2 : BasM w A2 m2 X' T' S') (hm : m ≤ 1000) (hm2 : m2 ≤ 1000) (hA : A = none → q = 0) (hA2 : A2 = none → q2 = 0) :
    Calls Try.prog 8 #[.slice (some ⟨b, 0, none⟩) 2 2] w (ClP 39 3 (bs3 (cat m X_ X') (cat m T T') (cat m S S') (m + m2)) (m + m2) w) := by
  obtain ⟨i0, hi0, hz0, hz1, hz2⟩ := info_parts infoBs
  have Hi := Lib.hid hi0
  have Hz := Lib.hid hz0
  have HM := Lib.hid (And.intro hm hm2)
  have HH := Lib.hid (And.intro h h2)
  have HA := Lib.hid (And.intro hA hA2)
  have cG := grow_any (m + m2) w (by omega)
  rw [Int.natCast_add] at cG
  clear hi0 hz0 hm hm2 h h2 hA hA2
  go_enter Try.func8, Try.ntmps8
  go_wp2
  go_loop [3, 11] (fun s j => (s = .int .i64 0 ∧ j = .int .i64 0) ∨ (s = .int .i64 (m : Int) ∧ j = .int .i64 1) ∨ (s = .int .i64 ((m + m2 : Nat) : Int) ∧ j = .int .i64 2)) (fun _ j => 2 - (intOf j).toNat)
  case atStart => exact .inl ⟨rfl, rfl⟩
  case round =>
    have := HM.out
    rcases hrel with ⟨rfl, rfl⟩ | ⟨rfl, rfl⟩ | ⟨rfl, rfl⟩
    · have e1 : wrap64 (m : Int) = (m : Int) := IntWalk.wrap64_in _ (by omega)
      have t1 : ¬ ((m : Int) < 0) := by omega
      go_wp2
      refine ⟨.inr (.inl ⟨by first | rfl | (simp; done) | (congr 1; omega), rfl⟩), ?_⟩
      simp [intOf]
    · have e1 : wrap64 ((m : Int) + (m2 : Int)) = (m : Int) + (m2 : Int) := IntWalk.wrap64_in _ (by omega)
      have t1 : ¬ ((m : Int) + (m2 : Int) < 0) := by omega
      go_wp2
      refine ⟨.inr (.inr ⟨by first | rfl | (rw [Int.natCast_add]; done) | (congr 1; omega), rfl⟩), ?_⟩
      simp [intOf]
    · go_wp2_with (fail)
      with_reducible refine cG.mono ?_
      rintro e w1 ⟨v, rfl, hown, hb⟩
      clear cG this
      go_wp2
      go_loopw [6, 27] (fun vv j X => ∃ n xs, X.ownsRow w.heap.size 39 3 vv n xs ∧ Below w.heap.size w X ∧ ((j = .int .i64 0 ∧ n = 0 ∧ xs = []) ∨ (j = .int .i64 1 ∧ n = m ∧ xs = bs3 X_ T S m) ∨ (j = .int .i64 2 ∧ n = m + m2 ∧ xs = bs3 X_ T S m ++ bs3 X' T' S' m2))) (fun _ j _ => 2 - (intOf j).toNat)
      case atStart => exact ⟨_, _, hown, hb, .inl ⟨rfl, rfl, rfl⟩⟩
      case round =>
        clear hown hb
        obtain ⟨n, xs, hown, hbX, hrel⟩ := hrel
        rcases hrel with ⟨rfl, rfl, rfl⟩ | ⟨rfl, rfl, rfl⟩ | ⟨rfl, rfl, rfl⟩
        · have c0 := cell_later hbX hb0
          have hR := (HH.out.1).below hbX
          have hc3 : 0 + m ≤ maxLen := by have := HM.out; unfold maxLen; omega
          have hc4 : (0 + m) * 24 ≤ 140737488355328 := by have := HM.out; omega
          have hc5 := hbX.size
          cases A with
          | none =>
            have h0 : m = 0 := by
              rcases Nat.eq_zero_or_pos m with e | e
              · exact e
              · obtain ⟨_, _, e2, _⟩ := hR e
                cases e2
            subst h0
            obtain rfl : q = 0 := HA.out.1 rfl
            obtain ⟨A9, c9, rfl, hA9, _⟩ := own_len hown
            clear hR
            cases A9 with
            | none =>
              go_wp2
              refine ⟨⟨_, _, hown, hbX, .inr (.inl ⟨rfl, by omega, by simp [bs3]⟩)⟩, ?_⟩
              simp [intOf]
            | some a9 =>
            obtain ⟨g9, rfl, _⟩ := hA9 _ rfl
            have hnc := own_room hown
            clear hA9
            go_wp2
            refine ⟨⟨_, _, hown, hbX, .inr (.inl ⟨rfl, by omega, by simp [bs3]⟩)⟩, ?_⟩
            simp [intOf]
          | some ad =>
            have hnews : ∀ q u, (bs3 X_ T S m)[q]? = some u → wr.cell? (ad.add q) = some u := by
              intro q u hu
              have hq := (List.getElem?_eq_some_iff.1 hu).1
              rw [bs3_len] at hq
              obtain ⟨b, o, e, hc⟩ := hR (by omega)
              obtain rfl : ad = ⟨b, o, none⟩ := by simpa using e
              exact bs3_news hc q u hu
            have hl := bs3_len X_ T S m
            have hone := bs3_one X_ T S m
            go_wp2_with (at_builtin; refine wpList_append_own _ rfl _ _ 27 rfl w.heap.size 39 i0 (.agg #[.int .i64 0, .int .i64 0, .int .i64 0]) 3 24 Try.underlying27 Hi.out Hz.out hz1 hz2 rfl (by decide) _ _ _ rfl hown ad m q _ rfl hl hnews hone hc3 hc4 hc5 ?_; intro v' w3 hown2 hg2 _)
            refine ⟨⟨_, _, hown2, hbX.grown hg2 hc5 (fun k hk => (hown.lt k hk).1), .inr (.inl ⟨rfl, by omega, by simp [bs3]⟩)⟩, ?_⟩
            simp [intOf]
        · have c0 := cell_later hbX hb1
          have hR := (HH.out.2).below hbX
          have hc3 : n + m2 ≤ maxLen := by have := HM.out; unfold maxLen; omega
          have hc4 : (n + m2) * 24 ≤ 140737488355328 := by have := HM.out; omega
          have hc5 := hbX.size
          cases A2 with
          | none =>
            have h0 : m2 = 0 := by
              rcases Nat.eq_zero_or_pos m2 with e | e
              · exact e
              · obtain ⟨_, _, e2, _⟩ := hR e
                cases e2
            subst h0
            obtain rfl : q2 = 0 := HA.out.2 rfl
            obtain ⟨A9, c9, rfl, hA9, _⟩ := own_len hown
            clear hR
            cases A9 with
            | none =>
              obtain ⟨rfl, rfl⟩ := own_none hown
              go_wp2
              refine ⟨⟨_, _, hown, hbX, .inr (.inr ⟨rfl, by omega, by simp [bs3]⟩)⟩, ?_⟩
              simp [intOf]
            | some a9 =>
            obtain ⟨g9, rfl, _⟩ := hA9 _ rfl
            have hnc := own_room hown
            clear hA9
            go_wp2
            refine ⟨⟨_, _, hown, hbX, .inr (.inr ⟨rfl, by omega, by simp [bs3]⟩)⟩, ?_⟩
            simp [intOf]
          | some ad =>
            have hnews : ∀ q u, (bs3 X' T' S' m2)[q]? = some u → wr.cell? (ad.add q) = some u := by
              intro q u hu
              have hq := (List.getElem?_eq_some_iff.1 hu).1
              rw [bs3_len] at hq
              obtain ⟨b, o, e, hc⟩ := hR (by omega)
              obtain rfl : ad = ⟨b, o, none⟩ := by simpa using e
              exact bs3_news hc q u hu
            have hl := bs3_len X' T' S' m2
            have hone := bs3_one X' T' S' m2
            go_wp2_with (at_builtin; refine wpList_append_own _ rfl _ _ 27 rfl w.heap.size 39 i0 (.agg #[.int .i64 0, .int .i64 0, .int .i64 0]) 3 24 Try.underlying27 Hi.out Hz.out hz1 hz2 rfl (by decide) _ _ _ rfl hown ad m2 q2 _ rfl hl hnews hone hc3 hc4 hc5 ?_; intro v' w3 hown2 hg2 _)
            refine ⟨⟨_, _, hown2, hbX.grown hg2 hc5 (fun k hk => (hown.lt k hk).1), .inr (.inr ⟨rfl, by omega, by simp [bs3]⟩)⟩, ?_⟩
            simp [intOf]
        · go_wp2
          go_ret
          rw [bs3_cat] at hown
          exact ⟨_, rfl, hown, hbX⟩
end Go.Proofs.Ytffihnbpjcgicaa
