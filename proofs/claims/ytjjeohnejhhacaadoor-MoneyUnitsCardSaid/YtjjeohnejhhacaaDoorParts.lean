/- An amount in parts of another one: what money.Parts answers. -/
import Derived.Test.YtjjeohnejhhacaaDoorCounts
import Derived.Laws.AppendOwn
import Derived.OwnWalk
namespace Go.Proofs.YtjjeohnejhhacaaDoor
open Go.RowKit
set_option linter.unusedVariables false
set_option linter.unusedSimpArgs false

theorem p_row_own {w : World} {base : Nat} {e : TypeId} {v : Value} {n : Nat} {f : Nat → Value} (h : w.ownsRow base e 1 v n ((List.range n).map f)) :
    ∃ A c, v = .slice A n c ∧ rowAt w A n f := by
  rcases h.2 with ⟨rfl, hn⟩ | ⟨g, cap, cur, rfl, _⟩
  · subst hn
    exact ⟨none, 0, rfl, fun h0 => absurd h0 (Nat.lt_irrefl 0)⟩
  · refine ⟨_, _, rfl, fun _ => ⟨g, 0, rfl, fun i hi => ?_⟩⟩
    have := h.cells (g := g) rfl i (f i) (by simp [hi])
    rw [Nat.zero_add]
    unfold Addr.add at this
    split at this
    · rename_i hz
      rw [hz] at this
      rw [hz]
      exact this
    · simpa using this
theorem p_own_next {w : World} {base : Nat} {e : TypeId} {v : Value} {i : Nat} {f : Nat → Value} {y : Value} (h : w.ownsRow base e 1 v (i + 1) ((List.range i).map f ++ [y])) (hy : f i = y) :
    w.ownsRow base e 1 v (i + 1) ((List.range (i + 1)).map f) := by
  rw [List.range_succ, List.map_append]
  subst hy
  exact h
theorem int64_info : (Tryd.prog.info? 2).map (fun i => (i.zero, i.size, i.bytes)) = some (some (.int .i64 0), 1, 8) := by kernel_rfl
/-- the part at a place -/
def pv (x e : Int) (i : Nat) : Int := if x - i * e ≤ e then x - i * e else e
def PN (x e : Int) (n : Nat) : Prop := n ≤ 64 ∧ x ≤ n * e ∧ (n = 0 ∨ ((n : Int) - 1) * e < x)
set_option maxHeartbeats 1000000 in
theorem pa_bad (x u : Int) (w : World) (h : (amtB x && amtB u) = false) :
    Calls Tryd.prog 31 #[.int .i64 x, .int .i64 u] w fun e w' => e = .returned (.tuple #[.slice none 0 0, .int .i64 10]) ∧ Below w.heap.size w w' := by
  have ri := fun w => right2 x u w 2 false h
  clear h
  go_enter Tryd.func31, Tryd.ntmps31
  go_wp2_with (fail)
  refine (ri _).mono ?_
  rintro e w' ⟨rfl, rfl⟩
  go_wp2
  go_ret2
  exact ⟨rfl, (Below.refl _ _).alloc (Nat.le_refl _) _⟩
set_option maxHeartbeats 1000000 in
theorem pa_neg (x u : Int) (w : World) (h : (amtB x && amtB u) = true) (hx : x < 0) :
    Calls Tryd.prog 31 #[.int .i64 x, .int .i64 u] w fun e w' => e = .returned (.tuple #[.slice none 0 0, .int .i64 1]) ∧ Below w.heap.size w w' := by
  have ri := fun w => right2 x u w 2 true h
  clear h
  go_enter Tryd.func31, Tryd.ntmps31
  go_wp2_with (fail)
  refine (ri _).mono ?_
  rintro e w' ⟨rfl, rfl⟩
  go_wp2
  go_ret2
  exact ⟨rfl, (Below.refl _ _).alloc (Nat.le_refl _) _⟩
set_option maxHeartbeats 1000000 in
theorem pa_range (x u : Int) (w : World) (h : (amtB x && amtB u) = true) (hu : u ≤ 0) :
    Calls Tryd.prog 31 #[.int .i64 x, .int .i64 u] w fun e w' => e = .returned (.tuple #[.slice none 0 0, .int .i64 1]) ∧ Below w.heap.size w w' := by
  by_cases hx : x < 0
  · exact pa_neg x u w h hx
  · have ri := fun w => right2 x u w 2 true h
    clear h
    go_enter Tryd.func31, Tryd.ntmps31
    go_wp2_with (fail)
    refine (ri _).mono ?_
    rintro e w' ⟨rfl, rfl⟩
    go_wp2
    go_ret2
    exact ⟨rfl, (Below.refl _ _).alloc (Nat.le_refl _) _⟩
set_option maxHeartbeats 1000000 in
theorem pa_long (x u : Int) (w : World) (h : (amtB x && amtB u) = true) (hx : 0 ≤ x) (hu : 1 ≤ u) (hl : 64 * u < x) :
    Calls Tryd.prog 31 #[.int .i64 x, .int .i64 u] w fun e w' => e = .returned (.tuple #[.slice none 0 0, .int .i64 2]) ∧ Below w.heap.size w w' := by
  have ri := fun w => right2 x u w 2 true h
  obtain ⟨ha, hb⟩ := Bool.and_eq_true_iff.1 h
  obtain ⟨x1, x2⟩ := amtB_yes ha
  obtain ⟨u1, u2⟩ := amtB_yes hb
  clear h ha hb
  go_enter Tryd.func31, Tryd.ntmps31
  go_wp2_with (fail)
  refine (ri _).mono ?_
  rintro e w' ⟨rfl, rfl⟩
  go_wp2
  go_ret2
  exact ⟨rfl, (Below.refl _ _).alloc (Nat.le_refl _) _⟩
theorem few {x u L : Int} {i : Nat} (hu : 1 ≤ u) (h : L + i * u = x) (hL : 0 < L) (hx : x ≤ 64 * u) : i < 64 := by
  have : (i : Int) * u < 64 * u := by omega
  have := Int.lt_of_mul_lt_mul_right this (by omega)
  omega
theorem next_left {x u L : Int} {i : Nat} (h : L + i * u = x) : (L - u) + ((i + 1 : Nat) : Int) * u = x := by
  have : ((i + 1 : Nat) : Int) * u = i * u + u := by
    rw [Int.natCast_add, Int.add_mul]; simp
  omega
theorem pv_at {x u L : Int} {i : Nat} (h : L + i * u = x) : pv x u i = if L ≤ u then L else u := by
  unfold pv
  rw [show x - i * u = L by omega]
def PaOk (x u : Int) (w : World) (e : Ending) (w' : World) : Prop := ∃ (A : Option Addr) (n c : Nat), e = .returned (.tuple #[.slice A n c, .int .i64 0]) ∧ PN x u n ∧ rowAt w' A n (fun i => .int .i64 (pv x u i)) ∧ Below w.heap.size w w'
set_option maxHeartbeats 2000000 in
set_option maxRecDepth 100000 in
theorem pa_ok (x u : Int) (w : World) (h : (amtB x && amtB u) = true) (hx : 0 ≤ x) (hu : 1 ≤ u) (hl : ¬ 64 * u < x) :
    Calls Tryd.prog 31 #[.int .i64 x, .int .i64 u] w fun e w' => PaOk x u w e w' := by
  have ri := fun w => right2 x u w 2 true h
  obtain ⟨ha, hb⟩ := Bool.and_eq_true_iff.1 h
  obtain ⟨x1, x2⟩ := amtB_yes ha
  obtain ⟨u1, u2⟩ := amtB_yes hb
  clear h ha hb
  obtain ⟨i0, hi, hz0, hz1, hz2⟩ := info_parts int64_info
  go_enter Tryd.func31, Tryd.ntmps31
  go_wp2_with (fail)
  refine (ri _).mono ?_
  rintro e w1 ⟨rfl, rfl⟩
  go_wp2
  generalize hw1 : w.alloc (.cells #[.int .i64 x, .int .i64 u] 2) = w1 at *
  have hb1 : Below w.heap.size w w1 := by rw [← hw1]; exact (Below.refl _ _).alloc (Nat.le_refl _) _
  clear hw1 ri
  go_loopw [6, 7] (fun l v wr => ∃ (i : Nat) (L : Int), v = .int .i64 L ∧ L ≤ x ∧ -u < L ∧ Hid (L + i * u = x) ∧ i ≤ 64 ∧ Hid (i = 0 ∨ 0 < L + u) ∧ wr.ownsRow w1.heap.size 2 1 l i ((List.range i).map fun j => .int .i64 (pv x u j)) ∧ Below w1.heap.size w1 wr) (fun _ v _ => (intOf v).toNat)
  case atStart => exact ⟨0, x, rfl, by omega, by omega, Lib.hid (by simp), by omega, Lib.hid (.inl rfl), World.ownsRow_nil _ _ _ _, Below.refl _ _⟩
  case round =>
    obtain ⟨i, L, rfl, hLx, hLu, HL, hi64, HN, hown, hbr⟩ := hrel
    by_cases hpos : 0 < L
    · have h64 := few hu HL.out hpos (by omega)
      have HV := Lib.hid (pv_at HL.out)
      have HX := Lib.hid (next_left HL.out)
      have hc3 : i + 1 ≤ maxLen := by unfold maxLen; omega
      have hc4 : (i + 1) * 8 ≤ 140737488355328 := by omega
      have HP := Lib.hid (show pv x u i = min L u by rw [HV.out]; split <;> omega)
      have hc1 := cell_one_new wr (.int .i64 (min L u)) 2
      have hc2 : ∀ v ∈ [Value.int .i64 (min L u)], v.oneCell' = true := by simp [Value.oneCell']
      have hc5 : w1.heap.size ≤ (wr.alloc (.cells #[.int .i64 (min L u)] 2)).heap.size := by have := hbr.size; simp; omega
      clear HV HN
      go_wp2_with (at_builtin; refine wpList_append_own _ rfl _ _ 30 rfl w1.heap.size 2 i0 (.int .i64 0) 1 8 Tryd.underlying30 hi hz0 hz1 hz2 rfl (by decide) _ _ _ rfl (hown.alloc _) ⟨wr.heap.size, 0, none⟩ 1 1 [.int .i64 (min L u)] rfl rfl hc1 hc2 hc3 hc4 hc5 ?_; intro v' w2 hown2 hg2 _)
      have hbr2 : Below w1.heap.size w1 w2 := (hbr.alloc hbr.size _).grown hg2 hc5 (fun k hk => (hown.lt k hk).1)
      go_roundw
      case rel => exact ⟨i + 1, L - u, by go_num, by omega, by omega, HX, by omega, Lib.hid (.inr (by omega)), p_own_next hown2 (by rw [HP.out]), hbr2⟩
      case measure => simp [intOf]; omega
    · obtain ⟨A, c, rfl, hrow⟩ := p_row_own hown
      have HPN : Hid (PN x u i) := Lib.hid ⟨hi64, by have := HL.out; omega, by
        rcases HN.out with e | e
        · exact .inl e
        · refine .inr ?_
          rw [Int.sub_mul]
          have := HL.out
          omega⟩
      go_wp2
      go_ret2
      exact ⟨A, i, c, rfl, HPN.out, hrow, below_step hb1 hbr hb1.size⟩
end Go.Proofs.YtjjeohnejhhacaaDoor
