/- What slices.Clone answers of the rows that a table has. -/
import Derived.Test.YtobdbjmpoefebaaDoorTabX
import Derived.Laws.OwnMore
import Derived.Lib.SliceRun
namespace Go.Proofs.YtobdbjmpoefebaaDoor
open Go.RowKit
set_option linter.unusedVariables false
set_option linter.unusedSimpArgs false

theorem flat_len {g : Nat → List Value} {k : Nat} (hg : ∀ i, (g i).length = k) (n : Nat) : ((List.range n).flatMap g).length = n * k := by
  induction n with
  | zero => simp
  | succ n ih => rw [List.range_succ, List.flatMap_append, List.length_append, ih]; simp [hg, Nat.add_mul]
theorem flat_get {g : Nat → List Value} {k : Nat} (hg : ∀ i, (g i).length = k) {n i j : Nat} (hi : i < n) (hj : j < k) : ((List.range n).flatMap g)[i * k + j]? = (g i)[j]? := by
  induction n with
  | zero => omega
  | succ n ih =>
    rw [List.range_succ, List.flatMap_append]
    by_cases h : i < n
    · have hlt : i * k + j < n * k := by
        have : (i + 1) * k ≤ n * k := Nat.mul_le_mul_right k (by omega)
        rw [Nat.add_mul] at this
        omega
      rw [List.getElem?_append_left (by rw [flat_len hg]; exact hlt)]
      exact ih h
    · obtain rfl : i = n := by omega
      rw [List.getElem?_append_right (by rw [flat_len hg]; omega), flat_len hg, show i * k + j - i * k = j by omega]
      simp
/-- a row of n elements of k cells each, wherever it lies -/
def RowG (w : World) (A : Option Addr) (n k : Nat) (g : Nat → List Value) : Prop := 0 < n → ∃ b o, A = some ⟨b, o, none⟩ ∧ ∀ i, i < n → ∀ j, j < k → w.cell? ⟨b, o + i * k + j, none⟩ = (g i)[j]?
theorem RowG.below {w w' : World} {A : Option Addr} {n k : Nat} {g : Nat → List Value} (hg : ∀ i, (g i).length = k) (h : RowG w A n k g) (hb : Below w.heap.size w w') : RowG w' A n k g := fun hn => by
  obtain ⟨b, o, e, hc⟩ := h hn
  refine ⟨b, o, e, fun i hi j hj => ?_⟩
  have := hc i hi j hj
  rw [List.getElem?_eq_getElem (by rw [hg]; exact hj)] at this ⊢
  exact cell_later hb this
theorem flat_news {w : World} {b o n k : Nat} {g : Nat → List Value} (hk : 0 < k) (hg : ∀ i, (g i).length = k) (hc : ∀ i, i < n → ∀ j, j < k → w.cell? ⟨b, o + i * k + j, none⟩ = (g i)[j]?) : ∀ q u, ((List.range n).flatMap g)[q]? = some u → w.cell? ((⟨b, o, none⟩ : Addr).add q) = some u := by
  intro q u hu
  have hq : q < n * k := by
    have := (List.getElem?_eq_some_iff.1 hu).1
    rwa [flat_len hg] at this
  have hi : q / k < n := Nat.div_lt_of_lt_mul (by rwa [Nat.mul_comm])
  have hj : q % k < k := Nat.mod_lt _ hk
  have e : q / k * k + q % k = q := by rw [Nat.mul_comm]; exact Nat.div_add_mod q k
  rw [Go.WideShapes.add_plain]
  have := hc _ hi _ hj
  rw [Nat.add_assoc, e] at this
  rw [this, ← flat_get hg hi hj, e]
  exact hu
theorem flat_one {g : Nat → List Value} {n : Nat} (h : ∀ i, i < n → ∀ v, v ∈ g i → v.oneCell' = true) : ∀ v ∈ (List.range n).flatMap g, v.oneCell' = true := by
  intro v hv
  rw [List.mem_flatMap] at hv
  obtain ⟨i, hi, hv⟩ := hv
  exact h i (List.mem_range.1 hi) v hv
theorem info_bands : (Tryd.prog.info? 85).map (fun i => (i.zero, i.size, i.bytes)) = some (some (.agg #[.int .i64 0, .int .i64 0, .int .i64 0]), 3, 24) := by kernel_rfl
set_option maxRecDepth 100000 in
set_option maxHeartbeats 1000000 in
theorem clone_bands (A : Option Addr) (n c : Nat) (w : World) (g : Nat → List Value) (hg : ∀ i, (g i).length = 3) (h : RowG w A n 3 g) (h1 : ∀ i, i < n → ∀ v, v ∈ g i → v.oneCell' = true) (hn : n ≤ 100000) (hA : A = none → c = 0) :
    Calls Tryd.prog 46 #[.slice A n c] w fun e w' => ∃ v, e = .returned v ∧ w'.ownsRow w.heap.size 85 3 v n ((List.range n).flatMap g) ∧ Below w.heap.size w w' := by
  cases A with
  | none =>
    have h0 : n = 0 := by
      rcases Nat.eq_zero_or_pos n with q | q
      · exact q
      · obtain ⟨b, o, e, _⟩ := h q
        cases e
    subst h0
    obtain rfl := hA rfl
    have heq := Lib.run_eql_slice_nil (P := Tryd.prog) w 78 85 none 0 0 0 0 Tryd.underlying78
    go_enter Tryd.func46, Tryd.ntmps46
    go_wp2
    go_ret
    exact ⟨_, rfl, World.ownsRow_nil _ _ _ _, Below.refl _ _⟩
  | some ad =>
    obtain ⟨i0, hi0, hz0, hz1, hz2⟩ := info_parts info_bands
    have Hi := Lib.hid hi0
    have Hz := Lib.hid hz0
    have heq := Lib.run_eql_slice_nil (P := Tryd.prog) w 78 85 (some ad) n c 0 0 Tryd.underlying78
    have hb0 : Below w.heap.size w (w.alloc (.cells #[] 85)) := (Below.refl _ _).alloc (Nat.le_refl _) _
    have hr := h.below hg hb0
    have hnews : ∀ q u, ((List.range n).flatMap g)[q]? = some u → (w.alloc (.cells #[] 85)).cell? (ad.add q) = some u := by
      intro q u hu
      have hq := (List.getElem?_eq_some_iff.1 hu).1
      rw [flat_len hg] at hq
      have hn0 : 0 < n := by
        rcases Nat.eq_zero_or_pos n with q | q
        · subst q; omega
        · exact q
      obtain ⟨b, o, e, hc⟩ := hr hn0
      have hA' : ad = ⟨b, o, none⟩ := by simpa using e
      subst hA'
      exact flat_news (by omega) hg hc q u hu
    have hown : (w.alloc (.cells #[] 85)).ownsRow w.heap.size 85 3 (.slice (some ⟨w.heap.size, 0, none⟩) 0 0) 0 [] := World.ownsRow_lit w #[] 0 (Nat.le_refl _) (by unfold maxLen; omega) (by simp)
    have hl := flat_len hg n
    have hone := flat_one h1
    have hc3 : 0 + n ≤ maxLen := by unfold maxLen; omega
    have hc4 : (0 + n) * 24 ≤ 140737488355328 := by omega
    have hc5 := hb0.size
    clear hi0 hz0 h hr h1
    go_enter Tryd.func46, Tryd.ntmps46
    go_wp2_with (at_builtin; refine wpList_append_own _ rfl _ _ 78 rfl w.heap.size 85 i0 (.agg #[.int .i64 0, .int .i64 0, .int .i64 0]) 3 24 Tryd.underlying78 Hi.out Hz.out hz1 hz2 rfl (by decide) _ _ _ rfl hown ad n c _ rfl hl hnews hone hc3 hc4 hc5 ?_; intro v' w3 hown2 hg2 _)
    go_ret
    refine ⟨_, rfl, ?_, hb0.grown hg2 hc5 (fun k hk => (hown.lt k hk).1)⟩
    simpa using hown2
theorem info_schemes : (Tryd.prog.info? 78).map (fun i => (i.zero, i.size, i.bytes)) = some (some (.slice none 0 0), 1, 24) := by kernel_rfl
set_option maxRecDepth 100000 in
set_option maxHeartbeats 1000000 in
theorem clone_schemes (A : Option Addr) (n c : Nat) (w : World) (g : Nat → List Value) (hg : ∀ i, (g i).length = 1) (h : RowG w A n 1 g) (h1 : ∀ i, i < n → ∀ v, v ∈ g i → v.oneCell' = true) (hn : n ≤ 100000) (hA : A = none → c = 0) :
    Calls Tryd.prog 45 #[.slice A n c] w fun e w' => ∃ v, e = .returned v ∧ w'.ownsRow w.heap.size 78 1 v n ((List.range n).flatMap g) ∧ Below w.heap.size w w' := by
  cases A with
  | none =>
    have h0 : n = 0 := by
      rcases Nat.eq_zero_or_pos n with q | q
      · exact q
      · obtain ⟨b, o, e, _⟩ := h q
        cases e
    subst h0
    obtain rfl := hA rfl
    have heq := Lib.run_eql_slice_nil (P := Tryd.prog) w 22 78 none 0 0 0 0 Tryd.underlying22
    go_enter Tryd.func45, Tryd.ntmps45
    go_wp2
    go_ret
    exact ⟨_, rfl, World.ownsRow_nil _ _ _ _, Below.refl _ _⟩
  | some ad =>
    obtain ⟨i0, hi0, hz0, hz1, hz2⟩ := info_parts info_schemes
    have Hi := Lib.hid hi0
    have Hz := Lib.hid hz0
    have heq := Lib.run_eql_slice_nil (P := Tryd.prog) w 22 78 (some ad) n c 0 0 Tryd.underlying22
    have hb0 : Below w.heap.size w (w.alloc (.cells #[] 78)) := (Below.refl _ _).alloc (Nat.le_refl _) _
    have hr := h.below hg hb0
    have hnews : ∀ q u, ((List.range n).flatMap g)[q]? = some u → (w.alloc (.cells #[] 78)).cell? (ad.add q) = some u := by
      intro q u hu
      have hq := (List.getElem?_eq_some_iff.1 hu).1
      rw [flat_len hg] at hq
      have hn0 : 0 < n := by
        rcases Nat.eq_zero_or_pos n with q | q
        · subst q; omega
        · exact q
      obtain ⟨b, o, e, hc⟩ := hr hn0
      have hA' : ad = ⟨b, o, none⟩ := by simpa using e
      subst hA'
      exact flat_news (by omega) hg hc q u hu
    have hown : (w.alloc (.cells #[] 78)).ownsRow w.heap.size 78 1 (.slice (some ⟨w.heap.size, 0, none⟩) 0 0) 0 [] := World.ownsRow_lit w #[] 0 (Nat.le_refl _) (by unfold maxLen; omega) (by simp)
    have hl := flat_len hg n
    have hone := flat_one h1
    have hc3 : 0 + n ≤ maxLen := by unfold maxLen; omega
    have hc4 : (0 + n) * 24 ≤ 140737488355328 := by omega
    have hc5 := hb0.size
    clear hi0 hz0 h hr h1
    go_enter Tryd.func45, Tryd.ntmps45
    go_wp2_with (at_builtin; refine wpList_append_own _ rfl _ _ 22 rfl w.heap.size 78 i0 (.slice none 0 0) 1 24 Tryd.underlying22 Hi.out Hz.out hz1 hz2 rfl (by decide) _ _ _ rfl hown ad n c _ rfl hl hnews hone hc3 hc4 hc5 ?_; intro v' w3 hown2 hg2 _)
    go_ret
    refine ⟨_, rfl, ?_, hb0.grown hg2 hc5 (fun k hk => (hown.lt k hk).1)⟩
    simpa using hown2
theorem info_contribs : (Tryd.prog.info? 80).map (fun i => (i.zero, i.size, i.bytes)) = some (some (.agg #[.string ⟨#[]⟩, .int .i64 0, .slice none 0 0, .int .i64 0, .int .i64 0, .int .i64 0]), 6, 72) := by kernel_rfl
set_option maxRecDepth 100000 in
set_option maxHeartbeats 1000000 in
theorem clone_contribs (A : Option Addr) (n c : Nat) (w : World) (g : Nat → List Value) (hg : ∀ i, (g i).length = 6) (h : RowG w A n 6 g) (h1 : ∀ i, i < n → ∀ v, v ∈ g i → v.oneCell' = true) (hn : n ≤ 100000) (hA : A = none → c = 0) :
    Calls Tryd.prog 47 #[.slice A n c] w fun e w' => ∃ v, e = .returned v ∧ w'.ownsRow w.heap.size 80 6 v n ((List.range n).flatMap g) ∧ Below w.heap.size w w' := by
  cases A with
  | none =>
    have h0 : n = 0 := by
      rcases Nat.eq_zero_or_pos n with q | q
      · exact q
      · obtain ⟨b, o, e, _⟩ := h q
        cases e
    subst h0
    obtain rfl := hA rfl
    have heq := Lib.run_eql_slice_nil (P := Tryd.prog) w 23 80 none 0 0 0 0 Tryd.underlying23
    go_enter Tryd.func47, Tryd.ntmps47
    go_wp2
    go_ret
    exact ⟨_, rfl, World.ownsRow_nil _ _ _ _, Below.refl _ _⟩
  | some ad =>
    obtain ⟨i0, hi0, hz0, hz1, hz2⟩ := info_parts info_contribs
    have Hi := Lib.hid hi0
    have Hz := Lib.hid hz0
    have heq := Lib.run_eql_slice_nil (P := Tryd.prog) w 23 80 (some ad) n c 0 0 Tryd.underlying23
    have hb0 : Below w.heap.size w (w.alloc (.cells #[] 80)) := (Below.refl _ _).alloc (Nat.le_refl _) _
    have hr := h.below hg hb0
    have hnews : ∀ q u, ((List.range n).flatMap g)[q]? = some u → (w.alloc (.cells #[] 80)).cell? (ad.add q) = some u := by
      intro q u hu
      have hq := (List.getElem?_eq_some_iff.1 hu).1
      rw [flat_len hg] at hq
      have hn0 : 0 < n := by
        rcases Nat.eq_zero_or_pos n with q | q
        · subst q; omega
        · exact q
      obtain ⟨b, o, e, hc⟩ := hr hn0
      have hA' : ad = ⟨b, o, none⟩ := by simpa using e
      subst hA'
      exact flat_news (by omega) hg hc q u hu
    have hown : (w.alloc (.cells #[] 80)).ownsRow w.heap.size 80 6 (.slice (some ⟨w.heap.size, 0, none⟩) 0 0) 0 [] := World.ownsRow_lit w #[] 0 (Nat.le_refl _) (by unfold maxLen; omega) (by simp)
    have hl := flat_len hg n
    have hone := flat_one h1
    have hc3 : 0 + n ≤ maxLen := by unfold maxLen; omega
    have hc4 : (0 + n) * 72 ≤ 140737488355328 := by omega
    have hc5 := hb0.size
    clear hi0 hz0 h hr h1
    go_enter Tryd.func47, Tryd.ntmps47
    go_wp2_with (at_builtin; refine wpList_append_own _ rfl _ _ 23 rfl w.heap.size 80 i0 (.agg #[.string ⟨#[]⟩, .int .i64 0, .slice none 0 0, .int .i64 0, .int .i64 0, .int .i64 0]) 6 72 Tryd.underlying23 Hi.out Hz.out hz1 hz2 rfl (by decide) _ _ _ rfl hown ad n c _ rfl hl hnews hone hc3 hc4 hc5 ?_; intro v' w3 hown2 hg2 _)
    go_ret
    refine ⟨_, rfl, ?_, hb0.grown hg2 hc5 (fun k hk => (hown.lt k hk).1)⟩
    simpa using hown2
theorem info_kinds : (Tryd.prog.info? 53).map (fun i => (i.zero, i.size, i.bytes)) = some (some (.agg #[.string ⟨#[]⟩, .int .i64 0, .int .i64 0, .int .i64 0]), 4, 40) := by kernel_rfl
set_option maxRecDepth 100000 in
set_option maxHeartbeats 1000000 in
theorem clone_kinds (A : Option Addr) (n c : Nat) (w : World) (g : Nat → List Value) (hg : ∀ i, (g i).length = 4) (h : RowG w A n 4 g) (h1 : ∀ i, i < n → ∀ v, v ∈ g i → v.oneCell' = true) (hn : n ≤ 100000) (hA : A = none → c = 0) :
    Calls Tryd.prog 49 #[.slice A n c] w fun e w' => ∃ v, e = .returned v ∧ w'.ownsRow w.heap.size 53 4 v n ((List.range n).flatMap g) ∧ Below w.heap.size w w' := by
  cases A with
  | none =>
    have h0 : n = 0 := by
      rcases Nat.eq_zero_or_pos n with q | q
      · exact q
      · obtain ⟨b, o, e, _⟩ := h q
        cases e
    subst h0
    obtain rfl := hA rfl
    have heq := Lib.run_eql_slice_nil (P := Tryd.prog) w 24 53 none 0 0 0 0 Tryd.underlying24
    go_enter Tryd.func49, Tryd.ntmps49
    go_wp2
    go_ret
    exact ⟨_, rfl, World.ownsRow_nil _ _ _ _, Below.refl _ _⟩
  | some ad =>
    obtain ⟨i0, hi0, hz0, hz1, hz2⟩ := info_parts info_kinds
    have Hi := Lib.hid hi0
    have Hz := Lib.hid hz0
    have heq := Lib.run_eql_slice_nil (P := Tryd.prog) w 24 53 (some ad) n c 0 0 Tryd.underlying24
    have hb0 : Below w.heap.size w (w.alloc (.cells #[] 53)) := (Below.refl _ _).alloc (Nat.le_refl _) _
    have hr := h.below hg hb0
    have hnews : ∀ q u, ((List.range n).flatMap g)[q]? = some u → (w.alloc (.cells #[] 53)).cell? (ad.add q) = some u := by
      intro q u hu
      have hq := (List.getElem?_eq_some_iff.1 hu).1
      rw [flat_len hg] at hq
      have hn0 : 0 < n := by
        rcases Nat.eq_zero_or_pos n with q | q
        · subst q; omega
        · exact q
      obtain ⟨b, o, e, hc⟩ := hr hn0
      have hA' : ad = ⟨b, o, none⟩ := by simpa using e
      subst hA'
      exact flat_news (by omega) hg hc q u hu
    have hown : (w.alloc (.cells #[] 53)).ownsRow w.heap.size 53 4 (.slice (some ⟨w.heap.size, 0, none⟩) 0 0) 0 [] := World.ownsRow_lit w #[] 0 (Nat.le_refl _) (by unfold maxLen; omega) (by simp)
    have hl := flat_len hg n
    have hone := flat_one h1
    have hc3 : 0 + n ≤ maxLen := by unfold maxLen; omega
    have hc4 : (0 + n) * 40 ≤ 140737488355328 := by omega
    have hc5 := hb0.size
    clear hi0 hz0 h hr h1
    go_enter Tryd.func49, Tryd.ntmps49
    go_wp2_with (at_builtin; refine wpList_append_own _ rfl _ _ 24 rfl w.heap.size 53 i0 (.agg #[.string ⟨#[]⟩, .int .i64 0, .int .i64 0, .int .i64 0]) 4 40 Tryd.underlying24 Hi.out Hz.out hz1 hz2 rfl (by decide) _ _ _ rfl hown ad n c _ rfl hl hnews hone hc3 hc4 hc5 ?_; intro v' w3 hown2 hg2 _)
    go_ret
    refine ⟨_, rfl, ?_, hb0.grown hg2 hc5 (fun k hk => (hown.lt k hk).1)⟩
    simpa using hown2
end Go.Proofs.YtobdbjmpoefebaaDoor

