/- What alike, slices.Clone, slices.CompactFunc and slices.Equal answer of bands; and so band.Join and band.Same. -/
import Derived.Test.YtkiefceomgbbhaaBandE
import Derived.Lib.SliceRun
import Derived.Deep.LoopGhost
namespace Go.Proofs.Ytkiefceomgbbhaa
open Go.RowKit Go.Sort
set_option linter.unusedVariables false

theorem alike_any (a b c a' b' c' : Int) (W : World) :
    Calls Try.prog 51 #[.agg #[.int .i64 a, .int .i64 b, .int .i64 c], .agg #[.int .i64 a', .int .i64 b', .int .i64 c']] W fun e w' => e = .returned (.bool (decide (b = b' ∧ c = c'))) ∧ Below W.heap.size W w' := by
  by_cases h1 : b = b'
  · subst h1
    by_cases h2 : c = c'
    · subst h2
      go_enter Try.func51, Try.ntmps51
      go_wp2
      go_ret
      exact ⟨ret_b (by simp), ((Below.refl _ _).alloc (Nat.le_refl _) _).alloc (by simp) _⟩
    · have t2 : (c == c') = false := by simpa using h2
      have H2 := Lib.hid h2
      clear h2
      go_enter Try.func51, Try.ntmps51
      go_wp2
      go_ret
      exact ⟨ret_b (by have := H2.out; simp [this]), ((Below.refl _ _).alloc (Nat.le_refl _) _).alloc (by simp) _⟩
  · have t1 : (b == b') = false := by simpa using h1
    have H1 := Lib.hid h1
    clear h1
    go_enter Try.func51, Try.ntmps51
    go_wp2
    go_ret
    exact ⟨ret_b (by have := H1.out; simp [this]), ((Below.refl _ _).alloc (Nat.le_refl _) _).alloc (by simp) _⟩
theorem alike_b (a b c a' b' c' : Int) (v : Bool) (hv : decide (b = b' ∧ c = c') = v) (W : World) :
    Calls Try.prog 51 #[.agg #[.int .i64 a, .int .i64 b, .int .i64 c], .agg #[.int .i64 a', .int .i64 b', .int .i64 c']] W fun e w' => e = .returned (.bool v) ∧ Below W.heap.size W w' := by
  subst hv
  exact alike_any a b c a' b' c' W

theorem bds_cells {w : World} {b o n : Nat} {F R E : Nat → Int} (hc : ∀ i, i < n → w.cell? ⟨b, o + i * 3, none⟩ = some (.int .i64 (F i)) ∧ w.cell? ⟨b, o + i * 3 + 1, none⟩ = some (.int .i64 (R i)) ∧ w.cell? ⟨b, o + i * 3 + 2, none⟩ = some (.int .i64 (E i))) :
    ∀ j u, (cl (lst F R E n))[j]? = some u → w.cell? ((⟨b, o, none⟩ : Addr).add j) = some u := by
  intro j u hu
  have hj : j < n * 3 := by
    rcases Nat.lt_or_ge j (n * 3) with h | h
    · exact h
    · rw [List.getElem?_eq_none (by rw [cl_len, lst_len]; omega)] at hu; cases hu
  have hadd : (⟨b, o, none⟩ : Addr).add j = ⟨b, o + j, none⟩ := by unfold Addr.add; split <;> simp_all
  rw [hadd]
  have hi : j / 3 < n := by omega
  obtain ⟨x0, x1, x2⟩ := hc (j / 3) hi
  obtain ⟨y0, y1, y2⟩ := cl_get _ _ _ (lst_get F R E hi)
  have hm : j % 3 = 0 ∨ j % 3 = 1 ∨ j % 3 = 2 := by omega
  rcases hm with hm | hm | hm
  · have e : j = j / 3 * 3 := by omega
    rw [e] at hu
    rw [e, x0, ← hu, y0]
  · have e : j = j / 3 * 3 + 1 := by omega
    rw [e] at hu
    rw [e, show o + (j / 3 * 3 + 1) = o + j / 3 * 3 + 1 by omega, x1, ← hu, y1]
  · have e : j = j / 3 * 3 + 2 := by omega
    rw [e] at hu
    rw [e, show o + (j / 3 * 3 + 2) = o + j / 3 * 3 + 2 by omega, x2, ← hu, y2]
theorem cl_one (L : List Bd) : ∀ v ∈ cl L, v.oneCell' = true := by
  intro v hv
  simp only [cl, List.mem_flatMap] at hv
  obtain ⟨t, _, h⟩ := hv
  simp at h
  rcases h with rfl | rfl | rfl <;> rfl

set_option maxRecDepth 100000 in
set_option maxHeartbeats 1000000 in
theorem clone_any (A : Option Addr) (n c : Nat) (w : World) (F R E : Nat → Int) (h : Bds w A n F R E) (h1 : 1 ≤ n) (hn : n ≤ 100000) :
    Calls Try.prog 50 #[.slice A n c] w fun e w' => ∃ v, e = .returned v ∧ Rw w' w.heap.size v (lst F R E n) ∧ Below w.heap.size w w' := by
  obtain ⟨i0, hi0, hz0, hz1, hz2⟩ := info_parts info37
  have Hi := Lib.hid hi0
  have Hz := Lib.hid hz0
  obtain ⟨b, o, rfl, hc⟩ := h (by omega)
  have heq := Lib.run_eql_slice_nil (P := Try.prog) w 22 37 (some ⟨b, o, none⟩) n c 0 0 Try.underlying22
  have hnews := bds_cells (w := w.alloc (.cells #[] 37)) fun i hi => ⟨cell_later ((Below.refl _ _).alloc (Nat.le_refl _) _) (hc i hi).1, cell_later ((Below.refl _ _).alloc (Nat.le_refl _) _) (hc i hi).2.1, cell_later ((Below.refl _ _).alloc (Nat.le_refl _) _) (hc i hi).2.2⟩
  have hown : (w.alloc (.cells #[] 37)).ownsRow w.heap.size 37 3 (.slice (some ⟨w.heap.size, 0, none⟩) 0 0) 0 [] := World.ownsRow_lit w #[] 0 (Nat.le_refl _) (by simp) (by simp)
  have hl : (cl (lst F R E n)).length = n * 3 := by rw [cl_len, lst_len]
  have hone := cl_one (lst F R E n)
  have hc3 : 0 + n ≤ maxLen := by unfold maxLen; omega
  have hc4 : (0 + n) * 24 ≤ 140737488355328 := by omega
  have hb0 : Below w.heap.size w (w.alloc (.cells #[] 37)) := (Below.refl _ _).alloc (Nat.le_refl _) _
  have hc5 := hb0.size
  clear hi0 hz0 hc h
  go_enter Try.func50, Try.ntmps50
  go_wp2_with (at_builtin; refine wpList_append_own _ rfl _ _ 22 rfl w.heap.size 37 i0 (.agg #[.int .i64 0, .int .i64 0, .int .i64 0]) 3 24 Try.underlying22 Hi.out Hz.out hz1 hz2 rfl (by decide) _ _ _ rfl hown ⟨b, o, none⟩ n c _ rfl hl hnews hone hc3 hc4 hc5 ?_; intro v' w3 hown2 hg2 _)
  go_ret
  refine ⟨_, rfl, ?_, hb0.grown hg2 hc5 (fun k hk => (hown.lt k hk).1)⟩
  unfold Rw
  rw [lst_len]
  simpa using hown2

theorem run_clear3 {P : Program} (w : World) (t e ty : TypeId) (ht : P.underlying t = some (.slice e)) (hv : ∀ w, (zeroValue e).run P w = .ok (.agg #[.int .i64 0, .int .i64 0, .int .i64 0]) w) (b o n c : Nat) (hn : 0 < n)
    (hc : ∀ j, j < n * 3 → (w.cell? ⟨b, o + j, none⟩).isSome = true) (hf : ∀ j, j < n * 3 → w.frozen? ⟨b, o + j, none⟩ = false) :
    (Builtin.clear_ #[t] ty #[.slice (some ⟨b, o, none⟩) n c]).run P w = .ok (.tuple #[]) (w.setCells b o (List.replicate (n * 3) (.int .i64 0))) := by
  have hz : (Value.agg #[.int .i64 0, .int .i64 0, .int .i64 0]).cells = #[.int .i64 0, .int .i64 0, .int .i64 0] := rfl
  have hzc : (Builtin.zeroCells #[Value.int .i64 0, .int .i64 0, .int .i64 0] n).toList = List.replicate (n * 3) (.int .i64 0) := by
    simp only [Builtin.zeroCells]
    apply List.ext_getElem
    · simp
    · intro i h1 h2
      have hi : i % 3 = 0 ∨ i % 3 = 1 ∨ i % 3 = 2 := by omega
      simp
      rcases hi with hi | hi | hi <;> simp [hi]
  have hst := run_storeCells_cells (P := P) b o (List.replicate (n * 3) (.int .i64 0)) 0 w (by simpa using hc) (by simpa using hf) (by intro v hv'; rw [List.eq_of_mem_replicate hv']; rfl)
  simp only [Nat.add_zero] at hst
  obtain ⟨m, rfl⟩ : ∃ m, n = m + 1 := ⟨n - 1, by omega⟩
  simp [Builtin.clear_, run_underlying ht, hv, hz, hzc, hst]
theorem own_setCells {B g cap n size : Nat} {e : TypeId} : ∀ (vs : List Value) (o : Nat) (w : World) (xs : List Value), w.ownsRow B e size (.slice (some ⟨g, 0, none⟩) n cap) n xs →
    ∃ xs', (w.setCells g o vs).ownsRow B e size (.slice (some ⟨g, 0, none⟩) n cap) n xs' ∧ xs'.take o = xs.take o
  | [], o, w, xs, h => ⟨xs, h, rfl⟩
  | v :: r, o, w, xs, h => by
    obtain ⟨xs', h1, h2⟩ := own_setCells r (o + 1) _ _ (h.stored o v).1
    refine ⟨xs', h1, ?_⟩
    have : (xs'.take (o + 1)).take o = ((xs.set o v).take (o + 1)).take o := by rw [h2]
    rw [List.take_take, List.take_take] at this
    rw [show min o (o + 1) = o by omega] at this
    rw [this, List.take_set_of_le (by omega)]
theorem below_setCells {B g : Nat} (hg : B ≤ g) {a : World} : ∀ (vs : List Value) (o : Nat) (w : World), Below B a w → Below B a (w.setCells g o vs)
  | [], _, _, h => h
  | v :: r, o, w, h => below_setCells hg r (o + 1) _ (h.setCell hg v)
theorem own_grown_below {w w' : World} {B : Nat} {L : List Bd} {v : Value} (h : Rw w B v L) (hb : Below w.heap.size w w') : Rw w' B v L := own_below h hb

/-- the row while it is joined: what is joined so far, and behind it what stood there -/
def jrow (F R E : Nat → Int) (n j : Nat) : List Bd := cmj F R E j ++ (lst F R E n).drop (cmj F R E j).length
theorem jrow_len (F R E : Nat → Int) {n j : Nat} (h : j ≤ n) : (jrow F R E n j).length = n := by
  have := cmj_len F R E j
  simp [jrow, lst_len]; omega
theorem jrow_get (F R E : Nat → Int) {n j i : Nat} (h : (cmj F R E j).length ≤ i) (hi : i < n) : (jrow F R E n j)[i]? = some (F i, R i, E i) := by
  unfold jrow
  rw [List.getElem?_append_right h, List.getElem?_drop, show (cmj F R E j).length + (i - (cmj F R E j).length) = i by omega]
  exact lst_get F R E hi
theorem jrow_keep (F R E : Nat → Int) {n j : Nat} (h0 : 0 < j) (hl : lik R E j = true) : jrow F R E n (j + 1) = jrow F R E n j := by
  have : cmj F R E (j + 1) = cmj F R E j := if_pos ⟨h0, hl⟩
  simp only [jrow, this]
theorem jrow_set (F R E : Nat → Int) {n j : Nat} (hj : j < n) (hl : lik R E j = false) : (jrow F R E n j).set (cmj F R E j).length (F j, R j, E j) = jrow F R E n (j + 1) := by
  have e : cmj F R E (j + 1) = cmj F R E j ++ [(F j, R j, E j)] := if_neg (by simp [hl])
  have hq := cmj_len F R E j
  simp only [jrow, e]
  rw [List.set_append_right _ _ (Nat.le_refl _), Nat.sub_self]
  have hd : (lst F R E n).drop (cmj F R E j).length = (lst F R E n)[(cmj F R E j).length]'(by rw [lst_len]; omega) :: (lst F R E n).drop ((cmj F R E j).length + 1) := List.drop_eq_getElem_cons _
  rw [hd, List.set_cons_zero, List.length_append, List.append_assoc]
  rfl
theorem jrow_start (F R E : Nat → Int) {n k : Nat} (hk : k < n) (h0 : 0 < k) (ha : ∀ i, 0 < i → i < k → lik R E i = false) (hl : lik R E k = true) : jrow F R E n (k + 1) = lst F R E n ∧ (cmj F R E (k + 1)).length = k := by
  have e : cmj F R E (k + 1) = cmj F R E k := if_pos ⟨h0, hl⟩
  have e2 := cmj_all F R E ha
  have e3 : lst F R E k = (lst F R E n).take k := by
    simp only [lst, ← List.map_take, List.take_range]
    rw [show min k n = k by omega]
  simp only [jrow, e, e2, lst_len]
  exact ⟨by rw [e3, List.take_append_drop], trivial⟩
end Go.Proofs.Ytkiefceomgbbhaa
