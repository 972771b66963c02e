/- Rows of bases of the call's own, and what slices.Clone of such a row answers. -/
import Derived.Test.YtffihnbpjcgicaaShrC
import Derived.Test.YtffihnbpjcgicaaSocF
import Derived.Laws.OwnMore
import Derived.Lib.SliceRun
import Derived.OwnWalk
import Derived.Deep.RegionWith
namespace Go.Proofs.Ytffihnbpjcgicaa
open Go.RowKit Go.Sort
set_option linter.unusedVariables false
set_option linter.unusedSimpArgs false

/-- a row of a list's cells, of the call's own -/
def ClP (el : TypeId) (k : Nat) (xs : List Value) (n : Nat) (w : World) (e : Ending) (w' : World) : Prop := ∃ v, e = .returned v ∧ w'.ownsRow w.heap.size el k v n xs ∧ Below w.heap.size w w'
/-- bases, cell by cell -/
def bs3 (X T S : Nat → Int) : Nat → List Value
  | 0 => []
  | n + 1 => bs3 X T S n ++ [.int .i64 (X n), .int .i64 (T n), .int .i64 (S n)]
theorem bs3_len (X T S : Nat → Int) (n : Nat) : (bs3 X T S n).length = n * 3 := by
  induction n with
  | zero => rfl
  | succ n ih => simp [bs3, ih]; omega
theorem bs3_get (X T S : Nat → Int) {n i j : Nat} (hi : i < n) (hj : j < 3) : (bs3 X T S n)[i * 3 + j]? = ([.int .i64 (X i), .int .i64 (T i), .int .i64 (S i)] : List Value)[j]? := by
  induction n with
  | zero => omega
  | succ n ih =>
    show (bs3 X T S n ++ [.int .i64 (X n), .int .i64 (T n), .int .i64 (S n)])[i * 3 + j]? = _
    by_cases h : i < n
    · rw [List.getElem?_append_left (by rw [bs3_len]; omega)]; exact ih h
    · obtain rfl : i = n := by omega
      rw [List.getElem?_append_right (by rw [bs3_len]; omega), bs3_len, show i * 3 + j - i * 3 = j by omega]
theorem bs3_one (X T S : Nat → Int) (n : Nat) : ∀ v ∈ bs3 X T S n, v.oneCell' = true := by
  induction n with
  | zero => intro v hv; cases hv
  | succ n ih =>
    intro v hv
    rcases List.mem_append.1 (show v ∈ bs3 X T S n ++ [.int .i64 (X n), .int .i64 (T n), .int .i64 (S n)] from hv) with h | h
    · exact ih v h
    · simp at h
      rcases h with rfl | rfl | rfl <;> rfl
theorem bs3_congr {X T S X' T' S' : Nat → Int} {n : Nat} (h : ∀ i, i < n → X i = X' i ∧ T i = T' i ∧ S i = S' i) : bs3 X T S n = bs3 X' T' S' n := by
  induction n with
  | zero => rfl
  | succ n ih =>
    show bs3 X T S n ++ _ = bs3 X' T' S' n ++ _
    rw [ih fun i hi => h i (by omega), (h n (by omega)).1, (h n (by omega)).2.1, (h n (by omega)).2.2]
/-- two lists of bases, one behind the other -/
def cat (m : Nat) (f g : Nat → Int) (i : Nat) : Int := if i < m then f i else g (i - m)
theorem bs3_cat (X T S X' T' S' : Nat → Int) (m : Nat) : ∀ n, bs3 X T S m ++ bs3 X' T' S' n = bs3 (cat m X X') (cat m T T') (cat m S S') (m + n)
  | 0 => by
    rw [Nat.add_zero]
    show bs3 X T S m ++ [] = _
    rw [List.append_nil]
    exact bs3_congr fun i hi => by simp [cat, hi]
  | n + 1 => by
    show bs3 X T S m ++ (bs3 X' T' S' n ++ _) = bs3 _ _ _ (m + n) ++ _
    rw [← List.append_assoc, bs3_cat X T S X' T' S' m n]
    have e : ¬ m + n < m := by omega
    simp [cat]
    omega
theorem bs3_news {w : World} {b o n : Nat} {X T S : Nat → Int} (hc : ∀ i, i < n → w.cell? ⟨b, o + i * 3, none⟩ = some (.int .i64 (X i)) ∧ w.cell? ⟨b, o + i * 3 + 1, none⟩ = some (.int .i64 (T i)) ∧ w.cell? ⟨b, o + i * 3 + 2, none⟩ = some (.int .i64 (S i))) : ∀ q u, (bs3 X T S n)[q]? = some u → w.cell? ((⟨b, o, none⟩ : Addr).add q) = some u := by
  intro q u hu
  have hq : q < n * 3 := by
    have := (List.getElem?_eq_some_iff.1 hu).1
    rwa [bs3_len] at this
  obtain ⟨i, j, rfl, hi, hj⟩ : ∃ i j, q = i * 3 + j ∧ i < n ∧ j < 3 := ⟨q / 3, q % 3, by omega, by omega, by omega⟩
  rw [bs3_get X T S hi hj] at hu
  rw [Go.WideShapes.add_plain]
  obtain ⟨h0, h1, h2⟩ := hc i hi
  rcases (show j = 0 ∨ j = 1 ∨ j = 2 by omega) with rfl | rfl | rfl
  · exact h0.trans hu
  · exact h1.trans hu
  · exact h2.trans hu
/-- a row of the call's own is bases in memory -/
theorem bas_own {w : World} {B n : Nat} {e : TypeId} {A : Option Addr} {c : Nat} {X T S : Nat → Int} (h : w.ownsRow B e 3 (.slice A n c) n (bs3 X T S n)) : BasM w A n X T S := fun hn => by
  obtain ⟨A', c', e, hA, hg⟩ := own_len h
  obtain ⟨g, rfl⟩ := hg hn
  obtain ⟨rfl, _, rfl⟩ := Value.slice.inj e
  refine ⟨g, 0, rfl, fun i hi => ?_⟩
  rw [Nat.zero_add]
  exact ⟨own_cells h ((bs3_get X T S hi (j := 0) (by omega)).trans rfl), own_cells h ((bs3_get X T S hi (j := 1) (by omega)).trans rfl), own_cells h ((bs3_get X T S hi (j := 2) (by omega)).trans rfl)⟩
theorem infoBs : (Try.prog.info? 39).map (fun i => (i.zero, i.size, i.bytes)) = some (some (.agg #[.int .i64 0, .int .i64 0, .int .i64 0]), 3, 24) := by kernel_rfl
set_option maxRecDepth 100000 in
set_option maxHeartbeats 1000000 in
theorem clo3b (A : Option Addr) (n c : Nat) (w : World) (X T S : Nat → Int) (h : BasM w A n X T S) (hn : n ≤ 100000) (hA : A = none → c = 0) :
    Calls Try.prog 11 #[.slice A n c] w (ClP 39 3 (bs3 X T S n) n w) := by
  cases A with
  | none =>
    have h0 : n = 0 := by
      rcases Nat.eq_zero_or_pos n with q | q
      · exact q
      · obtain ⟨b, o, e, _⟩ := h q
        cases e
    subst h0
    obtain rfl := hA rfl
    have heq := Lib.run_eql_slice_nil (P := Try.prog) w 27 39 none 0 0 0 0 Try.underlying27
    go_enter Try.func11, Try.ntmps11
    go_wp2
    go_ret
    exact ⟨_, rfl, World.ownsRow_nil _ _ _ _, Below.refl _ _⟩
  | some ad =>
    obtain ⟨i0, hi0, hz0, hz1, hz2⟩ := info_parts infoBs
    have Hi := Lib.hid hi0
    have Hz := Lib.hid hz0
    have heq := Lib.run_eql_slice_nil (P := Try.prog) w 27 39 (some ad) n c 0 0 Try.underlying27
    have hb0 : Below w.heap.size w (w.alloc (.cells #[] 39)) := (Below.refl _ _).alloc (Nat.le_refl _) _
    have hr := h.below hb0
    have hnews : ∀ q u, (bs3 X T S n)[q]? = some u → (w.alloc (.cells #[] 39)).cell? (ad.add q) = some u := by
      intro q u hu
      have hq := (List.getElem?_eq_some_iff.1 hu).1
      rw [bs3_len X T S n] at hq
      have hn0 : 0 < n := by omega
      obtain ⟨b, o, e, hc⟩ := hr hn0
      have hA' : ad = ⟨b, o, none⟩ := by simpa using e
      subst hA'
      exact bs3_news hc q u hu
    have hown : (w.alloc (.cells #[] 39)).ownsRow w.heap.size 39 3 (.slice (some ⟨w.heap.size, 0, none⟩) 0 0) 0 [] := World.ownsRow_lit w #[] 0 (Nat.le_refl _) (by unfold maxLen; omega) (by simp)
    have hl := bs3_len X T S n
    have hone := bs3_one X T S n
    have hc3 : 0 + n ≤ maxLen := by unfold maxLen; omega
    have hc4 : (0 + n) * 24 ≤ 140737488355328 := by omega
    have hc5 := hb0.size
    clear hi0 hz0 h hr
    go_enter Try.func11, Try.ntmps11
    go_wp2_with (at_builtin; refine wpList_append_own _ rfl _ _ 27 rfl w.heap.size 39 i0 (.agg #[.int .i64 0, .int .i64 0, .int .i64 0]) 3 24 Try.underlying27 Hi.out Hz.out hz1 hz2 rfl (by decide) _ _ _ rfl hown ad n c _ rfl hl hnews hone hc3 hc4 hc5 ?_; intro v' w3 hown2 hg2 _)
    go_ret
    refine ⟨_, rfl, ?_, hb0.grown hg2 hc5 (fun k hk => (hown.lt k hk).1)⟩
    simpa using hown2
/-- a row of the call's own, cut back to nothing, keeps its room -/
theorem own_cut {w : World} {B n k : Nat} {e : TypeId} {A : Option Addr} {c : Nat} {xs : List Value} (h : w.ownsRow B e k (.slice A n c) n xs) : w.ownsRow B e k (.slice A 0 c) 0 [] := by
  obtain ⟨hl, h | ⟨g, cap, cur, hv, hg, hh, h1, h2, h3, h4⟩⟩ := h
  · obtain ⟨rfl, rfl, rfl⟩ := Value.slice.inj h.1
    exact World.ownsRow_nil _ _ _ _
  · obtain ⟨rfl, _, rfl⟩ := Value.slice.inj hv
    exact ⟨by simp, .inr ⟨g, c, cur, rfl, hg, hh, Nat.zero_le _, h2, h3, by simp⟩⟩
end Go.Proofs.Ytffihnbpjcgicaa
