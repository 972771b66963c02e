/- What the calls of band answer that make lists: Corners, Scale. -/
import Derived.Test.YtkiefceomgbbhaaBandC
import Derived.Test.YtkiefceomgbbhaaBndB
import Derived.OwnWalk
import Derived.Deep.AppendLies
namespace Go.Proofs.Ytkiefceomgbbhaa
open Go.RowKit Go.Sort
set_option linter.unusedVariables false

/-- the cells of bands -/
def cl (L : List Bd) : List Value := L.flatMap fun t => [.int .i64 t.1, .int .i64 t.2.1, .int .i64 t.2.2]
theorem cl_nil : cl [] = [] := rfl
theorem cl_cons (t : Bd) (L : List Bd) : cl (t :: L) = .int .i64 t.1 :: .int .i64 t.2.1 :: .int .i64 t.2.2 :: cl L := rfl
theorem cl_len (L : List Bd) : (cl L).length = L.length * 3 := by
  induction L with
  | nil => rfl
  | cons t L ih => rw [cl_cons]; simp [ih]; omega
theorem cl_app (L M : List Bd) : cl (L ++ M) = cl L ++ cl M := by simp [cl]
theorem cl_take (L : List Bd) (k : Nat) : cl (L.take k) = (cl L).take (k * 3) := by
  induction L generalizing k with
  | nil => simp [cl]
  | cons t L ih =>
    cases k with
    | zero => simp [cl]
    | succ k =>
      rw [List.take_succ_cons, cl_cons, ih, cl_cons, show (k + 1) * 3 = k * 3 + 1 + 1 + 1 by omega]
      rfl
theorem cl_get (L : List Bd) (i : Nat) (t : Bd) (h : L[i]? = some t) : (cl L)[i * 3]? = some (.int .i64 t.1) ∧ (cl L)[i * 3 + 1]? = some (.int .i64 t.2.1) ∧ (cl L)[i * 3 + 2]? = some (.int .i64 t.2.2) := by
  induction L generalizing i with
  | nil => simp at h
  | cons s L ih =>
    rw [cl_cons]
    cases i with
    | zero =>
      have e : s = t := by simpa using h
      subst e
      exact ⟨rfl, rfl, rfl⟩
    | succ i =>
      have := ih i (by simpa using h)
      rw [show (i + 1) * 3 = i * 3 + 1 + 1 + 1 by omega, show i * 3 + 1 + 1 + 1 + 1 = (i * 3 + 1) + 1 + 1 + 1 by omega, show i * 3 + 1 + 1 + 1 + 2 = (i * 3 + 2) + 1 + 1 + 1 by omega]
      simpa using this
theorem cl_set (L : List Bd) (i : Nat) (t : Bd) (h : i < L.length) : (((cl L).set (i * 3) (.int .i64 t.1)).set (i * 3 + 1) (.int .i64 t.2.1)).set (i * 3 + 2) (.int .i64 t.2.2) = cl (L.set i t) := by
  induction L generalizing i with
  | nil => simp at h
  | cons s L ih =>
    rw [cl_cons]
    cases i with
    | zero => rfl
    | succ i =>
      have := ih i (by simpa using h)
      rw [List.set_cons_succ, cl_cons, ← this, show (i + 1) * 3 = i * 3 + 1 + 1 + 1 by omega, show i * 3 + 1 + 1 + 1 + 1 = (i * 3 + 1) + 1 + 1 + 1 by omega, show i * 3 + 1 + 1 + 1 + 2 = (i * 3 + 2) + 1 + 1 + 1 by omega]
      rfl
/-- bands in a row of the call's own -/
abbrev Rw (w : World) (B : Nat) (v : Value) (L : List Bd) : Prop := w.ownsRow B 37 3 v L.length (cl L)
theorem get_some (L : List Bd) {i : Nat} (h : i < L.length) : L[i]? = some (L.getD i z3) := by
  rw [List.getD_eq_getElem?_getD, List.getElem?_eq_getElem h]; rfl
theorem rw_bds {w : World} {B g cap : Nat} {L : List Bd} (h : Rw w B (.slice (some ⟨g, 0, none⟩) L.length cap) L) : Bds w (some ⟨g, 0, none⟩) L.length (gF L) (gR L) (gE L) := fun _ =>
  ⟨g, 0, rfl, fun i hi => by
    obtain ⟨a, b, c⟩ := cl_get L i _ (get_some L hi)
    simp only [Nat.zero_add]
    exact ⟨(h.cellAt _ (by omega)).trans a, (h.cellAt _ (by omega)).trans b, (h.cellAt _ (by omega)).trans c⟩⟩
theorem rw_bds_of {w : World} {B : Nat} {v : Value} {L : List Bd} (h : Rw w B v L) (hL : 0 < L.length) : ∃ g cap, v = .slice (some ⟨g, 0, none⟩) L.length cap ∧ B ≤ g ∧ L.length ≤ cap ∧ cap ≤ maxLen ∧ Bds w (some ⟨g, 0, none⟩) L.length (gF L) (gR L) (gE L) := by
  rcases h.2 with ⟨h1, h2⟩ | ⟨g, cap, cur, hv, hg, hh, h1, h2, h3, h4⟩
  · omega
  · subst hv
    exact ⟨g, cap, rfl, hg, h1, h2, rw_bds h⟩
theorem rw_cut {w : World} {B g cap : Nat} {L : List Bd} (h : Rw w B (.slice (some ⟨g, 0, none⟩) L.length cap) L) {k : Nat} (hk : k ≤ L.length) : Rw w B (.slice (some ⟨g, 0, none⟩) k cap) (L.take k) := by
  have hl : (L.take k).length = k := by simp; omega
  unfold Rw
  rw [hl]
  rcases h.2 with ⟨h1, h2⟩ | ⟨g', cap', cur, hv, hg, hh, h1, h2, h3, h4⟩
  · simp at h1
  · simp only [Value.slice.injEq, Option.some.injEq, Addr.mk.injEq, and_true, true_and] at hv
    obtain ⟨rfl, rfl⟩ := hv
    refine ⟨by rw [cl_len, hl], .inr ⟨g, cap, cur, rfl, hg, hh, by omega, h2, h3, ?_⟩⟩
    rw [cl_take, ← h4, List.take_take]
    congr 1
    omega

theorem info2 : (Try.prog.info? 2).map (fun i => (i.zero, i.size, i.bytes)) = some (some (.int .i64 0), 1, 8) := by kernel_rfl
theorem info37 : (Try.prog.info? 37).map (fun i => (i.zero, i.size, i.bytes)) = some (some (.agg #[.int .i64 0, .int .i64 0, .int .i64 0]), 3, 24) := by kernel_rfl

theorem cell_one_new (w : World) (x : Value) (t : TypeId) : ∀ j u, [x][j]? = some u → (w.alloc (.cells #[x] t)).cell? ((⟨w.heap.size, 0, none⟩ : Addr).add j) = some u := by
  intro j u hu
  have hj : j = 0 := by
    rcases Nat.eq_zero_or_pos j with h | h
    · exact h
    · rw [List.getElem?_eq_none (by simp; omega)] at hu; cases hu
  subst hj
  have : x = u := by simpa using hu
  subst this
  simp [Addr.add, World.cell?_alloc_new]

/-- the corners of n bands -/
def crn (F : Nat → Int) (n : Nat) : List Int := (List.range (n - 1)).map fun i => F (i + 1)
theorem crn_succ (F : Nat → Int) (n : Nat) (h : 0 < n) : crn F (n + 1) = crn F n ++ [F n] := by
  obtain ⟨m, rfl⟩ : ∃ m, n = m + 1 := ⟨n - 1, by omega⟩
  simp [crn, List.range_succ]
theorem crn_len (F : Nat → Int) (n : Nat) : (crn F n).length = n - 1 := by simp [crn]
def iv (l : List Int) : List Value := l.map (Value.int .i64)

set_option maxHeartbeats 2000000 in
theorem corners_any (A : Option Addr) (n c : Nat) (w : World) (F R E : Nat → Int) (h : Bds w A n F R E) (hn : n ≤ 100000) :
    Calls Try.prog 28 #[.slice A n c] w fun e w' => ∃ v, e = .returned v ∧ w'.ownsRow w.heap.size 2 1 v (crn F n).length (iv (crn F n)) ∧ Below w.heap.size w w' := by
  obtain ⟨i0, hi0, hz0, hz1, hz2⟩ := info_parts info2
  have Hi := Lib.hid hi0
  have Hz := Lib.hid hz0
  go_enter Try.func28, Try.ntmps28
  go_wp2
  go_loopw [3, 8] (fun s v W => ∃ i : Nat, i ≤ n ∧ v = .int .i64 i ∧ W.ownsRow w.heap.size 2 1 s (crn F i).length (iv (crn F i)) ∧ Below w.heap.size w W) (fun _ v _ => n - (intOf v).toNat)
  case atStart => exact ⟨0, Nat.zero_le _, rfl, World.ownsRow_nil _ _ _ _, Below.refl _ _⟩
  case round =>
    obtain ⟨i, hi, rfl, hown, hb⟩ := hrel
    by_cases hlt : i < n
    · obtain ⟨b, o, rfl, hc⟩ := h (by omega)
      obtain ⟨c0, c1, c2⟩ := hc i hlt
      have d0 := cell_later hb c0
      have d1 := cell_later hb c1
      have d2 := cell_later hb c2
      have hsz := hb.size
      clear hc h c0 c1 c2
      by_cases h0 : 0 < i
      · have g0 : decide (0 < (i : Int)) = true := by simp; omega
        have hN := Lib.hid (crn_succ F i h0)
        have hL := crn_len F i
        have hc3 : (crn F i).length + 1 ≤ maxLen := by unfold maxLen; omega
        have hc4 : ((crn F i).length + 1) * 8 ≤ 140737488355328 := by omega
        have hc1 := cell_one_new (wr.alloc (.cells #[.int .i64 (F i), .int .i64 (R i), .int .i64 (E i)] 37)) (.int .i64 (F i)) 2
        have hc2 : ∀ v ∈ [Value.int .i64 (F i)], v.oneCell' = true := by simp [Value.oneCell']
        have hc5 : w.heap.size ≤ ((wr.alloc (.cells #[.int .i64 (F i), .int .i64 (R i), .int .i64 (E i)] 37)).alloc (.cells #[.int .i64 (F i)] 2)).heap.size := by simp; omega
        have hb2 := (hb.alloc hb.size (Obj.cells #[.int .i64 (F i), .int .i64 (R i), .int .i64 (E i)] 37)).alloc (by simp; omega) (Obj.cells #[.int .i64 (F i)] 2)
        rw [show (wr.alloc (Obj.cells #[.int .i64 (F i), .int .i64 (R i), .int .i64 (E i)] 37)).heap.size = wr.heap.size + 1 by simp] at hc1
        clear hL hi0 hz0
        go_wp2_with (at_builtin; refine wpList_append_own _ rfl _ _ 45 rfl w.heap.size 2 i0 (.int .i64 0) 1 8 Try.underlying45 Hi.out Hz.out hz1 hz2 rfl (by decide) _ _ _ rfl ((hown.alloc _).alloc _) ⟨wr.heap.size + 1, 0, none⟩ 1 1 [.int .i64 (F i)] rfl rfl hc1 hc2 hc3 hc4 hc5 ?_; intro v' w2 hown2 hg2 _)
        have hb3 := hb2.grown hg2 hc5 (fun k hk => (hown.lt k hk).1)
        have hE : (crn F (i + 1)).length = (crn F i).length + 1 := by rw [hN.out]; simp
        have hown3 : w2.ownsRow w.heap.size 2 1 v' (crn F (i + 1)).length (iv (crn F (i + 1))) := by
          rw [hE, hN.out]
          simpa [iv] using hown2
        clear hown2 hg2 hE
        go_wp2
        go_roundw
        case rel => exact ⟨i + 1, by omega, by go_num, hown3, hb3⟩
        case measure => first | omega | (simp [intOf]; omega)
      · have g0 : decide (0 < (i : Int)) = false := by simp; omega
        have g1 : ¬ 0 < (i : Int) := by omega
        have e0 : i = 0 := by omega
        have hown3 := hown.alloc (.cells #[.int .i64 (F i), .int .i64 (R i), .int .i64 (E i)] 37)
        have hE : crn F i = crn F (i + 1) := by subst e0; rfl
        rw [hE] at hown3
        clear hE e0
        go_wp2
        go_roundw
        case rel => exact ⟨i + 1, by omega, by go_num, hown3, hb.alloc hb.size _⟩
        case measure => first | omega | (simp [intOf]; omega)
    · obtain rfl : i = n := by omega
      clear h
      go_wp2
      go_ret
      exact ⟨_, rfl, hown, hb⟩
end Go.Proofs.Ytkiefceomgbbhaa
