/- keep's lines: a line of words, and the line that tells the tax. -/
import Derived.Test.YtobdbjmpoefebaaDoorShelfJ
import Derived.Test.YtobdbjmpoefebaaDoorCutA
import Derived.Test.YtobdbjmpoefebaaDoorFmt
import Derived.Lib.ItoaLen
namespace Go.Proofs.YtobdbjmpoefebaaDoor
open Go.RowKit Go.Sort
set_option linter.unusedVariables false
set_option linter.unusedSimpArgs false
theorem lens_le (M : Nat) : ∀ l : List ByteArray, (∀ x, x ∈ l → x.size ≤ M) → Lib.lens (l.map (·.data.toList)) ≤ l.length * M
  | [], _ => Nat.zero_le _
  | x :: r, h => by
    have h1 := lens_le M r fun y hy => h y (List.mem_cons_of_mem _ hy)
    have h2 := h x List.mem_cons_self
    have h3 : x.data.toList.length = x.size := Array.length_toList
    have e : Lib.lens ((x :: r).map (·.data.toList)) = x.data.toList.length + Lib.lens (r.map (·.data.toList)) := by simp [Lib.lens]
    rw [e, h3, List.length_cons, Nat.succ_mul]
    omega
theorem jn_len (xs : List ByteArray) (h : ∀ x, x ∈ xs → x.size ≤ 1000) (hn : xs.length ≤ 10) : (Lib.join (xs.map (·.data.toList)) [32]).length ≤ 140737488355328 := by
  cases xs with
  | nil => rw [List.map_nil, Lib.join_nil]; exact Nat.zero_le _
  | cons x r =>
    have h1 := lens_le 1000 (x :: r) h
    rw [List.map_cons, Lib.join_length]
    rw [List.map_cons] at h1
    rw [List.length_cons] at h1 hn
    have h2 : [(32 : UInt8)].length * (r.map (·.data.toList)).length = r.length := by simp
    rw [h2]
    omega
theorem line_any (bk o c : Nat) (xs : List ByteArray) (w : World) (hcells : ∀ (j : Nat) x, xs[j]? = some x → w.cell? ⟨bk, o + j, none⟩ = some (.string x)) (hbk : bk < w.heap.size) (hc : xs.length ≤ c) (hs : ∀ x, x ∈ xs → x.size ≤ 1000) (hn : xs.length ≤ 10) :
    Calls Tryd.prog 41 #[.slice (some ⟨bk, o, none⟩) xs.length c] w fun e w' => ∃ s, e = .returned (.string s) ∧ Below w.heap.size w w' := by
  have q := Tryd.strings_Join bk o c xs ⟨#[32]⟩ w hcells hbk (by omega) hc (jn_len xs hs hn)
  generalize (ByteArray.mk (Lib.join (xs.map (·.data.toList)) (ByteArray.mk #[32]).data.toList).toArray) = s at *
  generalize xs.length = n at *
  clear hcells
  go_enter Tryd.func41, Tryd.ntmps41
  go_wp2_with (fail)
  refine q.mono ?_
  rintro e w2 ⟨rfl, hb⟩
  go_wp2
  go_ret
  exact ⟨s, rfl, hb⟩
theorem line_new (xs : List ByteArray) (w : World) (h1 : 1 ≤ xs.length) (hs : ∀ x, x ∈ xs → x.size ≤ 1000) (hn : xs.length ≤ 10) :
    Calls Tryd.prog 41 #[.slice (some ⟨w.heap.size, 0, none⟩) xs.length xs.length] (w.alloc (.cells (xs.map Value.string).toArray 9)) fun e w' => ∃ s, e = .returned (.string s) ∧ Below (w.alloc (.cells (xs.map Value.string).toArray 9)).heap.size (w.alloc (.cells (xs.map Value.string).toArray 9)) w' :=
  line_any _ 0 _ xs _ (fun j x hx => by
    have hb : (w.alloc (.cells (xs.map Value.string).toArray 9)).heap[w.heap.size]? = some (.cells (xs.map Value.string).toArray 9) := by
      show (w.heap.push _)[w.heap.size]? = _
      simp
    simp only [World.cell?, hb]
    simp [hx]) (by simp) (Nat.le_refl _) hs hn
theorem line_2 (a b : ByteArray) (ha : a.size ≤ 1000) (hb : b.size ≤ 1000) (w : World) :
    Calls Tryd.prog 41 #[.slice (some ⟨w.heap.size, 0, none⟩) 2 2] (w.alloc (.cells #[.string a, .string b] 9)) fun e w' => ∃ s, e = .returned (.string s) ∧ Below (w.alloc (.cells #[.string a, .string b] 9)).heap.size (w.alloc (.cells #[.string a, .string b] 9)) w' :=
  line_new [a, b] w (by simp) (by simp [ha, hb]) (by simp)
theorem line_4 (a b c d : ByteArray) (ha : a.size ≤ 1000) (hb : b.size ≤ 1000) (hc : c.size ≤ 1000) (hd : d.size ≤ 1000) (w : World) :
    Calls Tryd.prog 41 #[.slice (some ⟨w.heap.size, 0, none⟩) 4 4] (w.alloc (.cells #[.string a, .string b, .string c, .string d] 9)) fun e w' => ∃ s, e = .returned (.string s) ∧ Below (w.alloc (.cells #[.string a, .string b, .string c, .string d] 9)).heap.size (w.alloc (.cells #[.string a, .string b, .string c, .string d] 9)) w' :=
  line_new [a, b, c, d] w (by simp) (by simp [ha, hb, hc, hd]) (by simp)
theorem line_5 (a b c d f : ByteArray) (ha : a.size ≤ 1000) (hb : b.size ≤ 1000) (hc : c.size ≤ 1000) (hd : d.size ≤ 1000) (hf : f.size ≤ 1000) (w : World) :
    Calls Tryd.prog 41 #[.slice (some ⟨w.heap.size, 0, none⟩) 5 5] (w.alloc (.cells #[.string a, .string b, .string c, .string d, .string f] 9)) fun e w' => ∃ s, e = .returned (.string s) ∧ Below (w.alloc (.cells #[.string a, .string b, .string c, .string d, .string f] 9)).heap.size (w.alloc (.cells #[.string a, .string b, .string c, .string d, .string f] 9)) w' :=
  line_new [a, b, c, d, f] w (by simp) (by simp [ha, hb, hc, hd, hf]) (by simp)
/-- a numeral: some short text -/
theorem itoa_s (n : Int) (h0 : -9223372036854775808 ≤ n) (h1 : n ≤ 9223372036854775807) (w : World) (D : Tab w) : Calls Tryd.prog 42 #[.int .i64 n] w fun e w' => e = .returned (.string ⟨(Lib.itoa n).toArray⟩) ∧ Below w.heap.size w w' := by
  refine (Tryd.strconv_Itoa n h0 h1 w D).mono ?_
  rintro e w' ⟨rfl, k, os, rfl⟩
  exact ⟨rfl, Lib.below_grow _ w (Nat.le_refl _) k os⟩
theorem itoa_z (n : Int) (h0 : -9223372036854775808 ≤ n) (h1 : n ≤ 9223372036854775807) : (ByteArray.mk (Lib.itoa n).toArray).size ≤ 1000 := by
  have := Lib.itoa_length_le n h0 h1
  show (Lib.itoa n).toArray.size ≤ 1000
  simp
  omega
theorem lim_no (i j : Nat) : limB (i : Int) (j : Int) = false := by
  have : ((i : Nat) : Int) ≠ -1 := by omega
  simp [limB, this]
theorem tl_step {w W W' : World} {p : Nat} {a b : Value} (hb : Below W.heap.size W W') (h : W.cell? ⟨p, 0, none⟩ = some a ∧ W.cell? ⟨p, 1, none⟩ = some b ∧ Tab W ∧ Below w.heap.size w W) :
    W'.cell? ⟨p, 0, none⟩ = some a ∧ W'.cell? ⟨p, 1, none⟩ = some b ∧ Tab W' ∧ Below w.heap.size w W' :=
  ⟨cell_later hb h.1, cell_later hb h.2.1, h.2.2.1.below hb, below_step h.2.2.2 hb h.2.2.2.size⟩
/-- what is known of a choice: none, or a band of a scheme -/
def ChoB (T : TB) (a b : Int) : Prop := (a = -1 ∧ b = -1) ∨ ∃ i j : Nat, a = (i : Int) ∧ b = (j : Int) ∧ i < T.nS ∧ j < (T.S i).n ∧ -1000000 ≤ (T.S i).R j ∧ (T.S i).R j ≤ 1000000
set_option maxHeartbeats 4000000 in
set_option maxRecDepth 100000 in
theorem taxline_any (T : TB) (a b k : Int) (A : Option Addr) (n c : Nat) (w : World) (h : Tm w T) (D : Tab w) (hc : ChoB T a b) (hL : -1000000 ≤ T.L ∧ T.L ≤ 1000000) (hs : T.nS ≤ 20) (hb : ∀ i, i < T.nS → (T.S i).n ≤ 20) :
    Calls Tryd.prog 40 #[T.v, .agg #[.int .i64 a, .int .i64 b, .slice A n c, .int .i64 k]] w fun e w' => ∃ s, e = .returned (.string s) ∧ Below w.heap.size w w' := by
  have F0 := five_new w (.slice T.AS T.nS T.cS) (.slice T.AC T.nC T.cC) (.slice T.AK T.nK T.cK) (.int .i64 T.L) (.int .i64 T.W) 26
  have N0 := below_new w (.cells #[.slice T.AS T.nS T.cS, .slice T.AC T.nC T.cC, .slice T.AK T.nK T.cK, .int .i64 T.L, .int .i64 T.W] 26)
  have N1 := below_new (w.alloc (.cells #[.slice T.AS T.nS T.cS, .slice T.AC T.nC T.cC, .slice T.AK T.nK T.cK, .int .i64 T.L, .int .i64 T.W] 26)) (.cells #[.int .i64 a, .int .i64 b, .slice A n c, .int .i64 k] 39)
  have hsz1 : (w.alloc (.cells #[.slice T.AS T.nS T.cS, .slice T.AC T.nC T.cC, .slice T.AK T.nK T.cK, .int .i64 T.L, .int .i64 T.W] 26)).heap.size = w.heap.size + 1 := by simp
  have G1 := quad_new (w.alloc (.cells #[.slice T.AS T.nS T.cS, .slice T.AC T.nC T.cC, .slice T.AK T.nK T.cK, .int .i64 T.L, .int .i64 T.W] 26)) (.int .i64 a) (.int .i64 b) (.slice A n c) (.int .i64 k) 39
  rw [hsz1] at G1
  clear hsz1
  have F1 := F0.below N1
  have B1 := below_step N0 N1 N0.size
  have M1 := h.below B1
  have D1 := D.below B1
  clear F0 N0 N1 h D
  have lm := fun v (e : limB a b = v) w => limited_b a b k A n c v e w
  show Calls Tryd.prog 40 #[.agg #[.slice T.AS T.nS T.cS, .slice T.AC T.nC T.cC, .slice T.AK T.nK T.cK, .int .i64 T.L, .int .i64 T.W], .agg #[.int .i64 a, .int .i64 b, .slice A n c, .int .i64 k]] w _
  go_enter Tryd.func40, Tryd.ntmps40
  go_wp2_with (fail)
  generalize (w.alloc (.cells #[.slice T.AS T.nS T.cS, .slice T.AC T.nC T.cC, .slice T.AK T.nK T.cK, .int .i64 T.L, .int .i64 T.W] 26)).alloc (.cells #[.int .i64 a, .int .i64 b, .slice A n c, .int .i64 k] 39) = w1 at *
  rcases hc with ⟨rfl, rfl⟩ | ⟨i, j, rfl, rfl, hi, hj, hr⟩
  · refine (lm true (by decide) _).mono ?_
    rintro e w2 ⟨rfl, hb2⟩
    have F2 := F1.below hb2
    have D2 := D1.below hb2
    have B2 := below_step B1 hb2 B1.size
    clear F1 G1 M1 D1 B1 hb2 lm
    have z3 : w2.cell? ⟨w.heap.size, 3, none⟩ = some (.int .i64 T.L) := F2.cell (q := 3) (by omega)
    have it := fun W (D : Tab W) => itoa_s T.L (by omega) (by omega) W D
    have lz := itoa_z T.L (by omega) (by omega)
    generalize (ByteArray.mk (Lib.itoa T.L).toArray) = s at *
    have l2 := line_2 ⟨#[108, 105, 109, 105, 116]⟩ s (by decide) lz
    go_wp2_with (fail)
    refine (it _ D2).mono ?_
    rintro e w3 ⟨rfl, hb3⟩
    have B3 := below_step B2 hb3 B2.size
    go_wp2_with (fail)
    refine (l2 _).mono ?_
    rintro e w4 ⟨s2, rfl, hb4⟩
    have hN := below_new w3 (.cells #[.string ⟨#[108, 105, 109, 105, 116]⟩, .string s] 9)
    go_wp2
    go_ret
    exact ⟨s2, rfl, below_step (below_step B3 hN B3.size) hb4 (Nat.le_trans B3.size hN.size)⟩
  · refine (lm false (lim_no i j) _).mono ?_
    rintro e w2 ⟨rfl, hb2⟩
    have F2 := F1.below hb2
    have G2 := G1.below hb2
    have D2 := D1.below hb2
    have M2 := M1.below hb2
    have B2 := below_step B1 hb2 B1.size
    clear F1 G1 M1 D1 B1 hb2 lm
    have z0 : w2.cell? ⟨w.heap.size, 0, none⟩ = some (.slice T.AS T.nS T.cS) := F2.cell (q := 0) (by omega)
    have y0 : w2.cell? ⟨w.heap.size + 1, 0, none⟩ = some (.int .i64 i) := G2.cell (q := 0) (by omega)
    have y1 : w2.cell? ⟨w.heap.size + 1, 1, none⟩ = some (.int .i64 j) := G2.cell (q := 1) (by omega)
    obtain ⟨x, o, hA, hsc⟩ := M2.1 (by omega)
    obtain ⟨s0, sb⟩ := hsc i hi
    obtain ⟨x2, o2, hA2, hbc⟩ := sb (by omega)
    obtain ⟨_, r0, _⟩ := hbc j hj
    have hbi := hb i hi
    rw [hA] at z0
    rw [hA2] at s0
    clear hA hA2 hsc sb hbc M2 hb
    have i1 : (i : Int) < (T.nS : Int) := by omega
    have j1 : (j : Int) < ((T.S i).n : Int) := by omega
    generalize (T.S i).R j = r at *
    generalize (T.S i).n = m at *
    generalize (T.S i).c = m2 at *
    generalize T.nS = nS at *
    generalize T.cS = cS at *
    go_wp2
    go_quiet (fail)
    have hd := below_drewN (Below.refl w2.heap.size w2) nq
    have S0 := tl_step hd ⟨y0, y1, D2, B2⟩
    generalize w2.drewN nq = w3 at *
    have S1 := tl_step (below_drewN (Below.refl w3.heap.size w3) 1) S0
    have it1 := fun W (S : W.cell? ⟨w.heap.size + 1, 0, none⟩ = some (.int .i64 i) ∧ W.cell? ⟨w.heap.size + 1, 1, none⟩ = some (.int .i64 j) ∧ Tab W ∧ Below w.heap.size w W) => itoa_s i (by omega) (by omega) W S.2.2.1
    have it2 := fun W (S : W.cell? ⟨w.heap.size + 1, 0, none⟩ = some (.int .i64 i) ∧ W.cell? ⟨w.heap.size + 1, 1, none⟩ = some (.int .i64 j) ∧ Tab W ∧ Below w.heap.size w W) => itoa_s j (by omega) (by omega) W S.2.2.1
    have it3 := fun W (S : W.cell? ⟨w.heap.size + 1, 0, none⟩ = some (.int .i64 i) ∧ W.cell? ⟨w.heap.size + 1, 1, none⟩ = some (.int .i64 j) ∧ Tab W ∧ Below w.heap.size w W) => itoa_s r (by omega) (by omega) W S.2.2.1
    have z1 := itoa_z i (by omega) (by omega)
    have z2 := itoa_z j (by omega) (by omega)
    have z3 := itoa_z r (by omega) (by omega)
    generalize (ByteArray.mk (Lib.itoa i).toArray) = t1 at *
    generalize (ByteArray.mk (Lib.itoa j).toArray) = t2 at *
    generalize (ByteArray.mk (Lib.itoa r).toArray) = t3 at *
    have l5 := line_5 ⟨#[115, 99, 104, 101, 109, 101]⟩ t1 ⟨#[98, 97, 110, 100]⟩ t2 t3 (by decide) z1 (by decide) z2 z3
    clear hd F2 G2 D2 B2 z0 y0 y1 s0 r0 z1 z2 z3
    go_wp2
    go_region_held3 (fun W => W.cell? ⟨w.heap.size + 1, 0, none⟩ = some (.int .i64 i) ∧ W.cell? ⟨w.heap.size + 1, 1, none⟩ = some (.int .i64 j) ∧ Tab W ∧ Below w.heap.size w W)
      ((first | exact S1 | exact tl_step hb (by assumption) | exact tl_step (below_new _ _) (by assumption) | (trace_state; sorry)))
      (first | (go_at_call 42; (first | (with_reducible refine (it1 _ (by assumption)).mono ?_) | (with_reducible refine (it2 _ (by assumption)).mono ?_) | (with_reducible refine (it3 _ (by assumption)).mono ?_)); rintro e w4 ⟨rfl, hb⟩) | (go_at_call 41; refine (l5 _).mono ?_; rintro e w5 ⟨v, rfl, hb⟩))
    rename_i hH
    go_wp2
    go_ret
    exact ⟨v, rfl, hH.2.2.2⟩
end Go.Proofs.YtobdbjmpoefebaaDoor
