/- What the document's least answers. -/
import Derived.Test.YtoppipjbdakmeaaTabR
namespace Go.Proofs.Ytoppipjbdakmeaa
open Go.RowKit Go.Sort
set_option linter.unusedVariables false
set_option linter.unusedSimpArgs false

/-- a list of numbers of the call's own -/
def Rl (w : World) (B : Nat) (v : Value) (l : List Int) : Prop := w.ownsRow B 3 1 v l.length (l.map fun x => .int .i64 x)
theorem rl_push {w : World} {B : Nat} {v : Value} {l : List Int} {y : Int} (h : w.ownsRow B 3 1 v (l.length + 1) (l.map (fun x => Value.int .i64 x) ++ [.int .i64 y])) : Rl w B v (l ++ [y]) := by
  unfold Rl
  rw [List.length_append, List.map_append]
  exact h
theorem rl_one (w : World) (x : Int) : Rl (w.alloc (.cells #[.int .i64 x] 3)) w.heap.size (.slice (some ⟨w.heap.size, 0, none⟩) 1 1) [x] := by
  refine ⟨rfl, .inr ⟨w.heap.size, 1, #[.int .i64 x], rfl, Nat.le_refl _, ?_, Nat.le_refl 1, by unfold maxLen; omega, rfl, rfl⟩⟩
  show (w.heap.push _)[w.heap.size]? = _
  simp
theorem rl_cell {w : World} {B : Nat} {v : Value} {l : List Int} (h : Rl w B v l) (hl : 0 < l.length) : ∃ g c, v = .slice (some ⟨g, 0, none⟩) l.length c ∧ ∀ i (hi : i < l.length), w.cell? ⟨g, i, none⟩ = some (.int .i64 l[i]) := by
  rcases h.2 with ⟨_, h0⟩ | ⟨g, cap, cur, hv, _⟩
  · omega
  · refine ⟨g, cap, hv, fun i hi => ?_⟩
    have := h.cells (g := g) (by rw [hv]; rfl) i (.int .i64 l[i]) (by simp [hi])
    rwa [Go.WideShapes.add_plain, Nat.zero_add] at this
def rlRow (R : Nat → Int) (l : List Int) : Nat → List Int
  | 0 => l
  | k + 1 => rlRow R l k ++ [R k]
def rlAll (S : Nat → SB) (L : Int) : Nat → List Int
  | 0 => [L]
  | k + 1 => rlRow (S k).R (rlAll S L k) (S k).n
theorem rlRow_len (R : Nat → Int) (l : List Int) (n : Nat) : (rlRow R l n).length = l.length + n := by
  induction n with
  | zero => rfl
  | succ n ih => show (rlRow R l n ++ [R n]).length = _; rw [List.length_append, ih]; show l.length + n + 1 = _; omega
theorem rlAll_len (S : Nat → SB) (L : Int) (n : Nat) (h : ∀ i, i < n → (S i).n ≤ 8) : 1 ≤ (rlAll S L n).length ∧ (rlAll S L n).length ≤ 1 + 8 * n := by
  induction n with
  | zero => exact ⟨Nat.le_refl 1, Nat.le_refl 1⟩
  | succ n ih =>
    have a := ih fun i hi => h i (by omega)
    have b := h n (by omega)
    show 1 ≤ (rlRow _ _ _).length ∧ (rlRow _ _ _).length ≤ _
    rw [rlRow_len]
    omega
def minL (M : Int) (l : List Int) : Int := l.foldl (fun o r => min o (10000 - r - M)) 20000
theorem minL_snoc (M : Int) (l : List Int) (r : Int) : minL M (l ++ [r]) = min (minL M l) (10000 - r - M) := by
  unfold minL; rw [List.foldl_append]; rfl
theorem minL_row (M : Int) (i : Nat) (R : Nat → Int) (s : Int × Int × Int) (l : List Int) (n : Nat) (h : minL M l = 10000 - s.2.2 - M) : minL M (rlRow R l n) = 10000 - (rowW i R s n).2.2 - M := by
  induction n with
  | zero => exact h
  | succ n ih =>
    show minL M (rlRow R l n ++ [R n]) = 10000 - (if (rowW i R s n).2.2 < R n then ((i : Int), (n : Int), R n) else rowW i R s n).2.2 - M
    rw [minL_snoc, ih]
    split
    · show min _ _ = 10000 - R n - M; omega
    · omega
theorem minL_all (M : Int) (S : Nat → SB) (L : Int) (n : Nat) (h0 : 0 ≤ M) (h1 : 0 ≤ L) : minL M (rlAll S L n) = 10000 - (allW S L n).2.2 - M := by
  induction n with
  | zero => show min 20000 (10000 - L - M) = 10000 - L - M; omega
  | succ n ih => exact minL_row M n _ _ _ _ ih
theorem minL_bd (M : Int) (l : List Int) (h : ∀ r, r ∈ l → 0 ≤ r ∧ r ≤ 10000) (h0 : 0 ≤ M) (h1 : M ≤ 60000) : -60000 ≤ minL M l ∧ minL M l ≤ 20000 := by
  have key : ∀ (l : List Int) (o : Int), (∀ r, r ∈ l → 0 ≤ r ∧ r ≤ 10000) → -60000 ≤ o ∧ o ≤ 20000 → -60000 ≤ l.foldl (fun o r => min o (10000 - r - M)) o ∧ l.foldl (fun o r => min o (10000 - r - M)) o ≤ 20000 := by
    intro l
    induction l with
    | nil => intro o _ ho; exact ho
    | cons a l ih =>
      intro o hl ho
      have ha := hl a (by simp)
      exact ih _ (fun r hr => hl r (by simp [hr])) (by dsimp only; omega)
  exact key l _ h (by omega)
theorem rlRow_mem (R : Nat → Int) (l : List Int) (n : Nat) (h : ∀ r, r ∈ l → 0 ≤ r ∧ r ≤ 10000) (hR : ∀ j, j < n → 0 ≤ R j ∧ R j ≤ 10000) : ∀ r, r ∈ rlRow R l n → 0 ≤ r ∧ r ≤ 10000 := by
  induction n with
  | zero => exact h
  | succ n ih =>
    intro r hr
    have hr' : r ∈ rlRow R l n ++ [R n] := hr
    rw [List.mem_append] at hr'
    rcases hr' with hr' | hr'
    · exact ih (fun j hj => hR j (by omega)) r hr'
    · simp at hr'; subst hr'; exact hR n (by omega)
theorem rlAll_mem (S : Nat → SB) (L : Int) (n : Nat) (hL : 0 ≤ L ∧ L ≤ 10000) (h : ∀ i, i < n → ∀ j, j < (S i).n → 0 ≤ (S i).R j ∧ (S i).R j ≤ 10000) : ∀ r, r ∈ rlAll S L n → 0 ≤ r ∧ r ≤ 10000 := by
  induction n with
  | zero => intro r hr; have : r ∈ [L] := hr; simp at this; subst this; exact hL
  | succ n ih => exact rlRow_mem _ _ _ (ih fun i hi => h i (by omega)) (h n (by omega))
theorem good_of {T : TB} (h : TOk T) : GoodC T.C T.nC := fun i hi => ⟨(h.c i hi).1, (h.c i hi).2.1, (h.c i hi).2.2.2.2.1⟩
set_option maxHeartbeats 4000000 in
set_option maxRecDepth 100000 in
theorem least_any (w : World) (T : TB) (h : Tm w T) (OK : TOk T) (hcap : T.nC ≤ T.cC) :
    Calls Try.prog 12 #[T.v] w fun e w' => e = .returned (.int .i64 (keptW T)) ∧ Below w.heap.size w w' := by
  have hg := good_of OK
  have hM := mostV_bd T.nC T.C hg
  have c6 := OK.c6
  have s8 := OK.s8
  have km := fun w' (q : ConM w' T.AC T.nC T.C) => most_any T.nC T.AC T.cC T.C w' q hg OK.c6 hcap
  have HLEN := Lib.hid (fun n (hn : n ≤ T.nS) => rlAll_len T.S T.L n fun i hi => (OK.s i (by omega)).2.1)
  have hmem := rlAll_mem T.S T.L T.nS ⟨OK.l0, OK.l1⟩ (fun i hi => (OK.s i hi).2.2.2.2.1)
  have HMEM := Lib.hid hmem
  have hk : keptW T = minL (mostV T.C T.nC) (rlAll T.S T.L T.nS) := by
    rw [minL_all _ _ _ _ hM.1 OK.l0, most_take _ _ hg]; rfl
  have HOS := Lib.hid OK.s
  rw [hk]
  clear hg hmem hk OK
  generalize hMv : mostV T.C T.nC = Mv at *
  clear hMv
  obtain ⟨i0, hi0, hz0, hz1, hz2⟩ := info_parts infoI
  obtain ⟨AS, nS, cS, AC, nC, cC, AK, nK, cK, L, W, S, C, K⟩ := T
  dsimp only [TB.v] at *
  have B0 := below_new w (.cells #[.slice AS nS cS, .slice AC nC cC, .slice AK nK cK, .int .i64 L, .int .i64 W] 26)
  have M0 := h.below B0
  obtain ⟨z0, z1, z2, z3, z4⟩ := cells5 w (.slice AS nS cS) (.slice AC nC cC) (.slice AK nK cK) (.int .i64 L) (.int .i64 W) 26
  generalize hw1 : w.alloc (.cells #[.slice AS nS cS, .slice AC nC cC, .slice AK nK cK, .int .i64 L, .int .i64 W] 26) = w1 at *
  clear h
  have MS : SchM w1 AS nS S := M0.1
  have MC : ConM w1 AC nC C := M0.2.1
  have R0 := rl_one w1 L
  have B1 := below_new w1 (.cells #[.int .i64 L] 3)
  have y0 := cell_later B1 z0
  go_enter Try.func12, Try.ntmps12
  go_wp2
  go_loopw [17, 3] (fun kk v X => ∃ i : Nat, i ≤ nS ∧ kk = .int .i64 i ∧ Rl X w1.heap.size v (rlAll S L i) ∧ Below w1.heap.size w1 X) (fun kk _ _ => nS - (intOf kk).toNat)
  case atStart => exact ⟨0, Nat.zero_le _, rfl, R0, B1⟩
  case round =>
    obtain ⟨i, hi, rfl, hR, hB⟩ := hrel
    by_cases hlt : i < nS
    · obtain ⟨b, o, rfl, hcc⟩ := id (MS (by omega))
      obtain ⟨g0, hBd⟩ := hcc i hlt
      have d0 := cell_later hB g0
      obtain ⟨b1, b8, _, _, hRt, _⟩ := HOS.out i hlt
      obtain ⟨b', o', hA', hcb⟩ := hBd (by omega)
      have HCB := Lib.hid hcb
      have hln := (HLEN.out i hi).2
      have HS1 : Hid (rlAll S L (i + 1) = rlRow (S i).R (rlAll S L i) (S i).n) := Lib.hid rfl
      have HL8 := Lib.hid (fun j (l : List Int) => rlRow_len (S i).R l j)
      clear hcc hcb hBd g0 hRt
      generalize hn : (S i).n = n at *
      generalize hR' : (S i).R = R at *
      generalize hF : (S i).F = F at *
      generalize hE : (S i).E = E at *
      generalize hA : (S i).A = A at *
      generalize (S i).c = cc at *
      subst hA'
      generalize hst : rlAll S L i = st at *
      clear hn hR' hF hE hA hst
      go_wp2
      go_loopw [23, 3] (fun kk v X => ∃ j : Nat, j ≤ n ∧ kk = .int .i64 j ∧ Rl X w1.heap.size v (rlRow R st j) ∧ Below w1.heap.size w1 X) (fun kk _ _ => n - (intOf kk).toNat)
      case atStart => exact ⟨0, Nat.zero_le _, rfl, hR, hB⟩
      case round =>
        rename_i vv _ _
        obtain ⟨j, hj, rfl, hR2, hB2⟩ := hrel
        by_cases hjl : j < n
        · obtain ⟨p0, p1, p2⟩ := HCB.out j hjl
          have x0 := cell_later hB2 p0
          have x1 := cell_later hB2 p1
          have x2 := cell_later hB2 p2
          clear p0 p1 p2
          have hlj := HL8.out j st
          have B3 := hB2.alloc (o := .cells #[.int .i64 (F j), .int .i64 (R j), .int .i64 (E j)] 41) hB2.size
          have R3 := World.ownsRow.alloc hR2 (.cells #[.int .i64 (F j), .int .i64 (R j), .int .i64 (E j)] 41)
          have e1 : (wr.alloc (.cells #[.int .i64 (F j), .int .i64 (R j), .int .i64 (E j)] 41)).cell? ⟨wr.heap.size, 1, none⟩ = some (.int .i64 (R j)) := by simp [go_sem]
          have HRN : Hid (rlRow R st (j + 1) = rlRow R st j ++ [R j]) := Lib.hid rfl
          generalize hrr : rlRow R st j = rr at *
          clear hrr
          have R4 := World.ownsRow.alloc R3 (.cells #[.int .i64 (R j)] 3)
          have hc1 := cell_one_new (wr.alloc (.cells #[.int .i64 (F j), .int .i64 (R j), .int .i64 (E j)] 41)) (.int .i64 (R j)) 3
          rw [show (wr.alloc (.cells #[.int .i64 (F j), .int .i64 (R j), .int .i64 (E j)] 41)).heap.size = wr.heap.size + 1 by simp] at hc1
          have hc2 : ∀ v ∈ [Value.int .i64 (R j)], v.oneCell' = true := by simp [Value.oneCell']
          have hc3 : rr.length + 1 ≤ maxLen := by unfold maxLen; omega
          have hc4 : (rr.length + 1) * 8 ≤ 140737488355328 := by omega
          have hc5 : w1.heap.size ≤ ((wr.alloc (.cells #[.int .i64 (F j), .int .i64 (R j), .int .i64 (E j)] 41)).alloc (.cells #[.int .i64 (R j)] 3)).heap.size := by have := hB2.size; simp; omega
          go_wp2_with (at_builtin; refine wpList_append_own _ rfl _ _ 31 rfl w1.heap.size 3 i0 (.int .i64 0) 1 8 Try.underlying31 hi0 hz0 hz1 hz2 rfl (by decide) _ _ _ rfl R4 ⟨wr.heap.size + 1, 0, none⟩ 1 1 [.int .i64 (R j)] rfl rfl hc1 hc2 hc3 hc4 hc5 ?_; intro v' XA hown2 hg2 _)
          have BA := (B3.alloc (o := .cells #[.int .i64 (R j)] 3) B3.size).grown hg2 hc5 (fun k hk => (R3.lt k hk).1)
          have RA := rl_push hown2
          go_roundw
          case rel => exact ⟨j + 1, by omega, by go_num, by rw [HRN.out]; exact RA, BA⟩
          case measure => first | omega | (simp [intOf]; omega)
        · obtain rfl : j = n := by omega
          go_wp2
          go_roundw
          case rel => exact ⟨i + 1, by omega, by go_num, by rw [HS1.out]; exact hR2, hB2⟩
          case measure => first | omega | (simp [intOf]; omega)
    · obtain rfl : i = nS := by omega
      have hln := HLEN.out i hi
      obtain ⟨g, gc, rfl, hgc⟩ := rl_cell hR hln.1
      have HGC := Lib.hid hgc
      have hgl : g < wr.heap.size := by have := World.block_lt_of_cell? _ _ (hgc 0 hln.1); exact this
      have HB2 := Lib.hid (fun k => minL_bd Mv ((rlAll S L i).take k) (fun r hr => HMEM.out r (List.mem_of_mem_take hr)) hM.1 (by omega))
      have HTK := Lib.hid (fun k (hk : k < (rlAll S L i).length) => (show minL Mv ((rlAll S L i).take (k + 1)) = min (minL Mv ((rlAll S L i).take k)) (10000 - (rlAll S L i)[k] - Mv) by rw [List.take_succ_eq_append_getElem hk, minL_snoc]))
      have HME2 := Lib.hid (fun k (hk : k < (rlAll S L i).length) => HMEM.out _ (List.getElem_mem hk))
      have HAL : Hid ((rlAll S L i).take (rlAll S L i).length = rlAll S L i) := Lib.hid (List.take_length)
      have H0T : Hid (minL Mv ((rlAll S L i).take 0) = 20000) := Lib.hid rfl
      clear hgc hR HMEM HLEN
      generalize hrl : rlAll S L i = rl at *
      have HRL := Lib.hid hrl
      clear hrl
      go_wp2
      go_loopw [36, 8] (fun kk l X => ∃ k : Nat, k ≤ rl.length ∧ kk = .int .i64 k ∧ l = .int .i64 (minL Mv (rl.take k)) ∧ Below wr.heap.size wr X) (fun kk _ _ => rl.length - (intOf kk).toNat)
      case atStart => exact ⟨0, Nat.zero_le _, rfl, by rw [H0T.out], Below.refl _ _⟩
      case round =>
        obtain ⟨k, hkl, rfl, rfl, hB3⟩ := hrel
        have HBB := below_step hB hB3 hB.size
        have x1 := cell_later HBB z1
        have MX := MC.below HBB
        by_cases hkm : k < rl.length
        · have gk := cell_later hB3 (HGC.out k hkm)
          have hmb := HB2.out k
          have hrb := HME2.out k hkm
          have HN := Lib.hid (HTK.out k hkm)
          clear HB2 HTK HME2
          generalize minL Mv (rl.take k) = mk at *
          generalize rl[k] = rk at *
          go_wp2_with (fail)
          refine (km _ MX).mono ?_
          rintro e XA ⟨rfl, hbA⟩
          have BA := below_step hB3 hbA hB3.size
          go_wp2
          go_roundw
          case rel => exact ⟨k + 1, by omega, by go_num, by rw [HN.out], BA⟩
          case measure => first | omega | (simp [intOf]; omega)
        · obtain rfl : k = rl.length := by omega
          go_wp2
          go_ret
          exact ⟨ret_i (by rw [HAL.out, HRL.out]), below_step B0 HBB B0.size⟩
end Go.Proofs.Ytoppipjbdakmeaa
