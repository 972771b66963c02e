/- What social.Year answers of a table that may be. -/
import Derived.Test.YtffihnbpjcgicaaSocC
namespace Go.Proofs.Ytffihnbpjcgicaa
open Go.RowKit Go.Sort
set_option linter.unusedVariables false
set_option linter.unusedSimpArgs false

/-- periods' bases, wherever they lie -/
def BasM (w : World) (A : Option Addr) (m : Nat) (X T S : Nat → Int) : Prop :=
  0 < m → ∃ b o, A = some ⟨b, o, none⟩ ∧ ∀ i, i < m → w.cell? ⟨b, o + i * 3, none⟩ = some (.int .i64 (X i)) ∧ w.cell? ⟨b, o + i * 3 + 1, none⟩ = some (.int .i64 (T i)) ∧ w.cell? ⟨b, o + i * 3 + 2, none⟩ = some (.int .i64 (S i))
theorem BasM.below {w w' : World} {A : Option Addr} {m : Nat} {X T S : Nat → Int} (h : BasM w A m X T S) (hb : Below w.heap.size w w') : BasM w' A m X T S := fun h0 => by
  obtain ⟨b, o, e, hc⟩ := h h0
  exact ⟨b, o, e, fun i hi => ⟨cell_later hb (hc i hi).1, cell_later hb (hc i hi).2.1, cell_later hb (hc i hi).2.2⟩⟩
/-- how much counted ahead of a period, of each contribution -/
def ahd (T : TB) (x s : Nat → Int) : Nat → Nat → Int
  | 0, _ => 0
  | k + 1, i => ahd T x s k i + cntV T (x k) (s k) (ahd T x s k) i
/-- what is wrong with a period -/
def yrE (T : TB) (c x s : Nat → Int) (k : Nat) : Int := if (amtB (c k) && amtB (x k) && amtB (s k)) = true then firstE (perE T (x k) (s k) (ahd T x s k)) T.nC else 10
/-- both sides of a contribution of a period -/
def yrA (T : TB) (x s : Nat → Int) (k i : Nat) : Int := dueA (T.C i) (cntV T (x k) (s k) (ahd T x s k) i)
def yrB' (T : TB) (x s : Nat → Int) (k i : Nat) : Int := dueB (T.C i) (cntV T (x k) (s k) (ahd T x s k) i)
theorem ahd_all {T : TB} {c x s : Nat → Int} : ∀ {k : Nat}, (∀ j, j < k → yrE T c x s j = 0) → allB (ahd T x s k) T.nC = true
  | 0, _ => by simp only [allB, List.all_eq_true, List.mem_range]; intro i _; rfl
  | k + 1, h => by
    have hk := h k (by omega)
    unfold yrE at hk
    split at hk
    · simp only [allB, List.all_eq_true, List.mem_range]
      intro i hi
      have := first_zero hk i hi
      unfold perE at this
      show amtB (ahd T x s k i + cntV T (x k) (s k) (ahd T x s k) i) = true
      cases hq : amtB (ahd T x s k i + cntV T (x k) (s k) (ahd T x s k) i)
      · rw [hq] at this; simp at this
      · rfl
    · omega
theorem own_len {w : World} {B n size : Nat} {e : TypeId} {v : Value} {xs : List Value} (h : w.ownsRow B e size v n xs) : ∃ A c, v = .slice A n c ∧ (∀ p, A = some p → ∃ g, p = ⟨g, 0, none⟩ ∧ B ≤ g ∧ g < w.heap.size) ∧ (0 < n → ∃ g, A = some ⟨g, 0, none⟩) := by
  rcases h.2 with ⟨hv, h0⟩ | ⟨g, cap, cur, hv, hg, hh, _⟩
  · exact ⟨none, 0, by rw [h0]; exact hv, fun p hp => (nomatch hp), fun h => absurd h (by omega)⟩
  · exact ⟨_, _, hv, fun p hp => ⟨g, by simpa using hp.symm, hg, (Array.getElem?_eq_some_iff.1 hh).1⟩, fun _ => ⟨g, rfl⟩⟩
theorem own_cells {w : World} {B n size : Nat} {e : TypeId} {g c : Nat} {xs : List Value} (h : w.ownsRow B e size (.slice (some ⟨g, 0, none⟩) n c) n xs) {j : Nat} {u : Value} (hu : xs[j]? = some u) : w.cell? ⟨g, j, none⟩ = some u := by
  have := h.cells (g := g) rfl j u hu
  rwa [Go.WideShapes.add_plain, Nat.zero_add] at this
theorem shc_get (L : List (Int × Int)) (i : Nat) (p : Int × Int) (h : L[i]? = some p) : (shc L)[i * 2]? = some (.int .i64 p.1) ∧ (shc L)[i * 2 + 1]? = some (.int .i64 p.2) := by
  induction L generalizing i with
  | nil => simp at h
  | cons s L ih =>
    have e : shc (s :: L) = [.int .i64 s.1, .int .i64 s.2] ++ shc L := rfl
    cases i with
    | zero =>
      simp only [List.getElem?_cons_zero, Option.some.injEq] at h
      subst h
      rw [e]; exact ⟨rfl, rfl⟩
    | succ i =>
      have := ih i (by simpa using h)
      rw [e, List.getElem?_append_right (by simp; omega), List.getElem?_append_right (by simp; omega)]
      simp only [List.length_cons, List.length_nil]
      rw [show (i + 1) * 2 - (0 + 1 + 1) = i * 2 by omega, show (i + 1) * 2 + 1 - (0 + 1 + 1) = i * 2 + 1 by omega]
      exact this
/-- a row of a call's own is a slice of shares -/
theorem shs_own {w : World} {B n : Nat} {A : Option Addr} {c : Nat} {F G : Nat → Int} (h : w.ownsRow B 47 2 (.slice A n c) n (shc ((List.range n).map fun i => (F i, G i)))) : Shs w A n F G := fun hn => by
  obtain ⟨A', c', e, hA, hg⟩ := own_len h
  obtain ⟨g, rfl⟩ := hg hn
  obtain ⟨rfl, _, rfl⟩ := Value.slice.inj e
  refine ⟨g, 0, rfl, fun i hi => ?_⟩
  have hs := shc_get ((List.range n).map fun i => (F i, G i)) i (F i, G i) (by rw [List.getElem?_map, List.getElem?_range hi]; rfl)
  rw [Nat.zero_add]
  exact ⟨own_cells h hs.1, own_cells h hs.2⟩
theorem row_own {w : World} {B n : Nat} {A : Option Addr} {c : Nat} {F : Nat → Int} (h : w.ownsRow B 2 1 (.slice A n c) n (ivs ((List.range n).map F))) : rowAt w A n fun i => .int .i64 (F i) := fun hn => by
  obtain ⟨A', c', e, hA, hg⟩ := own_len h
  obtain ⟨g, rfl⟩ := hg hn
  obtain ⟨rfl, _, rfl⟩ := Value.slice.inj e
  refine ⟨g, 0, rfl, fun i hi => ?_⟩
  rw [Nat.zero_add]
  exact own_cells h (by simp [ivs, hi])
/-- rows of a call's own -/
def RowsI (B : Nat) (v : Value) (m n : Nat) (X Y : Nat → Nat → Int) (w : World) : Prop :=
  ∃ l : List Value, w.ownsRow B 33 1 v m l ∧ l.length = m ∧ ∀ k, k < m → ∃ A c, l[k]? = some (.slice A n c) ∧ Shs w A n (X k) (Y k) ∧ (0 < n → ∃ g, A = some ⟨g, 0, none⟩ ∧ B ≤ g ∧ g < w.heap.size ∧ v.ownBlock ≠ some g)
theorem RowsI.below {B : Nat} {v : Value} {m n : Nat} {X Y : Nat → Nat → Int} {w w' : World} (h : RowsI B v m n X Y w) (hb : Below w.heap.size w w') : RowsI B v m n X Y w' := by
  obtain ⟨l, ho, hl, hk⟩ := h
  refine ⟨l, own_below ho hb, hl, fun k hkm => ?_⟩
  obtain ⟨A, c, h1, h2, h3⟩ := hk k hkm
  refine ⟨A, c, h1, h2.below hb, fun hn => ?_⟩
  obtain ⟨g, e, h4, h5, h6⟩ := h3 hn
  exact ⟨g, e, h4, Nat.lt_of_lt_of_le h5 hb.size, h6⟩
theorem rows_nil (B n : Nat) (X Y : Nat → Nat → Int) (w : World) : RowsI B (.slice none 0 0) 0 n X Y w := ⟨[], World.ownsRow_nil _ _ _ _, rfl, fun k hk => absurd hk (Nat.not_lt_zero _)⟩
/-- one row more -/
theorem rows_more {B : Nat} {v v' : Value} {m n : Nat} {X Y : Nat → Nat → Int} {w w' : World} {l : List Value} {A : Option Addr} {c : Nat}
    (hk : ∀ k, k < m → ∃ A c, l[k]? = some (.slice A n c) ∧ Shs w A n (X k) (Y k) ∧ (0 < n → ∃ g, A = some ⟨g, 0, none⟩ ∧ B ≤ g ∧ g < w.heap.size ∧ v.ownBlock ≠ some g)) (hl : l.length = m)
    (hs : Shs w A n (X m) (Y m)) (hA : 0 < n → ∃ g, A = some ⟨g, 0, none⟩ ∧ B ≤ g ∧ g < w.heap.size ∧ v.ownBlock ≠ some g)
    (hown : w'.ownsRow B 33 1 v' (m + 1) (l ++ [.slice A n c])) (hg : w.grownBy w' v.ownBlock) (hob : v'.ownBlock = v.ownBlock ∨ v'.ownBlock = some w.heap.size) : RowsI B v' (m + 1) n X Y w' := by
  have keep : ∀ A F G, Shs w A n F G → (0 < n → ∃ g, A = some ⟨g, 0, none⟩ ∧ B ≤ g ∧ g < w.heap.size ∧ v.ownBlock ≠ some g) → Shs w' A n F G ∧ (0 < n → ∃ g, A = some ⟨g, 0, none⟩ ∧ B ≤ g ∧ g < w'.heap.size ∧ v'.ownBlock ≠ some g) := fun A F G h1 h2 => by
    refine ⟨fun hn => ?_, fun hn => ?_⟩
    · obtain ⟨g, e, h3, h4, h5⟩ := h2 hn
      obtain ⟨b, o, e2, hc⟩ := h1 hn
      rw [e] at e2
      simp only [Option.some.injEq, Addr.mk.injEq, and_true] at e2
      obtain ⟨rfl, rfl⟩ := e2
      have hbk : w'.heap[g]? = w.heap[g]? := hg.block g h4 (fun e => h5 e.symm)
      exact ⟨g, 0, e, fun i hi => ⟨(World.cell?_of_block hbk).trans (hc i hi).1, (World.cell?_of_block hbk).trans (hc i hi).2⟩⟩
    · obtain ⟨g, e, h3, h4, h5⟩ := h2 hn
      refine ⟨g, e, h3, Nat.lt_of_lt_of_le h4 hg.size, fun e => ?_⟩
      rcases hob with h | h
      · exact h5 (h ▸ e)
      · rw [h] at e; simp at e; omega
  refine ⟨l ++ [.slice A n c], hown, by simp [hl], fun k hkm => ?_⟩
  by_cases e : k < m
  · obtain ⟨A', c', h1, h2, h3⟩ := hk k e
    have := keep A' _ _ h2 h3
    exact ⟨A', c', by rw [List.getElem?_append_left (by omega)]; exact h1, this.1, this.2⟩
  · obtain rfl : k = m := by omega
    have := keep A _ _ hs hA
    exact ⟨A, c, by rw [List.getElem?_append_right (by omega)]; simp [hl], this.1, this.2⟩
theorem infoRow : (Try.prog.info? 33).map (fun i => (i.zero, i.size, i.bytes)) = some (some (.slice none 0 0), 1, 24) := by kernel_rfl
theorem row_grown {w w' : World} {A : Option Addr} {n : Nat} {f : Nat → Value} {r : Option Nat} (h : rowAt w A n f) (hg : w.grownBy w' r) (hA : 0 < n → ∃ g, A = some ⟨g, 0, none⟩ ∧ g < w.heap.size ∧ r ≠ some g) : rowAt w' A n f := fun hn => by
  obtain ⟨g, e, h4, h5⟩ := hA hn
  obtain ⟨b, o, e2, hc⟩ := h hn
  rw [e] at e2
  simp only [Option.some.injEq, Addr.mk.injEq, and_true] at e2
  obtain ⟨rfl, rfl⟩ := e2
  exact ⟨g, 0, e, fun i hi => (World.cell?_of_block (hg.block g h4 (fun e => h5 e.symm))).trans (hc i hi)⟩
theorem per_ten (T : TB) (t s : Int) (a : Nat → Int) (n : Nat) : firstE (perE T t s a) n = 0 ∨ firstE (perE T t s a) n = 10 := by
  induction n with
  | zero => exact .inl rfl
  | succ n ih =>
    show (if firstE (perE T t s a) n = 0 then perE T t s a n else firstE (perE T t s a) n) = 0 ∨ (if firstE (perE T t s a) n = 0 then perE T t s a n else firstE (perE T t s a) n) = 10
    split
    · unfold perE; split <;> simp
    · exact ih
abbrev YearG (T : TB) (A : Option Addr) (m q : Nat) (w : World) (Q : Value → World → Prop) : Prop :=
  Calls Try.prog 20 #[.agg #[.slice T.AS T.nS T.cS, .slice T.AC T.nC T.cC, .slice T.AK T.nK T.cK, .int .i64 T.L, .int .i64 T.W], .slice A m q] w fun e w' => ∃ v, e = .returned v ∧ Q v w'
set_option maxRecDepth 100000 in
set_option maxHeartbeats 8000000 in
theorem year_any (T : TB) (A : Option Addr) (m q : Nat) (c x s : Nat → Int) (w : World) (h : Tm w T) (hT : TC T) (hl : BasM w A m c x s) (hm : m ≤ 1000) :
    YearG T A m q w fun v w' => (firstE (yrE T c x s) m = 0 → ∃ u, v = .tuple #[u, .int .i64 0] ∧ RowsI w.heap.size u m T.nC (yrA T x s) (yrB' T x s) w') ∧ (firstE (yrE T c x s) m ≠ 0 → v = .tuple #[.slice none 0 0, .int .i64 (firstE (yrE T c x s) m)]) ∧ Below w.heap.size w w' := by
  have h6 := hT.ok.c6
  have hmk := fun W => run_make_row' (P := Try.prog) 63 2 (.int .i64 0) 8 (by kernel_rfl) infoI rfl .i64 .i64 T.nC (by omega) (by omega) W
  have B1 := below_new w (.cells #[.slice T.AS T.nS T.cS, .slice T.AC T.nC T.cC, .slice T.AK T.nK T.cK, .int .i64 T.L, .int .i64 T.W] 26)
  have K1 := bx_new w [.slice T.AS T.nS T.cS, .slice T.AC T.nC T.cC, .slice T.AK T.nK T.cK, .int .i64 T.L, .int .i64 T.W] 26
  have hZ := World.rowIs_made (w.alloc (.cells #[.slice T.AS T.nS T.cS, .slice T.AC T.nC T.cC, .slice T.AK T.nK T.cK, .int .i64 T.L, .int .i64 T.W] 26)) (.int .i64 0) T.nC 2
  rw [show (w.alloc (.cells #[.slice T.AS T.nS T.cS, .slice T.AC T.nC T.cC, .slice T.AK T.nK T.cK, .int .i64 T.L, .int .i64 T.W] 26)).heap.size = w.heap.size + 1 by simp] at hZ
  have NB := below_new (w.alloc (.cells #[.slice T.AS T.nS T.cS, .slice T.AC T.nC T.cC, .slice T.AK T.nK T.cK, .int .i64 T.L, .int .i64 T.W] 26)) (.cells (madeCells #[.int .i64 0] T.nC) 2)
  replace h := h.below (B1.trans (NB.mono B1.size))
  replace hl := hl.below (B1.trans (NB.mono B1.size))
  replace K1 := K1.below NB
  have B2 := below_step B1 NB B1.size
  have hz : rowAt ((w.alloc (.cells #[.slice T.AS T.nS T.cS, .slice T.AC T.nC T.cC, .slice T.AK T.nK T.cK, .int .i64 T.L, .int .i64 T.W] 26)).alloc (.cells (madeCells #[.int .i64 0] T.nC) 2)) (some ⟨w.heap.size + 1, 0, none⟩) T.nC fun i => .int .i64 (ahd T x s 0 i) := fun _ => ⟨_, _, rfl, fun i hi => by
    have := hZ.cell (i := i) hi
    rw [Nat.zero_add]
    exact this⟩
  have HT := Lib.hid hT
  obtain ⟨i0, hi0, hz0, hz1, hz2⟩ := info_parts infoRow
  have Hi := Lib.hid hi0
  have Hz := Lib.hid hz0
  clear hi0 hz0 hT NB B1 hZ
  unfold YearG
  go_enter Try.func20, Try.ntmps20
  go_wp2_with (fail)
  generalize (w.alloc (.cells #[.slice T.AS T.nS T.cS, .slice T.AC T.nC T.cC, .slice T.AK T.nK T.cK, .int .i64 T.L, .int .i64 T.W] 26)).alloc (.cells (madeCells #[.int .i64 0] T.nC) 2) = w1 at *
  have Bw := Below.refl w1.heap.size w1
  go_loopw [6, 7, 19] (fun u v k X => ∃ (i : Nat) (Ac : Option Addr) (cc : Nat), i ≤ m ∧ k = .int .i64 i ∧ v = .slice Ac T.nC cc ∧ RowsI w1.heap.size u i T.nC (yrA T x s) (yrB' T x s) X ∧ (rowAt X Ac T.nC fun j => .int .i64 (ahd T x s i j)) ∧ firstE (yrE T c x s) i = 0 ∧ Below w1.heap.size w1 X) (fun _ _ k _ => m - (intOf k).toNat)
  case atStart => exact ⟨0, _, _, Nat.zero_le _, rfl, rfl, rows_nil _ _ _ _ _, hz, rfl, Bw⟩
  case round =>
    clear Bw hz
    obtain ⟨i, Ac, cc, hi, rfl, rfl, HR, hra, hf, hbX⟩ := hrel
    by_cases hlt : i < m
    · obtain ⟨b, o, rfl, hcc⟩ := id (hl (by omega))
      obtain ⟨g0, g1, g2⟩ := hcc i hlt
      replace g0 := cell_later hbX g0
      replace g1 := cell_later hbX g1
      replace g2 := cell_later hbX g2
      have hal := ahd_all (k := i) (fun j hj => first_zero hf j hj)
      have HYE : Hid (yrE T c x s i = if (amtB (c i) && amtB (x i) && amtB (s i)) = true then firstE (perE T (x i) (s i) (ahd T x s i)) T.nC else 10) := Lib.hid rfl
      have HYA : Hid (∀ j, yrA T x s i j = dueA (T.C j) (cntV T (x i) (s i) (ahd T x s i) j)) := Lib.hid fun _ => rfl
      have HYB : Hid (∀ j, yrB' T x s i j = dueB (T.C j) (cntV T (x i) (s i) (ahd T x s i) j)) := Lib.hid fun _ => rfl
      have HAH : Hid (∀ j, ahd T x s (i + 1) j = ahd T x s i j + cntV T (x i) (s i) (ahd T x s i) j) := Lib.hid fun _ => rfl
      have J1 := K1.below hbX
      have K3 := bx_new wr [.int .i64 (c i), .int .i64 (x i), .int .i64 (s i)] 39
      have NB := below_new wr (.cells #[.int .i64 (c i), .int .i64 (x i), .int .i64 (s i)] 39)
      replace J1 := J1.below NB
      replace hra := row_later hra NB
      have HTm := Lib.hid (h.below (hbX.trans (NB.mono hbX.size)))
      have B3 := below_step hbX NB hbX.size
      have HR3 := HR.below NB
      have hrl : ∀ g, u6.ownBlock = some g → g < wr.heap.size := fun g hg => by
        obtain ⟨l, ho, _⟩ := HR
        exact (ho.lt g hg).2
      have hwl : wr.heap.size < (wr.alloc (.cells #[.int .i64 (c i), .int .i64 (x i), .int .i64 (s i)] 39)).heap.size := by simp
      have HRL := Lib.hid hrl
      have HF := Lib.hid hf
      have HAL := Lib.hid hal
      have HR := Lib.hid HR3
      have HRA := Lib.hid hra
      have k1_0 := J1.cell (i := 0) rfl
      have k1_1 := J1.cell (i := 1) rfl
      have k1_2 := J1.cell (i := 2) rfl
      have k1_3 := J1.cell (i := 3) rfl
      have k1_4 := J1.cell (i := 4) rfl
      have k3_0 := K3.cell (i := 0) rfl
      have k3_1 := K3.cell (i := 1) rfl
      have k3_2 := K3.cell (i := 2) rfl
      clear NB hcc hrl hf hal HR3 hra
      go_wp2_with (fail)
      clear g0 g1 g2
      generalize wr.alloc (.cells #[.int .i64 (c i), .int .i64 (x i), .int .i64 (s i)] 39) = W4 at *
      generalize ahd T x s i = ah at *
      cases hq : amtB (c i) && amtB (x i) && amtB (s i)
      · have cP := per_bad T (c i) (x i) (s i) Ac T.nC cc W4 ah HRA.out rfl (by omega) (by rw [hq]; rfl)
        have hfe := first_stop (n := m) hlt HF.out (by rw [HYE.out, hq]; simp)
        rw [HYE.out, hq] at hfe
        have HFE := Lib.hid hfe
        clear hq hfe
        with_reducible refine cP.mono ?_
        rintro e w8 ⟨v, rfl, rfl, hb⟩
        have B8 := below_step (below_step B2 B3 B2.size) hb (by have := B3.size; have := B2.size; omega)
        go_wp2
        go_ret2
        refine ⟨_, rfl, fun h0 => ?_, fun _ => by rw [HFE.out]; rfl, B8⟩
        exfalso; rw [HFE.out] at h0; simp at h0
      · simp only [Bool.and_eq_true] at hq
        obtain ⟨⟨a0, a1⟩, a2⟩ := hq
        have cP := per_any T (c i) (x i) (s i) Ac T.nC cc W4 HTm.out HT.out ah HRA.out rfl a0 a1 a2 HAL.out
        rw [a0, a1, a2] at HYE
        have hye : yrE T c x s i = firstE (perE T (x i) (s i) ah) T.nC := HYE.out
        rw [← hye] at cP
        by_cases he : yrE T c x s i = 0
        · have HFN := Lib.hid (first_succ HF.out he)
          clear hye a0 a1 a2
          with_reducible refine cP.mono ?_
          rintro e W6 ⟨v, rfl, hok, _, NB⟩
          obtain ⟨v1, v2, rfl, OA, OB, hsep⟩ := hok he
          obtain ⟨A1, c1, rfl, _, hA1⟩ := own_len OA
          obtain ⟨A2, c2, rfl, _, hA2⟩ := own_len OB
          have hs1 := shs_own OA
          have hr2 := row_own OB
          have hA1' : 0 < T.nC → ∃ g, A1 = some ⟨g, 0, none⟩ ∧ W4.heap.size ≤ g ∧ g < W6.heap.size := fun hn => by
            obtain ⟨g, e⟩ := hA1 hn
            have := OA.lt g (by rw [e]; rfl)
            exact ⟨g, e, this.1, this.2⟩
          have hsep1 : ∀ g, W4.heap.size ≤ g → u6.ownBlock ≠ some g := fun g hg e => by have := HRL.out g e; omega
          have HR6 := HR.out.below NB
          have B6 := below_step B3 NB B3.size
          have N2 := below_new W6 (.cells #[.slice A1 T.nC c1] 33)
          have HR7 := HR6.below N2
          have B7 := below_step B6 N2 B6.size
          have hs7 := hs1.below N2
          have hr7 := row_later hr2 N2
          have hwl7 := N2.size
          have b34 := B3.size
          have b46 := NB.size
          have hA17 : 0 < T.nC → ∃ g, A1 = some ⟨g, 0, none⟩ ∧ w1.heap.size ≤ g ∧ g < (W6.alloc (.cells #[.slice A1 T.nC c1] 33)).heap.size ∧ u6.ownBlock ≠ some g := fun hn => by
            obtain ⟨g, e, h1, h2⟩ := hA1' hn
            exact ⟨g, e, by omega, by omega, hsep1 g h1⟩
          have hA27 : 0 < T.nC → ∃ g, A2 = some ⟨g, 0, none⟩ ∧ g < (W6.alloc (.cells #[.slice A1 T.nC c1] 33)).heap.size ∧ u6.ownBlock ≠ some g := fun hn => by
            obtain ⟨g, e⟩ := hA2 hn
            have := OB.lt g (by rw [e]; rfl)
            exact ⟨g, e, by omega, hsep1 g this.1⟩
          have eA : (fun j => dueA (T.C j) (cntV T (x i) (s i) ah j)) = yrA T x s i := funext fun j => (HYA.out j).symm
          have eB : (fun j => dueB (T.C j) (cntV T (x i) (s i) ah j)) = yrB' T x s i := funext fun j => (HYB.out j).symm
          have eC : (fun j => Value.int .i64 (ah j + cntV T (x i) (s i) ah j)) = fun j => .int .i64 (ahd T x s (i + 1) j) := funext fun j => by rw [HAH.out]
          rw [eA, eB] at hs7
          rw [eC] at hr7
          have hcA := bx_add (bx_new W6 [.slice A1 T.nC c1] 33)
          have hc2 : ∀ v ∈ ([.slice A1 T.nC c1] : List Value), v.oneCell' = true := by simp [Value.oneCell']
          have hc3 : i + 1 ≤ maxLen := by unfold maxLen; omega
          have hc4 : (i + 1) * 24 ≤ 140737488355328 := by omega
          have hc5 : w1.heap.size ≤ (W6.alloc (.cells #[.slice A1 T.nC c1] 33)).heap.size := B7.size
          obtain ⟨l, ho, hll, hk⟩ := HR7
          have HK := Lib.hid hk
          have HO := Lib.hid ho
          have HS7 := Lib.hid hs7
          have HR7 := Lib.hid hr7
          have HA17 := Lib.hid hA17
          have HA27 := Lib.hid hA27
          have HLL := Lib.hid hll
          clear hok OA OB hsep hs1 hr2 hA1 hA1' hA2 hsep1 HR6 N2 NB hs7 hr7 hwl7 b34 b46 hA17 hA27 eA eB eC hk ho hll HR k1_0 k1_1 k1_2 k1_3 k1_4 k3_0 k3_1 k3_2
          go_wp2_with (at_builtin; refine wpList_append_own_at _ rfl _ _ 64 rfl w1.heap.size 33 i0 (.slice none 0 0) 1 24 Try.underlying64 Hi.out Hz.out hz1 hz2 rfl (by decide) _ _ _ rfl HO.out ⟨W6.heap.size, 0, none⟩ 1 1 [.slice A1 T.nC c1] rfl rfl hcA hc2 hc3 hc4 hc5 ?_; intro va wa hown hg _ hob; have Ba := B7.grown hg hc5 (fun k hk => (HO.out.lt k hk).1); have RW := rows_more HK.out HLL.out HS7.out HA17.out hown hg hob; have RA := row_grown HR7.out hg HA27.out; clear hown hg hob)
          refine ⟨⟨i + 1, A2, c2, by omega, by go_num, rfl, RW, RA, HFN.out, Ba⟩, ?_⟩
          simp [intOf]; omega
        · have ht := per_ten T (x i) (s i) ah T.nC
          rw [← hye] at ht
          have h10 : yrE T c x s i = 10 := by omega
          have hfe := first_stop (n := m) hlt HF.out he
          rw [h10] at hfe
          have HFE := Lib.hid hfe
          clear hye a0 a1 a2 ht h10 hfe
          with_reducible refine cP.mono ?_
          rintro e w8 ⟨v, rfl, _, hbad, hb⟩
          obtain rfl := hbad he
          have B8 := below_step (below_step B2 B3 B2.size) hb (by have := B3.size; have := B2.size; omega)
          clear he hbad
          go_wp2
          go_ret2
          refine ⟨_, rfl, fun h0 => ?_, fun _ => by rw [HFE.out]; rfl, B8⟩
          exfalso; rw [HFE.out] at h0; simp at h0
    · obtain rfl : i = m := by omega
      have B8 := below_step B2 hbX B2.size
      have HF := Lib.hid hf
      have HRH := Lib.hid HR
      have hnl : ¬ (i : Int) < (i : Int) := by omega
      clear hf HR h hl hra K1
      go_wp2
      go_ret2
      refine ⟨_, rfl, fun _ => ⟨_, rfl, ?_⟩, fun h0 => absurd HF.out h0, B8⟩
      obtain ⟨l, ho, hl, hk⟩ := HRH.out
      exact ⟨l, own_mono ho B2.size, hl, fun k hkm => by
        obtain ⟨A, c, h1, h2, h3⟩ := hk k hkm
        exact ⟨A, c, h1, h2, fun hn => by
          obtain ⟨g, e, h4, h5⟩ := h3 hn
          exact ⟨g, e, Nat.le_trans B2.size h4, h5⟩⟩⟩
end Go.Proofs.Ytffihnbpjcgicaa
