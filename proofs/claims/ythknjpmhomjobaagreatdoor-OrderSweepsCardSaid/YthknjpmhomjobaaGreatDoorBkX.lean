/- Merged: BkW, BkX. -/
import Derived.Test.YthknjpmhomjobaaGreatDoorBkU
import Derived.Test.YthknjpmhomjobaaGreatDoorOrdV
import Derived.Deep.AppendLies
import Derived.Test.YthknjpmhomjobaaGreatDoorMoneyA
/- What is owed, and which orders are no more: Owed, Sweep. -/
namespace Go.Proofs.YthknjpmhomjobaaGreatDoor
open Go.RowKit Go.Sort
set_option linter.unusedVariables false
set_option linter.unusedSimpArgs false

/-- has an order taken all, without arrears? -/
def ovB (s : Sta) : Bool := (!(s.tot == 0) && decide (s.tot ≤ s.tk)) && (s.ar == 0)
def kC (f : Nat → Sta) : Nat → Nat
  | 0 => 0
  | n + 1 => if ovB (f n) = true then kC f n else kC f n + 1
def gC (f : Nat → Sta) : Nat → Nat
  | 0 => 0
  | n + 1 => if ovB (f n) = true then gC f n + 1 else gC f n
def exI (G : Nat → Int) (n : Nat) (x : Int) (i : Nat) : Int := if i < n then G i else x
def kF (f : Nat → Sta) : Nat → Nat → Sta
  | 0 => f
  | n + 1 => if ovB (f n) = true then kF f n else exO (kF f n) (kC f n) (f n)
def gF (f : Nat → Sta) : Nat → Nat → Int
  | 0 => fun _ => 0
  | n + 1 => if ovB (f n) = true then exI (gF f n) (gC f n) (f n).id else gF f n
theorem kC_le (f : Nat → Sta) : ∀ n, kC f n ≤ n
  | 0 => Nat.le_refl _
  | n + 1 => by
    have := kC_le f n
    unfold kC
    split <;> omega
theorem gC_le (f : Nat → Sta) : ∀ n, gC f n ≤ n
  | 0 => Nat.le_refl _
  | n + 1 => by
    have := gC_le f n
    unfold gC
    split <;> omega
theorem kC_mono (f : Nat → Sta) {j n : Nat} (h : j ≤ n) : kC f j ≤ kC f n := by
  induction n with
  | zero => obtain rfl : j = 0 := by omega
            exact Nat.le_refl _
  | succ n ih =>
    by_cases e : j = n + 1
    · subst e; exact Nat.le_refl _
    · have := ih (by omega)
      show kC f j ≤ (if ovB (f n) = true then kC f n else kC f n + 1)
      split <;> omega
theorem gC_mono (f : Nat → Sta) {j n : Nat} (h : j ≤ n) : gC f j ≤ gC f n := by
  induction n with
  | zero => obtain rfl : j = 0 := by omega
            exact Nat.le_refl _
  | succ n ih =>
    by_cases e : j = n + 1
    · subst e; exact Nat.le_refl _
    · have := ih (by omega)
      show gC f j ≤ (if ovB (f n) = true then gC f n + 1 else gC f n)
      split <;> omega
theorem kF_keep (f : Nat → Sta) {j n i : Nat} (h : j ≤ n) (hi : i < kC f j) : kF f n i = kF f j i := by
  induction n with
  | zero => obtain rfl : j = 0 := by omega
            rfl
  | succ n ih =>
    by_cases e : j = n + 1
    · subst e; rfl
    · have h1 := ih (by omega)
      have h2 := kC_mono f (j := j) (n := n) (by omega)
      show (if ovB (f n) = true then kF f n else exO (kF f n) (kC f n) (f n)) i = _
      split
      · exact h1
      · unfold exO
        rw [if_pos (by omega)]
        exact h1
theorem gF_keep (f : Nat → Sta) {j n i : Nat} (h : j ≤ n) (hi : i < gC f j) : gF f n i = gF f j i := by
  induction n with
  | zero => obtain rfl : j = 0 := by omega
            rfl
  | succ n ih =>
    by_cases e : j = n + 1
    · subst e; rfl
    · have h1 := ih (by omega)
      have h2 := gC_mono f (j := j) (n := n) (by omega)
      show (if ovB (f n) = true then exI (gF f n) (gC f n) (f n).id else gF f n) i = _
      split
      · unfold exI
        rw [if_pos (by omega)]
        exact h1
      · exact h1
theorem kF_at (f : Nat → Sta) {j n : Nat} (h : j < n) (ho : ovB (f j) = false) : kC f (j + 1) = kC f j + 1 ∧ kC f j < kC f n ∧ gC f (j + 1) = gC f j ∧ kF f n (kC f j) = f j := by
  have e1 : kC f (j + 1) = kC f j + 1 := if_neg (by rw [ho]; decide)
  have e2 : gC f (j + 1) = gC f j := if_neg (by rw [ho]; decide)
  have h1 := kC_mono f (j := j + 1) (n := n) h
  refine ⟨e1, by omega, e2, ?_⟩
  rw [kF_keep f (j := j + 1) h (by omega)]
  show (if ovB (f j) = true then kF f j else exO (kF f j) (kC f j) (f j)) (kC f j) = _
  rw [if_neg (by rw [ho]; decide)]
  simp [exO]
theorem gF_at (f : Nat → Sta) {j n : Nat} (h : j < n) (ho : ovB (f j) = true) : gC f (j + 1) = gC f j + 1 ∧ gC f j < gC f n ∧ kC f (j + 1) = kC f j ∧ gF f n (gC f j) = (f j).id := by
  have e1 : gC f (j + 1) = gC f j + 1 := if_pos ho
  have e2 : kC f (j + 1) = kC f j := if_pos ho
  have h1 := gC_mono f (j := j + 1) (n := n) h
  refine ⟨e1, by omega, e2, ?_⟩
  rw [gF_keep f (j := j + 1) h (by omega)]
  show (if ovB (f j) = true then exI (gF f j) (gC f j) (f j).id else gF f j) (gC f j) = _
  rw [if_pos ho]
  simp [exI]
theorem kF_not (f : Nat → Sta) : ∀ n j, j < kC f n → ovB (kF f n j) = false
  | 0, j, h => absurd h (Nat.not_lt_zero j)
  | n + 1, j, h => by
    have h' : j < (if ovB (f n) = true then kC f n else kC f n + 1) := h
    show ovB ((if ovB (f n) = true then kF f n else exO (kF f n) (kC f n) (f n)) j) = false
    by_cases ho : ovB (f n) = true
    · rw [if_pos ho] at h' ⊢
      exact kF_not f n j h'
    · rw [if_neg ho] at h' ⊢
      unfold exO
      by_cases hj : j < kC f n
      · rw [if_pos hj]; exact kF_not f n j hj
      · rw [if_neg hj]; simpa using ho
theorem gC_none (F : Nat → Sta) : ∀ n, (∀ j, j < n → ovB (F j) = false) → gC F n = 0
  | 0, _ => rfl
  | n + 1, h => by
    show (if ovB (F n) = true then gC F n + 1 else gC F n) = 0
    rw [if_neg (by rw [h n (by omega)]; decide)]
    exact gC_none F n fun j hj => h j (by omega)
/-- the cells of some numbers -/
def inc (G : Nat → Int) : Nat → List Value
  | 0 => []
  | n + 1 => inc G n ++ [.int .i64 (G n)]
theorem inc_len (G : Nat → Int) : ∀ n, (inc G n).length = n
  | 0 => rfl
  | n + 1 => by show (inc G n ++ [_]).length = _; simp [inc_len G n]
theorem inc_get (G : Nat → Int) {n i : Nat} (h : i < n) : (inc G n)[i]? = some (.int .i64 (G i)) := by
  induction n with
  | zero => omega
  | succ n ih =>
    show (inc G n ++ [.int .i64 (G n)])[i]? = _
    by_cases e : i < n
    · rw [List.getElem?_append_left (by rw [inc_len]; omega)]; exact ih e
    · obtain rfl : i = n := by omega
      rw [List.getElem?_append_right (by rw [inc_len]; omega), inc_len]
      simp
theorem inc_ext {G H : Nat → Int} : ∀ {n : Nat}, (∀ i, i < n → G i = H i) → inc G n = inc H n
  | 0, _ => rfl
  | n + 1, h => by
    show inc G n ++ [.int .i64 (G n)] = inc H n ++ [.int .i64 (H n)]
    rw [inc_ext (fun i hi => h i (by omega)), h n (by omega)]
theorem inc_more (G : Nat → Int) (n : Nat) (x : Int) : inc (exI G n x) (n + 1) = inc G n ++ [.int .i64 x] := by
  show inc (exI G n x) n ++ [.int .i64 (exI G n x n)] = _
  rw [inc_ext (H := G) (fun i hi => by simp [exI, hi]), show exI G n x n = x by simp [exI]]
theorem own1_at {w : World} {B n c : Nat} {A : Option Addr} {G : Nat → Int} (h : w.ownsRow B 3 1 (.slice A n c) n (inc G n)) {j : Nat} (hj : j < n) : ∃ g, A = some ⟨g, 0, none⟩ ∧ w.cell? ⟨g, j, none⟩ = some (.int .i64 (G j)) := by
  obtain ⟨A', c', e', hA, hg⟩ := own_len h
  obtain ⟨rfl, _, rfl⟩ := Value.slice.inj e'
  obtain ⟨g, rfl⟩ := hg (by omega)
  exact ⟨g, rfl, own_cells h (inc_get G hj)⟩
theorem infoI : (Tryz.prog.info? 3).map (fun i => (i.zero, i.size, i.bytes)) = some (some (.int .i64 0), 1, 8) := by kernel_rfl
/-- rows of unlike elements lie apart -/
theorem own_apart {w w' : World} {B B' n m c d k l : Nat} {A A' : Option Addr} {e e' : TypeId} {xs ys : List Value} (h : w.ownsRow B e k (.slice A n c) n xs) (h' : w.ownsRow B' e' l (.slice A' m d) m ys) (he : e ≠ e') (hg : w.grownBy w' (Value.slice A n c).ownBlock) : w'.ownsRow B' e' l (.slice A' m d) m ys := by
  refine h'.kept hg ?_
  rcases h'.2 with ⟨hv, _⟩ | ⟨g', cap', cur', hv', _, hh', _⟩
  · left; rw [hv]; rfl
  · right
    rcases h.2 with ⟨hv, _⟩ | ⟨g, cap, cur, hv, _, hh, _⟩
    · rw [hv, hv']; intro q; cases q
    · rw [hv, hv']
      intro q
      have q' : g' = g := by simpa [Value.ownBlock] using q
      subst q'
      rw [hh] at hh'
      simp only [Option.some.injEq, Obj.cells.injEq] at hh'
      exact he hh'.2.1
theorem own_where2 {w : World} {B n c size : Nat} {A : Option Addr} {e : TypeId} {xs : List Value} (h : w.ownsRow B e size (.slice A n c) n xs) : (∀ a, A = some a → ∃ g, a = ⟨g, 0, none⟩ ∧ B ≤ g ∧ g < w.heap.size) ∧ (A = none → c = 0) := by
  obtain ⟨A', c', e', hA, _⟩ := own_len h
  obtain ⟨rfl, _, rfl⟩ := Value.slice.inj e'
  refine ⟨hA, fun e => ?_⟩
  rcases h.2 with ⟨hv, _⟩ | ⟨g', cap, cur, hv, _⟩
  · simp at hv; exact hv.2.2
  · subst e; simp at hv
/-- what Sweep leaves -/
def SwP (p n : Nat) (f : Nat → Sta) (w : World) (e : Ending) (w' : World) : Prop :=
  ∃ v, e = .returned v ∧ w'.ownsRow w.heap.size 3 1 v (gC f n) (inc (gF f n) (gC f n)) ∧ Bk w' p (kC f n) (kF f n) ∧ RelP p w w'
set_option maxRecDepth 100000 in
set_option maxHeartbeats 8000000 in
theorem sweep_any (p n : Nat) (f : Nat → Sta) (w : World) (h : Bk w p n f) (hn : n ≤ 64) :
    Calls Tryz.prog 22 #[.pointer (some ⟨p, 0, none⟩)] w (SwP p n f w) := by
  have hpw := h.lt
  obtain ⟨A, c, K, hO, hA, hAp⟩ := h
  have k0 := K.cell (i := 0) rfl
  have HK := Lib.hid K
  have HO := Lib.hid hO
  clear K hO hA hAp
  go_enter Tryz.func22, Tryz.ntmps22
  go_wp2
  go_loopw [3, 4, 12] (fun s3 s4 s12 W => ∃ (j : Nat) (A1 : Option Addr) (c1 : Nat) (A2 : Option Addr) (c2 : Nat), j ≤ n ∧ s3 = .slice A1 (gC f j) c1 ∧ s4 = .slice A2 (kC f j) c2 ∧ s12 = .int .i64 j ∧ W.ownsRow w.heap.size 3 1 (.slice A1 (gC f j) c1) (gC f j) (inc (gF f j) (gC f j)) ∧ W.ownsRow w.heap.size 50 7 (.slice A2 (kC f j) c2) (kC f j) (stc7 (kF f j) (kC f j)) ∧ Below w.heap.size w W) (fun _ _ s12 _ => n - (intOf s12).toNat)
  case atStart => exact ⟨0, none, 0, none, 0, Nat.zero_le _, rfl, rfl, rfl, World.ownsRow_nil _ _ _ _, World.ownsRow_nil _ _ _ _, Below.refl _ _⟩
  case round =>
    obtain ⟨j, A1, c1, A2, c2, hj, rfl, rfl, rfl, ho1, ho2, hB⟩ := hrel
    have hgl := gC_le f j
    have hkl := kC_le f j
    by_cases hjn : j < n
    · obtain ⟨b, o, rfl, hc⟩ := (HO.out.below hB) (by omega)
      obtain ⟨d0, d1, d2, d3, d4, d5, d6⟩ := hc j hjn
      have hjl : (j : Int) < (n : Int) := by omega
      have hj1 : j + 1 ≤ n := hjn
      obtain ⟨i1, hi1, hy0, hy1, hy2⟩ := info_parts infoI
      obtain ⟨i7, hi7, hz0, hz1, hz2⟩ := info_parts infoSt
      have H1 := Lib.hid (And.intro hi1 (And.intro hy0 (And.intro hy1 hy2)))
      have H7 := Lib.hid (And.intro hi7 (And.intro hz0 (And.intro hz1 hz2)))
      clear hi1 hy0 hy1 hy2 hi7 hz0 hz1 hz2 hc k0
      have hov : ∃ b, ovB (f j) = b := ⟨_, rfl⟩
      obtain ⟨bo, hbo⟩ := hov
      obtain ⟨bv, hbv⟩ : ∃ bv, (!((f j).tot == 0) && decide ((f j).tot ≤ (f j).tk)) = bv := ⟨_, rfl⟩
      obtain ⟨ba, hba⟩ : ∃ ba, ((f j).ar == 0) = ba := ⟨_, rfl⟩
      have hbb : (bv && ba) = bo := by rw [← hbv, ← hba]; exact hbo
      have HBO := Lib.hid hbo
      have HFS : ∀ s : Sta, f j = s → stc7 (exO (kF f j) (kC f j) (f j)) (kC f j + 1) = stc7 (kF f j) (kC f j) ++ s.cs := fun s e => by rw [exO_cells, e]
      have HFI : ∀ x : Int, (f j).id = x → inc (exI (gF f j) (gC f j) (f j).id) (gC f j + 1) = inc (gF f j) (gC f j) ++ [.int .i64 x] := fun x e => by rw [inc_more, e]
      obtain ⟨s, hs⟩ : ∃ s, f j = s := ⟨_, rfl⟩
      have HS := Lib.hid (HFS s hs)
      have HI := Lib.hid (HFI s.id (by rw [hs]))
      rw [hs] at d0 d1 d2 d3 d4 d5 d6 hbv hba
      clear HFS HFI hbo
      have hov2 : Hid (ovB (f j) = bo) := HBO
      obtain ⟨x0, x1, x2, x3, x4, x5, x6⟩ := s
      replace d0 : wr.cell? ⟨b, o + j * 7, none⟩ = some (.int .i64 x0) := d0
      replace d1 : wr.cell? ⟨b, o + j * 7 + 1, none⟩ = some (.int .i64 x1) := d1
      replace d2 : wr.cell? ⟨b, o + j * 7 + 2, none⟩ = some (.int .i64 x2) := d2
      replace d3 : wr.cell? ⟨b, o + j * 7 + 3, none⟩ = some (.int .i64 x3) := d3
      replace d4 : wr.cell? ⟨b, o + j * 7 + 4, none⟩ = some (.int .i64 x4) := d4
      replace d5 : wr.cell? ⟨b, o + j * 7 + 5, none⟩ = some (.int .i64 x5) := d5
      replace d6 : wr.cell? ⟨b, o + j * 7 + 6, none⟩ = some (.int .i64 x6) := d6
      replace hbv : (!(x4 == 0) && decide (x4 ≤ x5)) = bv := hbv
      replace hba : (x6 == 0) = ba := hba
      have K2 := bx_new wr [.int .i64 x0, .int .i64 x1, .int .i64 x2, .int .i64 x3, .int .i64 x4, .int .i64 x5, .int .i64 x6] 50
      have NB := below_new wr (.cells (List.toArray [.int .i64 x0, .int .i64 x1, .int .i64 x2, .int .i64 x3, .int .i64 x4, .int .i64 x5, .int .i64 x6]) 50)
      have cO := over_any x0 x1 x2 x3 x4 x5 x6 (wr.alloc (.cells (List.toArray [.int .i64 x0, .int .i64 x1, .int .i64 x2, .int .i64 x3, .int .i64 x4, .int .i64 x5, .int .i64 x6]) 50))
      rw [hbv] at cO
      have k_0 := K2.cell (i := 0) rfl
      have k_1 := K2.cell (i := 1) rfl
      have k_2 := K2.cell (i := 2) rfl
      have k_3 := K2.cell (i := 3) rfl
      have k_4 := K2.cell (i := 4) rfl
      have k_5 := K2.cell (i := 5) rfl
      have k_6 := K2.cell (i := 6) rfl
      have HO1 := Lib.hid (own_below ho1 NB)
      have HO2 := Lib.hid (own_below ho2 NB)
      have HB := Lib.hid (below_step hB NB hB.size)
      clear ho1 ho2 hB hs hbv
      go_wp2_with (fail)
      with_reducible refine cO.mono ?_
      rintro e w1 ⟨rfl, C1⟩
      have K3 := K2.below C1
      have HP1 := Lib.hid (own_below HO1.out C1)
      have HP2 := Lib.hid (own_below HO2.out C1)
      have HB1 := Lib.hid (below_step HB.out C1 HB.out.size)
      clear K2 NB cO HO1 HO2 HB C1 k_0 k_1 k_2 k_3 k_4 k_5 k_6
      have q_0 := K3.cell (i := 0) rfl
      have q_1 := K3.cell (i := 1) rfl
      have q_2 := K3.cell (i := 2) rfl
      have q_3 := K3.cell (i := 3) rfl
      have q_4 := K3.cell (i := 4) rfl
      have q_5 := K3.cell (i := 5) rfl
      have q_6 := K3.cell (i := 6) rfl
      cases bo
      · cases bv
        · clear hbb hba
          have KA := Lib.hid (bx_new w1 [.int .i64 x0, .int .i64 x1, .int .i64 x2, .int .i64 x3, .int .i64 x4, .int .i64 x5, .int .i64 x6] 50)
          have NA := below_new w1 (.cells (List.toArray [.int .i64 x0, .int .i64 x1, .int .i64 x2, .int .i64 x3, .int .i64 x4, .int .i64 x5, .int .i64 x6]) 50)
          have HQ1 := Lib.hid (own_below HP1.out NA)
          have HQ2 := Lib.hid (own_below HP2.out NA)
          have HNA := Lib.hid (below_step HB1.out NA HB1.out.size)
          have hone : Hid (∀ u ∈ ([.int .i64 x0, .int .i64 x1, .int .i64 x2, .int .i64 x3, .int .i64 x4, .int .i64 x5, .int .i64 x6] : List Value), u.oneCell' = true) := Lib.hid (by simp [Value.oneCell'])
          have m1 : kC f j + 1 ≤ maxLen := by unfold maxLen; omega
          have m2 : (kC f j + 1) * 56 ≤ 140737488355328 := by omega
          have m3 := HNA.out.size
          clear NA HP1 HP2 HB1
          go_wp2_with (at_builtin; refine wpList_append_own _ rfl _ _ 33 rfl w.heap.size 50 i7 (.agg #[.int .i64 0, .int .i64 0, .int .i64 0, .int .i64 0, .int .i64 0, .int .i64 0, .int .i64 0]) 7 56 Tryz.underlying33 H7.out.1 H7.out.2.1 H7.out.2.2.1 H7.out.2.2.2 rfl (by decide) _ _ _ rfl HQ2.out ⟨w1.heap.size, 0, none⟩ 1 1 [.int .i64 x0, .int .i64 x1, .int .i64 x2, .int .i64 x3, .int .i64 x4, .int .i64 x5, .int .i64 x6] rfl rfl (bx_add KA.out) hone.out m1 m2 m3 ?_; intro v9 w9 hown9 hgr _)
          have hq1 := own_apart HQ2.out HQ1.out (by decide) hgr
          obtain ⟨A9, c9, rfl, _, _⟩ := own_len hown9
          obtain ⟨e1, _, e2, _⟩ := kF_at f (n := j + 1) (Nat.lt_succ_self j) hov2.out
          have e3 : kF f (j + 1) = exO (kF f j) (kC f j) (f j) := if_neg (by rw [hov2.out]; decide)
          have e4 : gF f (j + 1) = gF f j := if_neg (by rw [hov2.out]; decide)
          have hB9 := HNA.out.grown hgr m3 (fun k hk => (HQ2.out.lt k hk).1)
          refine ⟨⟨j + 1, A1, c1, A9, c9, hj1, by rw [e2], by rw [e1], by go_num, by rw [e2, e4]; exact hq1, by rw [e1, e3, HS.out]; exact hown9, hB9⟩, meas_step hjn⟩
        · obtain rfl : ba = false := by simpa using hbb
          have KA := Lib.hid (bx_new w1 [.int .i64 x0, .int .i64 x1, .int .i64 x2, .int .i64 x3, .int .i64 x4, .int .i64 x5, .int .i64 x6] 50)
          have NA := below_new w1 (.cells (List.toArray [.int .i64 x0, .int .i64 x1, .int .i64 x2, .int .i64 x3, .int .i64 x4, .int .i64 x5, .int .i64 x6]) 50)
          have HQ1 := Lib.hid (own_below HP1.out NA)
          have HQ2 := Lib.hid (own_below HP2.out NA)
          have HNA := Lib.hid (below_step HB1.out NA HB1.out.size)
          have hone : Hid (∀ u ∈ ([.int .i64 x0, .int .i64 x1, .int .i64 x2, .int .i64 x3, .int .i64 x4, .int .i64 x5, .int .i64 x6] : List Value), u.oneCell' = true) := Lib.hid (by simp [Value.oneCell'])
          have m1 : kC f j + 1 ≤ maxLen := by unfold maxLen; omega
          have m2 : (kC f j + 1) * 56 ≤ 140737488355328 := by omega
          have m3 := HNA.out.size
          clear NA HP1 HP2 HB1
          go_wp2_with (at_builtin; refine wpList_append_own _ rfl _ _ 33 rfl w.heap.size 50 i7 (.agg #[.int .i64 0, .int .i64 0, .int .i64 0, .int .i64 0, .int .i64 0, .int .i64 0, .int .i64 0]) 7 56 Tryz.underlying33 H7.out.1 H7.out.2.1 H7.out.2.2.1 H7.out.2.2.2 rfl (by decide) _ _ _ rfl HQ2.out ⟨w1.heap.size, 0, none⟩ 1 1 [.int .i64 x0, .int .i64 x1, .int .i64 x2, .int .i64 x3, .int .i64 x4, .int .i64 x5, .int .i64 x6] rfl rfl (bx_add KA.out) hone.out m1 m2 m3 ?_; intro v9 w9 hown9 hgr _)
          have hq1 := own_apart HQ2.out HQ1.out (by decide) hgr
          obtain ⟨A9, c9, rfl, _, _⟩ := own_len hown9
          obtain ⟨e1, _, e2, _⟩ := kF_at f (n := j + 1) (Nat.lt_succ_self j) hov2.out
          have e3 : kF f (j + 1) = exO (kF f j) (kC f j) (f j) := if_neg (by rw [hov2.out]; decide)
          have e4 : gF f (j + 1) = gF f j := if_neg (by rw [hov2.out]; decide)
          have hB9 := HNA.out.grown hgr m3 (fun k hk => (HQ2.out.lt k hk).1)
          refine ⟨⟨j + 1, A1, c1, A9, c9, hj1, by rw [e2], by rw [e1], by go_num, by rw [e2, e4]; exact hq1, by rw [e1, e3, HS.out]; exact hown9, hB9⟩, meas_step hjn⟩
      · obtain ⟨rfl, rfl⟩ : bv = true ∧ ba = true := by simpa using hbb
        have KA := Lib.hid (bx_new w1 [.int .i64 x0] 3)
        have NA := below_new w1 (.cells #[.int .i64 x0] 3)
        have HQ1 := Lib.hid (own_below HP1.out NA)
        have HQ2 := Lib.hid (own_below HP2.out NA)
        have HNA := Lib.hid (below_step HB1.out NA HB1.out.size)
        have hone : Hid (∀ u ∈ ([.int .i64 x0] : List Value), u.oneCell' = true) := Lib.hid (by simp [Value.oneCell'])
        have m1 : gC f j + 1 ≤ maxLen := by unfold maxLen; omega
        have m2 : (gC f j + 1) * 8 ≤ 140737488355328 := by omega
        have m3 := HNA.out.size
        clear NA HP1 HP2 HB1
        go_wp2_with (at_builtin; refine wpList_append_own _ rfl _ _ 58 rfl w.heap.size 3 i1 (.int .i64 0) 1 8 Tryz.underlying58 H1.out.1 H1.out.2.1 H1.out.2.2.1 H1.out.2.2.2 rfl (by decide) _ _ _ rfl HQ1.out ⟨w1.heap.size, 0, none⟩ 1 1 [.int .i64 x0] rfl rfl (bx_add KA.out) hone.out m1 m2 m3 ?_; intro v9 w9 hown9 hgr _)
        have hq2 := own_apart HQ1.out HQ2.out (by decide) hgr
        obtain ⟨A9, c9, rfl, _, _⟩ := own_len hown9
        obtain ⟨e1, _, e2, _⟩ := gF_at f (n := j + 1) (Nat.lt_succ_self j) hov2.out
        have e3 : kF f (j + 1) = kF f j := if_pos hov2.out
        have e4 : gF f (j + 1) = exI (gF f j) (gC f j) (f j).id := if_pos hov2.out
        have hB9 := HNA.out.grown hgr m3 (fun k hk => (HQ1.out.lt k hk).1)
        refine ⟨⟨j + 1, A9, c9, A2, c2, hj1, by rw [e1], by rw [e2], by go_num, by rw [e1, e4, HI.out]; exact hown9, by rw [e2, e3]; exact hq2, hB9⟩, meas_step hjn⟩
    · obtain rfl : n = j := by omega
      have hnl : ¬ (n : Int) < (n : Int) := by omega
      have KB := HK.out.below hB
      have f0 := KB.fr 0
      have b0 := KB.cell (i := 0) rfl
      have hw := own_where2 ho2
      have hne : ∀ g o, A2 = some ⟨g, o, none⟩ → g ≠ p := fun g o e => by
        obtain ⟨g', e', h1, _⟩ := hw.1 _ e
        simp only [Addr.mk.injEq] at e'
        omega
      have HO2 := Lib.hid ho2
      have HO1 := Lib.hid ho1
      have HN := Lib.hid (And.intro hw.2 hne)
      have HKS := Lib.hid (KB.set 0 (.slice A2 (kC f n) c2))
      have HBB := Lib.hid hB
      obtain ⟨A1', c1', e1', _, _⟩ := own_len ho1
      clear ho1 ho2 hw hne KB hB e1'
      go_wp2
      go_ret
      refine ⟨_, rfl, own_other HO1.out hpw 0 _, ⟨A2, c2, HKS.out, fun h0 => ?_, HN.out.1, HN.out.2⟩, ⟨wr, HBB.out, .inr ⟨_, rfl⟩⟩⟩
      obtain ⟨g', rfl, _⟩ := own7_at HO2.out h0
      exact ors_set (SB.of_own HO2.out h0).1 (HN.out.2 _ _ rfl) h0
end Go.Proofs.YthknjpmhomjobaaGreatDoor

/- What all orders of a book still take: Owed. -/
namespace Go.Proofs.YthknjpmhomjobaaGreatDoor
open Go.RowKit Go.Sort
set_option linter.unusedVariables false
set_option linter.unusedSimpArgs false

/-- is what an order lacks beyond the most? -/
def lfX (s : Sta) : Bool := decide (100000000000 < s.tot - s.tk) || decide (s.tot - s.tk < -100000000000)
def owS (f : Nat → Sta) : Nat → Int
  | 0 => 0
  | n + 1 => if (f n).tot = 0 ∨ lfX (f n) = true ∨ (f n).tot - (f n).tk ≤ 0 then owS f n else owS f n + ((f n).tot - (f n).tk)
def owN (f : Nat → Sta) : Nat → Nat
  | 0 => 0
  | n + 1 => if (f n).tot = 0 then owN f n + 1 else owN f n
def owB (f : Nat → Sta) : Nat → Bool
  | 0 => true
  | n + 1 => owB f n && decide ((f n).tot = 0 ∨ (lfX (f n) = false ∧ ((f n).tot - (f n).tk ≤ 0 ∨ owS f n + ((f n).tot - (f n).tk) ≤ 100000000000)))
theorem owB_stop {f : Nat → Sta} {j n : Nat} (h : j ≤ n) (hb : owB f j = false) : owB f n = false := by
  induction n with
  | zero => obtain rfl : j = 0 := by omega
            exact hb
  | succ n ih =>
    by_cases e : j = n + 1
    · subst e; exact hb
    · show (owB f n && _) = false
      rw [ih (by omega)]
      rfl
theorem owS_bd {f : Nat → Sta} : ∀ {n : Nat}, owB f n = true → 0 ≤ owS f n ∧ owS f n ≤ 100000000000
  | 0, _ => ⟨Int.le_refl _, by show (0 : Int) ≤ _; omega⟩
  | n + 1, h => by
    have h' : (owB f n && decide ((f n).tot = 0 ∨ (lfX (f n) = false ∧ ((f n).tot - (f n).tk ≤ 0 ∨ owS f n + ((f n).tot - (f n).tk) ≤ 100000000000)))) = true := h
    simp only [Bool.and_eq_true, decide_eq_true_eq] at h'
    obtain ⟨h1, h2⟩ := h'
    have ih := owS_bd h1
    show 0 ≤ (if (f n).tot = 0 ∨ lfX (f n) = true ∨ (f n).tot - (f n).tk ≤ 0 then owS f n else owS f n + ((f n).tot - (f n).tk)) ∧ (if (f n).tot = 0 ∨ lfX (f n) = true ∨ (f n).tot - (f n).tk ≤ 0 then owS f n else owS f n + ((f n).tot - (f n).tk)) ≤ 100000000000
    by_cases hc : (f n).tot = 0 ∨ lfX (f n) = true ∨ (f n).tot - (f n).tk ≤ 0
    · rw [if_pos hc]; exact ih
    · rw [if_neg hc]
      have h3 : ¬ (f n).tot = 0 := fun e => hc (.inl e)
      have h4 : ¬ (f n).tot - (f n).tk ≤ 0 := fun e => hc (.inr (.inr e))
      rcases h2 with h2 | ⟨_, h2 | h2⟩
      · exact absurd h2 h3
      · exact absurd h2 h4
      · omega
theorem owN_le (f : Nat → Sta) : ∀ n, owN f n ≤ n
  | 0 => Nat.le_refl _
  | n + 1 => by
    have := owN_le f n
    unfold owN
    split <;> omega
/-- the sums, whatever may be -/
theorem owS_raw {f : Nat → Sta} : ∀ n : Nat, 0 ≤ owS f n ∧ owS f n ≤ (n : Int) * 100000000000
  | 0 => ⟨Int.le_refl _, by show (0 : Int) ≤ _; omega⟩
  | n + 1 => by
    have ih := owS_raw (f := f) n
    show 0 ≤ (if (f n).tot = 0 ∨ lfX (f n) = true ∨ (f n).tot - (f n).tk ≤ 0 then owS f n else owS f n + ((f n).tot - (f n).tk)) ∧ (if (f n).tot = 0 ∨ lfX (f n) = true ∨ (f n).tot - (f n).tk ≤ 0 then owS f n else owS f n + ((f n).tot - (f n).tk)) ≤ ((n + 1 : Nat) : Int) * 100000000000
    by_cases hc : (f n).tot = 0 ∨ lfX (f n) = true ∨ (f n).tot - (f n).tk ≤ 0
    · rw [if_pos hc]; omega
    · rw [if_neg hc]
      have h4 : ¬ (f n).tot - (f n).tk ≤ 0 := fun e => hc (.inr (.inr e))
      have h5 : ¬ lfX (f n) = true := fun e => hc (.inr (.inl e))
      simp only [lfX, Bool.or_eq_true, decide_eq_true_eq] at h5
      omega
def OwP (n : Nat) (f : Nat → Sta) (w : World) (e : Ending) (w' : World) : Prop :=
  ∃ a b c : Int, e = .returned (.tuple #[.int .i64 a, .int .i64 b, .int .i64 c]) ∧ (owB f n = true → a = owS f n ∧ b = owN f n ∧ c = 0) ∧ (owB f n = false → a = 0 ∧ b = 0 ∧ c = 10) ∧ Below w.heap.size w w'
set_option maxRecDepth 100000 in
set_option maxHeartbeats 8000000 in
theorem owed_any (p n : Nat) (f : Nat → Sta) (w : World) (h : Bk w p n f) (hn : n ≤ 64) (hf : ∀ i, i < n → (0 ≤ (f i).tot ∧ (f i).tot ≤ 100000000000) ∧ amtB (f i).tk = true) :
    Calls Tryz.prog 21 #[.pointer (some ⟨p, 0, none⟩)] w (OwP n f w) := by
  obtain ⟨A, c, K, hO, hA, hAp⟩ := h
  have k0 := K.cell (i := 0) rfl
  have HO := Lib.hid hO
  clear K hO hA hAp
  go_enter Tryz.func21, Tryz.ntmps21
  go_wp2
  go_loopw [5, 6, 16] (fun s5 s6 s16 W => ∃ (j : Nat), j ≤ n ∧ s5 = .int .i64 (owS f j) ∧ s6 = .int .i64 (owN f j : Nat) ∧ s16 = .int .i64 j ∧ owB f j = true ∧ Below w.heap.size w W) (fun _ _ s16 _ => n - (intOf s16).toNat)
  case atStart => exact ⟨0, Nat.zero_le _, rfl, rfl, rfl, rfl, Below.refl _ _⟩
  case round =>
    clear k0
    obtain ⟨j, hj, rfl, rfl, rfl, hb, hB⟩ := hrel
    by_cases hjn : j < n
    · obtain ⟨b, o, rfl, hc⟩ := (HO.out.below hB) (by omega)
      obtain ⟨d0, d1, d2, d3, d4, d5, d6⟩ := hc j hjn
      have hjl : (j : Int) < (n : Int) := by omega
      have hj1 : j + 1 ≤ n := hjn
      obtain ⟨ht, hk⟩ := hf j hjn
      have hob := owS_bd hb
      have hnl := owN_le f j
      have eB : owB f (j + 1) = (owB f j && decide ((f j).tot = 0 ∨ (lfX (f j) = false ∧ ((f j).tot - (f j).tk ≤ 0 ∨ owS f j + ((f j).tot - (f j).tk) ≤ 100000000000)))) := rfl
      have eS : owS f (j + 1) = if (f j).tot = 0 ∨ lfX (f j) = true ∨ (f j).tot - (f j).tk ≤ 0 then owS f j else owS f j + ((f j).tot - (f j).tk) := rfl
      have eN : owN f (j + 1) = if (f j).tot = 0 then owN f j + 1 else owN f j := rfl
      have eX : lfX (f j) = (decide (100000000000 < (f j).tot - (f j).tk) || decide ((f j).tot - (f j).tk < -100000000000)) := rfl
      rw [hb, Bool.true_and] at eB
      rw [eX] at eB eS
      clear hc eX hb hf
      generalize (f j).id = x0 at *
      generalize (f j).pr = x1 at *
      generalize (f j).am = x2 at *
      generalize (f j).rt = x3 at *
      generalize (f j).tot = x4 at *
      generalize (f j).tk = x5 at *
      generalize (f j).ar = x6 at *
      have HEB := Lib.hid eB
      have HES := Lib.hid eS
      have HEN := Lib.hid eN
      clear eB eS eN
      obtain ⟨S, hS⟩ : ∃ S, owS f j = S := ⟨_, rfl⟩
      rw [hS] at hob ⊢
      have HS := Lib.hid hS
      obtain ⟨N, hN⟩ : ∃ N, owN f j = N := ⟨_, rfl⟩
      rw [hN] at hnl ⊢
      have HN := Lib.hid hN
      clear hS hN
      have K := bx_new wr [.int .i64 x0, .int .i64 x1, .int .i64 x2, .int .i64 x3, .int .i64 x4, .int .i64 x5, .int .i64 x6] 50
      have NB := below_new wr (.cells (List.toArray [.int .i64 x0, .int .i64 x1, .int .i64 x2, .int .i64 x3, .int .i64 x4, .int .i64 x5, .int .i64 x6]) 50)
      have k_0 := K.cell (i := 0) rfl
      have k_1 := K.cell (i := 1) rfl
      have k_2 := K.cell (i := 2) rfl
      have k_3 := K.cell (i := 3) rfl
      have k_4 := K.cell (i := 4) rfl
      have k_5 := K.cell (i := 5) rfl
      have k_6 := K.cell (i := 6) rfl
      have HB := Lib.hid (below_step hB NB hB.size)
      clear K NB hB
      by_cases h0 : x4 = 0
      · subst h0
        have hn1 : wrap64 ((N : Int) + 1) = (N : Int) + 1 := IntWalk.wrap64_in _ (by omega)
        go_wp2
        refine ⟨⟨j + 1, hj1, by rw [HES.out, if_pos (.inl rfl), HS.out], by rw [HEN.out, if_pos rfl, HN.out]; go_num, by go_num, ?_, HB.out⟩, meas_step hjn⟩
        rw [HEB.out]
        exact decide_eq_true (.inl rfl)
      · have t0 : (x4 == 0) = false := by simp [h0]
        have hka := amtB_yes hk
        by_cases hr : -100000000000 ≤ x4 - x5 ∧ x4 - x5 ≤ 100000000000
        · have cS := fun W => sub_ok x4 x5 W (by rw [amtB_mk (by omega) ht.2, hk]; rfl) (amtB_mk hr.1 hr.2)
          have HR := Lib.hid hr
          have HX : Hid ((decide (100000000000 < x4 - x5) || decide (x4 - x5 < -100000000000)) = false) := Lib.hid (by rw [decide_eq_false (by omega), decide_eq_false (by omega)]; rfl)
          have H0 := Lib.hid h0
          go_wp2_with (fail)
          with_reducible refine (cS _).mono ?_
          rintro e w2 ⟨rfl, C2⟩
          have HB2 := Lib.hid (below_step HB.out C2 HB.out.size)
          clear cS C2 HB k_0 k_1 k_2 k_3 k_4 k_5 k_6 h0
          by_cases hl : 0 < x4 - x5
          · have hmx : max (x4 - x5) 0 = x4 - x5 := by omega
            by_cases hm : S + (x4 - x5) ≤ 100000000000
            · have cA := fun W => add_ok S (x4 - x5) W (by rw [amtB_mk (by omega) hob.2, amtB_mk hr.1 hr.2]; rfl) (amtB_mk (by omega) hm)
              have HL := Lib.hid hl
              have HM := Lib.hid hm
              clear hr hm
              generalize x4 - x5 = z at *
              go_wp2_with (fail)
              with_reducible refine (cA _).mono ?_
              rintro e w3 ⟨rfl, C3⟩
              have HB3 := Lib.hid (below_step HB2.out C3 HB2.out.size)
              clear cA C3 HB2 hl hmx
              go_wp2
              refine ⟨⟨j + 1, hj1, ?_, by rw [HEN.out, if_neg H0.out, HN.out], by go_num, ?_, HB3.out⟩, meas_step hjn⟩
              · rw [HES.out, if_neg (by rintro (h | h | h); exact H0.out h; rw [HX.out] at h; cases h; have := HL.out; omega), HS.out]
              · rw [HEB.out]
                exact decide_eq_true (.inr ⟨HX.out, .inr (by rw [HS.out]; exact HM.out)⟩)
            · have cA := fun W => add_bad S (x4 - x5) W (by rw [amtB_mk_no (.inr (by omega) : S + (x4 - x5) < -100000000000 ∨ 100000000000 < S + (x4 - x5)), Bool.and_false])
              have HL := Lib.hid hl
              have HM := Lib.hid hm
              clear hr hm
              generalize x4 - x5 = z at *
              go_wp2_with (fail)
              with_reducible refine (cA _).mono ?_
              rintro e w3 ⟨rfl, C3⟩
              have HB3 := Lib.hid (below_step HB2.out C3 HB2.out.size)
              clear cA C3 HB2 hl hmx
              go_wp2
              go_ret3
              have hbn : owB f n = false := owB_stop hj1 (by
                rw [HEB.out]
                refine decide_eq_false ?_
                rintro (h | ⟨_, h | h⟩)
                · exact H0.out h
                · have := HL.out; omega
                · rw [HS.out] at h; have := HM.out; omega)
              exact ⟨_, _, _, rfl, fun h => absurd (hbn.symm.trans h) (by decide), fun _ => ⟨rfl, rfl, rfl⟩, HB3.out⟩
          · have hmx : max (x4 - x5) 0 = 0 := by omega
            have cA := fun W => add_ok S 0 W (by rw [amtB_mk (by omega) hob.2]; rfl) (by rw [Int.add_zero]; exact amtB_mk (by omega) hob.2)
            rw [Int.add_zero] at cA
            have HL : Hid (x4 - x5 ≤ 0) := Lib.hid (by omega)
            have hl2 : x4 - x5 ≤ 0 := HL.out
            clear hr hl
            generalize x4 - x5 = z at *
            go_wp2_with (fail)
            with_reducible refine (cA _).mono ?_
            rintro e w3 ⟨rfl, C3⟩
            have HB3 := Lib.hid (below_step HB2.out C3 HB2.out.size)
            clear cA C3 HB2 hl2 hmx
            go_wp2
            refine ⟨⟨j + 1, hj1, ?_, by rw [HEN.out, if_neg H0.out, HN.out], by go_num, ?_, HB3.out⟩, meas_step hjn⟩
            · rw [HES.out, if_pos (.inr (.inr HL.out)), HS.out]
            · rw [HEB.out]
              exact decide_eq_true (.inr ⟨HX.out, .inl HL.out⟩)
        · have cS := fun W => sub_less x4 x5 W (by rw [amtB_mk (by omega) ht.2, hk]; rfl) (amtB_mk_no (by omega))
          have HX : Hid ((decide (100000000000 < x4 - x5) || decide (x4 - x5 < -100000000000)) = true) := Lib.hid (by simp; omega)
          have H0 := Lib.hid h0
          clear hr
          go_wp2_with (fail)
          with_reducible refine (cS _).mono ?_
          rintro e w2 ⟨rfl, C2⟩
          have HB2 := Lib.hid (below_step HB.out C2 HB.out.size)
          clear cS C2 HB k_0 k_1 k_2 k_3 k_4 k_5 k_6 h0
          go_wp2
          go_ret3
          have hbn : owB f n = false := owB_stop hj1 (by
            rw [HEB.out]
            refine decide_eq_false ?_
            rintro (h | ⟨h, _⟩)
            · exact H0.out h
            · rw [HX.out] at h; cases h)
          exact ⟨_, _, _, rfl, fun h => absurd (hbn.symm.trans h) (by decide), fun _ => ⟨rfl, rfl, rfl⟩, HB2.out⟩
    · obtain rfl : n = j := by omega
      have hnl : ¬ (n : Int) < (n : Int) := by omega
      have HB := Lib.hid hb
      have HBB := Lib.hid hB
      clear hb hB
      go_wp2
      go_ret3
      exact ⟨_, _, _, rfl, fun _ => ⟨rfl, rfl, rfl⟩, fun h => absurd (HB.out.symm.trans h) (by decide), HBB.out⟩
end Go.Proofs.YthknjpmhomjobaaGreatDoor
