/- Plain facts of small bases: what is due of them is small, too. -/
import Derived.Test.YtffihnbpjcgicaaClB
namespace Go.Proofs.Ytffihnbpjcgicaa
open Go.RowKit Go.Sort
set_option linter.unusedVariables false
set_option linter.unusedSimpArgs false

theorem w_low_top {F R : Nat → Int} {n : Nat} (hI : Inc F n) (hR : Rts R n) : ∀ {j : Nat} {l : Int}, j < n → F j ≤ l → lowb F R j l ≤ l * topb R n
  | 0, l, hj, hl => by
    have h0 := hI.1
    have h1 := top_ge R n 0 hj
    have h2 : (l - F 0) * R 0 ≤ (l - F 0) * topb R n := Int.mul_le_mul_of_nonneg_left h1 (by omega)
    show (l - F 0) * R 0 ≤ l * topb R n
    rw [h0] at h2 ⊢
    simpa using h2
  | j + 1, l, hj, hl => by
    have hi := hI.2 (j + 1) (by omega) hj
    have ih := w_low_top hI hR (j := j) (l := F (j + 1)) (by omega) (by simp at hi; omega)
    have h1 := top_ge R n (j + 1) hj
    have h2 : (l - F (j + 1)) * R (j + 1) ≤ (l - F (j + 1)) * topb R n := Int.mul_le_mul_of_nonneg_left h1 (by omega)
    show (l - F (j + 1)) * R (j + 1) + lowb F R j (F (j + 1)) ≤ l * topb R n
    rw [Int.sub_mul] at h2
    rw [Int.sub_mul (c := topb R n)] at h2
    rw [Int.sub_mul]
    omega
theorem topb_le {R : Nat → Int} : ∀ {n : Nat}, Rts R n → topb R n ≤ 10000
  | 0, _ => by show (0 : Int) ≤ 10000; omega
  | n + 1, h => by
    have a := topb_le (R := R) (n := n) fun i hi => h i (by omega)
    have b := (h n (by omega)).2
    show max (topb R n) (R n) ≤ 10000
    omega
theorem w_exact {F R : Nat → Int} {n : Nat} (hn : 1 ≤ n) (hI : Inc F n) (hR : Rts R n) {x : Int} (hx : 0 ≤ x) : exactV F R n x ≤ x * 10000 := by
  have := w_low_top hI hR (fnd_lt F x (n := n) (by omega)) (find_left hI x)
  have t := Int.mul_le_mul_of_nonneg_left (topb_le hR) hx
  unfold exactV
  rw [show max x 0 = x by omega] at this ⊢
  omega
theorem w_rnd {e M x : Int} (h0 : 0 ≤ e) (h1 : e ≤ x * 10000) : 0 ≤ rnd e 10000 M ∧ rnd e 10000 M ≤ x := by
  rcases rnd_cases e 10000 M with h | ⟨h, h2⟩ <;> rw [h] <;> omega
theorem due_sm {c : CB} (hok : Okb c.b.F c.b.R c.b.E c.b.n) {x : Int} (hx0 : 0 ≤ x) (hx : x ≤ 100000000) : (0 ≤ dueA c x ∧ dueA c x ≤ 100000000) ∧ 0 ≤ dueB c x ∧ dueB c x ≤ 100000000 := by
  have eA := exact_bd hok.1 hok.2.2.1 hok.2.2.2.1 hok.2.2.2.2.1 (show x ≤ 100000000000 by omega)
  have eB := exact_bd hok.1 hok.2.2.1 hok.2.2.2.1 hok.2.2.2.2.2 (show x ≤ 100000000000 by omega)
  have a := w_rnd (M := c.W) eA.1 (w_exact hok.1 hok.2.2.1 hok.2.2.2.2.1 hx0)
  have b := w_rnd (M := c.W) eB.1 (w_exact hok.1 hok.2.2.1 hok.2.2.2.2.2 hx0)
  unfold dueA dueB
  omega
theorem w_all {f : Nat → Int} : ∀ {n : Nat}, (∀ i, i < n → f i = 0) → firstE f n = 0
  | 0, _ => rfl
  | n + 1, h => first_succ (w_all fun i hi => h i (by omega)) (h n (by omega))
def Sm (v : Int) : Prop := -100000000000 ≤ v ∧ v ≤ 100000000
/-- small bases -/
def Smb (c x s : Nat → Int) (m : Nat) : Prop := ∀ k, k < m → amtB (c k) = true ∧ Sm (x k) ∧ Sm (s k)
theorem cnt_sm {T : TB} {c x s : Nat → Int} {m : Nat} (h : Smb c x s m) {k : Nat} (hk : k < m) (i : Nat) : 0 ≤ cntV T (x k) (s k) (ahd T x s k) i ∧ cntV T (x k) (s k) (ahd T x s k) i ≤ 100000000 := by
  obtain ⟨_, ⟨_, h1⟩, ⟨_, h2⟩⟩ := h k hk
  have ho : 0 ≤ onV (T.C i).B (x k) (s k) ∧ onV (T.C i).B (x k) (s k) ≤ 100000000 := by unfold onV; split <;> omega
  have := und_bd (P := (T.C i).P) (Y := (T.C i).Y) (a := ahd T x s k i) ho.1
  unfold cntV
  omega
theorem yr_sm {T : TB} {c x s : Nat → Int} {m : Nat} (h : Smb c x s m) (hm : m ≤ 60) : firstE (yrE T c x s) m = 0 := by
  have cb := fun k hk i => cnt_sm (T := T) h (k := k) hk i
  have ab : ∀ k, k ≤ m → ∀ i, 0 ≤ ahd T x s k i ∧ ahd T x s k i ≤ 100000000 * (k : Int) := fun k => by
    induction k with
    | zero => intro _ i; exact ⟨Int.le_refl _, by show (0 : Int) ≤ _; omega⟩
    | succ k ih =>
      intro hk i
      have h1 := ih (by omega) i
      have h2 := cb k (by omega) i
      show 0 ≤ ahd T x s k i + cntV T (x k) (s k) (ahd T x s k) i ∧ ahd T x s k i + cntV T (x k) (s k) (ahd T x s k) i ≤ _
      omega
  refine w_all fun k hk => ?_
  obtain ⟨h1, h2, h3⟩ := h k hk
  unfold Sm at h2 h3
  unfold yrE
  rw [h1, amtB_mk h2.1 (by omega), amtB_mk h3.1 (by omega)]
  show firstE (perE T (x k) (s k) (ahd T x s k)) T.nC = 0
  refine w_all fun i hi => ?_
  have h4 := ab k (by omega) i
  have h5 := cb k hk i
  unfold perE
  rw [amtB_mk (by omega) (by omega), if_pos rfl]
theorem ab_sm {T : TB} (hT : TC T) {c x s : Nat → Int} {m : Nat} (h : Smb c x s m) {k : Nat} (hk : k < m) {i : Nat} (hi : i < T.nC) : (0 ≤ yrA T x s k i ∧ yrA T x s k i ≤ 100000000) ∧ 0 ≤ yrB' T x s k i ∧ yrB' T x s k i ≤ 100000000 := by
  have a := cnt_sm (T := T) h hk i
  exact due_sm (hT.ok.c i hi) a.1 a.2
theorem sm_sm {T : TB} (hT : TC T) {c x s : Nat → Int} {i : Nat} (hi : i < T.nC) : ∀ {m : Nat}, Smb c x s m → (0 ≤ smS (yrA T x s) m i ∧ smS (yrA T x s) m i ≤ 100000000 * (m : Int)) ∧ 0 ≤ smS (yrB' T x s) m i ∧ smS (yrB' T x s) m i ≤ 100000000 * (m : Int)
  | 0, _ => ⟨⟨Int.le_refl _, by show (0 : Int) ≤ _; omega⟩, Int.le_refl _, by show (0 : Int) ≤ _; omega⟩
  | m + 1, h => by
    have a := sm_sm hT hi (m := m) fun k hk => h k (by omega)
    have b := ab_sm hT h (Nat.lt_succ_self m) hi
    show (0 ≤ smS (yrA T x s) m i + yrA T x s m i ∧ smS (yrA T x s) m i + yrA T x s m i ≤ _) ∧ 0 ≤ smS (yrB' T x s) m i + yrB' T x s m i ∧ smS (yrB' T x s) m i + yrB' T x s m i ≤ _
    omega
theorem td_sm {T : TB} (hT : TC T) {c x s : Nat → Int} {m : Nat} (h : Smb c x s m) (hm : m ≤ 60) : tdE T x s m = 0 := by
  unfold tdE
  refine w_all fun k hk => ?_
  unfold smE
  rw [if_pos rfl]
  refine w_all fun i hi => ?_
  have a := sm_sm hT hi (m := k) fun j hj => h j (by omega)
  have b := ab_sm hT h hk hi
  unfold itE
  rw [amtB_mk (by omega) (by omega), amtB_mk (by omega) (by omega), amtB_mk (by omega) (by omega), amtB_mk (by omega) (by omega)]
  rfl
/-- shares none of which is great come to a sum that may be -/
theorem okT_sm {X Y : Nat → Int} : ∀ {n : Nat}, n ≤ 6 → (∀ i, i < n → (0 ≤ X i ∧ X i ≤ 6000000000) ∧ 0 ≤ Y i ∧ Y i ≤ 6000000000) → okT X Y n = true ∧ (0 ≤ tsm X n ∧ tsm X n ≤ 6000000000 * (n : Int)) ∧ 0 ≤ tsm Y n ∧ tsm Y n ≤ 6000000000 * (n : Int)
  | 0, _, _ => ⟨rfl, ⟨Int.le_refl _, by show (0 : Int) ≤ _; omega⟩, Int.le_refl _, by show (0 : Int) ≤ _; omega⟩
  | n + 1, hn, h => by
    obtain ⟨a, b, c⟩ := okT_sm (n := n) (by omega) fun i hi => h i (by omega)
    have d := h n (by omega)
    have e : tsm X (n + 1) = tsm X n + X n := rfl
    have f : tsm Y (n + 1) = tsm Y n + Y n := rfl
    refine ⟨?_, by omega, by omega, by omega⟩
    show (okT X Y n && ((amtB (X n) && amtB (tsm X n + X n)) && (amtB (Y n) && amtB (tsm Y n + Y n)))) = true
    rw [a, amtB_mk (by omega) (by omega), amtB_mk (by omega) (by omega), amtB_mk (by omega) (by omega), amtB_mk (by omega) (by omega)]
    rfl
theorem dl_sm {X Y U V : Nat → Int} {n : Nat} (h : ∀ i, i < n → (0 ≤ X i ∧ X i ≤ 6000000000) ∧ 0 ≤ Y i ∧ Y i ≤ 6000000000) (h2 : ∀ i, i < n → (0 ≤ U i ∧ U i ≤ 6000000000) ∧ 0 ≤ V i ∧ V i ≤ 6000000000) : firstE (dlE X Y U V) n = 0 := by
  refine w_all fun i hi => ?_
  have a := h i hi
  have b := h2 i hi
  unfold dlE leB
  rw [amtB_mk (by omega) (by omega), amtB_mk (by omega) (by omega), amtB_mk (by omega) (by omega), amtB_mk (by omega) (by omega), amtB_mk (by omega) (by omega), amtB_mk (by omega) (by omega)]
  rfl
end Go.Proofs.Ytffihnbpjcgicaa
