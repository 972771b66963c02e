/- What a book's accounts come to together, and that it stays nothing. -/
import Derived.Test.YtgadlfdioakodabDoorBks
namespace Go.Proofs.YtgadlfdioakodabDoor
open Go.RowKit Go.Sort Go.Maps
set_option linter.unusedVariables false
set_option linter.unusedSimpArgs false

/-- the sum of some accounts -/
def smK (M : List UInt8 → Int) : List (List UInt8) → Int
  | [] => 0
  | l :: K => M l + smK M K
theorem smK_perm {M : List UInt8 → Int} {K K' : List (List UInt8)} (h : K.Perm K') : smK M K = smK M K' := by
  induction h with
  | nil => rfl
  | cons x _ ih => simp only [smK]; rw [ih]
  | swap x y l => simp only [smK]; omega
  | trans _ _ a b => exact a.trans b
theorem smK_filter {M : List UInt8 → Int} : ∀ K : List (List UInt8), smK M (K.filter fun l => M l != 0) = smK M K
  | [] => rfl
  | l :: K => by
    by_cases h : M l = 0
    · rw [List.filter_cons_of_neg (by simp [h])]
      simp only [smK]
      rw [smK_filter K]; omega
    · rw [List.filter_cons_of_pos (by simp [h])]
      simp only [smK]
      rw [smK_filter K]
theorem smK_congr {M M' : List UInt8 → Int} : ∀ {K : List (List UInt8)}, (∀ l, l ∈ K → M l = M' l) → smK M K = smK M' K
  | [], _ => rfl
  | l :: K, h => by
    simp only [smK]
    rw [h l (by simp), smK_congr fun l hl => h l (by simp [hl])]
/-- what the accounts come to: all that isn't nothing lies in some list of them -/
def Sums (M : List UInt8 → Int) (s : Int) : Prop := ∃ K : List (List UInt8), K.Nodup ∧ (∀ l, M l ≠ 0 → l ∈ K) ∧ smK M K = s
theorem Sums.none : Sums (fun _ => 0) 0 := ⟨[], by simp, fun l h => absurd rfl h, rfl⟩
theorem smK_put {M : List UInt8 → Int} {a : List UInt8} {v : Int} : ∀ {K : List (List UInt8)}, K.Nodup → a ∈ K → smK (fun l => if l = a then M l + v else M l) K = smK M K + v
  | [], _, h => by simp at h
  | l :: K, hn, h => by
    simp only [smK]
    have hn2 := List.nodup_cons.1 hn
    by_cases e : l = a
    · subst e
      rw [if_pos rfl, smK_congr (M' := M) (fun x hx => if_neg (fun e : x = l => hn2.1 (e ▸ hx)))]
      omega
    · rw [if_neg e, smK_put hn2.2 (by simpa [Ne.symm e] using h)]
      omega
theorem Sums.put {M : List UInt8 → Int} {s : Int} (h : Sums M s) (a : List UInt8) (v : Int) : Sums (fun l => if l = a then M l + v else M l) (s + v) := by
  obtain ⟨K, h1, h2, h3⟩ := h
  by_cases ha : a ∈ K
  · refine ⟨K, h1, fun l hl => ?_, by rw [smK_put h1 ha, h3]⟩
    by_cases e : l = a
    · subst e; exact ha
    · dsimp only at hl
      rw [if_neg e] at hl
      exact h2 l hl
  · have h0 : M a = 0 := Classical.byContradiction fun e => ha (h2 a e)
    refine ⟨a :: K, List.nodup_cons.2 ⟨ha, h1⟩, fun l hl => ?_, ?_⟩
    · by_cases e : l = a
      · subst e; simp
      · dsimp only at hl
        rw [if_neg e] at hl
        exact List.mem_cons_of_mem _ (h2 l hl)
    · simp only [smK]
      rw [smK_congr (M' := M) (fun x hx => if_neg (fun e : x = a => ha (e ▸ hx))), h3, if_pos trivial, h0]
      omega
theorem Sums.tot {M : List UInt8 → Int} {s : Int} (h : Sums M s) (f : Nat → En) : ∀ n, Sums (tot M f n) (s + enS f n)
  | 0 => by
    show Sums M (s + 0)
    rw [Int.add_zero]; exact h
  | n + 1 => by
    have := (Sums.tot h f n).put (acc f n) (f n).2
    rw [show s + enS f n + (f n).2 = s + enS f (n + 1) by show _ = s + (enS f n + (f n).2); omega] at this
    exact this
/-- the sum of so many entries' amounts -/
theorem enS_smK {M : List UInt8 → Int} {g : Nat → En} : ∀ {m : Nat}, (∀ i, i < m → (g i).2 = M (acc g i)) → enS g m = smK M (keysE g m)
  | 0, _ => rfl
  | m + 1, h => by
    have ih := enS_smK (M := M) (g := g) (m := m) fun i hi => h i (by omega)
    have e : keysE g (m + 1) = keysE g m ++ [acc g m] := by unfold keysE; rw [List.range_succ, List.map_append]; rfl
    show enS g m + (g m).2 = _
    rw [e, smK_perm (List.perm_append_comm), ih, h m (by omega)]
    show _ = M (acc g m) + smK M (keysE g m)
    omega
theorem Sums.full {M : List UInt8 → Int} {s : Int} (h : Sums M s) {g : Nat → En} {m : Nat} (hF : Full M (fun l => M l != 0) g m) : enS g m = s := by
  obtain ⟨K, h1, h2, h3⟩ := h
  have hk := hF.keys
  have nk : (keysE g m).Nodup := hk.1.imp fun h e => by subst e; exact List.lt_irrefl _ h
  have nf : (K.filter fun l => M l != 0).Nodup := h1.sublist List.filter_sublist
  have hp : (K.filter fun l => M l != 0).Perm (keysE g m) := (List.perm_ext_iff_of_nodup nf nk).2 fun l => by
    rw [hk.2 l, List.mem_filter]
    constructor
    · exact fun h => h.2
    · exact fun h => ⟨h2 l (by simpa using h), h⟩
  rw [enS_smK hF.2.1, ← smK_perm hp, smK_filter, h3]
/-- what holds of a book's accounts: amounts that may be, on accounts that may be named so, which come to nothing -/
def BInv (M : List UInt8 → Int) : Prop := (∀ l, amtB (M l) = true) ∧ (∀ l, M l ≠ 0 → accB ⟨l.toArray⟩ = true) ∧ Sums M 0
theorem BInv.none : BInv (fun _ => 0) := ⟨fun _ => rfl, fun _ h => absurd rfl h, Sums.none⟩
theorem chk_parts {f : Nat → En} {n : Nat} (h : chkP f n = 0) : firstE (enE f) n = 0 ∧ enS f n = 0 := by
  unfold chkP at h
  split at h
  · rename_i h1; exact absurd h h1
  · rename_i h1
    split at h
    · cases h
    · rename_i h2
      exact ⟨Classical.byContradiction h1, Classical.byContradiction h2⟩
theorem en_ok {f : Nat → En} {i : Nat} (h : enE f i = 0) : amtB (f i).2 = true ∧ accB (f i).1 = true := by
  unfold enE at h
  split at h
  · cases h
  · rename_i h1
    split at h
    · cases h
    · rename_i h2
      exact ⟨by simpa using h1, by simpa using h2⟩
theorem tot_named {M : List UInt8 → Int} {f : Nat → En} (hM : ∀ l, M l ≠ 0 → accB ⟨l.toArray⟩ = true) : ∀ {n : Nat}, firstE (enE f) n = 0 → ∀ l, tot M f n l ≠ 0 → accB ⟨l.toArray⟩ = true
  | 0, _, l, h => hM l h
  | n + 1, h, l, hl => by
    have h1 : firstE (enE f) n = 0 := first_of_zero fun j hj => first_zero h j (by omega)
    by_cases e : l = acc f n
    · have h2 := (en_ok (first_zero h n (Nat.lt_succ_self _))).2
      rw [e]
      exact h2
    · refine tot_named hM h1 l ?_
      intro h0
      apply hl
      show (if l = acc f n then _ else tot M f n l) = 0
      rw [if_neg e, h0]
theorem BInv.tot {M : List UInt8 → Int} (h : BInv M) {f : Nat → En} {n : Nat} (hc : chkP f n = 0) (hp : firstE (poE M f) n = 0) : BInv (tot M f n) := by
  obtain ⟨h1, h2⟩ := chk_parts hc
  refine ⟨tot_amt h.1 hp, tot_named h.2.1 h1, ?_⟩
  have := h.2.2.tot f n
  rwa [h2] at this
theorem acc_len {l : List UInt8} (h : accB ⟨l.toArray⟩ = true) : 0 < l.length ∧ l.length ≤ 21 := by
  unfold accB at h
  have name_len : ∀ k : List UInt8, nameB k = true → 0 < k.length ∧ k.length ≤ 16 := fun k hk => by
    unfold nameB at hk
    simp only [Bool.and_eq_true, Bool.not_eq_true', decide_eq_true_eq, List.isEmpty_eq_false_iff] at hk
    exact ⟨List.length_pos_iff.2 hk.1.1.1, hk.1.1.2⟩
  simp only [List.toList_toArray, Bool.or_eq_true] at h
  rcases h with h | h
  · have := name_len l h; omega
  · unfold Lib.trimPrefix at h
    split at h
    · have := name_len _ h
      simp only [List.length_drop, fundL, List.length_cons, List.length_nil] at this
      omega
    · have := name_len l h; omega
theorem nobody : accB ⟨#[110, 111, 98, 111, 100, 121, 32, 104, 101, 114, 101]⟩ = false := by decide
/-- nothing is ahead of the first account -/
theorem BInv.pos {M : List UInt8 → Int} (h : BInv M) {g : Nat → En} {m : Nat} (hF : Full M (fun l => M l != 0) g m) {i : Nat} (hi : i < m) : M (acc g i) ≠ 0 ∧ 0 < (acc g i).length := by
  have h1 : (M (acc g i) != 0) = true := (hF.1 (acc g i)).symm.trans (inB_iff.2 ⟨i, hi, rfl⟩)
  have h2 : M (acc g i) ≠ 0 := by simpa using h1
  exact ⟨h2, (acc_len (h.2.1 _ h2)).1⟩
/-- names that are still to come, on which something stands -/
def Lft (M : List UInt8 → Int) (left : Lit → Bool) (S : List (List UInt8)) : Prop := S.Nodup ∧ ∀ l, l ∈ S ↔ (left (.string l) = true ∧ M l ≠ 0)
theorem Lft.start {M : List UInt8 → Int} {Q : List UInt8 → Bool} {left : Lit → Bool} (hl : ∀ l, left (.string l) = Q l) (hQ : ∀ l, Q l = false → M l = 0) {g : Nat → En} {m : Nat} (hF : Full M (fun l => M l != 0) g m) : Lft M left (keysE g m) := by
  have hk := hF.keys
  refine ⟨hk.1.imp fun h e => by subst e; exact List.lt_irrefl _ h, fun l => ?_⟩
  rw [hk.2 l, hl]
  constructor
  · intro h
    have h2 : M l ≠ 0 := by simpa using h
    refine ⟨?_, h2⟩
    cases hq : Q l
    · exact absurd (hQ l hq) h2
    · rfl
  · intro h
    simpa using h.2
theorem Lft.done {M : List UInt8 → Int} {left : Lit → Bool} {S : List (List UInt8)} (h : Lft M left S) (hl : ∀ kl, left kl = false) : S = [] := by
  cases S with
  | nil => rfl
  | cons x S =>
    have := (h.2 x).1 (by simp)
    rw [hl] at this
    cases this.1
theorem Lft.step {M : List UInt8 → Int} {left : Lit → Bool} {S : List (List UInt8)} (h : Lft M left S) {x : List UInt8} (hx : left (.string x) = true) : ∃ S', Lft M (fun z => left z && !z.sameKey (.string x)) S' ∧ (M x = 0 → S'.length = S.length) ∧ (M x ≠ 0 → S'.length + 1 = S.length) := by
  have key : ∀ l, (left (.string l) && !(Lit.string l).sameKey (.string x)) = true ↔ (left (.string l) = true ∧ l ≠ x) := fun l => by
    by_cases hz : l = x
    · subst hz
      have e : (Lit.string l).sameKey (.string l) = true := WideAt.sameKey_self (by trivial)
      simp [e]
    · have e : (Lit.string l).sameKey (.string x) = false := sameKey_ne (by simpa using hz)
      simp [hz, e]
  by_cases h0 : M x = 0
  · refine ⟨S, ⟨h.1, fun l => ?_⟩, fun _ => rfl, fun e => absurd h0 e⟩
    rw [h.2 l, key l]
    constructor
    · exact fun ⟨a, b⟩ => ⟨⟨a, fun e => by subst e; exact b h0⟩, b⟩
    · exact fun ⟨a, b⟩ => ⟨a.1, b⟩
  · have hm : x ∈ S := (h.2 x).2 ⟨hx, h0⟩
    refine ⟨S.erase x, ⟨h.1.erase x, fun l => ?_⟩, fun e => absurd e h0, fun _ => ?_⟩
    · rw [h.1.mem_erase_iff, h.2 l, key l]
      constructor
      · exact fun ⟨a, b, c⟩ => ⟨⟨b, a⟩, c⟩
      · exact fun ⟨⟨a, b⟩, c⟩ => ⟨b, a, c⟩
    · rw [List.length_erase_of_mem hm]
      have := List.length_pos_of_mem hm
      omega
end Go.Proofs.YtgadlfdioakodabDoor
