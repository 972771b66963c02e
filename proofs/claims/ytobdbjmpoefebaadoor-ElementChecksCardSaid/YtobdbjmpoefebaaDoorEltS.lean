/- Sums by name, as lists: no program in sight. -/
import Derived.Test.YtobdbjmpoefebaaDoorEltA
namespace Go.Proofs.YtobdbjmpoefebaaDoor
set_option linter.unusedVariables false

abbrev SmL := List (ByteArray × Int)
def addS : SmL → ByteArray → Int → SmL
  | [], N, v => [(N, v)]
  | p :: r, N, v => if p.1 = N then (p.1, p.2 + v) :: r else p :: addS r N v
def getS : SmL → ByteArray → Int
  | [], N => 0
  | p :: r, N => if p.1 = N then p.2 else getS r N
/-- the sums of elements, put to those that are there already; or the error -/
def sms : List EB → SmL → SmL × Int
  | [], S => (S, 0)
  | e :: r, S => if valE e.A e.U = 0 then (if amtB (getS S e.N + valV e.A e.U) = true then sms r (addS S e.N (valV e.A e.U)) else ([], 10)) else ([], valE e.A e.U)
theorem sms_nil (S : SmL) : sms [] S = (S, 0) := rfl
theorem sms_cons (e : EB) (r : List EB) (S : SmL) : sms (e :: r) S = if valE e.A e.U = 0 then (if amtB (getS S e.N + valV e.A e.U) = true then sms r (addS S e.N (valV e.A e.U)) else ([], 10)) else ([], valE e.A e.U) := rfl
theorem addS_none : ∀ (S : SmL) (N : ByteArray) (v : Int), (∀ j, j < S.length → (S.getD j (N, 0)).1 ≠ N) → addS S N v = S ++ [(N, v)] ∧ getS S N = 0
  | [], N, v, _ => ⟨rfl, rfl⟩
  | p :: r, N, v, h => by
    have h0 : p.1 ≠ N := by simpa using h 0 (by simp)
    obtain ⟨h1, h2⟩ := addS_none r N v (fun j hj => by simpa using h (j + 1) (by simpa using hj))
    unfold addS getS
    rw [if_neg h0, if_neg h0, h1, h2]
    exact ⟨rfl, rfl⟩
theorem addS_at : ∀ (S : SmL) (N : ByteArray) (v : Int) (i : Nat), i < S.length → (S.getD i (N, 0)).1 = N → (∀ j, j < i → (S.getD j (N, 0)).1 ≠ N) → addS S N v = S.set i (N, (S.getD i (N, 0)).2 + v) ∧ getS S N = (S.getD i (N, 0)).2
  | [], N, v, i, h, _, _ => absurd h (Nat.not_lt_zero _)
  | p :: r, N, v, 0, _, h, _ => by
    have h0 : p.1 = N := by simpa using h
    unfold addS getS
    rw [if_pos h0, if_pos h0]
    subst h0
    simp
  | p :: r, N, v, i + 1, hi, h, hl => by
    have h0 : p.1 ≠ N := by simpa using hl 0 (by omega)
    obtain ⟨h1, h2⟩ := addS_at r N v i (by simpa using hi) (by simpa using h) (fun j hj => by simpa using hl (j + 1) (by omega))
    unfold addS getS
    rw [if_neg h0, if_neg h0, h1, h2]
    simp
theorem addS_len (S : SmL) (N : ByteArray) (v : Int) : (addS S N v).length ≤ S.length + 1 := by
  induction S with
  | nil => simp [addS]
  | cons p r ih =>
    unfold addS
    split
    · simp
    · simp; omega
/-- all names differ -/
def nodS (S : SmL) : Prop := ∀ i j, i < S.length → j < S.length → (S.getD i (⟨#[]⟩, 0)).1 = (S.getD j (⟨#[]⟩, 0)).1 → i = j
theorem getD_any (S : SmL) (i : Nat) (h : i < S.length) (a b : ByteArray × Int) : S.getD i a = S.getD i b := by simp [List.getD, h]
/-- each sum may be -/
def okS (S : SmL) : Prop := ∀ i, i < S.length → amtB (S.getD i (⟨#[]⟩, 0)).2 = true
theorem ok_getS : ∀ (S : SmL) (N : ByteArray), okS S → amtB (getS S N) = true
  | [], N, _ => rfl
  | p :: r, N, h => by
    unfold getS
    split
    · simpa using h 0 (by simp)
    · exact ok_getS r N (fun i hi => by simpa using h (i + 1) (by simpa using hi))
theorem ok_addS : ∀ (S : SmL) (N : ByteArray) (v : Int), okS S → amtB (getS S N + v) = true → okS (addS S N v)
  | [], N, v, _, hv => fun i hi => by
    have : i = 0 := by simp [addS] at hi; omega
    subst this
    have e : getS [] N = 0 := rfl
    rw [e, Int.zero_add] at hv
    simpa [addS] using hv
  | p :: r, N, v, h, hv => fun i hi => by
    unfold addS getS at *
    by_cases h0 : p.1 = N
    · rw [if_pos h0] at *
      cases i with
      | zero => simpa using hv
      | succ i => simpa using h (i + 1) (by simpa using hi)
    · rw [if_neg h0] at *
      cases i with
      | zero => simpa using h 0 (by simp)
      | succ i => simpa using ok_addS r N v (fun i hi => by simpa using h (i + 1) (by simpa using hi)) hv i (by simpa using hi)
theorem addS_names : ∀ (S : SmL) (N : ByteArray) (v : Int), (addS S N v).map (·.1) = S.map (·.1) ∨ ((∀ p, p ∈ S → p.1 ≠ N) ∧ addS S N v = S ++ [(N, v)])
  | [], N, v => .inr ⟨fun p hp => (by cases hp), rfl⟩
  | p :: r, N, v => by
    unfold addS
    by_cases h0 : p.1 = N
    · rw [if_pos h0]; exact .inl rfl
    · rw [if_neg h0]
      rcases addS_names r N v with h | ⟨h1, h2⟩
      · exact .inl (by simp [h])
      · refine .inr ⟨fun q hq => ?_, by rw [h2]; rfl⟩
        rcases List.mem_cons.1 hq with rfl | hq
        · exact h0
        · exact h1 q hq
theorem nodS_iff (S : SmL) : nodS S ↔ (S.map (·.1)).Nodup := by
  unfold nodS
  constructor
  · intro h
    rw [List.nodup_iff_pairwise_ne, List.pairwise_iff_getElem]
    intro i j hi hj hij
    simp only [List.length_map] at hi hj
    intro e
    have := h i j hi hj (by simpa [List.getD, hi, hj] using e)
    omega
  · intro h i j hi hj e
    rw [List.nodup_iff_pairwise_ne, List.pairwise_iff_getElem] at h
    rcases Nat.lt_trichotomy i j with q | q | q
    · exact absurd (by simpa [List.getD, hi, hj] using e) (h i j (by simpa using hi) (by simpa using hj) q)
    · exact q
    · exact absurd (by simpa [List.getD, hi, hj] using e.symm) (h j i (by simpa using hj) (by simpa using hi) q)
theorem nod_addS (S : SmL) (N : ByteArray) (v : Int) (h : nodS S) : nodS (addS S N v) := by
  rw [nodS_iff] at *
  rcases addS_names S N v with e | ⟨h1, h2⟩
  · rw [e]; exact h
  · rw [h2, List.map_append, List.nodup_append]
    refine ⟨h, by simp, ?_⟩
    intro a ha b hb
    simp at hb
    subst hb
    obtain ⟨p, hp, rfl⟩ := List.mem_map.1 ha
    exact h1 p hp
end Go.Proofs.YtobdbjmpoefebaaDoor
