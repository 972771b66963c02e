/- What word.Cut answers of any line. -/
import Derived.Test.YtgadlfdioakodabDoorWrdF
import Derived.WalkMore
import Derived.ScopeJumps
namespace Go.Proofs.YtgadlfdioakodabDoor
open Go.RowKit
set_option linter.unusedVariables false
set_option linter.unusedSimpArgs false

/-- a line's words, byte by byte: between words (0), within quotes (1), within a word without them (2), behind a closing quote (3) -/
def cutS : Nat → List (List UInt8) → List UInt8 → List UInt8 → List (List UInt8) × Int
  | st, L, cur, [] => if st = 0 then (L, 0) else if st = 1 then ([], 5) else (L ++ [cur], 0)
  | st, L, cur, c :: r =>
    if st = 0 then (if c.toNat = 35 then (L, 0) else if c.toNat = 32 then cutS 0 L [] r else if L.length = 32 then ([], 2) else if c.toNat = 34 then cutS 1 L [] r else if plnB c = true then cutS 2 L [c] r else ([], 5))
    else if st = 1 then (if shwB c = true then cutS 1 L (cur ++ [c]) r else if c.toNat = 34 then cutS 3 L cur r else ([], 5))
    else if st = 2 ∧ plnB c = true then cutS 2 L (cur ++ [c]) r
    else (if c.toNat = 32 then cutS 0 (L ++ [cur]) [] r else if c.toNat = 35 then (L ++ [cur], 0) else ([], 5))
def cutV (l : List UInt8) : List (List UInt8) × Int := if 512 < l.length then ([], 2) else cutS 0 [] [] l
/-- ends a word ahead of a place? -/
def endB (s : ByteArray) (i : Nat) : Bool := decide (i = s.size) || (match s.data.toList[i]? with | some c => decide (c.toNat = 32) || decide (c.toNat = 35) | none => false)
theorem endB_all (s : ByteArray) : endB s s.size = true := by simp [endB]
theorem endB_at {s : ByteArray} {i : Nat} (h : i < s.size) : endB s i = (decide (s[i].toNat = 32) || decide (s[i].toNat = 35)) := by
  unfold endB
  rw [at_some s i h, decide_eq_false (by omega)]
  simp
theorem ended_b (s : ByteArray) (i : Nat) (v : Bool) (hi : i ≤ s.size) (h : endB s i = v) (w : World) (hs : s.size ≤ 4611686018427387904) : Calls Tryd.prog 42 #[.string s, .int .i64 i] w fun e w' => e = .returned (.bool v) ∧ w = w' := by
  by_cases hlt : i < s.size
  · rw [endB_at hlt] at h
    have t1 : ((i : Int) == (s.size : Int)) = false := by rw [beq_eq_false_iff_ne]; omega
    by_cases h32 : s[i].toNat = 32
    · obtain rfl : v = true := by rw [← h]; simp [h32]
      have t2 : ((s[i].toNat : Int) == 32) = true := by rw [beq_iff_eq]; omega
      clear h h32
      go_enter Tryd.func42, Tryd.ntmps42
      go_wp2
      go_ret
      exact ⟨rfl, rfl⟩
    have t2 : ((s[i].toNat : Int) == 32) = false := by rw [beq_eq_false_iff_ne]; omega
    by_cases h35 : s[i].toNat = 35
    · obtain rfl : v = true := by rw [← h]; simp [h35]
      have t3 : ((s[i].toNat : Int) == 35) = true := by rw [beq_iff_eq]; omega
      clear h h32 h35
      go_enter Tryd.func42, Tryd.ntmps42
      go_wp2
      go_ret
      exact ⟨rfl, rfl⟩
    · obtain rfl : v = false := by rw [← h]; simp [h32, h35]
      have t3 : ((s[i].toNat : Int) == 35) = false := by rw [beq_eq_false_iff_ne]; omega
      clear h h32 h35
      go_enter Tryd.func42, Tryd.ntmps42
      go_wp2
      go_ret
      exact ⟨rfl, rfl⟩
  · obtain rfl : i = s.size := by omega
    obtain rfl : v = true := by rw [← h, endB_all]
    clear h hi hlt
    go_enter Tryd.func42, Tryd.ntmps42
    go_wp2
    go_ret
    exact ⟨rfl, rfl⟩

theorem c0_end (L : List (List UInt8)) (cur : List UInt8) : cutS 0 L cur [] = (L, 0) := rfl
theorem c0_hash {L : List (List UInt8)} {cur r : List UInt8} {c : UInt8} (h : c.toNat = 35) : cutS 0 L cur (c :: r) = (L, 0) := by simp [cutS, h]
theorem c0_blank {L : List (List UInt8)} {cur r : List UInt8} {c : UInt8} (h : c.toNat = 32) : cutS 0 L cur (c :: r) = cutS 0 L [] r := by simp [cutS, h]
theorem c0_many {L : List (List UInt8)} {cur r : List UInt8} {c : UInt8} (h1 : c.toNat ≠ 35) (h2 : c.toNat ≠ 32) (h : L.length = 32) : cutS 0 L cur (c :: r) = ([], 2) := by simp [cutS, h1, h2, h]
theorem c0_quote {L : List (List UInt8)} {cur r : List UInt8} {c : UInt8} (hl : L.length ≠ 32) (h : c.toNat = 34) : cutS 0 L cur (c :: r) = cutS 1 L [] r := by simp [cutS, h, hl]
theorem c0_word {L : List (List UInt8)} {cur r : List UInt8} {c : UInt8} (h1 : c.toNat ≠ 35) (h2 : c.toNat ≠ 32) (hl : L.length ≠ 32) (h : c.toNat ≠ 34) : cutS 0 L cur (c :: r) = cutS 2 L [] (c :: r) := by
  simp [cutS, h1, h2, hl, h]
theorem c1_end (L : List (List UInt8)) (cur : List UInt8) : cutS 1 L cur [] = ([], 5) := rfl
theorem c1_next {L : List (List UInt8)} {cur r : List UInt8} {c : UInt8} (h : shwB c = true) : cutS 1 L cur (c :: r) = cutS 1 L (cur ++ [c]) r := by simp [cutS, h]
theorem c1_bad {L : List (List UInt8)} {cur r : List UInt8} {c : UInt8} (h : shwB c = false) (h2 : c.toNat ≠ 34) : cutS 1 L cur (c :: r) = ([], 5) := by simp [cutS, h, h2]
theorem c1_close {L : List (List UInt8)} {cur r : List UInt8} {c : UInt8} (h : c.toNat = 34) : cutS 1 L cur (c :: r) = cutS 3 L cur r := by
  have : shwB c = false := by simp only [shwB, decide_eq_false_iff_not]; omega
  simp [cutS, h, this]
theorem c2_next {L : List (List UInt8)} {cur r : List UInt8} {c : UInt8} (h : plnB c = true) : cutS 2 L cur (c :: r) = cutS 2 L (cur ++ [c]) r := by simp [cutS, h]
/-- behind a word, where it may end, goes on between words; where not, it is none -/
theorem c23_goes (st : Nat) (hst : st = 2 ∨ st = 3) {s : ByteArray} {k : Nat} {L : List (List UInt8)} {cur : List UInt8} (hk : k ≤ s.size) (hp : st = 2 → ∀ h : k < s.size, plnB s[k] = false) (h : endB s k = true) : cutS st L cur (s.data.toList.drop k) = cutS 0 (L ++ [cur]) [] (s.data.toList.drop k) := by
  by_cases hlt : k < s.size
  · rw [endB_at hlt] at h
    rw [drop_at s k hlt]
    simp only [Bool.or_eq_true, decide_eq_true_eq] at h
    have h2 : ¬ (st = 2 ∧ plnB s[k] = true) := fun q => by rw [hp q.1 hlt] at q; cases q.2
    rcases h with h | h
    · rw [c0_blank h]
      rcases hst with rfl | rfl <;> simp [cutS, h] <;> (intro q; exact absurd ⟨rfl, q⟩ h2)
    · rw [c0_hash h]
      rcases hst with rfl | rfl <;> simp [cutS, h] <;> (intro q; exact absurd ⟨rfl, q⟩ h2)
  · rw [List.drop_of_length_le (by simp; omega)]
    rcases hst with rfl | rfl <;> rfl
theorem c23_stops (st : Nat) (hst : st = 2 ∨ st = 3) {s : ByteArray} {k : Nat} {L : List (List UInt8)} {cur : List UInt8} (hk : k ≤ s.size) (hp : st = 2 → ∀ h : k < s.size, plnB s[k] = false) (h : endB s k = false) : cutS st L cur (s.data.toList.drop k) = ([], 5) := by
  by_cases hlt : k < s.size
  · rw [endB_at hlt] at h
    rw [drop_at s k hlt]
    simp only [Bool.or_eq_false_iff, decide_eq_false_iff_not] at h
    have h2 : ¬ (st = 2 ∧ plnB s[k] = true) := fun q => by rw [hp q.1 hlt] at q; cases q.2
    rcases hst with rfl | rfl
    · have : plnB s[k] = false := hp rfl hlt
      simp [cutS, h.1, h.2, this]
    · simp [cutS, h.1, h.2]
  · rw [show k = s.size by omega, endB_all] at h
    cases h

/-- as Q; by a goto to a label: what holds there -/
def jumpsTo (J : Nat → Act → World → Prop) (Q : Exit → Act → World → Prop) : Exit → Act → World → Prop
  | .goto l, a, w => J l a w
  | e, a, w => Q e a w
theorem jumps_mono {J J' : Nat → Act → World → Prop} {Q : Exit → Act → World → Prop} (h : ∀ l a w, J l a w → J' l a w) (e : Exit) (a : Act) (w : World) (k : jumpsTo J Q e a w) : jumpsTo J' Q e a w := by
  cases e <;> first | exact k | exact h _ _ _ k
/-- a scope with several labels, to each of which the run may jump: a measure that each pass lowers -/
theorem scope_labels {P : Program} {a : Act} {w : World} {Q : Exit → Act → World → Prop} {c : Code} (J : Nat → Act → World → Prop) (μ : Nat → Act → World → Nat)
    (pass : ∀ l a w, J l a w → ∃ rest, findLabel c l = some rest ∧ rest.wp P (jumpsTo (fun l' a' w' => J l' a' w' ∧ μ l' a' w' < μ l a w) Q) a w)
    (first : c.wp P (jumpsTo J Q) a w) : (Code.scope c).wp P Q a w := by
  intro b k cs
  have key : ∀ n l a w, μ l a w = n → J l a w → ∃ rest, gotoIn l (.inScope c :: k) = some (.code rest :: .inScope c :: k) ∧ ∃ e a' w', Q e a' w' ∧ Arrives P (lone (b.at a (.code rest :: .inScope c :: k)) cs w) b k cs e a' w' := by
    intro n
    induction n using Nat.strongRecOn with
    | _ n ih =>
      intro l a w hn hJ
      obtain ⟨rest, hf, hp⟩ := pass l a w hJ
      refine ⟨rest, by simp [gotoIn, hf], ?_⟩
      obtain ⟨e, a₁, w₁, hq, harr⟩ := hp b (.inScope c :: k) cs
      cases e with
      | normal => exact ⟨.normal, a₁, w₁, hq, Steps.trans harr (.one step_inScope)⟩
      | exit id => exact ⟨.exit id, a₁, w₁, hq, fun k' hk => harr k' (by simp [exitTo, hk])⟩
      | goto l' =>
        obtain ⟨hJ', hlt⟩ := hq
        obtain ⟨rest', hg, e₂, a₂, w₂, hq₂, harr₂⟩ := ih _ (by omega) l' a₁ w₁ rfl hJ'
        exact ⟨e₂, a₂, w₂, hq₂, .of_steps (harr _ hg) harr₂⟩
      | ret => exact ⟨_, a₁, w₁, hq, harr⟩
      | panic ch => exact ⟨_, a₁, w₁, hq, harr⟩
      | outgrown => exact ⟨_, a₁, w₁, hq, harr⟩
  obtain ⟨e, a₁, w₁, hq, harr⟩ := first b (.inScope c :: k) cs
  cases e with
  | normal => exact ⟨.normal, a₁, w₁, hq, .head step_scope (Steps.trans harr (.one step_inScope))⟩
  | exit id => exact ⟨.exit id, a₁, w₁, hq, fun k' hk => .head step_scope (harr k' (by simp [exitTo, hk]))⟩
  | goto l' =>
    obtain ⟨rest', hg, e₂, a₂, w₂, hq₂, harr₂⟩ := key _ l' a₁ w₁ rfl hq
    exact ⟨e₂, a₂, w₂, hq₂, .of_steps (.head step_scope (harr _ hg)) harr₂⟩
  | ret => exact ⟨_, a₁, w₁, hq, .of_steps (.one step_scope) harr⟩
  | panic ch => exact ⟨_, a₁, w₁, hq, .of_steps (.one step_scope) harr⟩
  | outgrown => exact ⟨_, a₁, w₁, hq, .of_steps (.one step_scope) harr⟩
/-- three labels, the third within the first one's way -/
theorem scope_three {P : Program} {a : Act} {w : World} {Q : Exit → Act → World → Prop} {c X0 X1 X2 : Code} (J : Nat → Act → World → Prop) (μ : Nat → Act → World → Nat)
    (f0 : findLabel c 0 = some (.seq .skip X0)) (f1 : findLabel c 1 = some (.seq .skip X1)) (f2 : findLabel c 2 = some (.seq .skip X2)) (hJ : ∀ l a w, J l a w → l = 0 ∨ l = 1 ∨ l = 2)
    (p2 : ∀ a w, J 2 a w → X2.wp P (jumpsTo (fun l' a' w' => J l' a' w' ∧ μ l' a' w' < μ 2 a w) Q) a w)
    (p1 : ∀ a w, J 1 a w → X1.wp P (jumpsTo (fun l' a' w' => J l' a' w' ∧ μ l' a' w' < μ 1 a w) Q) a w)
    (p0 : (∀ a w, J 2 a w → X2.wp P (jumpsTo (fun l' a' w' => J l' a' w' ∧ μ l' a' w' < μ 2 a w) Q) a w) → ∀ a w, J 0 a w → X0.wp P (jumpsTo (fun l' a' w' => J l' a' w' ∧ μ l' a' w' < μ 0 a w) Q) a w)
    (first : (∀ a w, J 0 a w → X0.wp P (jumpsTo J Q) a w) → c.wp P (jumpsTo J Q) a w) : (Code.scope c).wp P Q a w :=
  scope_labels J μ (fun l a w h => by
    rcases hJ l a w h with rfl | rfl | rfl
    · exact ⟨_, f0, wp_seq (wp_skip (p0 p2 a w h))⟩
    · exact ⟨_, f1, wp_seq (wp_skip (p1 a w h))⟩
    · exact ⟨_, f2, wp_seq (wp_skip (p2 a w h))⟩)
    (first fun a w h => wp_mono (p0 p2 a w h) (jumps_mono fun _ _ _ k => k.1))

/-- a part of a line -/
def part (s : ByteArray) (f k : Nat) : List UInt8 := (s.data.toList.drop f).take (k - f)
/-- the frame of Cut: its line, its words, where it is, and where the word begins -/
def CutF (s : ByteArray) (v : Value) (k f : Nat) (a : Act) : Prop := ∃ u : Nat → Value, a = { tmps := #[u 0, u 1, u 2, u 3, u 4, u 5, u 6, u 7, u 8, u 9, u 10, u 11, u 12, u 13, u 14, u 15, u 16, u 17, u 18, u 19, u 20, u 21, u 22, u 23, u 24, u 25, u 26, u 27, u 28, u 29, u 30, u 31, u 32, u 33, u 34, u 35, u 36, u 37, u 38, u 39, u 40, u 41, u 42, u 43, u 44, u 45, u 46, u 47, u 48, u 49, u 50, u 51, u 52, u 53, u 54, u 55, u 56, u 57, u 58, u 59, u 60, u 61, u 62, u 63, u 64, u 65, u 66, u 67, u 68, u 69, u 70, u 71, u 72, u 73, u 74, u 75, u 76, u 77, u 78, u 79, u 80, u 81, u 82, u 83, u 84, u 85, u 86, u 87, u 88, u 89, u 90, u 91, u 92, u 93, u 94, u 95, u 96, u 97, u 98, u 99, u 100], defers := [] } ∧ u 0 = .string s ∧ u 4 = v ∧ u 5 = .int .i64 k ∧ u 6 = .int .i64 f
theorem arr101 (t : Array Value) (h : t.size = 101) : t = #[t.getD 0 undef, t.getD 1 undef, t.getD 2 undef, t.getD 3 undef, t.getD 4 undef, t.getD 5 undef, t.getD 6 undef, t.getD 7 undef, t.getD 8 undef, t.getD 9 undef, t.getD 10 undef, t.getD 11 undef, t.getD 12 undef, t.getD 13 undef, t.getD 14 undef, t.getD 15 undef, t.getD 16 undef, t.getD 17 undef, t.getD 18 undef, t.getD 19 undef, t.getD 20 undef, t.getD 21 undef, t.getD 22 undef, t.getD 23 undef, t.getD 24 undef, t.getD 25 undef, t.getD 26 undef, t.getD 27 undef, t.getD 28 undef, t.getD 29 undef, t.getD 30 undef, t.getD 31 undef, t.getD 32 undef, t.getD 33 undef, t.getD 34 undef, t.getD 35 undef, t.getD 36 undef, t.getD 37 undef, t.getD 38 undef, t.getD 39 undef, t.getD 40 undef, t.getD 41 undef, t.getD 42 undef, t.getD 43 undef, t.getD 44 undef, t.getD 45 undef, t.getD 46 undef, t.getD 47 undef, t.getD 48 undef, t.getD 49 undef, t.getD 50 undef, t.getD 51 undef, t.getD 52 undef, t.getD 53 undef, t.getD 54 undef, t.getD 55 undef, t.getD 56 undef, t.getD 57 undef, t.getD 58 undef, t.getD 59 undef, t.getD 60 undef, t.getD 61 undef, t.getD 62 undef, t.getD 63 undef, t.getD 64 undef, t.getD 65 undef, t.getD 66 undef, t.getD 67 undef, t.getD 68 undef, t.getD 69 undef, t.getD 70 undef, t.getD 71 undef, t.getD 72 undef, t.getD 73 undef, t.getD 74 undef, t.getD 75 undef, t.getD 76 undef, t.getD 77 undef, t.getD 78 undef, t.getD 79 undef, t.getD 80 undef, t.getD 81 undef, t.getD 82 undef, t.getD 83 undef, t.getD 84 undef, t.getD 85 undef, t.getD 86 undef, t.getD 87 undef, t.getD 88 undef, t.getD 89 undef, t.getD 90 undef, t.getD 91 undef, t.getD 92 undef, t.getD 93 undef, t.getD 94 undef, t.getD 95 undef, t.getD 96 undef, t.getD 97 undef, t.getD 98 undef, t.getD 99 undef, t.getD 100 undef] := by
  apply Array.ext'
  have e : t.toList = (List.range 101).map (fun i => t.getD i undef) := by
    apply List.ext_getElem
    · simp [h]
    · intro i h1 h2
      simp at h1 h2
      simp [h1]
  rw [e]
  rfl
theorem cutF_mk {s : ByteArray} {v : Value} {k f : Nat} {a : Act} (hd : a.defers = []) (hz : a.tmps.size = 101) (h0 : a.tmps.getD 0 undef = .string s) (h4 : a.tmps.getD 4 undef = v) (h5 : a.tmps.getD 5 undef = .int .i64 k) (h6 : a.tmps.getD 6 undef = .int .i64 f) : CutF s v k f a := by
  refine ⟨fun i => a.tmps.getD i undef, ?_, h0, h4, h5, h6⟩
  obtain ⟨t, d⟩ := a
  simp only at hd hz
  subst hd
  have := arr101 t hz
  exact congrArg (fun x => Act.mk x []) this
/-- what holds at each pass of Cut's labels -/
def CutJ (s : ByteArray) (w : World) (l : Nat) (a : Act) (W : World) : Prop :=
  (l = 0 ∨ l = 1 ∨ l = 2) ∧ ∃ (L : List (List UInt8)) (v : Value) (k f : Nat),
    CutF s v k f a ∧ k ≤ s.size ∧ f ≤ 512 ∧ L.length ≤ 32 ∧ Rs W w.heap.size v L ∧ Below w.heap.size w W ∧
    ((l = 0 ∧ cutS 0 L [] (s.data.toList.drop k) = cutV s.data.toList) ∨
     (l = 1 ∧ f ≤ k ∧ L.length < 32 ∧ cutS 1 L (part s f k) (s.data.toList.drop k) = cutV s.data.toList) ∨
     (l = 2 ∧ f ≤ k ∧ L.length < 32 ∧ (f = k → ∃ c, s.data.toList[k]? = some c ∧ c.toNat ≠ 32 ∧ c.toNat ≠ 35) ∧ cutS 2 L (part s f k) (s.data.toList.drop k) = cutV s.data.toList))
def CutM (s : ByteArray) (l : Nat) (a : Act) : Nat :=
  if l = 0 then 3 * (s.size - (intOf (a.tmps.getD 5 undef)).toNat) + 1
  else if l = 1 then 3 * (s.size - (intOf (a.tmps.getD 5 undef)).toNat)
  else 3 * (s.size - (intOf (a.tmps.getD 5 undef)).toNat) + (if intOf (a.tmps.getD 5 undef) = intOf (a.tmps.getD 6 undef) then 0 else 2)
def CuP (l : List UInt8) (w : World) (e : Ending) (w' : World) : Prop := ∃ v, e = .returned (.tuple #[v, .int .i64 (cutV l).2]) ∧ Rs w' w.heap.size v (cutV l).1 ∧ Below w.heap.size w w'
theorem cuP_mk {l : List UInt8} {w w' : World} {v : Value} {L : List (List UInt8)} {b : Int} (h : cutV l = (L, b)) (hr : Rs w' w.heap.size v L) (hb : Below w.heap.size w w') : CuP l w (.returned (.tuple #[v, .int .i64 b])) w' := by
  refine ⟨v, ?_, ?_, hb⟩
  · rw [h]
  · rw [h]; exact hr
theorem part_none (s : ByteArray) (k : Nat) : part s k k = [] := by simp [part]
theorem part_next {s : ByteArray} {f k : Nat} (hf : f ≤ k) (h : k < s.size) : part s f (k + 1) = part s f k ++ [s[k]] := slice_next hf (at_some s k h)
set_option maxHeartbeats 4000000 in
set_option maxRecDepth 100000 in
theorem cut_any (s : ByteArray) (w : World) (hs : s.size ≤ 4611686018427387904) :
    Calls Tryd.prog 18 #[.string s] w (CuP s.data.toList w) := by
  have hlen := data_len s
  by_cases h512 : 512 < s.size
  · have HE := Lib.hid (show cutV s.data.toList = ([], 2) by unfold cutV; rw [hlen, if_pos h512])
    have g : (512 : Int) < s.size := by omega
    go_enter Tryd.func18, Tryd.ntmps18
    go_wp2_with (fail)
    go_step3
    go_wp2
    go_ret2
    exact cuP_mk HE.out (rs_nil _ _) (Below.refl _ _)
  have HV := Lib.hid (show cutS 0 [] [] s.data.toList = cutV s.data.toList by unfold cutV; rw [hlen, if_neg h512])
  have g : ¬ (512 : Int) < s.size := by omega
  obtain ⟨i0, hi0, hz0, hz1, hz2⟩ := info_parts infoS
  have Hi := Lib.hid hi0
  have Hz := Lib.hid hz0
  clear hi0 hz0 hlen
  go_enter Tryd.func18, Tryd.ntmps18
  go_wp2_with (fail)
  refine scope_three (CutJ s w) (fun l a _ => CutM s l a) rfl rfl rfl ?hj ?p2 ?p1 ?p0 ?first
  case hj =>
    intro l a W h
    exact h.1
  case p2 =>
    rintro a W ⟨_, L, v, k, f, ⟨u, rfl, e0, e4, e5, e6⟩, hk, hf, hL, hown, hbr, ⟨h, _⟩ | ⟨h, _⟩ | ⟨_, hfk, hL2, hne, hc⟩⟩
    · cases h
    · cases h
    rw [e0, e4, e5, e6]
    clear e0 e4 e5 e6
    obtain ⟨A, cc, rfl, hrow⟩ := rs_row hown
    clear hrow
    have hstop : (∀ h : k < s.size, plnB s[k] = false) → endB s k = false → cutV s.data.toList = ([], 5) := fun h1 h2 => hc.symm.trans (c23_stops 2 (.inl rfl) hk (fun _ => h1) h2)
    have hgoes : (∀ h : k < s.size, plnB s[k] = false) → endB s k = true → cutS 0 (L ++ [part s f k]) [] (s.data.toList.drop k) = cutV s.data.toList := fun h1 h2 => (c23_goes 2 (.inl rfl) hk (fun _ => h1) h2).symm.trans hc
    have hfne : endB s k = true → f < k := fun h2 => by
      rcases Nat.lt_or_ge f k with q | q
      · exact q
      · obtain ⟨c, q1, q2, q3⟩ := hne (by omega)
        have hlt : k < s.size := by
          have := (List.getElem?_eq_some_iff.1 q1).1
          simpa using this
        rw [at_some s k hlt] at q1
        cases q1
        rw [endB_at hlt] at h2
        simp [q2, q3] at h2
    have HS := Lib.hid hstop
    have HGO := Lib.hid hgoes
    have HFN := Lib.hid hfne
    clear hstop hgoes hfne hne
    by_cases hlt : k < s.size
    · cases hp : plnB s[k]
      · have ba := fun w => bare_b s[k] false hp w
        have HP := Lib.hid (show ∀ h : k < s.size, plnB s[k] = false from fun _ => hp)
        clear hp hc
        cases he : endB s k
        · have en := fun w => ended_b s k false hk he w hs
          have HE := Lib.hid (HS.out HP.out he)
          clear he
          go_wp2_with (fail)
          refine (ba _).mono ?_
          rintro e w' ⟨rfl, rfl⟩
          go_wp2_with (fail)
          refine (en _).mono ?_
          rintro e w' ⟨rfl, rfl⟩
          go_wp2_with (fail)
          simp only [jumpsTo]
          go_ret2
          exact cuP_mk HE.out (rs_nil _ _) hbr
        · have en := fun w => ended_b s k true hk he w hs
          have HE := Lib.hid (HGO.out HP.out he)
          have hfk2 := HFN.out he
          clear he
          have cl := fun w => clone_any (s.extract f k) w (by rw [ByteArray.size_extract]; omega)
          have HX := Lib.hid (ext_list s f k)
          have hc3 : L.length + 1 ≤ maxLen := by unfold maxLen; omega
          have hc4 : (L.length + 1) * 16 ≤ 140737488355328 := by omega
          have HC3 := Lib.hid hc3
          have HC4 := Lib.hid hc4
          have j1 : (f : Int) ≤ (k : Int) := by omega
          have j2 : (k : Int) ≤ (s.size : Int) := by omega
          clear hc3 hc4
          go_wp2_with (fail)
          refine (ba _).mono ?_
          rintro e w' ⟨rfl, rfl⟩
          go_wp2_with (fail)
          refine (en _).mono ?_
          rintro e w' ⟨rfl, rfl⟩
          go_wp2_with (fail)
          refine (cl _).mono ?_
          rintro e w1 ⟨rfl, hb⟩
          have hbr1 := below_step hbr hb hbr.size
          have hown1 := own_belowQ hown hb
          clear hb hbr hown cl
          generalize s.extract f k = b at *
          have hc1 := cell_str_new w1 (.string b) 9
          have hc2 : ∀ v ∈ [Value.string b], v.oneCell' = true := by simp [Value.oneCell']
          have hbr2 := hbr1.alloc hbr1.size (.cells #[.string b] 9)
          have hc5 := hbr2.size
          go_wp2_with (at_builtin; refine wpList_append_own _ rfl _ _ 40 rfl w.heap.size 9 i0 (.string ⟨#[]⟩) 1 16 Tryd.underlying40 Hi.out Hz.out hz1 hz2 rfl (by decide) _ _ _ rfl (hown1.alloc _) ⟨w1.heap.size, 0, none⟩ 1 1 [.string b] rfl rfl hc1 hc2 HC3.out HC4.out hc5 ?_; intro v' w2 hown2 hg2 _)
          have hbr3 : Below w.heap.size w w2 := hbr2.grown hg2 hc5 (fun k hk => (hown1.lt k hk).1)
          go_step3
          refine ⟨⟨.inl rfl, L ++ [part s f k], _, k, f, cutF_mk rfl rfl rfl rfl rfl rfl, hk, hf, by simp; omega, rs_push hown2 HX.out rfl, hbr3, .inl ⟨rfl, HE.out⟩⟩, ?_⟩
          have hx : ¬ ((k : Int) = (f : Int)) := by omega
          simp [CutM, intOf, hx]
      · have ba := fun w => bare_b s[k] true hp w
        rw [drop_at s k hlt, c2_next hp, ← part_next hfk hlt] at hc
        have HE := Lib.hid hc
        clear hp hc
        go_wp2_with (fail)
        refine (ba _).mono ?_
        rintro e w' ⟨rfl, rfl⟩
        go_wp2_with (fail)
        go_step3
        refine ⟨⟨.inr (.inr rfl), L, _, k + 1, f, cutF_mk rfl rfl rfl rfl (by go_num) rfl, by omega, hf, hL, hown, hbr, .inr (.inr ⟨rfl, by omega, hL2, fun q => by omega, HE.out⟩)⟩, ?_⟩
        have hx : ¬ ((k : Int) + 1 = (f : Int)) := by omega
        simp [CutM, intOf, hx]
        first | omega | (split <;> omega)
    · obtain rfl : k = s.size := by omega
      have HP := Lib.hid (show ∀ h : s.size < s.size, plnB s[s.size] = false from fun h => absurd h (Nat.lt_irrefl _))
      have en := fun w => ended_b s s.size true hk (endB_all s) w hs
      have HE := Lib.hid (HGO.out HP.out (endB_all s))
      have hfk2 := HFN.out (endB_all s)
      clear hc HP
      have cl := fun w => clone_any (s.extract f s.size) w (by rw [ByteArray.size_extract]; omega)
      have HX := Lib.hid (ext_list s f s.size)
      have hc3 : L.length + 1 ≤ maxLen := by unfold maxLen; omega
      have hc4 : (L.length + 1) * 16 ≤ 140737488355328 := by omega
      have HC3 := Lib.hid hc3
      have HC4 := Lib.hid hc4
      have j1 : (f : Int) ≤ (s.size : Int) := by omega
      have j2 : (s.size : Int) ≤ (s.size : Int) := by omega
      clear hc3 hc4
      go_wp2_with (fail)
      refine (en _).mono ?_
      rintro e w' ⟨rfl, rfl⟩
      go_wp2_with (fail)
      refine (cl _).mono ?_
      rintro e w1 ⟨rfl, hb⟩
      have hbr1 := below_step hbr hb hbr.size
      have hown1 := own_belowQ hown hb
      clear hb hbr hown cl
      generalize s.extract f s.size = b at *
      have hc1 := cell_str_new w1 (.string b) 9
      have hc2 : ∀ v ∈ [Value.string b], v.oneCell' = true := by simp [Value.oneCell']
      have hbr2 := hbr1.alloc hbr1.size (.cells #[.string b] 9)
      have hc5 := hbr2.size
      go_wp2_with (at_builtin; refine wpList_append_own _ rfl _ _ 40 rfl w.heap.size 9 i0 (.string ⟨#[]⟩) 1 16 Tryd.underlying40 Hi.out Hz.out hz1 hz2 rfl (by decide) _ _ _ rfl (hown1.alloc _) ⟨w1.heap.size, 0, none⟩ 1 1 [.string b] rfl rfl hc1 hc2 HC3.out HC4.out hc5 ?_; intro v' w2 hown2 hg2 _)
      have hbr3 : Below w.heap.size w w2 := hbr2.grown hg2 hc5 (fun k hk => (hown1.lt k hk).1)
      go_step3
      refine ⟨⟨.inl rfl, L ++ [part s f s.size], _, s.size, f, cutF_mk rfl rfl rfl rfl rfl rfl, hk, hf, by simp; omega, rs_push hown2 HX.out rfl, hbr3, .inl ⟨rfl, HE.out⟩⟩, ?_⟩
      have hx : ¬ ((s.size : Int) = (f : Int)) := by omega
      simp [CutM, intOf, hx]
  case p1 =>
    rintro a W ⟨_, L, v, k, f, ⟨u, rfl, e0, e4, e5, e6⟩, hk, hf, hL, hown, hbr, ⟨h, _⟩ | ⟨_, hfk, hL2, hc⟩ | ⟨h, _⟩⟩
    · cases h
    rotate_left
    · cases h
    rw [e0, e4, e5, e6]
    clear e0 e4 e5 e6
    obtain ⟨A, cc, rfl, hrow⟩ := rs_row hown
    clear hrow
    by_cases hlt : k < s.size
    · have t1 : ((k : Int) == (s.size : Int)) = false := by rw [beq_eq_false_iff_ne]; omega
      rw [drop_at s k hlt] at hc
      cases hp : shwB s[k]
      · have qa := fun w => quotable_b s[k] false hp w
        by_cases h34 : s[k].toNat = 34
        · have t2 : ((s[k].toNat : Int) != 34) = false := by simp; omega
          rw [c1_close h34] at hc
          cases he : endB s (k + 1)
          · have en : ∀ w, Calls Tryd.prog 42 #[.string s, .int .i64 ((k : Int) + 1)] w fun e w' => e = .returned (.bool false) ∧ w = w' := fun w => ended_b s (k + 1) false (by omega) he w hs
            have HE := Lib.hid (hc.symm.trans (c23_stops 3 (.inr rfl) (by omega) (fun q => by cases q) he))
            clear hp hc he h34
            go_wp2_with (fail)
            refine (qa _).mono ?_
            rintro e w' ⟨rfl, rfl⟩
            go_wp2_with (fail)
            refine (en _).mono ?_
            rintro e w' ⟨rfl, rfl⟩
            go_wp2_with (fail)
            simp only [jumpsTo]
            go_ret2
            exact cuP_mk HE.out (rs_nil _ _) hbr
          · have en : ∀ w, Calls Tryd.prog 42 #[.string s, .int .i64 ((k : Int) + 1)] w fun e w' => e = .returned (.bool true) ∧ w = w' := fun w => ended_b s (k + 1) true (by omega) he w hs
            have HE := Lib.hid ((c23_goes 3 (.inr rfl) (by omega) (fun q => by cases q) he).symm.trans hc)
            clear hp hc he h34
            have cl := fun w => clone_any (s.extract f k) w (by rw [ByteArray.size_extract]; omega)
            have HX := Lib.hid (ext_list s f k)
            have hc3 : L.length + 1 ≤ maxLen := by unfold maxLen; omega
            have hc4 : (L.length + 1) * 16 ≤ 140737488355328 := by omega
            have HC3 := Lib.hid hc3
            have HC4 := Lib.hid hc4
            have j1 : (f : Int) ≤ (k : Int) := by omega
            have j2 : (k : Int) ≤ (s.size : Int) := by omega
            clear hc3 hc4
            go_wp2_with (fail)
            refine (qa _).mono ?_
            rintro e w' ⟨rfl, rfl⟩
            go_wp2_with (fail)
            refine (en _).mono ?_
            rintro e w' ⟨rfl, rfl⟩
            go_wp2_with (fail)
            refine (cl _).mono ?_
            rintro e w1 ⟨rfl, hb⟩
            have hbr1 := below_step hbr hb hbr.size
            have hown1 := own_belowQ hown hb
            clear hb hbr hown cl
            generalize s.extract f k = b at *
            have hc1 := cell_str_new w1 (.string b) 9
            have hc2 : ∀ v ∈ [Value.string b], v.oneCell' = true := by simp [Value.oneCell']
            have hbr2 := hbr1.alloc hbr1.size (.cells #[.string b] 9)
            have hc5 := hbr2.size
            go_wp2_with (at_builtin; refine wpList_append_own _ rfl _ _ 40 rfl w.heap.size 9 i0 (.string ⟨#[]⟩) 1 16 Tryd.underlying40 Hi.out Hz.out hz1 hz2 rfl (by decide) _ _ _ rfl (hown1.alloc _) ⟨w1.heap.size, 0, none⟩ 1 1 [.string b] rfl rfl hc1 hc2 HC3.out HC4.out hc5 ?_; intro v' w2 hown2 hg2 _)
            have hbr3 : Below w.heap.size w w2 := hbr2.grown hg2 hc5 (fun k hk => (hown1.lt k hk).1)
            go_step3
            refine ⟨⟨.inl rfl, L ++ [part s f k], _, k + 1, f, cutF_mk rfl rfl rfl rfl (by go_num) rfl, by omega, hf, by simp; omega, rs_push hown2 HX.out rfl, hbr3, .inl ⟨rfl, HE.out⟩⟩, ?_⟩
            simp [CutM, intOf]
            omega
        · have t2 : ((s[k].toNat : Int) != 34) = true := by simp; omega
          have HE := Lib.hid (hc.symm.trans (c1_bad hp h34))
          clear hp hc h34
          go_wp2_with (fail)
          refine (qa _).mono ?_
          rintro e w' ⟨rfl, rfl⟩
          go_wp2_with (fail)
          simp only [jumpsTo]
          go_ret2
          exact cuP_mk HE.out (rs_nil _ _) hbr
      · have qa := fun w => quotable_b s[k] true hp w
        rw [c1_next hp, ← part_next hfk hlt] at hc
        have HE := Lib.hid hc
        clear hp hc
        go_wp2_with (fail)
        refine (qa _).mono ?_
        rintro e w' ⟨rfl, rfl⟩
        go_wp2_with (fail)
        go_step3
        refine ⟨⟨.inr (.inl rfl), L, _, k + 1, f, cutF_mk rfl rfl rfl rfl (by go_num) rfl, by omega, hf, hL, hown, hbr, .inr (.inl ⟨rfl, by omega, hL2, HE.out⟩)⟩, ?_⟩
        simp [CutM, intOf]
        omega
    · obtain rfl : k = s.size := by omega
      rw [show s.data.toList.drop s.size = [] from List.drop_of_length_le (by simp), c1_end] at hc
      have HE := Lib.hid hc.symm
      clear hc
      go_wp2_with (fail)
      simp only [jumpsTo]
      go_ret2
      exact cuP_mk HE.out (rs_nil _ _) hbr
  case p0 =>
    intro P2
    rintro a W ⟨_, L, v, k, f, ⟨u, rfl, e0, e4, e5, e6⟩, hk, hf, hL, hown, hbr, ⟨_, hc⟩ | ⟨h, _⟩ | ⟨h, _⟩⟩
    rotate_left
    · cases h
    · cases h
    rw [e0, e4, e5, e6]
    clear e0 e4 e5 e6
    obtain ⟨A, cc, rfl, hrow⟩ := rs_row hown
    clear hrow
    by_cases hlt : k < s.size
    · have t1 : ((k : Int) == (s.size : Int)) = false := by rw [beq_eq_false_iff_ne]; omega
      rw [drop_at s k hlt] at hc
      by_cases h35 : s[k].toNat = 35
      · have HE := Lib.hid (hc.symm.trans (c0_hash h35))
        have t2 : ((s[k].toNat : Int) == 35) = true := by rw [beq_iff_eq]; omega
        clear hc h35
        go_wp2_with (fail)
        simp only [jumpsTo]
        go_ret2
        exact cuP_mk HE.out hown hbr
      have t2 : ((s[k].toNat : Int) == 35) = false := by rw [beq_eq_false_iff_ne]; omega
      by_cases h32 : s[k].toNat = 32
      · have HE := Lib.hid ((c0_blank h32).symm.trans hc)
        have t3 : ((s[k].toNat : Int) == 32) = true := by rw [beq_iff_eq]; omega
        clear hc h35 h32
        go_wp2_with (fail)
        go_step3
        refine ⟨⟨.inl rfl, L, _, k + 1, f, cutF_mk rfl rfl rfl rfl (by go_num) rfl, by omega, hf, hL, hown, hbr, .inl ⟨rfl, HE.out⟩⟩, ?_⟩
        simp [CutM, intOf]
        omega
      have t3 : ((s[k].toNat : Int) == 32) = false := by rw [beq_eq_false_iff_ne]; omega
      by_cases h9 : L.length = 32
      · have HE := Lib.hid (hc.symm.trans (c0_many h35 h32 h9))
        have t4 : ((L.length : Int) == 32) = true := by rw [beq_iff_eq]; omega
        clear hc h35 h32 h9
        go_wp2_with (fail)
        simp only [jumpsTo]
        go_ret2
        exact cuP_mk HE.out (rs_nil _ _) hbr
      have t4 : ((L.length : Int) == 32) = false := by rw [beq_eq_false_iff_ne]; omega
      by_cases h34 : s[k].toNat = 34
      · have HE := Lib.hid ((c0_quote h9 h34).symm.trans hc)
        have t5 : ((s[k].toNat : Int) == 34) = true := by rw [beq_iff_eq]; omega
        have hL2 : L.length < 32 := by omega
        clear hc h35 h32 h9 h34
        go_wp2_with (fail)
        go_step3
        refine ⟨⟨.inr (.inl rfl), L, _, k + 1, k + 1, cutF_mk rfl rfl rfl rfl (by go_num) (by go_num), by omega, by omega, hL, hown, hbr, .inr (.inl ⟨rfl, Nat.le_refl _, hL2, by rw [part_none]; exact HE.out⟩)⟩, ?_⟩
        simp [CutM, intOf]
        omega
      · have HE := Lib.hid ((c0_word h35 h32 h9 h34).symm.trans hc)
        have t5 : ((s[k].toNat : Int) == 34) = false := by rw [beq_eq_false_iff_ne]; omega
        have hL2 : L.length < 32 := by omega
        have HN := Lib.hid (show ∃ c, s.data.toList[k]? = some c ∧ c.toNat ≠ 32 ∧ c.toNat ≠ 35 from ⟨s[k], at_some s k hlt, h32, h35⟩)
        clear hc h35 h32 h9 h34
        go_wp2_with (fail)
        go_step3
        first | (rename_i hk2; refine hk2 _ _ (wp_mono (P2 _ _ ?jj) (jumps_mono fun l a' w' q => ⟨q.1, Nat.lt_trans q.2 ?mm⟩))) | (rename_i hk2 _; refine hk2 _ _ (wp_mono (P2 _ _ ?jj) (jumps_mono fun l a' w' q => ⟨q.1, Nat.lt_trans q.2 ?mm⟩))) | (rename_i hk2 _ _; refine hk2 _ _ (wp_mono (P2 _ _ ?jj) (jumps_mono fun l a' w' q => ⟨q.1, Nat.lt_trans q.2 ?mm⟩))) | (rename_i hk2 _ _ _; refine hk2 _ _ (wp_mono (P2 _ _ ?jj) (jumps_mono fun l a' w' q => ⟨q.1, Nat.lt_trans q.2 ?mm⟩))) | (rename_i hk2 _ _ _ _; refine hk2 _ _ (wp_mono (P2 _ _ ?jj) (jumps_mono fun l a' w' q => ⟨q.1, Nat.lt_trans q.2 ?mm⟩))) | (rename_i hk2 _ _ _ _ _; refine hk2 _ _ (wp_mono (P2 _ _ ?jj) (jumps_mono fun l a' w' q => ⟨q.1, Nat.lt_trans q.2 ?mm⟩))) | (rename_i hk2 _ _ _ _ _ _; refine hk2 _ _ (wp_mono (P2 _ _ ?jj) (jumps_mono fun l a' w' q => ⟨q.1, Nat.lt_trans q.2 ?mm⟩))) | (rename_i hk2 _ _ _ _ _ _ _; refine hk2 _ _ (wp_mono (P2 _ _ ?jj) (jumps_mono fun l a' w' q => ⟨q.1, Nat.lt_trans q.2 ?mm⟩))) | (rename_i hk2 _ _ _ _ _ _ _ _; refine hk2 _ _ (wp_mono (P2 _ _ ?jj) (jumps_mono fun l a' w' q => ⟨q.1, Nat.lt_trans q.2 ?mm⟩))) | (rename_i hk2 _ _ _ _ _ _ _ _ _; refine hk2 _ _ (wp_mono (P2 _ _ ?jj) (jumps_mono fun l a' w' q => ⟨q.1, Nat.lt_trans q.2 ?mm⟩))) | (rename_i hk2 _ _ _ _ _ _ _ _ _ _; refine hk2 _ _ (wp_mono (P2 _ _ ?jj) (jumps_mono fun l a' w' q => ⟨q.1, Nat.lt_trans q.2 ?mm⟩))) | (rename_i hk2 _ _ _ _ _ _ _ _ _ _ _; refine hk2 _ _ (wp_mono (P2 _ _ ?jj) (jumps_mono fun l a' w' q => ⟨q.1, Nat.lt_trans q.2 ?mm⟩))) | (rename_i hk2 _ _ _ _ _ _ _ _ _ _ _ _; refine hk2 _ _ (wp_mono (P2 _ _ ?jj) (jumps_mono fun l a' w' q => ⟨q.1, Nat.lt_trans q.2 ?mm⟩))) | (rename_i hk2 _ _ _ _ _ _ _ _ _ _ _ _ _; refine hk2 _ _ (wp_mono (P2 _ _ ?jj) (jumps_mono fun l a' w' q => ⟨q.1, Nat.lt_trans q.2 ?mm⟩)))
        case jj => exact ⟨.inr (.inr rfl), L, _, k, k, cutF_mk rfl rfl rfl rfl rfl rfl, by omega, by omega, hL, hown, hbr, .inr (.inr ⟨rfl, Nat.le_refl _, hL2, fun _ => HN.out, by rw [part_none, drop_at s k hlt]; exact HE.out⟩)⟩
        case mm => simp [CutM, intOf]
    · obtain rfl : k = s.size := by omega
      rw [show s.data.toList.drop s.size = [] from List.drop_of_length_le (by simp)] at hc
      have HE := Lib.hid (hc.symm.trans (c0_end _ _))
      clear hc
      go_wp2_with (fail)
      simp only [jumpsTo]
      go_ret2
      exact cuP_mk HE.out hown hbr
  case first =>
    intro P0
    go_wp2_with (fail)
    go_step3
    rename_i hk2
    refine hk2 _ _ (P0 _ _ ⟨.inl rfl, [], _, 0, 0, cutF_mk rfl rfl rfl rfl rfl rfl, Nat.zero_le _, by omega, by simp, rs_nil _ _, Below.refl _ _, .inl ⟨rfl, HV.out⟩⟩)
end Go.Proofs.YtgadlfdioakodabDoor
