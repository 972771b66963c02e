/- A clone as a table that may be read. (As OrdB and OrdC, without slices.Reverse: for seats that have none.) -/
import Derived.Test.YtobdbjmpoefebaaDoorOrdA
import Derived.Test.YtobdbjmpoefebaaDoorCloD
namespace Go.Proofs.YtobdbjmpoefebaaDoor
open Go.RowKit Go.Sort
set_option linter.unusedVariables false
set_option linter.unusedSimpArgs false
def schG (b : SB) : List Value := [.slice b.A b.n b.c]
theorem sch_cells {W : World} {B g c n i : Nat} {F : Nat → SB} (h : W.ownsRow B 78 1 (.slice (some ⟨g, 0, none⟩) n c) n ((List.range n).flatMap (fun q => schG (F q)))) (hi : i < n) : W.cell? ⟨g, i, none⟩ = some (.slice (F i).A (F i).n (F i).c) := by
  have hx := flat_at (f := fun q => schG (F q)) (k := 1) (fun _ => rfl) i 0 (by omega) n hi
  rw [Nat.mul_one, Nat.add_zero] at hx
  exact own_cell h hx
theorem con_cells {W : World} {B g c n i : Nat} {F : Nat → CB} (h : W.ownsRow B 80 6 (.slice (some ⟨g, 0, none⟩) n c) n ((List.range n).flatMap (fun q => conG (F q)))) (hi : i < n) : ∀ j, j < 6 → W.cell? ⟨g, i * 6 + j, none⟩ = (conG (F i))[j]? := by
  intro j hj
  have hx : ((List.range n).flatMap (fun q => conG (F q)))[i * 6 + j]? = some ((conG (F i))[j]'(by show j < 6; exact hj)) := by
    rw [flat_at (f := fun q => conG (F q)) (k := 6) (fun _ => rfl) i j hj n hi]
    exact List.getElem?_eq_getElem _
  rw [own_cell h hx]
  exact (List.getElem?_eq_getElem _).symm
theorem flat_congr {f g : Nat → List Value} {n : Nat} (h : ∀ q, q < n → f q = g q) : (List.range n).flatMap f = (List.range n).flatMap g := by
  unfold List.flatMap
  congr 1
  apply List.map_congr_left
  intro q hq
  exact h q (List.mem_range.1 hq)
theorem bds_own {W : World} {B n c : Nat} {A : Option Addr} {b : SB} (h : W.ownsRow B 85 3 (.slice A n c) n ((List.range n).flatMap (bandG b))) : Bds W A n b.F b.R b.E := fun hn => by
  obtain ⟨g, rfl⟩ := own_some h hn
  refine ⟨g, 0, rfl, fun i hi => ?_⟩
  have k : ∀ j, j < 3 → W.cell? ⟨g, 0 + i * 3 + j, none⟩ = (bandG b i)[j]? := fun j hj => by
    have hx : ((List.range n).flatMap (bandG b))[i * 3 + j]? = some ((bandG b i)[j]'(by show j < 3; exact hj)) := by
      rw [flat_at (f := bandG b) (k := 3) (fun _ => rfl) i j hj n hi]
      exact List.getElem?_eq_getElem _
    rw [Nat.zero_add, own_cell h hx]
    exact (List.getElem?_eq_getElem _).symm
  exact ⟨k 0 (by omega), k 1 (by omega), k 2 (by omega)⟩
/-- the same bands elsewhere -/
def mvB (b : SB) (x : Option Addr × Nat) : SB := ⟨x.1, b.n, x.2, b.F, b.R, b.E⟩
def mvC (c : CB) (x : Option Addr × Nat) : CB := ⟨c.N, c.B, mvB c.b x, c.P, c.Y, c.W⟩
theorem schU_open {W : World} {B U c n : Nat} {A : Option Addr} {S : Nat → SB} (h : SchU W B U A c n S) :
    ∃ f : Nat → Option Addr × Nat, OwU W B U 78 1 (.slice A n c) n ((List.range n).flatMap (fun q => schG (mvB (S q) (f q)))) ∧
      ∀ q, q < n → OwU W (B + 1) U 85 3 (.slice (f q).1 (S q).n (f q).2) (S q).n ((List.range (S q).n).flatMap (bandG (S q))) ∧ ∀ g b, (Value.slice A n c).ownBlock = some g → (Value.slice (f q).1 (S q).n (f q).2).ownBlock = some b → g < b := by
  obtain ⟨nu, h1, h2⟩ := h
  have ex : ∀ q, ∃ x : Option Addr × Nat, q < n → nu q = .slice x.1 (S q).n x.2 := fun q => by
    by_cases hq : q < n
    · obtain ⟨A', c', e⟩ := own_slice (h2 q hq).1.1
      exact ⟨(A', c'), fun _ => e⟩
    · exact ⟨(none, 0), fun hh => absurd hh hq⟩
  obtain ⟨f, hf⟩ : ∃ f : Nat → Option Addr × Nat, ∀ q, q < n → nu q = .slice (f q).1 (S q).n (f q).2 := ⟨fun q => Classical.choose (ex q), fun q => Classical.choose_spec (ex q)⟩
  refine ⟨f, ?_, fun q hq => ?_⟩
  · have e : (List.range n).map nu = (List.range n).flatMap (fun q => schG (mvB (S q) (f q))) := by
      rw [List.map_eq_flatMap]
      exact flat_congr fun q hq => by rw [hf q hq]; rfl
    rw [e] at h1
    exact h1
  · have e := hf q hq
    have := h2 q hq
    rw [e] at this
    exact this
theorem conU_open {W : World} {B U c n : Nat} {A : Option Addr} {C : Nat → CB} (h : ConU W B U A c n C) :
    ∃ f : Nat → Option Addr × Nat, OwU W B U 80 6 (.slice A n c) n ((List.range n).flatMap (fun q => conG (mvC (C q) (f q)))) ∧
      ∀ q, q < n → OwU W (B + 1) U 85 3 (.slice (f q).1 (C q).b.n (f q).2) (C q).b.n ((List.range (C q).b.n).flatMap (bandG (C q).b)) ∧ ∀ g b, (Value.slice A n c).ownBlock = some g → (Value.slice (f q).1 (C q).b.n (f q).2).ownBlock = some b → g < b := by
  obtain ⟨nu, h1, h2⟩ := h
  have ex : ∀ q, ∃ x : Option Addr × Nat, q < n → nu q = .slice x.1 (C q).b.n x.2 := fun q => by
    by_cases hq : q < n
    · obtain ⟨A', c', e⟩ := own_slice (h2 q hq).1.1
      exact ⟨(A', c'), fun _ => e⟩
    · exact ⟨(none, 0), fun hh => absurd hh hq⟩
  obtain ⟨f, hf⟩ : ∃ f : Nat → Option Addr × Nat, ∀ q, q < n → nu q = .slice (f q).1 (C q).b.n (f q).2 := ⟨fun q => Classical.choose (ex q), fun q => Classical.choose_spec (ex q)⟩
  refine ⟨f, ?_, fun q hq => ?_⟩
  · have e : (List.range n).flatMap (cwn C nu) = (List.range n).flatMap (fun q => conG (mvC (C q) (f q))) :=
      flat_congr fun q hq => by unfold cwn; rw [hf q hq]; rfl
    rw [e] at h1
    exact h1
  · have e := hf q hq
    have := h2 q hq
    rw [e] at this
    exact this
theorem schM_of {W : World} {B c n : Nat} {A : Option Addr} {S : Nat → SB} (h : W.ownsRow B 78 1 (.slice A n c) n ((List.range n).flatMap (fun q => schG (S q)))) (hb : ∀ q, q < n → Bds W (S q).A (S q).n (S q).F (S q).R (S q).E) : SchM W A n S := fun hn => by
  obtain ⟨g, rfl⟩ := own_some h hn
  refine ⟨g, 0, rfl, fun i hi => ⟨?_, hb i hi⟩⟩
  rw [Nat.zero_add]
  exact sch_cells h hi
theorem conM_of {W : World} {B c n : Nat} {A : Option Addr} {C : Nat → CB} (h : W.ownsRow B 80 6 (.slice A n c) n ((List.range n).flatMap (fun q => conG (C q)))) (hb : ∀ q, q < n → Bds W (C q).b.A (C q).b.n (C q).b.F (C q).b.R (C q).b.E) : ConM W A n C := fun hn => by
  obtain ⟨g, rfl⟩ := own_some h hn
  refine ⟨g, 0, rfl, fun i hi => ?_⟩
  have k := con_cells h hi
  rw [Nat.zero_add]
  exact ⟨k 0 (by omega), k 1 (by omega), k 2 (by omega), k 3 (by omega), k 4 (by omega), k 5 (by omega), hb i hi⟩
theorem kinM_of {W : World} {B c n : Nat} {A : Option Addr} {K : Nat → KB} (h : W.ownsRow B 53 4 (.slice A n c) n ((List.range n).flatMap (fun q => kinG (K q)))) : KinM W A n K := fun hn => by
  obtain ⟨g, rfl⟩ := own_some h hn
  refine ⟨g, 0, rfl, fun i hi => ?_⟩
  have k := kin_cells h hi
  rw [Nat.zero_add]
  exact ⟨k 0 (by omega), k 1 (by omega), k 2 (by omega), k 3 (by omega)⟩
/-- a clone, and the places of its rows -/
def cloT (T : TB) (AS : Option Addr) (cS : Nat) (AC : Option Addr) (cC : Nat) (AK : Option Addr) (cK : Nat) (f h : Nat → Option Addr × Nat) : TB :=
  { AS := AS, nS := T.nS, cS := cS, AC := AC, nC := T.nC, cC := cC, AK := AK, nK := T.nK, cK := cK, L := T.L, W := T.W, S := fun q => mvB (T.S q) (f q), C := fun q => mvC (T.C q) (h q), K := T.K }
theorem cloT_chk (T : TB) (AS : Option Addr) (cS : Nat) (AC : Option Addr) (cC : Nat) (AK : Option Addr) (cK : Nat) (f h : Nat → Option Addr × Nat) : (cloT T AS cS AC cC AK cK f h).chk = T.chk := rfl
/-- the contributions and the schemes the other way round -/
def revT (T : TB) : TB := { T with S := fun q => T.S (T.nS - 1 - q), C := fun q => T.C (T.nC - 1 - q) }
/-- without the first contribution -/
def tailT (T : TB) (A : Option Addr) (c : Nat) : TB := { T with AC := A, nC := T.nC - 1, cC := c, C := fun q => T.C (q + 1) }
theorem rev_chk {T : TB} (h : T.chk = 0) : (revT T).chk = 0 := by
  obtain ⟨h1, h2, h3, h4⟩ := chkT_parts h
  exact chkT_mk h1 (schsE_rev h2) (consE_rev h3) h4
theorem tail_chk {T : TB} (h : T.chk = 0) (hn : 1 ≤ T.nC) (A : Option Addr) (c : Nat) : (tailT T A c).chk = 0 := by
  obtain ⟨h1, h2, h3, h4⟩ := chkT_parts h
  refine chkT_mk h1 h2 ?_ h4
  refine consE_tail (n := T.nC - 1) ?_
  rw [show T.nC - 1 + 1 = T.nC by omega]
  exact h3
theorem clo_kept (T : TB) (AS : Option Addr) (cS : Nat) (AC : Option Addr) (cC : Nat) (AK : Option Addr) (cK : Nat) (f h : Nat → Option Addr × Nat) : keptW (cloT T AS cS AC cC AK cK f h) = keptW T := by
  have e1 : ∀ n, allW (cloT T AS cS AC cC AK cK f h).S T.L n = allW T.S T.L n := fun n => by
    induction n with
    | zero => rfl
    | succ n ih => show rowW n (T.S n).R (allW (cloT T AS cS AC cC AK cK f h).S T.L n) (T.S n).n = _; rw [ih]; rfl
  have e2 : ∀ n, takeC (cloT T AS cS AC cC AK cK f h).C n = takeC T.C n := fun n => by
    induction n with
    | zero => rfl
    | succ n ih => show takeC (cloT T AS cS AC cC AK cK f h).C n + _ = _; rw [ih]; rfl
  show 10000 - (allW (cloT T AS cS AC cC AK cK f h).S T.L T.nS).2.2 - takeC (cloT T AS cS AC cC AK cK f h).C T.nC = _
  rw [e1, e2]
  rfl
theorem rev_kept (T : TB) : keptW (revT T) = keptW T := by
  show 10000 - (allW (fun q => T.S (T.nS - 1 - q)) T.L T.nS).2.2 - takeC (fun q => T.C (T.nC - 1 - q)) T.nC = _
  rw [allW_rev, takeC_rev]
  rfl
theorem tail_kept {T : TB} (h : T.chk = 0) (hn : 1 ≤ T.nC) (A : Option Addr) (c : Nat) : keptW T ≤ keptW (tailT T A c) := by
  have h0 := tk1_pos (tok_of h) (show 0 < T.nC by omega)
  have e := takeC_front T.C (T.nC - 1)
  rw [show T.nC - 1 + 1 = T.nC by omega] at e
  show 10000 - (allW T.S T.L T.nS).2.2 - takeC T.C T.nC ≤ 10000 - (allW T.S T.L T.nS).2.2 - takeC (fun q => T.C (q + 1)) (T.nC - 1)
  omega
end Go.Proofs.YtobdbjmpoefebaaDoor
