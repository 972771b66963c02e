/- All contributions are clones; a kind stored where it lies. -/
import Derived.Test.YtobdbjmpoefebaaDoorCloF
namespace Go.Proofs.YtobdbjmpoefebaaDoor
open Go.RowKit Go.Sort
set_option linter.unusedVariables false
def cwn (C : Nat → CB) (nu : Nat → Value) (q : Nat) : List Value := [.string (C q).N, .int .i64 (C q).B, nu q, .int .i64 (C q).P, .int .i64 (C q).Y, .int .i64 (C q).W]
/-- all contributions are clones, below U -/
def ConU (W : World) (B U : Nat) (A : Option Addr) (c n : Nat) (C : Nat → CB) : Prop :=
  ∃ nu : Nat → Value, OwU W B U 80 6 (.slice A n c) n ((List.range n).flatMap (cwn C nu)) ∧ ∀ q, q < n → OwU W (B + 1) U 85 3 (nu q) (C q).b.n ((List.range (C q).b.n).flatMap (bandG (C q).b)) ∧ ∀ g b, (Value.slice A n c).ownBlock = some g → (nu q).ownBlock = some b → g < b
theorem ConU.kept {W W' : World} {B U U' c n : Nat} {A : Option Addr} {C : Nat → CB} (h : ConU W B U A c n C) (hU : U ≤ U') (hb : Below U' W W') : ConU W' B U A c n C := by
  obtain ⟨nu, h1, h2⟩ := h
  exact ⟨nu, h1.kept hU hb, fun q hq => ⟨(h2 q hq).1.kept hU hb, (h2 q hq).2⟩⟩
theorem ConU.other {W : World} {B U c n p : Nat} {A : Option Addr} {C : Nat → CB} (h : ConU W B U A c n C) (hp : p < B) (j : Nat) (x : Value) : ConU (W.setCell ⟨p, j, none⟩ x) B U A c n C := by
  obtain ⟨nu, h1, h2⟩ := h
  exact ⟨nu, h1.other hp j x, fun q hq => ⟨(h2 q hq).1.other (by omega) j x, (h2 q hq).2⟩⟩
theorem ConU.of {W : World} {B g c n : Nat} {C : Nat → CB} (h : ConC W B g c n C n) (hg : B ≤ g) : ConU W B W.heap.size (some ⟨g, 0, none⟩) c n C := by
  obtain ⟨nu, h1, h2⟩ := h
  refine ⟨nu, ?_, fun q hq => ⟨OwU.of (own_mono (h2 q hq) (by omega)), fun g' b e1 e2 => ?_⟩⟩
  · have e : (List.range n).flatMap (cw C nu n) = (List.range n).flatMap (cwn C nu) := by
      unfold List.flatMap
      congr 1
      apply List.map_congr_left
      intro q hq
      unfold cw cwn
      rw [if_pos (List.mem_range.1 hq)]
    rw [e] at h1
    exact OwU.of h1
  · have e3 : g = g' := by simpa [Value.ownBlock] using e1
    have := ((h2 q hq).lt b e2).1
    omega
theorem ConU.none {W : World} {B c : Nat} {A : Option Addr} {C : Nat → CB} (h : W.ownsRow B 80 6 (.slice A 0 c) 0 []) : ConU W B W.heap.size A c 0 C :=
  ⟨fun _ => undef, OwU.of (by simpa using h), fun q hq => absurd hq (Nat.not_lt_zero _)⟩
def kinG (k : KB) : List Value := [.string k.N, .int .i64 k.c, .int .i64 k.t, .int .i64 k.s]
theorem kinG_len (K : Nat → KB) (i : Nat) : (kinG (K i)).length = 4 := rfl
/-- a kind stored where it lies changes nothing -/
theorem kin_set {W : World} {B g c n i : Nat} {K : Nat → KB} (h : W.ownsRow B 53 4 (.slice (some ⟨g, 0, none⟩) n c) n ((List.range n).flatMap (fun i => kinG (K i)))) (hi : i < n) :
    ((((W.setCell ⟨g, i * 4, none⟩ (.string (K i).N)).setCell ⟨g, i * 4 + 1, none⟩ (.int .i64 (K i).c)).setCell ⟨g, i * 4 + 2, none⟩ (.int .i64 (K i).t)).setCell ⟨g, i * 4 + 3, none⟩ (.int .i64 (K i).s)).ownsRow B 53 4 (.slice (some ⟨g, 0, none⟩) n c) n ((List.range n).flatMap (fun i => kinG (K i))) := by
  have h3 := own_set (own_set (own_set (own_set h (i * 4) (.string (K i).N)) (i * 4 + 1) (.int .i64 (K i).c)) (i * 4 + 2) (.int .i64 (K i).t)) (i * 4 + 3) (.int .i64 (K i).s)
  have s0 := set_same (flat_at (kinG_len K) i 0 (by omega) n hi)
  have s1 := set_same (flat_at (kinG_len K) i 1 (by omega) n hi)
  have s2 := set_same (flat_at (kinG_len K) i 2 (by omega) n hi)
  have s3 := set_same (flat_at (kinG_len K) i 3 (by omega) n hi)
  rw [Nat.add_zero] at s0
  rw [s0, s1, s2, s3] at h3
  exact h3
theorem kin_cells {W : World} {B g c n i : Nat} {K : Nat → KB} (h : W.ownsRow B 53 4 (.slice (some ⟨g, 0, none⟩) n c) n ((List.range n).flatMap (fun i => kinG (K i)))) (hi : i < n) : ∀ j, j < 4 → W.cell? ⟨g, i * 4 + j, none⟩ = (kinG (K i))[j]? := by
  intro j hj
  have hx : ((List.range n).flatMap (fun i => kinG (K i)))[i * 4 + j]? = some ((kinG (K i))[j]'(by rw [kinG_len]; exact hj)) := by
    rw [flat_at (kinG_len K) i j hj n hi]
    exact List.getElem?_eq_getElem _
  rw [own_cell h hx]
  exact (List.getElem?_eq_getElem _).symm
end Go.Proofs.YtobdbjmpoefebaaDoor
