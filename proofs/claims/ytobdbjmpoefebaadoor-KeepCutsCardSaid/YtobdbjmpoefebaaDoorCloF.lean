/- A row of the call's own whose block is old is kept. -/
import Derived.Test.YtobdbjmpoefebaaDoorCloE
namespace Go.Proofs.YtobdbjmpoefebaaDoor
open Go.RowKit Go.Sort
set_option linter.unusedVariables false
/-- a row of the call's own whose block lies below U -/
def OwU (W : World) (B U : Nat) (e : TypeId) (k : Nat) (v : Value) (n : Nat) (xs : List Value) : Prop := W.ownsRow B e k v n xs ∧ ∀ b, v.ownBlock = some b → b < U
theorem OwU.of {W : World} {B : Nat} {e : TypeId} {k n : Nat} {v : Value} {xs : List Value} (h : W.ownsRow B e k v n xs) : OwU W B W.heap.size e k v n xs := ⟨h, fun b hb => (h.lt b hb).2⟩
theorem OwU.kept {W W' : World} {B U U' : Nat} {e : TypeId} {k n : Nat} {v : Value} {xs : List Value} (h : OwU W B U e k v n xs) (hU : U ≤ U') (hb : Below U' W W') : OwU W' B U e k v n xs := by
  obtain ⟨⟨hl, h⟩, h2⟩ := h
  refine ⟨⟨hl, ?_⟩, h2⟩
  rcases h with h | ⟨g, cap, cur, hv, hg, hh, r⟩
  · exact .inl h
  · have := h2 g (by rw [hv]; rfl)
    exact .inr ⟨g, cap, cur, hv, hg, (hb.block _ (by omega)).trans hh, r⟩
theorem OwU.other {W : World} {B U p : Nat} {e : TypeId} {k n : Nat} {v : Value} {xs : List Value} (h : OwU W B U e k v n xs) (hp : p < B) (j : Nat) (x : Value) : OwU (W.setCell ⟨p, j, none⟩ x) B U e k v n xs := ⟨own_other h.1 hp j x, h.2⟩
/-- all schemes are clones, below U -/
def SchU (W : World) (B U : Nat) (A : Option Addr) (c n : Nat) (S : Nat → SB) : Prop :=
  ∃ nu : Nat → Value, OwU W B U 78 1 (.slice A n c) n ((List.range n).map nu) ∧ ∀ q, q < n → OwU W (B + 1) U 85 3 (nu q) (S q).n ((List.range (S q).n).flatMap (bandG (S q))) ∧ ∀ g b, (Value.slice A n c).ownBlock = some g → (nu q).ownBlock = some b → g < b
theorem SchU.kept {W W' : World} {B U U' c n : Nat} {A : Option Addr} {S : Nat → SB} (h : SchU W B U A c n S) (hU : U ≤ U') (hb : Below U' W W') : SchU W' B U A c n S := by
  obtain ⟨nu, h1, h2⟩ := h
  exact ⟨nu, h1.kept hU hb, fun q hq => ⟨(h2 q hq).1.kept hU hb, (h2 q hq).2⟩⟩
theorem SchU.other {W : World} {B U c n p : Nat} {A : Option Addr} {S : Nat → SB} (h : SchU W B U A c n S) (hp : p < B) (j : Nat) (x : Value) : SchU (W.setCell ⟨p, j, none⟩ x) B U A c n S := by
  obtain ⟨nu, h1, h2⟩ := h
  exact ⟨nu, h1.other hp j x, fun q hq => ⟨(h2 q hq).1.other (by omega) j x, (h2 q hq).2⟩⟩
theorem SchU.of {W : World} {B g c n : Nat} {S : Nat → SB} (h : SchC W B g c n S n) (hg : B ≤ g) : SchU W B W.heap.size (some ⟨g, 0, none⟩) c n S := by
  obtain ⟨nu, h1, h2⟩ := h
  refine ⟨nu, ?_, fun q hq => ⟨OwU.of (own_mono (h2 q hq) (by omega)), fun g' b e1 e2 => ?_⟩⟩
  · have e : (List.range n).map (sw S nu n) = (List.range n).map nu := by
      apply List.map_congr_left
      intro q hq
      unfold sw
      rw [if_pos (List.mem_range.1 hq)]
    rw [e] at h1
    exact OwU.of h1
  · have e3 : g = g' := by simpa [Value.ownBlock] using e1
    have := ((h2 q hq).lt b e2).1
    omega
theorem SchU.none {W : World} {B c : Nat} {A : Option Addr} {S : Nat → SB} (h : W.ownsRow B 78 1 (.slice A 0 c) 0 []) : SchU W B W.heap.size A c 0 S :=
  ⟨fun _ => undef, OwU.of (by simpa using h), fun q hq => absurd hq (Nat.not_lt_zero _)⟩
end Go.Proofs.YtobdbjmpoefebaaDoor
