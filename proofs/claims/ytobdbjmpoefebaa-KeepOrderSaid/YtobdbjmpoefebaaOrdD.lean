/- Reverse of rows, none included; names that may be are short; what is held of memory in KeepOrder. -/
import Derived.Test.YtobdbjmpoefebaaOrdC
import Derived.Test.YtobdbjmpoefebaaTabQ
namespace Go.Proofs.Ytobdbjmpoefebaa
open Go.RowKit Go.Sort
set_option linter.unusedVariables false
set_option linter.unusedSimpArgs false

/-- but for the block where a row begins the world is as it was -/
structure OnlA (A : Option Addr) (w w' : World) : Prop where
  os : w'.os = w.os
  tape : w'.tape = w.tape
  output : w'.output = w.output
  size : w'.heap.size = w.heap.size
  block : ∀ k, (∀ a, A = some a → a.block ≠ k) → w'.heap[k]? = w.heap[k]?
theorem OnlA.refl (A : Option Addr) (w : World) : OnlA A w w := ⟨rfl, rfl, rfl, rfl, fun _ _ => rfl⟩
theorem OnlA.of {g : Nat} {w w' : World} (h : Onl g w w') : OnlA (some ⟨g, 0, none⟩) w w' := ⟨h.os, h.tape, h.output, h.size, fun k hk => h.block k (fun e => hk _ rfl e.symm)⟩
theorem OnlA.below {A : Option Addr} {B : Nat} {w w' : World} (h : OnlA A w w') (hB : ∀ a, A = some a → B ≤ a.block) : Below B w w' := ⟨h.os, h.tape, h.output, Nat.le_of_eq h.size.symm, fun k hk => h.block k fun a ha => by have := hB a ha; omega⟩
theorem OnlA.own {A : Option Addr} {B : Nat} {w w' : World} {e : TypeId} {k n : Nat} {v : Value} {xs : List Value} (h : OnlA A w w') (ho : w.ownsRow B e k v n xs) (hv : ∀ b a, v.ownBlock = some b → A = some a → a.block ≠ b) : w'.ownsRow B e k v n xs := by
  obtain ⟨hl, h0 | ⟨b, cap, cur, hv2, hg, hh, r⟩⟩ := ho
  · exact ⟨hl, .inl h0⟩
  · exact ⟨hl, .inr ⟨b, cap, cur, hv2, hg, (h.block b fun a ha => hv b a (by rw [hv2]; rfl) ha).trans hh, r⟩⟩
theorem OnlA.row {A : Option Addr} {w w' : World} {g m : Nat} {e : TypeId} {f : Nat → Value} (h : OnlA A w w') (r : RowF w g e m f) (hv : ∀ a, A = some a → a.block ≠ g) : RowF w' g e m f := r.of_block (h.block g hv)
theorem own_block {W : World} {B : Nat} {e : TypeId} {k n c : Nat} {A : Option Addr} {xs : List Value} (h : W.ownsRow B e k (.slice A n c) n xs) : ∀ a, A = some a → (Value.slice A n c).ownBlock = some a.block ∧ B ≤ a.block ∧ a.block < W.heap.size := by
  obtain ⟨hl, ⟨h0, h1⟩ | ⟨g, cap, cur, hv, hg, hh, r⟩⟩ := h
  · intro a ha
    injection h0 with e1 _ _
    rw [e1] at ha
    cases ha
  · intro a ha
    injection hv with e1 _ _
    rw [e1] at ha
    cases ha
    subst e1
    exact ⟨rfl, hg, (Array.getElem?_eq_some_iff.1 hh).1⟩
theorem rev_con (B n c : Nat) (A : Option Addr) (D : Nat → CB) (w : World) (ho : w.ownsRow B 35 6 (.slice A n c) n ((List.range n).flatMap (fun q => conG (D q)))) (hn : n ≤ 1000) :
    Calls Try.prog 8 #[.slice A n c] w fun e w' => e = .returned (.tuple #[]) ∧ w'.ownsRow B 35 6 (.slice A n c) n ((List.range n).flatMap (fun q => conG (D (n - 1 - q)))) ∧ OnlA A w w' := by
  rcases Nat.eq_zero_or_pos n with h0 | h0
  · subst h0
    refine (reverse_none A c w).mono ?_
    rintro e w' ⟨rfl, rfl⟩
    exact ⟨rfl, ho, OnlA.refl _ _⟩
  · obtain ⟨g, rfl⟩ := own_some ho h0
    refine (reverse_con B g c n D w h0 ho hn).mono ?_
    rintro e w' ⟨rfl, h1, h2⟩
    exact ⟨rfl, h1, OnlA.of h2⟩
theorem rev_sch (B n c : Nat) (A : Option Addr) (D : Nat → SB) (w : World) (h1 : 1 ≤ n) (ho : w.ownsRow B 33 1 (.slice A n c) n ((List.range n).flatMap (fun q => schG (D q)))) (hn : n ≤ 1000) :
    Calls Try.prog 9 #[.slice A n c] w fun e w' => e = .returned (.tuple #[]) ∧ w'.ownsRow B 33 1 (.slice A n c) n ((List.range n).flatMap (fun q => schG (D (n - 1 - q)))) ∧ OnlA A w w' := by
  obtain ⟨g, rfl⟩ := own_some ho h1
  refine (reverse_sch B g c n D w h1 ho hn).mono ?_
  rintro e w' ⟨rfl, h1, h2⟩
  exact ⟨rfl, h1, OnlA.of h2⟩
theorem nm_size {N : ByteArray} {t : Bool} (h : nm N t = 0) : N.size ≤ 16 := by
  unfold nm at h
  cases hb : nameB N.data.toList
  · rw [if_pos hb] at h; exact absurd h (by decide)
  · rcases Nat.lt_or_ge 16 N.size with q | q
    · rw [nameB_long q] at hb; cases hb
    · exact q
theorem con_small {T : TB} (h : T.chk = 0) : ∀ i, i < T.nC → (T.C i).N.size ≤ 16 := fun i hi => by
  obtain ⟨_, _, h3, _⟩ := chkT_parts h
  have := ((consE_iff T.C T.nC).1 h3).2.1 i hi
  unfold oneE at this
  split at this
  · exact nm_size (by assumption)
  · rename_i q; exact absurd this q
theorem kin_small {T : TB} (h : T.chk = 0) : ∀ i, i < T.nK → (T.K i).N.size ≤ 16 := fun i hi => by
  obtain ⟨_, _, _, h4⟩ := chkT_parts h
  unfold kinsE at h4
  split at h4
  · exact absurd h4 (by decide)
  · have := first_zero h4 i hi
    unfold kinE at this
    split at this
    · exact nm_size (by assumption)
    · rename_i q; exact absurd this q
/-- what is held of memory: two boxes of tables, both tables -/
def HO (w : World) (b p : Nat) (T V : TB) (tv uv : Nat → Value) (W : World) : Prop := RowF W b 26 5 tv ∧ RowF W p 26 5 uv ∧ Tm W T ∧ Tm W V ∧ Below w.heap.size w W
theorem HO.step {w W W' : World} {b p : Nat} {T V : TB} {tv uv : Nat → Value} (h : HO w b p T V tv uv W) (hb : Below W.heap.size W W') : HO w b p T V tv uv W' := by
  obtain ⟨h1, h2, h3, h4, h5⟩ := h
  exact ⟨h1.below hb, h2.below hb, h3.below hb, h4.below hb, below_step h5 hb h5.size⟩
def tbV (T : TB) : Nat → Value := five (.slice T.AS T.nS T.cS) (.slice T.AC T.nC T.cC) (.slice T.AK T.nK T.cK) (.int .i64 T.L) (.int .i64 T.W)
end Go.Proofs.Ytobdbjmpoefebaa
