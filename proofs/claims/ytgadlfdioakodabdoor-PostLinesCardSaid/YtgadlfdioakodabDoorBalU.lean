/- A book has one list of balances; post.Join of its lines; the law's own table. -/
import Derived.Test.YtgadlfdioakodabDoorBLin
namespace Go.Proofs.YtgadlfdioakodabDoor
open Go.RowKit Go.Sort
set_option linter.unusedVariables false
set_option linter.unusedSimpArgs false

/-- the accounts of entries, in their order -/
def keysE (f : Nat → En) (n : Nat) : List (List UInt8) := (List.range n).map (acc f)
theorem keysE_len (f : Nat → En) (n : Nat) : (keysE f n).length = n := by simp [keysE]
theorem Full.keys {M : List UInt8 → Int} {P : List UInt8 → Bool} {f : Nat → En} {n : Nat} (h : Full M P f n) : (keysE f n).Pairwise (· < ·) ∧ ∀ l, l ∈ keysE f n ↔ P l = true := by
  refine ⟨List.pairwise_iff_getElem.2 fun i j hi hj hij => ?_, fun l => ?_⟩
  · have := h.2.2.1 i j hij (by simpa [keysE] using hj)
    simpa [keysE] using this
  · rw [← h.1 l, inB_iff]
    simp [keysE]
theorem sorted_same {k l : List (List UInt8)} (hk : k.Pairwise (· < ·)) (hl : l.Pairwise (· < ·)) (h : ∀ x, x ∈ k ↔ x ∈ l) : k = l := by
  have nk : k.Nodup := hk.imp fun h e => by subst e; exact List.lt_irrefl _ h
  have nl : l.Nodup := hl.imp fun h e => by subst e; exact List.lt_irrefl _ h
  exact ((List.perm_ext_iff_of_nodup nk nl).2 h).eq_of_pairwise (le := (· < ·)) (fun a b _ _ h1 h2 => absurd (List.lt_trans h1 h2) (List.lt_irrefl _)) hk hl
/-- two lists that say all of a book's accounts in their order are one -/
theorem Full.same {M : List UInt8 → Int} {P : List UInt8 → Bool} {f g : Nat → En} {n m : Nat} (h : Full M P f n) (h' : Full M P g m) : n = m ∧ ∀ i, i < n → f i = g i := by
  have e := sorted_same h.keys.1 h'.keys.1 (fun x => (h.keys.2 x).trans (h'.keys.2 x).symm)
  have hn : n = m := by have := congrArg List.length e; rwa [keysE_len, keysE_len] at this
  subst hn
  refine ⟨rfl, fun i hi => ?_⟩
  have hk : acc f i = acc g i := by
    have a := congrArg (fun l => l[i]?) e
    simpa [keysE, hi] using a
  refine Prod.ext ?_ ?_
  · unfold acc at hk
    exact ByteArray.ext (Array.ext' hk)
  · rw [h.2.1 i hi, h'.2.1 i hi, hk]
/-- entries in their order that say accounts as a book has them are its balances -/
theorem Full.of {M : List UInt8 → Int} {P : List UInt8 → Bool} {f g : Nat → En} {n : Nat} (h : Full M P f n) (e : ∀ i, i < n → f i = g i) : Full M P g n := by
  obtain ⟨h1, h2, h3, h4⟩ := h
  refine ⟨fun l => by rw [← inB_ext e]; exact h1 l, fun i hi => ?_, fun i j hij hj => ?_, fun i hi => ?_⟩
  · have := h2 i hi; unfold acc at this ⊢; rwa [e i hi] at this
  · have := h3 i j hij hj; unfold acc at this ⊢; rwa [e i (by omega), e j hj] at this
  · rw [← e i hi]; exact h4 i hi
def fundV (h : Nat) : List Value := [.slice none 0 0, .slice (some ⟨h + 1, 0, none⟩) 1 1, .slice none 0 0, .int .i64 0, .int .i64 0]
theorem infoTbl : (Tryd.prog.info? 83).map (·.size) = some 5 := by kernel_rfl
/-- the law's own table: a contribution named care -/
theorem fund_any (w : World) : Calls Tryd.prog 28 #[] w fun e w' => e = .returned (.agg (fundV w.heap.size).toArray) ∧ w'.cell? ⟨w.heap.size + 1, 0, none⟩ = some (.string ⟨#[99, 97, 114, 101]⟩) ∧ Below w.heap.size w w' := by
  have N1 := below_new w (.cells (fundV w.heap.size).toArray 83)
  have N2 := below_new (w.alloc (.cells (fundV w.heap.size).toArray 83)) (.cells #[.string ⟨#[99, 97, 114, 101]⟩, .int .i64 0, .slice none 0 0, .int .i64 0, .int .i64 0, .int .i64 0] 123)
  have B1 := below_step N1 N2 N1.size
  have K1 := (bx_new w (fundV w.heap.size) 83).below N2
  have K2 := bx_at (w.alloc (.cells (fundV w.heap.size).toArray 83)) [.string ⟨#[99, 97, 114, 101]⟩, .int .i64 0, .slice none 0 0, .int .i64 0, .int .i64 0, .int .i64 0] 123 (n := w.heap.size + 1) (by simp)
  have c2 := K2.cell (i := 0) rfl
  go_enter Tryd.func28, Tryd.ntmps28
  go_wp2
  refine bodyPost_ret (results_cell_row rfl _ _ w.heap.size 83 (fundV w.heap.size).toArray (0, 0) _ rfl K1 Tryd.underlying83 rfl infoTbl) rfl ?_
  exact ⟨rfl, c2, B1⟩
end Go.Proofs.YtgadlfdioakodabDoor
