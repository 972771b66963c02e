/- Texts in a row of memory; what word.Lines answers. -/
import Derived.Test.YtgdalejccbhjcaaDoorWrdD
import Derived.Laws.AppendOwn
import Derived.LoopTactic
namespace Go.Proofs.YtgdalejccbhjcaaDoor
open Go.RowKit
set_option linter.unusedVariables false
set_option linter.unusedSimpArgs false

/-- a text as a value -/
def sv (l : List UInt8) : Value := .string ⟨l.toArray⟩
/-- texts in a row of the call's own -/
def Rs (w : World) (B : Nat) (v : Value) (L : List (List UInt8)) : Prop := w.ownsRow B 9 1 v L.length (L.map sv)
theorem own_belowQ {w w' : World} {B : Nat} {e : TypeId} {size n : Nat} {v : Value} {xs : List Value} (h : w.ownsRow B e size v n xs) (hb : Below w.heap.size w w') : w'.ownsRow B e size v n xs := by
  refine ⟨h.1, ?_⟩
  rcases h.2 with h2 | ⟨g, cap, cur, hv, hg, hh, r⟩
  · exact .inl h2
  · have hlt : g < w.heap.size := by
      rcases Nat.lt_or_ge g w.heap.size with hlt | hge
      · exact hlt
      · rw [Array.getElem?_eq_none hge] at hh; cases hh
    exact .inr ⟨g, cap, cur, hv, hg, (hb.block g hlt).trans hh, r⟩
theorem rs_nil (w : World) (B : Nat) : Rs w B (.slice none 0 0) [] := ⟨rfl, .inl ⟨rfl, rfl⟩⟩
theorem rs_push {w : World} {B : Nat} {v : Value} {L M : List (List UInt8)} {m : List UInt8} {b : ByteArray} (h : w.ownsRow B 9 1 v (L.length + 1) (L.map sv ++ [.string b])) (hb : b = ⟨m.toArray⟩) (hM : M = L ++ [m]) : Rs w B v M := by
  subst hb hM
  unfold Rs
  rw [List.length_append, List.map_append]
  exact h
theorem infoS : (Tryd.prog.info? 9).map (fun i => (i.zero, i.size, i.bytes)) = some (some (.string ⟨#[]⟩), 1, 16) := by kernel_rfl
theorem cell_str_new (w : World) (x : Value) (t : TypeId) : ∀ j u, [x][j]? = some u → (w.alloc (.cells #[x] t)).cell? ((⟨w.heap.size, 0, none⟩ : Addr).add j) = some u := by
  intro j u hu
  have hj : j = 0 := by
    rcases Nat.lt_or_ge j 1 with h | h
    · omega
    · rw [List.getElem?_eq_none (by simp; omega)] at hu; cases hu
  subst hj
  simp at hu
  subst hu
  simp [Addr.add, World.cell?_alloc_new]
theorem ext_list (s : ByteArray) (i j : Nat) : s.extract i j = ⟨((s.data.toList.drop i).take (j - i)).toArray⟩ := by
  apply ByteArray.ext
  apply Array.ext'
  rw [ByteArray.data_extract]
  simp [List.take_drop]
/-- what a row's value is, and its cells -/
theorem rs_row {w : World} {B : Nat} {v : Value} {L : List (List UInt8)} (h : Rs w B v L) : ∃ A c, v = .slice A L.length c ∧ ∀ i, i < L.length → ∃ b, A = some ⟨b, 0, none⟩ ∧ B ≤ b ∧ w.cell? ⟨b, i, none⟩ = some (sv (L.getD i [])) := by
  obtain ⟨hl, ⟨rfl, hn⟩ | ⟨g, cap, cur, rfl, hg, hh, hc, _, hcs, ht⟩⟩ := h
  · exact ⟨none, 0, by rw [hn], fun i hi => by omega⟩
  · refine ⟨some ⟨g, 0, none⟩, cap, rfl, fun i hi => ⟨g, rfl, hg, ?_⟩⟩
    have hi2 : i < cur.size := by omega
    have e : cur.toList[i]? = (L.map sv)[i]? := by
      rw [← ht, List.getElem?_take, if_pos (by omega)]
    rw [List.getElem?_map] at e
    have hLi : L[i]? = some L[i] := List.getElem?_eq_getElem hi
    rw [hLi] at e
    have hcell : cur[i]? = some (sv L[i]) := by simpa using e
    have hd : L.getD i [] = L[i] := by simp [List.getD, hLi]
    rw [hd]
    simp [World.cell?, hh, hcell]
/-- a text's lines -/
def lnG : List (List UInt8) → List UInt8 → List UInt8 → List (List UInt8)
  | acc, cur, [] => if cur.isEmpty = true then acc else acc ++ [cur]
  | acc, cur, c :: r => if c.toNat = 10 then lnG (acc ++ [cur]) [] r else lnG acc (cur ++ [c]) r
def linV (l : List UInt8) : List (List UInt8) := lnG [] [] l
theorem slice_next {l : List UInt8} {f k : Nat} {c : UInt8} (hf : f ≤ k) (hk : l[k]? = some c) : (l.drop f).take (k + 1 - f) = (l.drop f).take (k - f) ++ [c] := by
  have : (l.drop f)[k - f]? = some c := by rw [List.getElem?_drop, show f + (k - f) = k by omega]; exact hk
  have hlt : k - f < (l.drop f).length := (List.getElem?_eq_some_iff.1 this).1
  rw [show k + 1 - f = (k - f) + 1 by omega, List.take_succ_eq_append_getElem hlt]
  congr 2
  exact (List.getElem?_eq_some_iff.1 this).2
theorem at_some (s : ByteArray) (k : Nat) (h : k < s.size) : s.data.toList[k]? = some s[k] := by
  rw [List.getElem?_eq_getElem (by simpa using h)]; rfl
end Go.Proofs.YtgdalejccbhjcaaDoor
