/- Orders and what they took, as they lie in memory. -/
import Derived.Test.YthknjpmhomjobaaGreatDoorOrd
import Derived.Test.YthknjpmhomjobaaGreatDoorOwnN
namespace Go.Proofs.YthknjpmhomjobaaGreatDoor
open Go.RowKit Go.Sort
set_option linter.unusedVariables false
set_option linter.unusedSimpArgs false

def Sta.cs (s : Sta) : List Value := [.int .i64 s.id, .int .i64 s.pr, .int .i64 s.am, .int .i64 s.rt, .int .i64 s.tot, .int .i64 s.tk, .int .i64 s.ar]
def Tkn.cs (x : Tkn) : List Value := [.int .i64 x.o, .int .i64 x.b, .int .i64 x.r, .int .i64 x.d, .int .i64 x.t, .int .i64 x.c]
/-- an order lies there -/
def SAt (W : World) (b o : Nat) (s : Sta) : Prop := W.cell? ⟨b, o, none⟩ = some (.int .i64 s.id) ∧ W.cell? ⟨b, o + 1, none⟩ = some (.int .i64 s.pr) ∧ W.cell? ⟨b, o + 2, none⟩ = some (.int .i64 s.am) ∧ W.cell? ⟨b, o + 3, none⟩ = some (.int .i64 s.rt) ∧ W.cell? ⟨b, o + 4, none⟩ = some (.int .i64 s.tot) ∧ W.cell? ⟨b, o + 5, none⟩ = some (.int .i64 s.tk) ∧ W.cell? ⟨b, o + 6, none⟩ = some (.int .i64 s.ar)
def TAt (W : World) (b o : Nat) (x : Tkn) : Prop := W.cell? ⟨b, o, none⟩ = some (.int .i64 x.o) ∧ W.cell? ⟨b, o + 1, none⟩ = some (.int .i64 x.b) ∧ W.cell? ⟨b, o + 2, none⟩ = some (.int .i64 x.r) ∧ W.cell? ⟨b, o + 3, none⟩ = some (.int .i64 x.d) ∧ W.cell? ⟨b, o + 4, none⟩ = some (.int .i64 x.t) ∧ W.cell? ⟨b, o + 5, none⟩ = some (.int .i64 x.c)
theorem SAt.below {W W' : World} {b o : Nat} {s : Sta} (h : SAt W b o s) (hb : Below W.heap.size W W') : SAt W' b o s := by
  obtain ⟨h0, h1, h2, h3, h4, h5, h6⟩ := h
  exact ⟨cell_later hb h0, cell_later hb h1, cell_later hb h2, cell_later hb h3, cell_later hb h4, cell_later hb h5, cell_later hb h6⟩
theorem TAt.below {W W' : World} {b o : Nat} {x : Tkn} (h : TAt W b o x) (hb : Below W.heap.size W W') : TAt W' b o x := by
  obtain ⟨h0, h1, h2, h3, h4, h5⟩ := h
  exact ⟨cell_later hb h0, cell_later hb h1, cell_later hb h2, cell_later hb h3, cell_later hb h4, cell_later hb h5⟩
/-- a slice's orders, wherever they lie -/
def Ors (W : World) (A : Option Addr) (n : Nat) (g : Nat → Sta) : Prop := 0 < n → ∃ b o, A = some ⟨b, o, none⟩ ∧ ∀ i, i < n → SAt W b (o + i * 7) (g i)
def Tks (W : World) (A : Option Addr) (n : Nat) (f : Nat → Tkn) : Prop := 0 < n → ∃ b o, A = some ⟨b, o, none⟩ ∧ ∀ i, i < n → TAt W b (o + i * 6) (f i)
theorem Ors.below {W W' : World} {A : Option Addr} {n : Nat} {g : Nat → Sta} (h : Ors W A n g) (hb : Below W.heap.size W W') : Ors W' A n g := fun hn => by
  obtain ⟨b, o, e, hc⟩ := h hn
  exact ⟨b, o, e, fun i hi => (hc i hi).below hb⟩
theorem Tks.below {W W' : World} {A : Option Addr} {n : Nat} {f : Nat → Tkn} (h : Tks W A n f) (hb : Below W.heap.size W W') : Tks W' A n f := fun hn => by
  obtain ⟨b, o, e, hc⟩ := h hn
  exact ⟨b, o, e, fun i hi => (hc i hi).below hb⟩
theorem Tks.congr {W : World} {A : Option Addr} {n : Nat} {f f' : Nat → Tkn} (h : Tks W A n f) (hf : ∀ i, i < n → f i = f' i) : Tks W A n f' := fun hn => by
  obtain ⟨b, o, e, hc⟩ := h hn
  exact ⟨b, o, e, fun i hi => by rw [← hf i hi]; exact hc i hi⟩
/-- a slice's orders alone (what they took stands elsewhere) -/
def OAt (W : World) (b o : Nat) (s : Sta) : Prop := W.cell? ⟨b, o, none⟩ = some (.int .i64 s.id) ∧ W.cell? ⟨b, o + 1, none⟩ = some (.int .i64 s.pr) ∧ W.cell? ⟨b, o + 2, none⟩ = some (.int .i64 s.am) ∧ W.cell? ⟨b, o + 3, none⟩ = some (.int .i64 s.rt) ∧ W.cell? ⟨b, o + 4, none⟩ = some (.int .i64 s.tot)
theorem OAt.below {W W' : World} {b o : Nat} {s : Sta} (h : OAt W b o s) (hb : Below W.heap.size W W') : OAt W' b o s := by
  obtain ⟨h0, h1, h2, h3, h4⟩ := h
  exact ⟨cell_later hb h0, cell_later hb h1, cell_later hb h2, cell_later hb h3, cell_later hb h4⟩
def Ods (W : World) (A : Option Addr) (n : Nat) (g : Nat → Sta) : Prop := 0 < n → ∃ b o, A = some ⟨b, o, none⟩ ∧ ∀ i, i < n → OAt W b (o + i * 5) (g i)
theorem Ods.below {W W' : World} {A : Option Addr} {n : Nat} {g : Nat → Sta} (h : Ods W A n g) (hb : Below W.heap.size W W') : Ods W' A n g := fun hn => by
  obtain ⟨b, o, e, hc⟩ := h hn
  exact ⟨b, o, e, fun i hi => (hc i hi).below hb⟩
/-- the cells of the first ones -/
def tkc (f : Nat → Tkn) : Nat → List Value
  | 0 => []
  | n + 1 => tkc f n ++ (f n).cs
def stc7 (g : Nat → Sta) : Nat → List Value
  | 0 => []
  | n + 1 => stc7 g n ++ (g n).cs
theorem tkc_len (f : Nat → Tkn) (n : Nat) : (tkc f n).length = n * 6 := by
  induction n with
  | zero => rfl
  | succ n ih => simp [tkc, ih, Tkn.cs]; omega
theorem stc7_len (g : Nat → Sta) (n : Nat) : (stc7 g n).length = n * 7 := by
  induction n with
  | zero => rfl
  | succ n ih => simp [stc7, ih, Sta.cs]; omega
theorem tkc_get (f : Nat → Tkn) {n i j : Nat} (hi : i < n) (hj : j < 6) : (tkc f n)[i * 6 + j]? = (f i).cs[j]? := by
  induction n with
  | zero => omega
  | succ n ih =>
    show (tkc f n ++ (f n).cs)[i * 6 + j]? = _
    by_cases h : i < n
    · rw [List.getElem?_append_left (by rw [tkc_len]; omega)]; exact ih h
    · obtain rfl : i = n := by omega
      rw [List.getElem?_append_right (by rw [tkc_len]; omega), tkc_len, show i * 6 + j - i * 6 = j by omega]
theorem stc7_get (g : Nat → Sta) {n i j : Nat} (hi : i < n) (hj : j < 7) : (stc7 g n)[i * 7 + j]? = (g i).cs[j]? := by
  induction n with
  | zero => omega
  | succ n ih =>
    show (stc7 g n ++ (g n).cs)[i * 7 + j]? = _
    by_cases h : i < n
    · rw [List.getElem?_append_left (by rw [stc7_len]; omega)]; exact ih h
    · obtain rfl : i = n := by omega
      rw [List.getElem?_append_right (by rw [stc7_len]; omega), stc7_len, show i * 7 + j - i * 7 = j by omega]
/-- a row of the call's own is a slice of what orders took -/
theorem tks_own {w : World} {B n : Nat} {e : TypeId} {A : Option Addr} {c : Nat} {f : Nat → Tkn} (h : w.ownsRow B e 6 (.slice A n c) n (tkc f n)) : Tks w A n f := fun hn => by
  obtain ⟨A', c', e, hA, hg⟩ := own_len h
  obtain ⟨g, rfl⟩ := hg hn
  obtain ⟨rfl, _, rfl⟩ := Value.slice.inj e
  refine ⟨g, 0, rfl, fun i hi => ?_⟩
  rw [Nat.zero_add]
  exact ⟨own_cells h ((tkc_get f hi (j := 0) (by omega)).trans rfl), own_cells h ((tkc_get f hi (j := 1) (by omega)).trans rfl), own_cells h ((tkc_get f hi (j := 2) (by omega)).trans rfl), own_cells h ((tkc_get f hi (j := 3) (by omega)).trans rfl), own_cells h ((tkc_get f hi (j := 4) (by omega)).trans rfl), own_cells h ((tkc_get f hi (j := 5) (by omega)).trans rfl)⟩
theorem ors_own {w : World} {B n : Nat} {e : TypeId} {A : Option Addr} {c : Nat} {g : Nat → Sta} (h : w.ownsRow B e 7 (.slice A n c) n (stc7 g n)) : Ors w A n g := fun hn => by
  obtain ⟨A', c', e, hA, hg⟩ := own_len h
  obtain ⟨g', rfl⟩ := hg hn
  obtain ⟨rfl, _, rfl⟩ := Value.slice.inj e
  refine ⟨g', 0, rfl, fun i hi => ?_⟩
  rw [Nat.zero_add]
  exact ⟨own_cells h ((stc7_get g hi (j := 0) (by omega)).trans rfl), own_cells h ((stc7_get g hi (j := 1) (by omega)).trans rfl), own_cells h ((stc7_get g hi (j := 2) (by omega)).trans rfl), own_cells h ((stc7_get g hi (j := 3) (by omega)).trans rfl), own_cells h ((stc7_get g hi (j := 4) (by omega)).trans rfl), own_cells h ((stc7_get g hi (j := 5) (by omega)).trans rfl), own_cells h ((stc7_get g hi (j := 6) (by omega)).trans rfl)⟩
/-- orders in a block of the call's own, told cell by cell -/
theorem ors_of {W : World} {p n : Nat} {t : TypeId} {L : List Value} {g : Nat → Sta} (K : Bx W p t L) (h : ∀ i, i < n → ∀ j, j < 7 → L[i * 7 + j]? = (g i).cs[j]?) : Ors W (some ⟨p, 0, none⟩) n g := fun _ => ⟨p, 0, rfl, fun i hi => by
  rw [Nat.zero_add]
  have hj := h i hi
  exact ⟨K.cell ((hj 0 (by omega)).trans rfl), K.cell ((hj 1 (by omega)).trans rfl), K.cell ((hj 2 (by omega)).trans rfl), K.cell ((hj 3 (by omega)).trans rfl), K.cell ((hj 4 (by omega)).trans rfl), K.cell ((hj 5 (by omega)).trans rfl), K.cell ((hj 6 (by omega)).trans rfl)⟩⟩
end Go.Proofs.YthknjpmhomjobaaGreatDoor
