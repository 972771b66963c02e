/- What element.Parse answers of any words: case by case. -/
import Derived.Test.YtobdbjmpoefebaaDoorEltD
namespace Go.Proofs.YtobdbjmpoefebaaDoor
open Go.RowKit
set_option linter.unusedVariables false
set_option linter.unusedSimpArgs false

def eZ : Value := .agg #[.string ⟨#[]⟩, .int .i64 0, .int .i64 0]
/-- what Parse answers -/
def pelA (f : Nat → ByteArray) : Int := (parseP (f 1).data.toList).1
def pelE (f : Nat → ByteArray) : Int := (parseP (f 1).data.toList).2
theorem cell_ofR {w : World} {b o n : Nat} {f : Nat → ByteArray} (h : rowAt w (some ⟨b, o, none⟩) n fun i => .string (f i)) {i : Nat} (hi : i < n) : w.cell? ⟨b, o + i, none⟩ = some (.string (f i)) := by
  obtain ⟨b', o', e, hc⟩ := h (by omega)
  cases e
  exact hc i hi

set_option maxHeartbeats 1000000 in
set_option maxRecDepth 100000 in
theorem pe_many (A : Option Addr) (n c : Nat) (f : Nat → ByteArray) (w : World) (h2 : n ≠ 2) (h3 : n ≠ 3) :
    Calls Tryd.prog 27 #[.slice A n c] w fun e w' => e = .returned (.tuple #[eZ, .int .i64 5]) ∧ Below w.heap.size w w' := by
  have t2 : ((n : Int) != 2) = true := by simp; omega
  have t3 : ((n : Int) != 3) = true := by simp; omega
  unfold eZ
  have r1 := trip_new w (.string ⟨#[]⟩) (.int .i64 0) (.int .i64 0) 45
  have B1 := below_new w (.cells #[.string ⟨#[]⟩, .int .i64 0, .int .i64 0] 45)
  go_enter Tryd.func27, Tryd.ntmps27
  have f0 := r1.frozen
  have v0 : (w.alloc (.cells #[.string ⟨#[]⟩, .int .i64 0, .int .i64 0] 45)).cell? ⟨w.heap.size, 0, none⟩ = some (.string ⟨#[]⟩) := r1.cell (by omega)
  have v1 : (w.alloc (.cells #[.string ⟨#[]⟩, .int .i64 0, .int .i64 0] 45)).cell? ⟨w.heap.size, 1, none⟩ = some (.int .i64 0) := r1.cell (by omega)
  have v2 : (w.alloc (.cells #[.string ⟨#[]⟩, .int .i64 0, .int .i64 0] 45)).cell? ⟨w.heap.size, 2, none⟩ = some (.int .i64 0) := r1.cell (by omega)
  go_wp2
  exact bodyPost_ret (v := .tuple #[.agg #[.string ⟨#[]⟩, .int .i64 0, .int .i64 0], .int .i64 5]) (by simp [results, Tryd.results27, go_sem, v0, v1, v2]) rfl ⟨rfl, B1⟩
set_option maxHeartbeats 1000000 in
set_option maxRecDepth 100000 in
theorem pe_noname2 (A : Option Addr) (c : Nat) (f : Nat → ByteArray) (w : World) (hr : rowAt w A 2 fun i => .string (f i)) (hf : ∀ i, i < 2 → (f i).size ≤ 281474976710656) (hn : nameB (f 0).data.toList = false) :
    Calls Tryd.prog 27 #[.slice A 2 c] w fun e w' => e = .returned (.tuple #[eZ, .int .i64 5]) ∧ Below w.heap.size w w' := by
  have nm := fun w => name_b (f 0) false hn w (by have := hf 0 (by omega); omega)
  clear hn hf
  unfold eZ
  obtain ⟨b, o, rfl, hc⟩ := hr (by omega)
  have c0 : w.cell? ⟨b, o, none⟩ = some (.string (f 0)) := hc 0 (by omega)
  have c1 : w.cell? ⟨b, o + 1, none⟩ = some (.string (f 1)) := hc 1 (by omega)
  have r1 := trip_new w (.string ⟨#[]⟩) (.int .i64 0) (.int .i64 0) 45
  have B1 := below_new w (.cells #[.string ⟨#[]⟩, .int .i64 0, .int .i64 0] 45)
  have d0 := cell_later B1 c0
  have d1 := cell_later B1 c1
  clear hc hr c0 c1
  generalize f 0 = s0 at *
  generalize f 1 = s1 at *
  go_enter Tryd.func27, Tryd.ntmps27
  go_wp2_with (fail)
  generalize w.alloc (.cells #[.string ⟨#[]⟩, .int .i64 0, .int .i64 0] 45) = w1 at *
  refine (nm _).mono ?_
  rintro e w' ⟨rfl, rfl⟩
  have fz := r1.frozen
  have v0 : w1.cell? ⟨w.heap.size, 0, none⟩ = some (.string ⟨#[]⟩) := r1.cell (by omega)
  have v1 : w1.cell? ⟨w.heap.size, 1, none⟩ = some (.int .i64 0) := r1.cell (by omega)
  have v2 : w1.cell? ⟨w.heap.size, 2, none⟩ = some (.int .i64 0) := r1.cell (by omega)
  go_wp2
  have rf := ((r1.set 0 (.string ⟨#[]⟩)).set 1 (.int .i64 0)).set 2 (.int .i64 0)
  have y0 : (((w1.setCell ⟨w.heap.size, 0, none⟩ (.string ⟨#[]⟩)).setCell ⟨w.heap.size, 1, none⟩ (.int .i64 0)).setCell ⟨w.heap.size, 2, none⟩ (.int .i64 0)).cell? ⟨w.heap.size, 0, none⟩ = some (.string ⟨#[]⟩) := rf.cell (by omega)
  have y1 : (((w1.setCell ⟨w.heap.size, 0, none⟩ (.string ⟨#[]⟩)).setCell ⟨w.heap.size, 1, none⟩ (.int .i64 0)).setCell ⟨w.heap.size, 2, none⟩ (.int .i64 0)).cell? ⟨w.heap.size, 1, none⟩ = some (.int .i64 0) := rf.cell (by omega)
  have y2 : (((w1.setCell ⟨w.heap.size, 0, none⟩ (.string ⟨#[]⟩)).setCell ⟨w.heap.size, 1, none⟩ (.int .i64 0)).setCell ⟨w.heap.size, 2, none⟩ (.int .i64 0)).cell? ⟨w.heap.size, 2, none⟩ = some (.int .i64 0) := rf.cell (by omega)
  have hle : w.heap.size ≤ w.heap.size := Nat.le_refl _
  exact bodyPost_ret (v := .tuple #[.agg #[.string ⟨#[]⟩, .int .i64 0, .int .i64 0], .int .i64 5]) (by simp [results, Tryd.results27, go_sem, y0, y1, y2]) rfl ⟨rfl, ((B1.setCell hle _).setCell hle _).setCell hle _⟩
set_option maxHeartbeats 1000000 in
set_option maxRecDepth 100000 in
theorem pe_noamount2 (A : Option Addr) (c : Nat) (f : Nat → ByteArray) (w : World) (hr : rowAt w A 2 fun i => .string (f i)) (hf : ∀ i, i < 2 → (f i).size ≤ 281474976710656) (hn : nameB (f 0).data.toList = true) (he : pelE f ≠ 0) :
    Calls Tryd.prog 27 #[.slice A 2 c] w fun e w' => e = .returned (.tuple #[eZ, .int .i64 (pelE f)]) ∧ Below w.heap.size w w' := by
  have nm := fun w => name_b (f 0) true hn w (by have := hf 0 (by omega); omega)
  have pa := fun w => parse_any (f 1) w (by have := hf 1 (by omega); omega)
  unfold pelE at *
  clear hn hf
  unfold eZ
  obtain ⟨b, o, rfl, hc⟩ := hr (by omega)
  have c0 : w.cell? ⟨b, o, none⟩ = some (.string (f 0)) := hc 0 (by omega)
  have c1 : w.cell? ⟨b, o + 1, none⟩ = some (.string (f 1)) := hc 1 (by omega)
  have r1 := trip_new w (.string ⟨#[]⟩) (.int .i64 0) (.int .i64 0) 45
  have B1 := below_new w (.cells #[.string ⟨#[]⟩, .int .i64 0, .int .i64 0] 45)
  have d0 := cell_later B1 c0
  have d1 := cell_later B1 c1
  clear hc hr c0 c1
  generalize f 0 = s0 at *
  generalize f 1 = s1 at *
  generalize parseP s1.data.toList = q at *
  obtain ⟨x, y⟩ := q
  simp only [] at pa he ⊢
  have ty : (y != 0) = true := by simpa using he
  clear he
  go_enter Tryd.func27, Tryd.ntmps27
  go_wp2_with (fail)
  generalize w.alloc (.cells #[.string ⟨#[]⟩, .int .i64 0, .int .i64 0] 45) = w1 at *
  refine (nm _).mono ?_
  rintro e w' ⟨rfl, rfl⟩
  go_wp2_with (fail)
  refine (pa _).mono ?_
  rintro e w2 ⟨rfl, hb⟩
  have r2 := r1.below hb
  have B2 := below_step B1 hb B1.size
  have fz := r2.frozen
  have v0 : w2.cell? ⟨w.heap.size, 0, none⟩ = some (.string ⟨#[]⟩) := r2.cell (by omega)
  have v1 : w2.cell? ⟨w.heap.size, 1, none⟩ = some (.int .i64 0) := r2.cell (by omega)
  have v2 : w2.cell? ⟨w.heap.size, 2, none⟩ = some (.int .i64 0) := r2.cell (by omega)
  go_wp2
  have rf := ((r2.set 0 (.string ⟨#[]⟩)).set 1 (.int .i64 0)).set 2 (.int .i64 0)
  have y0 : (((w2.setCell ⟨w.heap.size, 0, none⟩ (.string ⟨#[]⟩)).setCell ⟨w.heap.size, 1, none⟩ (.int .i64 0)).setCell ⟨w.heap.size, 2, none⟩ (.int .i64 0)).cell? ⟨w.heap.size, 0, none⟩ = some (.string ⟨#[]⟩) := rf.cell (by omega)
  have y1 : (((w2.setCell ⟨w.heap.size, 0, none⟩ (.string ⟨#[]⟩)).setCell ⟨w.heap.size, 1, none⟩ (.int .i64 0)).setCell ⟨w.heap.size, 2, none⟩ (.int .i64 0)).cell? ⟨w.heap.size, 1, none⟩ = some (.int .i64 0) := rf.cell (by omega)
  have y2 : (((w2.setCell ⟨w.heap.size, 0, none⟩ (.string ⟨#[]⟩)).setCell ⟨w.heap.size, 1, none⟩ (.int .i64 0)).setCell ⟨w.heap.size, 2, none⟩ (.int .i64 0)).cell? ⟨w.heap.size, 2, none⟩ = some (.int .i64 0) := rf.cell (by omega)
  have hle : w.heap.size ≤ w.heap.size := Nat.le_refl _
  exact bodyPost_ret (v := .tuple #[.agg #[.string ⟨#[]⟩, .int .i64 0, .int .i64 0], .int .i64 y]) (by simp [results, Tryd.results27, go_sem, y0, y1, y2]) rfl ⟨rfl, ((B2.setCell hle _).setCell hle _).setCell hle _⟩
set_option maxHeartbeats 1000000 in
set_option maxRecDepth 100000 in
theorem pe_two (A : Option Addr) (c : Nat) (f : Nat → ByteArray) (w : World) (hr : rowAt w A 2 fun i => .string (f i)) (hf : ∀ i, i < 2 → (f i).size ≤ 281474976710656) (hn : nameB (f 0).data.toList = true) (he : pelE f = 0) :
    Calls Tryd.prog 27 #[.slice A 2 c] w fun e w' => e = .returned (.tuple #[.agg #[.string (f 0), .int .i64 (pelA f), .int .i64 100], .int .i64 0]) ∧ Below w.heap.size w w' := by
  have nm := fun w => name_b (f 0) true hn w (by have := hf 0 (by omega); omega)
  have pa := fun w => parse_any (f 1) w (by have := hf 1 (by omega); omega)
  have of := fun x w => of_el (f 0) x w (hf 0 (by omega))
  unfold pelE at *
  try unfold pelA at *
  clear hn hf
  try unfold eZ
  obtain ⟨b, o, rfl, hc⟩ := hr (by omega)
  have c0 : w.cell? ⟨b, o, none⟩ = some (.string (f 0)) := hc 0 (by omega)
  have c1 : w.cell? ⟨b, o + 1, none⟩ = some (.string (f 1)) := hc 1 (by omega)
  have r1 := trip_new w (.string ⟨#[]⟩) (.int .i64 0) (.int .i64 0) 45
  have B1 := below_new w (.cells #[.string ⟨#[]⟩, .int .i64 0, .int .i64 0] 45)
  have d0 := cell_later B1 c0
  have d1 := cell_later B1 c1
  clear hc hr c0 c1
  generalize f 0 = s0 at *
  generalize f 1 = s1 at *
  generalize parseP s1.data.toList = q at *
  obtain ⟨x, y⟩ := q
  simp only [] at pa he ⊢
  subst he
  go_enter Tryd.func27, Tryd.ntmps27
  go_wp2_with (fail)
  generalize w.alloc (.cells #[.string ⟨#[]⟩, .int .i64 0, .int .i64 0] 45) = w1 at *
  refine (nm _).mono ?_
  rintro e w' ⟨rfl, rfl⟩
  go_wp2_with (fail)
  refine (pa _).mono ?_
  rintro e w2 ⟨rfl, hb⟩
  have r2 := r1.below hb
  have B2 := below_step B1 hb B1.size
  have g0 := cell_later hb d0
  have g1 := cell_later hb d1
  go_wp2_with (fail)
  refine (of _ _).mono ?_
  rintro e w3 ⟨rfl, hb3⟩
  have r3 := r2.below hb3
  have B3 := below_step B2 hb3 B2.size
  have hlt3 : w.heap.size < w3.heap.size := r3.lt
  have x3 := trip_new w3 (.string s0) (.int .i64 x) (.int .i64 100) 45
  have b4 := below_new w3 (.cells #[.string s0, .int .i64 x, .int .i64 100] 45)
  have r4 := r3.below b4
  have B4 := below_step B3 b4 B3.size
  clear d0 d1 g0 g1 hb hb3 r1 r2 B1 B2
  have fz := r3.frozen
  have v0 : w3.cell? ⟨w.heap.size, 0, none⟩ = some (.string ⟨#[]⟩) := r3.cell (by omega)
  have v1 : w3.cell? ⟨w.heap.size, 1, none⟩ = some (.int .i64 0) := r3.cell (by omega)
  have v2 : w3.cell? ⟨w.heap.size, 2, none⟩ = some (.int .i64 0) := r3.cell (by omega)
  go_wp2
  have rf := ((r3.set 0 (.string s0)).set 1 (.int .i64 x)).set 2 (.int .i64 100)
  have hle : w.heap.size ≤ w.heap.size := Nat.le_refl _
  have Bf := ((B3.setCell (p := ⟨w.heap.size, 0, none⟩) hle (.string s0)).setCell (p := ⟨w.heap.size, 1, none⟩) hle (.int .i64 x)).setCell (p := ⟨w.heap.size, 2, none⟩) hle (.int .i64 100)
  have bn := below_new (((w3.setCell ⟨w.heap.size, 0, none⟩ (.string s0)).setCell ⟨w.heap.size, 1, none⟩ (.int .i64 x)).setCell ⟨w.heap.size, 2, none⟩ (.int .i64 100)) (.cells #[.string s0, .int .i64 x, .int .i64 100] 45)
  have rg := rf.below bn
  have Bg := below_step Bf bn Bf.size
  generalize ((((w3.setCell ⟨w.heap.size, 0, none⟩ (.string s0)).setCell ⟨w.heap.size, 1, none⟩ (.int .i64 x)).setCell ⟨w.heap.size, 2, none⟩ (.int .i64 100)).alloc (.cells #[.string s0, .int .i64 x, .int .i64 100] 45)) = w9 at *
  have y0 : w9.cell? ⟨w.heap.size, 0, none⟩ = some (.string s0) := rg.cell (by omega)
  have y1 : w9.cell? ⟨w.heap.size, 1, none⟩ = some (.int .i64 x) := rg.cell (by omega)
  have y2 : w9.cell? ⟨w.heap.size, 2, none⟩ = some (.int .i64 100) := rg.cell (by omega)
  exact bodyPost_ret (v := .tuple #[.agg #[.string s0, .int .i64 x, .int .i64 100], .int .i64 0]) (by simp [results, Tryd.results27, go_sem, y0, y1, y2]) rfl ⟨rfl, Bg⟩
set_option maxHeartbeats 1000000 in
set_option maxRecDepth 100000 in
theorem pe_noname3 (A : Option Addr) (c : Nat) (f : Nat → ByteArray) (w : World) (hr : rowAt w A 3 fun i => .string (f i)) (hf : ∀ i, i < 3 → (f i).size ≤ 281474976710656) (hn : nameB (f 0).data.toList = false) :
    Calls Tryd.prog 27 #[.slice A 3 c] w fun e w' => e = .returned (.tuple #[eZ, .int .i64 5]) ∧ Below w.heap.size w w' := by
  have nm := fun w => name_b (f 0) false hn w (by have := hf 0 (by omega); omega)
  clear hn hf
  unfold eZ
  obtain ⟨b, o, rfl, hc⟩ := hr (by omega)
  have c0 : w.cell? ⟨b, o, none⟩ = some (.string (f 0)) := hc 0 (by omega)
  have c1 : w.cell? ⟨b, o + 1, none⟩ = some (.string (f 1)) := hc 1 (by omega)
  have c2 : w.cell? ⟨b, o + 2, none⟩ = some (.string (f 2)) := hc 2 (by omega)
  have r1 := trip_new w (.string ⟨#[]⟩) (.int .i64 0) (.int .i64 0) 45
  have B1 := below_new w (.cells #[.string ⟨#[]⟩, .int .i64 0, .int .i64 0] 45)
  have d0 := cell_later B1 c0
  have d1 := cell_later B1 c1
  have d2 := cell_later B1 c2
  clear hc hr c0 c1 c2
  generalize f 0 = s0 at *
  generalize f 1 = s1 at *
  generalize f 2 = s2 at *
  go_enter Tryd.func27, Tryd.ntmps27
  go_wp2_with (fail)
  generalize w.alloc (.cells #[.string ⟨#[]⟩, .int .i64 0, .int .i64 0] 45) = w1 at *
  refine (nm _).mono ?_
  rintro e w' ⟨rfl, rfl⟩
  have fz := r1.frozen
  have v0 : w1.cell? ⟨w.heap.size, 0, none⟩ = some (.string ⟨#[]⟩) := r1.cell (by omega)
  have v1 : w1.cell? ⟨w.heap.size, 1, none⟩ = some (.int .i64 0) := r1.cell (by omega)
  have v2 : w1.cell? ⟨w.heap.size, 2, none⟩ = some (.int .i64 0) := r1.cell (by omega)
  go_wp2
  have rf := ((r1.set 0 (.string ⟨#[]⟩)).set 1 (.int .i64 0)).set 2 (.int .i64 0)
  have y0 : (((w1.setCell ⟨w.heap.size, 0, none⟩ (.string ⟨#[]⟩)).setCell ⟨w.heap.size, 1, none⟩ (.int .i64 0)).setCell ⟨w.heap.size, 2, none⟩ (.int .i64 0)).cell? ⟨w.heap.size, 0, none⟩ = some (.string ⟨#[]⟩) := rf.cell (by omega)
  have y1 : (((w1.setCell ⟨w.heap.size, 0, none⟩ (.string ⟨#[]⟩)).setCell ⟨w.heap.size, 1, none⟩ (.int .i64 0)).setCell ⟨w.heap.size, 2, none⟩ (.int .i64 0)).cell? ⟨w.heap.size, 1, none⟩ = some (.int .i64 0) := rf.cell (by omega)
  have y2 : (((w1.setCell ⟨w.heap.size, 0, none⟩ (.string ⟨#[]⟩)).setCell ⟨w.heap.size, 1, none⟩ (.int .i64 0)).setCell ⟨w.heap.size, 2, none⟩ (.int .i64 0)).cell? ⟨w.heap.size, 2, none⟩ = some (.int .i64 0) := rf.cell (by omega)
  have hle : w.heap.size ≤ w.heap.size := Nat.le_refl _
  exact bodyPost_ret (v := .tuple #[.agg #[.string ⟨#[]⟩, .int .i64 0, .int .i64 0], .int .i64 5]) (by simp [results, Tryd.results27, go_sem, y0, y1, y2]) rfl ⟨rfl, ((B1.setCell hle _).setCell hle _).setCell hle _⟩
set_option maxHeartbeats 1000000 in
set_option maxRecDepth 100000 in
theorem pe_noamount3 (A : Option Addr) (c : Nat) (f : Nat → ByteArray) (w : World) (hr : rowAt w A 3 fun i => .string (f i)) (hf : ∀ i, i < 3 → (f i).size ≤ 281474976710656) (hn : nameB (f 0).data.toList = true) (he : pelE f ≠ 0) :
    Calls Tryd.prog 27 #[.slice A 3 c] w fun e w' => e = .returned (.tuple #[eZ, .int .i64 (pelE f)]) ∧ Below w.heap.size w w' := by
  have nm := fun w => name_b (f 0) true hn w (by have := hf 0 (by omega); omega)
  have pa := fun w => parse_any (f 1) w (by have := hf 1 (by omega); omega)
  unfold pelE at *
  clear hn hf
  unfold eZ
  obtain ⟨b, o, rfl, hc⟩ := hr (by omega)
  have c0 : w.cell? ⟨b, o, none⟩ = some (.string (f 0)) := hc 0 (by omega)
  have c1 : w.cell? ⟨b, o + 1, none⟩ = some (.string (f 1)) := hc 1 (by omega)
  have c2 : w.cell? ⟨b, o + 2, none⟩ = some (.string (f 2)) := hc 2 (by omega)
  have r1 := trip_new w (.string ⟨#[]⟩) (.int .i64 0) (.int .i64 0) 45
  have B1 := below_new w (.cells #[.string ⟨#[]⟩, .int .i64 0, .int .i64 0] 45)
  have d0 := cell_later B1 c0
  have d1 := cell_later B1 c1
  have d2 := cell_later B1 c2
  clear hc hr c0 c1 c2
  generalize f 0 = s0 at *
  generalize f 1 = s1 at *
  generalize f 2 = s2 at *
  generalize parseP s1.data.toList = q at *
  obtain ⟨x, y⟩ := q
  simp only [] at pa he ⊢
  have ty : (y != 0) = true := by simpa using he
  clear he
  go_enter Tryd.func27, Tryd.ntmps27
  go_wp2_with (fail)
  generalize w.alloc (.cells #[.string ⟨#[]⟩, .int .i64 0, .int .i64 0] 45) = w1 at *
  refine (nm _).mono ?_
  rintro e w' ⟨rfl, rfl⟩
  go_wp2_with (fail)
  refine (pa _).mono ?_
  rintro e w2 ⟨rfl, hb⟩
  have r2 := r1.below hb
  have B2 := below_step B1 hb B1.size
  have fz := r2.frozen
  have v0 : w2.cell? ⟨w.heap.size, 0, none⟩ = some (.string ⟨#[]⟩) := r2.cell (by omega)
  have v1 : w2.cell? ⟨w.heap.size, 1, none⟩ = some (.int .i64 0) := r2.cell (by omega)
  have v2 : w2.cell? ⟨w.heap.size, 2, none⟩ = some (.int .i64 0) := r2.cell (by omega)
  go_wp2
  have rf := ((r2.set 0 (.string ⟨#[]⟩)).set 1 (.int .i64 0)).set 2 (.int .i64 0)
  have y0 : (((w2.setCell ⟨w.heap.size, 0, none⟩ (.string ⟨#[]⟩)).setCell ⟨w.heap.size, 1, none⟩ (.int .i64 0)).setCell ⟨w.heap.size, 2, none⟩ (.int .i64 0)).cell? ⟨w.heap.size, 0, none⟩ = some (.string ⟨#[]⟩) := rf.cell (by omega)
  have y1 : (((w2.setCell ⟨w.heap.size, 0, none⟩ (.string ⟨#[]⟩)).setCell ⟨w.heap.size, 1, none⟩ (.int .i64 0)).setCell ⟨w.heap.size, 2, none⟩ (.int .i64 0)).cell? ⟨w.heap.size, 1, none⟩ = some (.int .i64 0) := rf.cell (by omega)
  have y2 : (((w2.setCell ⟨w.heap.size, 0, none⟩ (.string ⟨#[]⟩)).setCell ⟨w.heap.size, 1, none⟩ (.int .i64 0)).setCell ⟨w.heap.size, 2, none⟩ (.int .i64 0)).cell? ⟨w.heap.size, 2, none⟩ = some (.int .i64 0) := rf.cell (by omega)
  have hle : w.heap.size ≤ w.heap.size := Nat.le_refl _
  exact bodyPost_ret (v := .tuple #[.agg #[.string ⟨#[]⟩, .int .i64 0, .int .i64 0], .int .i64 y]) (by simp [results, Tryd.results27, go_sem, y0, y1, y2]) rfl ⟨rfl, ((B2.setCell hle _).setCell hle _).setCell hle _⟩
set_option maxHeartbeats 1000000 in
set_option maxRecDepth 100000 in
theorem pe_nounits (A : Option Addr) (c : Nat) (f : Nat → ByteArray) (w : World) (hr : rowAt w A 3 fun i => .string (f i)) (hf : ∀ i, i < 3 → (f i).size ≤ 281474976710656) (hn : nameB (f 0).data.toList = true) (he : pelE f = 0) (hu : (unP (f 2).data.toList).2 ≠ 0) :
    Calls Tryd.prog 27 #[.slice A 3 c] w fun e w' => e = .returned (.tuple #[eZ, .int .i64 (unP (f 2).data.toList).2]) ∧ Below w.heap.size w w' := by
  have nm := fun w => name_b (f 0) true hn w (by have := hf 0 (by omega); omega)
  have pa := fun w => parse_any (f 1) w (by have := hf 1 (by omega); omega)
  have un := fun w => units_any (f 2) w (hf 2 (by omega))
  have of := fun x w => of_el (f 0) x w (hf 0 (by omega))
  unfold pelE at *
  try unfold pelA at *
  clear hn hf
  try unfold eZ
  obtain ⟨b, o, rfl, hc⟩ := hr (by omega)
  have c0 : w.cell? ⟨b, o, none⟩ = some (.string (f 0)) := hc 0 (by omega)
  have c1 : w.cell? ⟨b, o + 1, none⟩ = some (.string (f 1)) := hc 1 (by omega)
  have c2 : w.cell? ⟨b, o + 2, none⟩ = some (.string (f 2)) := hc 2 (by omega)
  have r1 := trip_new w (.string ⟨#[]⟩) (.int .i64 0) (.int .i64 0) 45
  have B1 := below_new w (.cells #[.string ⟨#[]⟩, .int .i64 0, .int .i64 0] 45)
  have d0 := cell_later B1 c0
  have d1 := cell_later B1 c1
  have d2 := cell_later B1 c2
  clear hc hr c0 c1 c2
  generalize f 0 = s0 at *
  generalize f 1 = s1 at *
  generalize f 2 = s2 at *
  generalize parseP s1.data.toList = q at *
  obtain ⟨x, y⟩ := q
  simp only [] at pa he ⊢
  subst he
  generalize unP s2.data.toList = q2 at *
  obtain ⟨u, z⟩ := q2
  simp only [] at un hu ⊢
  have tz : (z != 0) = true := by simpa using hu
  clear hu
  go_enter Tryd.func27, Tryd.ntmps27
  go_wp2_with (fail)
  generalize w.alloc (.cells #[.string ⟨#[]⟩, .int .i64 0, .int .i64 0] 45) = w1 at *
  refine (nm _).mono ?_
  rintro e w' ⟨rfl, rfl⟩
  go_wp2_with (fail)
  refine (pa _).mono ?_
  rintro e w2 ⟨rfl, hb⟩
  have r2 := r1.below hb
  have B2 := below_step B1 hb B1.size
  have g0 := cell_later hb d0
  have g1 := cell_later hb d1
  have g2 := cell_later hb d2
  go_wp2_with (fail)
  refine (of _ _).mono ?_
  rintro e w3 ⟨rfl, hb3⟩
  have r3 := r2.below hb3
  have B3 := below_step B2 hb3 B2.size
  have h2 := cell_later hb3 g2
  have hlt3 : w.heap.size < w3.heap.size := r3.lt
  have x3 := trip_new w3 (.string s0) (.int .i64 x) (.int .i64 100) 45
  have b4 := below_new w3 (.cells #[.string s0, .int .i64 x, .int .i64 100] 45)
  have r4 := r3.below b4
  have B4 := below_step B3 b4 B3.size
  clear d0 d1 g0 g1 hb hb3 r1 r2 B1 B2
  have i2 := cell_later b4 h2
  go_wp2_with (fail)
  generalize w3.alloc (.cells #[.string s0, .int .i64 x, .int .i64 100] 45) = w4 at *
  have hp : w.heap.size < w3.heap.size := r3.lt
  generalize w3.heap.size = p at *
  refine (un _).mono ?_
  rintro e w5 ⟨rfl, hb5⟩
  have x5 := x3.below hb5
  have r5 := r4.below hb5
  have B5 := below_step B4 hb5 B4.size
  clear x3 r4 B4 b4 r3 B3 hb5
  have fz := r5.frozen
  have v0 : w5.cell? ⟨w.heap.size, 0, none⟩ = some (.string ⟨#[]⟩) := r5.cell (by omega)
  have v1 : w5.cell? ⟨w.heap.size, 1, none⟩ = some (.int .i64 0) := r5.cell (by omega)
  have v2 : w5.cell? ⟨w.heap.size, 2, none⟩ = some (.int .i64 0) := r5.cell (by omega)
  have fp := x5.frozen
  have p0 : w5.cell? ⟨p, 0, none⟩ = some (.string s0) := x5.cell (by omega)
  have p1 : w5.cell? ⟨p, 1, none⟩ = some (.int .i64 x) := x5.cell (by omega)
  have p2 : w5.cell? ⟨p, 2, none⟩ = some (.int .i64 100) := x5.cell (by omega)
  have r6 := r5.other (a := ⟨p, 2, none⟩) (by show w.heap.size ≠ p; omega) (.int .i64 u)
  have B6 := B5.setCell (p := ⟨p, 2, none⟩) (by show w.heap.size ≤ p; omega) (.int .i64 u)
  have hne : w.heap.size ≠ p := by omega
  have hne2 : p ≠ w.heap.size := by omega
  go_wp2
  have rf := ((r6.set 0 (.string ⟨#[]⟩)).set 1 (.int .i64 0)).set 2 (.int .i64 0)
  have y0 : ((((w5.setCell ⟨p, 2, none⟩ (.int .i64 u)).setCell ⟨w.heap.size, 0, none⟩ (.string ⟨#[]⟩)).setCell ⟨w.heap.size, 1, none⟩ (.int .i64 0)).setCell ⟨w.heap.size, 2, none⟩ (.int .i64 0)).cell? ⟨w.heap.size, 0, none⟩ = some (.string ⟨#[]⟩) := rf.cell (by omega)
  have y1 : ((((w5.setCell ⟨p, 2, none⟩ (.int .i64 u)).setCell ⟨w.heap.size, 0, none⟩ (.string ⟨#[]⟩)).setCell ⟨w.heap.size, 1, none⟩ (.int .i64 0)).setCell ⟨w.heap.size, 2, none⟩ (.int .i64 0)).cell? ⟨w.heap.size, 1, none⟩ = some (.int .i64 0) := rf.cell (by omega)
  have y2 : ((((w5.setCell ⟨p, 2, none⟩ (.int .i64 u)).setCell ⟨w.heap.size, 0, none⟩ (.string ⟨#[]⟩)).setCell ⟨w.heap.size, 1, none⟩ (.int .i64 0)).setCell ⟨w.heap.size, 2, none⟩ (.int .i64 0)).cell? ⟨w.heap.size, 2, none⟩ = some (.int .i64 0) := rf.cell (by omega)
  have hle : w.heap.size ≤ w.heap.size := Nat.le_refl _
  exact bodyPost_ret (v := .tuple #[.agg #[.string ⟨#[]⟩, .int .i64 0, .int .i64 0], .int .i64 z]) (by simp [results, Tryd.results27, go_sem, y0, y1, y2]) rfl ⟨rfl, ((B6.setCell hle _).setCell hle _).setCell hle _⟩
set_option maxHeartbeats 1000000 in
set_option maxRecDepth 100000 in
theorem pe_three (A : Option Addr) (c : Nat) (f : Nat → ByteArray) (w : World) (hr : rowAt w A 3 fun i => .string (f i)) (hf : ∀ i, i < 3 → (f i).size ≤ 281474976710656) (hn : nameB (f 0).data.toList = true) (he : pelE f = 0) (hu : (unP (f 2).data.toList).2 = 0) :
    Calls Tryd.prog 27 #[.slice A 3 c] w fun e w' => e = .returned (.tuple #[.agg #[.string (f 0), .int .i64 (pelA f), .int .i64 (unP (f 2).data.toList).1], .int .i64 0]) ∧ Below w.heap.size w w' := by
  have nm := fun w => name_b (f 0) true hn w (by have := hf 0 (by omega); omega)
  have pa := fun w => parse_any (f 1) w (by have := hf 1 (by omega); omega)
  have un := fun w => units_any (f 2) w (hf 2 (by omega))
  have of := fun x w => of_el (f 0) x w (hf 0 (by omega))
  unfold pelE at *
  try unfold pelA at *
  clear hn hf
  try unfold eZ
  obtain ⟨b, o, rfl, hc⟩ := hr (by omega)
  have c0 : w.cell? ⟨b, o, none⟩ = some (.string (f 0)) := hc 0 (by omega)
  have c1 : w.cell? ⟨b, o + 1, none⟩ = some (.string (f 1)) := hc 1 (by omega)
  have c2 : w.cell? ⟨b, o + 2, none⟩ = some (.string (f 2)) := hc 2 (by omega)
  have r1 := trip_new w (.string ⟨#[]⟩) (.int .i64 0) (.int .i64 0) 45
  have B1 := below_new w (.cells #[.string ⟨#[]⟩, .int .i64 0, .int .i64 0] 45)
  have d0 := cell_later B1 c0
  have d1 := cell_later B1 c1
  have d2 := cell_later B1 c2
  clear hc hr c0 c1 c2
  generalize f 0 = s0 at *
  generalize f 1 = s1 at *
  generalize f 2 = s2 at *
  generalize parseP s1.data.toList = q at *
  obtain ⟨x, y⟩ := q
  simp only [] at pa he ⊢
  subst he
  generalize unP s2.data.toList = q2 at *
  obtain ⟨u, z⟩ := q2
  simp only [] at un hu ⊢
  subst hu
  go_enter Tryd.func27, Tryd.ntmps27
  go_wp2_with (fail)
  generalize w.alloc (.cells #[.string ⟨#[]⟩, .int .i64 0, .int .i64 0] 45) = w1 at *
  refine (nm _).mono ?_
  rintro e w' ⟨rfl, rfl⟩
  go_wp2_with (fail)
  refine (pa _).mono ?_
  rintro e w2 ⟨rfl, hb⟩
  have r2 := r1.below hb
  have B2 := below_step B1 hb B1.size
  have g0 := cell_later hb d0
  have g1 := cell_later hb d1
  have g2 := cell_later hb d2
  go_wp2_with (fail)
  refine (of _ _).mono ?_
  rintro e w3 ⟨rfl, hb3⟩
  have r3 := r2.below hb3
  have B3 := below_step B2 hb3 B2.size
  have h2 := cell_later hb3 g2
  have hlt3 : w.heap.size < w3.heap.size := r3.lt
  have x3 := trip_new w3 (.string s0) (.int .i64 x) (.int .i64 100) 45
  have b4 := below_new w3 (.cells #[.string s0, .int .i64 x, .int .i64 100] 45)
  have r4 := r3.below b4
  have B4 := below_step B3 b4 B3.size
  clear d0 d1 g0 g1 hb hb3 r1 r2 B1 B2
  have i2 := cell_later b4 h2
  go_wp2_with (fail)
  generalize w3.alloc (.cells #[.string s0, .int .i64 x, .int .i64 100] 45) = w4 at *
  have hp : w.heap.size < w3.heap.size := r3.lt
  generalize w3.heap.size = p at *
  refine (un _).mono ?_
  rintro e w5 ⟨rfl, hb5⟩
  have x5 := x3.below hb5
  have r5 := r4.below hb5
  have B5 := below_step B4 hb5 B4.size
  clear x3 r4 B4 b4 r3 B3 hb5
  have fz := r5.frozen
  have v0 : w5.cell? ⟨w.heap.size, 0, none⟩ = some (.string ⟨#[]⟩) := r5.cell (by omega)
  have v1 : w5.cell? ⟨w.heap.size, 1, none⟩ = some (.int .i64 0) := r5.cell (by omega)
  have v2 : w5.cell? ⟨w.heap.size, 2, none⟩ = some (.int .i64 0) := r5.cell (by omega)
  have fp := x5.frozen
  have p0 : w5.cell? ⟨p, 0, none⟩ = some (.string s0) := x5.cell (by omega)
  have p1 : w5.cell? ⟨p, 1, none⟩ = some (.int .i64 x) := x5.cell (by omega)
  have p2 : w5.cell? ⟨p, 2, none⟩ = some (.int .i64 100) := x5.cell (by omega)
  have r6 := r5.other (a := ⟨p, 2, none⟩) (by show w.heap.size ≠ p; omega) (.int .i64 u)
  have B6 := B5.setCell (p := ⟨p, 2, none⟩) (by show w.heap.size ≤ p; omega) (.int .i64 u)
  have hne : w.heap.size ≠ p := by omega
  have hne2 : p ≠ w.heap.size := by omega
  go_wp2
  have rf := ((r6.set 0 (.string s0)).set 1 (.int .i64 x)).set 2 (.int .i64 u)
  have y0 : ((((w5.setCell ⟨p, 2, none⟩ (.int .i64 u)).setCell ⟨w.heap.size, 0, none⟩ (.string s0)).setCell ⟨w.heap.size, 1, none⟩ (.int .i64 x)).setCell ⟨w.heap.size, 2, none⟩ (.int .i64 u)).cell? ⟨w.heap.size, 0, none⟩ = some (.string s0) := rf.cell (by omega)
  have y1 : ((((w5.setCell ⟨p, 2, none⟩ (.int .i64 u)).setCell ⟨w.heap.size, 0, none⟩ (.string s0)).setCell ⟨w.heap.size, 1, none⟩ (.int .i64 x)).setCell ⟨w.heap.size, 2, none⟩ (.int .i64 u)).cell? ⟨w.heap.size, 1, none⟩ = some (.int .i64 x) := rf.cell (by omega)
  have y2 : ((((w5.setCell ⟨p, 2, none⟩ (.int .i64 u)).setCell ⟨w.heap.size, 0, none⟩ (.string s0)).setCell ⟨w.heap.size, 1, none⟩ (.int .i64 x)).setCell ⟨w.heap.size, 2, none⟩ (.int .i64 u)).cell? ⟨w.heap.size, 2, none⟩ = some (.int .i64 u) := rf.cell (by omega)
  have hle : w.heap.size ≤ w.heap.size := Nat.le_refl _
  exact bodyPost_ret (v := .tuple #[.agg #[.string s0, .int .i64 x, .int .i64 u], .int .i64 0]) (by simp [results, Tryd.results27, go_sem, y0, y1, y2]) rfl ⟨rfl, ((B6.setCell hle _).setCell hle _).setCell hle _⟩
end Go.Proofs.YtobdbjmpoefebaaDoor
