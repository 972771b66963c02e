/- The walk of the law ShareLines. -/
import Derived.Test.YtgdalejccbhjcaaDoorOpenR
import Derived.SizedLaws
import Derived.Test.YtgdalejccbhjcaaDoorLinG
import Derived.Test.YtgdalejccbhjcaaDoorLinC
import Derived.Test.YtgdalejccbhjcaaDoorTxtParse
namespace Go.Proofs.YtgdalejccbhjcaaDoor
section
open Go.ChangeShapes Go.WideShapes Go.ChangeAt Go.RowKit Go.Deep
set_option maxRecDepth 100000
set_option linter.unusedVariables false
set_option linter.unusedSimpArgs false
/-- a contribution as it lies -/
structure Cn where
  N : ByteArray
  B : Int
  A : Option Addr
  n : Nat
  c : Nat
  P : Int
  Y : Int
  Z : Int
instance : Inhabited Cn := ⟨⟨ByteArray.empty, 0, none, 0, 0, 0, 0, 0⟩⟩
def Cn.cs (x : Cn) : List Value := [.string x.N, .int .i64 x.B, .slice x.A x.n x.c, .int .i64 x.P, .int .i64 x.Y, .int .i64 x.Z]
def CnAt (w : World) (b o : Nat) (x : Cn) : Prop := w.cell? ⟨b, o, none⟩ = some (.string x.N) ∧ w.cell? ⟨b, o + 1, none⟩ = some (.int .i64 x.B) ∧ w.cell? ⟨b, o + 2, none⟩ = some (.slice x.A x.n x.c) ∧ w.cell? ⟨b, o + 3, none⟩ = some (.int .i64 x.P) ∧ w.cell? ⟨b, o + 4, none⟩ = some (.int .i64 x.Y) ∧ w.cell? ⟨b, o + 5, none⟩ = some (.int .i64 x.Z)
theorem CnAt.below {w w' : World} {b o : Nat} {x : Cn} (h : CnAt w b o x) (hb : Below w.heap.size w w') : CnAt w' b o x := by
  obtain ⟨h0, h1, h2, h3, h4, h5⟩ := h
  exact ⟨cell_later hb h0, cell_later hb h1, cell_later hb h2, cell_later hb h3, cell_later hb h4, cell_later hb h5⟩
def CnM (w : World) (A : Option Addr) (n : Nat) (C : Nat → Cn) : Prop := 0 < n → ∃ b o, A = some ⟨b, o, none⟩ ∧ ∀ i, i < n → CnAt w b (o + i * 6) (C i)
theorem CnM.below {w w' : World} {A : Option Addr} {n : Nat} {C : Nat → Cn} (h : CnM w A n C) (hb : Below w.heap.size w w') : CnM w' A n C := fun h0 => by
  obtain ⟨b, o, e, hc⟩ := h h0
  exact ⟨b, o, e, fun i hi => (hc i hi).below hb⟩
section
variable {H : Type} {enc : TypeId × Value → H}
theorem weights_of_all {P : Program} {e : TypeId} : ∀ {ds : List (DataW H)} {d : DataW H}, d ∈ ds → ∀ m ∈ d.weights P e, m ∈ DataW.weightsAll P e ds
  | d0 :: r, d, hd, m, hm => by
    simp only [DataW.weightsAll, List.mem_append]
    rcases List.mem_cons.1 hd with rfl | h
    · exact Or.inl hm
    · exact Or.inr (weights_of_all h m hm)
theorem cn_of {W : World} {fuel : Nat} {cs : List Value} {y : DataW H × List MemPlace} (h : DataW.trod enc Tryd.prog W 0 (fun _ => true) true fuel 66 cs = some y) (hl : cs.length = 6) :
    ∃ x : Cn, cs = x.cs ∧ x.N.data.toList.length ∈ y.1.weights Tryd.prog 66 := by
  obtain ⟨xs, m, _, hy, _, hxl, hg⟩ := DataW.trod_struct Tryd.underlying66 h
  have hxl3 : xs.length = 6 := hxl
  have k1 : Tryd.prog.cellsOf 3 = 1 := by kernel_rfl
  have k2 : Tryd.prog.cellsOf 2 = 1 := by kernel_rfl
  have k3 : Tryd.prog.cellsOf 9 = 1 := by kernel_rfl
  have k4 : Tryd.prog.cellsOf 64 = 1 := by kernel_rfl
  match cs, hl with
  | [c0, c1, c2, c3, c4, c5], _ =>
    have g0 : DataW.trod enc Tryd.prog W 0 (fun _ => true) true m 9 (([c0, c1, c2, c3, c4, c5].drop 0).take (Tryd.prog.cellsOf 9)) = xs[0]? := hg 0 _ rfl
    have g1 : DataW.trod enc Tryd.prog W 0 (fun _ => true) true m 3 (([c0, c1, c2, c3, c4, c5].drop 1).take (Tryd.prog.cellsOf 3)) = xs[1]? := hg 1 _ rfl
    have g2 : DataW.trod enc Tryd.prog W 0 (fun _ => true) true m 64 (([c0, c1, c2, c3, c4, c5].drop 2).take (Tryd.prog.cellsOf 64)) = xs[2]? := hg 2 _ rfl
    have g3 : DataW.trod enc Tryd.prog W 0 (fun _ => true) true m 2 (([c0, c1, c2, c3, c4, c5].drop 3).take (Tryd.prog.cellsOf 2)) = xs[3]? := hg 3 _ rfl
    have g4 : DataW.trod enc Tryd.prog W 0 (fun _ => true) true m 2 (([c0, c1, c2, c3, c4, c5].drop 4).take (Tryd.prog.cellsOf 2)) = xs[4]? := hg 4 _ rfl
    have g5 : DataW.trod enc Tryd.prog W 0 (fun _ => true) true m 3 (([c0, c1, c2, c3, c4, c5].drop 5).take (Tryd.prog.cellsOf 3)) = xs[5]? := hg 5 _ rfl
    rw [k3, List.getElem?_eq_getElem (by omega)] at g0
    rw [k1, List.getElem?_eq_getElem (by omega)] at g1 g5
    rw [k4, List.getElem?_eq_getElem (by omega)] at g2
    rw [k2, List.getElem?_eq_getElem (by omega)] at g3 g4
    obtain ⟨N, e0, x0, w0⟩ := DataW.trod_string Tryd.underlying9 g0
    obtain ⟨B, e1, _, w1⟩ := DataW.trod_int Tryd.underlying3 g1
    obtain ⟨A, n, c, e2⟩ := slice_is Tryd.underlying64 (show DataW.trod enc Tryd.prog W 0 (fun _ => true) true m 64 [c2] = some _ from g2)
    obtain ⟨P, e3, _, w3⟩ := DataW.trod_int Tryd.underlying2 g3
    obtain ⟨Y, e4, _, w4⟩ := DataW.trod_int Tryd.underlying2 g4
    obtain ⟨Z, e5, _, w5⟩ := DataW.trod_int Tryd.underlying3 g5
    have e0' : c0 = .string N := by simpa using e0
    have e1' : c1 = .int .i64 B := by simpa using e1
    have e3' : c3 = .int .i64 P := by simpa using e3
    have e4' : c4 = .int .i64 Y := by simpa using e4
    have e5' : c5 = .int .i64 Z := by simpa using e5
    subst e0' e1' e2 e3' e4' e5'
    refine ⟨⟨N, B, A, n, c, P, Y, Z⟩, rfl, ?_⟩
    rw [hy]
    simp only [DataW.weights, Tryd.underlying66]
    refine DataW.weights_mem_each (j := 0) (t := 9) (d := xs[0].1) rfl ?_ _ ?_
    · rw [List.getElem?_map, List.getElem?_eq_getElem (by omega)]; rfl
    · rw [x0]; simp [DataW.weights]
theorem open_tabL {W : World} {r : Reach} {base : Nat} {v : Value} {d : DataW H} {p : List MemPlace} (hv : Value.okWide Tryd.prog W r base 59 v) (h : DataW.Trod enc Tryd.prog W 0 (fun _ => true) true 59 v d p)
    (hz : ∀ m ∈ d.weights Tryd.prog 59, m ≤ reachBytes) :
    ∃ (AS AC AK : Option Addr) (nS nC nK cS cC cK : Nat) (L Z : Int) (C : Nat → Cn), v = .agg #[.slice AS nS cS, .slice AC nC cC, .slice AK nK cK, .int .i64 L, .int .i64 Z] ∧ CnM W AC nC C ∧ nC ≤ 9223372036854775807 ∧ ∀ i, i < nC → (C i).N.size ≤ 140737488355328 := by
  obtain ⟨cs, rfl, hsz⟩ := okWide_struct Tryd.underlying59 hv
  have hC : Tryd.prog.cellsOf 59 = 5 := by kernel_rfl
  have k1 : Tryd.prog.cellsOf 3 = 1 := by kernel_rfl
  have k2 : Tryd.prog.cellsOf 55 = 1 := by kernel_rfl
  have k3 : Tryd.prog.cellsOf 56 = 1 := by kernel_rfl
  have k4 : Tryd.prog.cellsOf 57 = 1 := by kernel_rfl
  have k6 : Tryd.prog.cellsOf 66 = 6 := by kernel_rfl
  obtain ⟨l⟩ := cs
  match l, hsz.trans hC with
  | [c0, c1, c2, c3, c4], _ =>
    obtain ⟨fuel, hf⟩ := h
    obtain ⟨xs, m, _, hy, _, hlen, hg⟩ := DataW.trod_struct Tryd.underlying59 hf
    have hl : xs.length = 5 := hlen
    have g0 : DataW.trod enc Tryd.prog W 0 (fun _ => true) true m 55 (([c0, c1, c2, c3, c4].drop 0).take (Tryd.prog.cellsOf 55)) = xs[0]? := hg 0 _ rfl
    have g1 : DataW.trod enc Tryd.prog W 0 (fun _ => true) true m 56 (([c0, c1, c2, c3, c4].drop 1).take (Tryd.prog.cellsOf 56)) = xs[1]? := hg 1 _ rfl
    have g2 : DataW.trod enc Tryd.prog W 0 (fun _ => true) true m 57 (([c0, c1, c2, c3, c4].drop 2).take (Tryd.prog.cellsOf 57)) = xs[2]? := hg 2 _ rfl
    have g3 : DataW.trod enc Tryd.prog W 0 (fun _ => true) true m 3 (([c0, c1, c2, c3, c4].drop 3).take (Tryd.prog.cellsOf 3)) = xs[3]? := hg 3 _ rfl
    have g4 : DataW.trod enc Tryd.prog W 0 (fun _ => true) true m 3 (([c0, c1, c2, c3, c4].drop 4).take (Tryd.prog.cellsOf 3)) = xs[4]? := hg 4 _ rfl
    rw [k2, List.getElem?_eq_getElem (by omega)] at g0
    rw [k3, List.getElem?_eq_getElem (by omega)] at g1
    rw [k4, List.getElem?_eq_getElem (by omega)] at g2
    rw [k1, List.getElem?_eq_getElem (by omega)] at g3 g4
    obtain ⟨L, e3, _, w3⟩ := DataW.trod_int Tryd.underlying3 g3
    obtain ⟨Z, e4, _, w4⟩ := DataW.trod_int Tryd.underlying3 g4
    obtain ⟨AS, nS, cS, rfl⟩ := slice_is Tryd.underlying55 g0
    obtain ⟨AC, nC, cC, rfl⟩ := slice_is Tryd.underlying56 g1
    obtain ⟨AK, nK, cK, rfl⟩ := slice_is Tryd.underlying57 g2
    have e3' : c3 = .int .i64 L := by simpa using e3
    have e4' : c4 = .int .i64 Z := by simpa using e4
    subst e3' e4'
    have hz1 : ∀ q ∈ (xs[1]).1.weights Tryd.prog 56, q ≤ reachBytes := fun q hq => by
      refine hz q ?_
      have hd : d = .agg (xs.map (·.1)) := congrArg Prod.fst hy
      rw [hd]
      simp only [DataW.weights, Tryd.underlying59]
      refine DataW.weights_mem_each (j := 1) (t := 56) (d := xs[1].1) rfl ?_ _ hq
      rw [List.getElem?_map, List.getElem?_eq_getElem (by omega)]; rfl
    have hr := reachBytes_lt
    rcases open_slice Tryd.underlying56 g1 with ⟨hcs, _⟩ | ⟨a, len, cap, mm, q, D, Pl, hcs, _, hlc, hm, hmm, hx, hi⟩
    · simp only [List.drop, List.take, List.cons.injEq, Value.slice.injEq] at hcs
      obtain ⟨⟨rfl, rfl, rfl⟩, _⟩ := hcs
      exact ⟨AS, none, AK, nS, 0, nK, cS, 0, cK, L, Z, fun _ => default, rfl, fun h0 => absurd h0 (Nat.lt_irrefl 0), by omega, fun i hi => absurd hi (Nat.not_lt_zero i)⟩
    · simp only [List.drop, List.take, List.cons.injEq, Value.slice.injEq] at hcs
      obtain ⟨⟨rfl, rfl, rfl⟩, _⟩ := hcs
      have key : ∀ i, ∃ x : Cn, i < nC → (∀ j, j < 6 → W.cell? ((a.add (i * 6)).add j) = x.cs[j]?) ∧ x.N.size ≤ 140737488355328 := fun i => by
        by_cases hin : i < nC
        · obtain ⟨cs', h1, h2⟩ := hi i (by simp at hmm; omega)
          rw [k6] at h1
          obtain ⟨_, hlen6, hat⟩ := World.cells?_some h1
          obtain ⟨x, rfl, hw⟩ := cn_of h2 hlen6
          refine ⟨x, fun _ => ⟨fun j hj => hat j hj, ?_⟩⟩
          have hle := hz1 _ (by
            rw [hx]
            simp only [DataW.weights, Tryd.underlying56, List.mem_cons, List.mem_append]
            exact Or.inr (Or.inl (weights_of_all (List.mem_map.2 ⟨i, List.mem_range.2 hin, rfl⟩) _ hw)))
          have e2 : x.N.data.toList.length = x.N.size := by simp
          rw [e2] at hle
          omega
        · exact ⟨default, fun hh => absurd hh hin⟩
      obtain ⟨b, o, spot⟩ := a
      refine ⟨AS, some ⟨b, o, spot⟩, AK, nS, nC, nK, cS, cC, cK, L, Z, fun i => Classical.choose (key i), rfl, fun hn => ?_, by unfold maxLen at hm; omega, fun i hin => (Classical.choose_spec (key i) hin).2⟩
      have z0 := (Classical.choose_spec (key 0) hn).1 0 (by omega)
      have hspot : spot = none := by
        have : (((⟨b, o, spot⟩ : Addr).add (0 * 6)).add 0).spot = none := World.cell?_spot z0
        simpa [Addr.add] using this
      subst hspot
      refine ⟨b, o, rfl, fun i hin => ?_⟩
      have hc := (Classical.choose_spec (key i) hin).1
      have hc' : ∀ j, j < 6 → W.cell? ⟨b, o + i * 6 + j, none⟩ = (Classical.choose (key i)).cs[j]? := fun j hj => by
        have ea : (((⟨b, o, none⟩ : Addr).add (i * 6)).add j) = ⟨b, o + i * 6 + j, none⟩ := by rw [Go.WideShapes.add_plain, Go.WideShapes.add_plain]
        exact (congrArg W.cell? ea).symm.trans (hc j hj)
      exact ⟨hc' 0 (by omega), hc' 1 (by omega), hc' 2 (by omega), hc' 3 (by omega), hc' 4 (by omega), hc' 5 (by omega)⟩
end
end
section
open Go.RowKit Go.Sort
set_option linter.unusedVariables false
set_option linter.unusedSimpArgs false

theorem parse_tx (x : Int) (w : World) (h : amtB x = true) : Calls Tryd.prog 19 #[.string ⟨(txt x).toArray⟩] w fun e w' => e = .returned (.tuple #[.int .i64 x, .int .i64 0]) ∧ Below w.heap.size w w' := by
  obtain ⟨h1, h2⟩ := amtB_yes h
  have hp := parse_txt x (by omega) (by omega)
  rw [if_pos h] at hp
  have hl := txt_len x (by omega) (by omega)
  have c := parse_any ⟨(txt x).toArray⟩ w (by simp only [ByteArray.size, List.size_toArray]; omega)
  have e : (⟨(txt x).toArray⟩ : ByteArray).data.toList = txt x := by simp
  rw [e, hp] at c
  exact c
theorem line_bytes (N : ByteArray) (x y : Int) : (lineV N x y).data.toList = N.data.toList ++ 32 :: (txt x ++ 32 :: txt y) := by
  unfold lineV
  simp [ByteArray.data_append]
theorem sv_of (N : ByteArray) : sv N.data.toList = .string N := by
  unfold sv
  congr 1
theorem cut_line (N : ByteArray) (x y : Int) (w : World) (hN : nameB N.data.toList = true) (hx : amtB x = true) (hy : amtB y = true) :
    Calls Tryd.prog 24 #[.string (lineV N x y)] w fun e w' => ∃ wb c, e = .returned (.tuple #[.slice (some ⟨wb, 0, none⟩) 3 c, .int .i64 0]) ∧ w'.cell? ⟨wb, 0, none⟩ = some (.string N) ∧ w'.cell? ⟨wb, 1, none⟩ = some (.string ⟨(txt x).toArray⟩) ∧ w'.cell? ⟨wb, 2, none⟩ = some (.string ⟨(txt y).toArray⟩) ∧ Below w.heap.size w w' := by
  obtain ⟨n1, n2, n3⟩ := name_pln hN
  obtain ⟨x1, x2⟩ := amtB_yes hx
  obtain ⟨y1, y2⟩ := amtB_yes hy
  have lx := txt_len x (by omega) (by omega)
  have ly := txt_len y (by omega) (by omega)
  have hc := cut_three n1 (txt_pln x) (txt_pln y) n2 (txt_ne x) (txt_ne y) (by omega)
  have hs : (lineV N x y).size ≤ 4611686018427387904 := by
    have : (lineV N x y).data.toList.length = (lineV N x y).size := by simp
    rw [← this, line_bytes]
    simp only [List.length_append, List.length_cons]
    omega
  have c := cut_any (lineV N x y) w hs
  rw [line_bytes] at c
  refine c.mono ?_
  rintro e w' ⟨v, rfl, hr, hb⟩
  rw [hc] at hr ⊢
  obtain ⟨A, cc, rfl, hcell⟩ := rs_row hr
  obtain ⟨b, rfl, _, h0⟩ := hcell 0 (by simp)
  obtain ⟨b1, e1, _, h1⟩ := hcell 1 (by simp)
  obtain ⟨b2, e2, _, h2⟩ := hcell 2 (by simp)
  obtain rfl : b = b1 := by simpa using e1
  obtain rfl : b = b2 := by simpa using e2
  refine ⟨b, cc, rfl, ?_, h1, h2, hb⟩
  rw [h0]
  exact congrArg some (sv_of N)
theorem allS_at {X Y : Nat → Int} {n : Nat} (h : allS X Y n = true) : ∀ i, i < n → amtB (X i) = true ∧ amtB (Y i) = true := by
  induction n with
  | zero => intro i hi; omega
  | succ n ih =>
    have h' : (allS X Y n && (amtB (X n) && amtB (Y n))) = true := h
    simp only [Bool.and_eq_true] at h'
    intro i hi
    by_cases hin : i < n
    · exact ih h'.1 i hin
    · obtain rfl : i = n := by omega
      exact h'.2
set_option maxRecDepth 100000 in
set_option maxHeartbeats 8000000 in
theorem wShareLines (AS AC AK : Option Addr) (nS nC nK cS cC cK : Nat) (L Z : Int) (C : Nat → Cn) (A : Option Addr) (n c : Nat) (X Y : Nat → Int) (w : World) (hT : Tab w) (hC : CnM w AC nC C) (hnC : nC ≤ 9223372036854775807) (hN : ∀ i, i < nC → (C i).N.size ≤ 140737488355328)
    (h : Shs w A n X Y) (hn : n ≤ 9223372036854775807) (hf : ∀ i, i < n → fitI (X i) ∧ fitI (Y i)) :
    Calls Tryd.prog 8 #[.agg #[.slice AS nS cS, .slice AC nC cC, .slice AK nK cK, .int .i64 L, .int .i64 Z], .slice A n c] w fun e w' => e = .returned (.bool true) ∧ Below w.heap.size w w' := by
  have K := bx_new w [.slice AS nS cS, .slice AC nC cC, .slice AK nK cK, .int .i64 L, .int .i64 Z] 59
  have B1 := below_new w (.cells #[.slice AS nS cS, .slice AC nC cC, .slice AK nK cK, .int .i64 L, .int .i64 Z] 59)
  have HN := Lib.hid hN
  have HF := Lib.hid hf
  replace hT := hT.below B1
  replace hC := hC.below B1
  replace h := h.below B1
  clear hN hf
  go_enter Tryd.func8, Tryd.ntmps8
  go_wp2_with (fail)
  with_reducible refine (posts_any _ hT).mono ?_
  rintro e w1 ⟨rfl, NB⟩
  replace hT := hT.below NB
  replace hC := hC.below NB
  replace h := h.below NB
  replace K := K.below NB
  have B2 := below_step B1 NB B1.size
  clear NB B1
  have k0 := K.cell (i := 0) rfl
  have k1 := K.cell (i := 1) rfl
  have k2 := K.cell (i := 2) rfl
  have k3 := K.cell (i := 3) rfl
  have k4 := K.cell (i := 4) rfl
  by_cases h30 : 30 < n
  · have t0 : decide (30 < (n : Int)) = true := decide_eq_true (by omega)
    go_wp2
    go_ret
    exact ⟨rfl, B2⟩
  have t0 : decide (30 < (n : Int)) = false := decide_eq_false (by omega)
  by_cases hC30 : 30 < nC
  · have t1 : decide (30 < (nC : Int)) = true := decide_eq_true (by omega)
    go_wp2
    go_ret
    exact ⟨rfl, B2⟩
  have t1 : decide (30 < (nC : Int)) = false := decide_eq_false (by omega)
  have u0 : ¬ 30 < n := h30
  have u1 : ¬ 30 < nC := hC30
  go_wp2_with (fail)
  have cA := lright_any A n c w1 X Y h (by omega)
  cases ha : allS X Y n
  · rw [ha] at cA
    with_reducible refine cA.mono ?_
    rintro e w2 ⟨rfl, NB⟩
    have B3 := below_step B2 NB B2.size
    clear cA NB B2 k0 k1 k2 k3 k4 K
    go_wp2
    go_ret
    exact ⟨rfl, B3⟩
  · rw [ha] at cA
    have HA := Lib.hid (allS_at ha)
    with_reducible refine cA.mono ?_
    rintro e w2 ⟨rfl, NB⟩
    replace hT := hT.below NB
    replace hC := hC.below NB
    replace h := h.below NB
    replace K := K.below NB
    have B3 := below_step B2 NB B2.size
    clear cA NB B2 k0 k1 k2 k3 k4 ha
    have k0 := K.cell (i := 0) rfl
    have k1 := K.cell (i := 1) rfl
    have k2 := K.cell (i := 2) rfl
    have k3 := K.cell (i := 3) rfl
    have k4 := K.cell (i := 4) rfl
    go_wp2_with (fail)
    by_cases he : n = nC
    · subst he
      have cL := lines_any AS AC AK nS n nK cS cC cK L Z (fun i => (C i).N) A n c X Y w2 hT (fun h0 => by
        obtain ⟨b, o, e, hc⟩ := hC h0
        exact ⟨b, o, e, fun i hi => (hc i hi).1⟩) h rfl (by omega) HN.out (fun i hi => HF.out i hi)
      with_reducible refine cL.mono ?_
      rintro e w3 ⟨v, rfl, HO, NB⟩
      obtain ⟨A', c', rfl, _, hg⟩ := own_len HO
      replace hC := hC.below NB
      replace h := h.below NB
      replace K := K.below NB
      have B4 := below_step B3 NB B3.size
      have t2 : ((n : Int) != (n : Int)) = false := by simp
      have k1' := K.cell (i := 1) rfl
      have HOO := Lib.hid HO
      have HG := Lib.hid hg
      clear cL NB B3 k0 k1 k2 k3 k4 hT HO hg
      go_wp2
      go_loopw [50] (fun k W => ∃ i : Nat, i ≤ n ∧ k = .int .i64 i ∧ Below w3.heap.size w3 W) (fun k _ => n - (intOf k).toNat)
      case atStart => exact ⟨0, Nat.zero_le _, rfl, Below.refl _ _⟩
      case round =>
        obtain ⟨i, hi, rfl, hB⟩ := hrel
        by_cases hlt : i < n
        · obtain ⟨bc, oc, rfl, hcc⟩ := id (hC (by omega))
          obtain ⟨c0, c1, c2, c3, c4, c5⟩ := (hcc i hlt).below hB
          obtain ⟨b, o, rfl, hcr⟩ := id (h (by omega))
          obtain ⟨r0, r1⟩ := hcr i hlt
          replace r0 := cell_later hB r0
          replace r1 := cell_later hB r1
          obtain ⟨gb, rfl⟩ := HG.out (by omega)
          have l0 : wr.cell? ⟨gb, i, none⟩ = some (.string (lineV (C i).N (X i) (Y i))) := own_cells (own_below HOO.out hB) (by unfold linL; rw [List.getElem?_map, List.getElem?_range hlt]; rfl)
          have hil : (i : Int) < (n : Int) := by omega
          obtain ⟨a1, a2⟩ := HA.out i hlt
          have cN := fun W => name_v (C i).N W
          have cX := fun W => parse_tx (X i) W a1
          have cY := fun W => parse_tx (Y i) W a2
          have cC' := fun W hN => cut_line (C i).N (X i) (Y i) W hN a1 a2
          have B5 := below_step B4 hB B4.size
          clear hcc hcr HOO HN HF HA HG a1 a2 hC h K
          generalize (⟨(txt (X i)).toArray⟩ : ByteArray) = tX at *
          generalize (⟨(txt (Y i)).toArray⟩ : ByteArray) = tY at *
          generalize lineV (C i).N (X i) (Y i) = lv at *
          generalize (C i).N = nm at *
          generalize (C i).B = x1 at *
          generalize (C i).A = x2 at *
          generalize (C i).n = x3 at *
          generalize (C i).c = x4 at *
          generalize (C i).P = x5 at *
          generalize (C i).Y = x6 at *
          generalize (C i).Z = x7 at *
          generalize X i = xv at *
          generalize Y i = yv at *
          have K := bx_new wr [.string nm, .int .i64 x1, .slice x2 x3 x4, .int .i64 x5, .int .i64 x6, .int .i64 x7] 66
          have NB := below_new wr (.cells #[.string nm, .int .i64 x1, .slice x2 x3 x4, .int .i64 x5, .int .i64 x6, .int .i64 x7] 66)
          have B6 := below_step hB NB hB.size
          have g0 := K.cell (i := 0) rfl
          have l1 := cell_later NB l0
          have q0 := cell_later NB r0
          have q1 := cell_later NB r1
          cases hnm : nameB nm.data.toList
          · rw [hnm] at cN
            clear cC' cX cY hnm
            go_wp2_with (fail)
            with_reducible refine (cN _).mono ?_
            rintro e w5 ⟨rfl, rfl⟩
            go_wp2
            refine ⟨⟨i + 1, by omega, by go_num, B6⟩, ?_⟩
            simp [intOf]; omega
          · rw [hnm] at cN
            have cC2 := fun W => cC' W hnm
            clear cC' hnm
            go_wp2_with (fail)
            with_reducible refine (cN _).mono ?_
            rintro e w5 ⟨rfl, rfl⟩
            clear c0 c1 c2 c3 c4 c5 l0 r0 r1 cN
            go_wp2_with (fail)
            with_reducible refine (cC2 _).mono ?_
            rintro e w6 ⟨wb, cw, rfl, s0, s1, s2, NB6⟩
            have B7 := below_step B6 NB6 B6.size
            replace g0 := cell_later NB6 g0
            replace q0 := cell_later NB6 q0
            replace q1 := cell_later NB6 q1
            clear l1 cC2 NB NB6 K
            go_wp2
            go_quiet (fail)
            generalize hwd : World.drewN _ _ = w7 at *
            have hb7 : Below w6.heap.size w6 w7 := by rw [← hwd]; exact below_drewN (Below.refl _ _) _
            have B8 := below_step B7 hb7 B7.size
            replace s1 := cell_later hb7 s1
            replace s2 := cell_later hb7 s2
            replace q0 := cell_later hb7 q0
            replace q1 := cell_later hb7 q1
            clear hwd s0 g0 hb7 B7
            go_wp2_with (fail)
            with_reducible refine (cX _).mono ?_
            rintro e w8 ⟨rfl, NB8⟩
            have B9 := below_step B8 NB8 B8.size
            replace s2 := cell_later NB8 s2
            replace q0 := cell_later NB8 q0
            replace q1 := cell_later NB8 q1
            clear s1 cX NB8 B8
            go_wp2_with (fail)
            with_reducible refine (cY _).mono ?_
            rintro e w9 ⟨rfl, NB9⟩
            have B10 := below_step B9 NB9 B9.size
            replace q0 := cell_later NB9 q0
            replace q1 := cell_later NB9 q1
            clear s2 cY NB9 B9
            go_wp2
            refine ⟨⟨i + 1, by omega, by go_num, B10⟩, ?_⟩
            simp [intOf]; omega
        · obtain rfl : i = n := by omega
          have hnl : ¬ (i : Int) < (i : Int) := by omega
          have B9 := below_step B4 hB B4.size
          clear hC h K
          go_wp2
          go_ret
          exact ⟨rfl, B9⟩
    · have cL := lines_len AS AC AK nS nC nK cS cC cK L Z A n c w2 he
      with_reducible refine cL.mono ?_
      rintro e w3 ⟨rfl, NB⟩
      replace K := K.below NB
      have B4 := below_step B3 NB B3.size
      have k1' := K.cell (i := 1) rfl
      have t2 : ((n : Int) != (nC : Int)) = true := by simp; omega
      clear cL NB B3 k0 k1 k2 k3 k4 hT
      go_wp2
      go_ret
      exact ⟨rfl, B4⟩
end
end Go.Proofs.YtgdalejccbhjcaaDoor
