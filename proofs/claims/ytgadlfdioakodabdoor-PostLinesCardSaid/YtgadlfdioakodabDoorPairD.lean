/- What pair.Total answers. -/
import Derived.Test.YtgadlfdioakodabDoorMoneyB
import Derived.Test.YtgadlfdioakodabDoorOwnM
import Derived.OwnWalk
import Derived.Lib.QuietBelow
import Derived.BigQuiet
namespace Go.Proofs.YtgadlfdioakodabDoor
open Go.RowKit Go.Sort
set_option linter.unusedVariables false

/-- a block of two numbers -/
def P2 (W : World) (b : Nat) (x y : Int) : Prop := W.cell? ⟨b, 0, none⟩ = some (.int .i64 x) ∧ W.cell? ⟨b, 1, none⟩ = some (.int .i64 y) ∧ W.frozen? ⟨b, 0, none⟩ = false ∧ W.frozen? ⟨b, 1, none⟩ = false ∧ b < W.heap.size
theorem P2.below {W W' : World} {b : Nat} {x y : Int} (h : P2 W b x y) (hb : Below W.heap.size W W') : P2 W' b x y :=
  ⟨cell_later hb h.1, cell_later hb h.2.1, (hb.frozen (p := ⟨b, 0, none⟩) h.2.2.2.2).trans h.2.2.1, (hb.frozen (p := ⟨b, 1, none⟩) h.2.2.2.2).trans h.2.2.2.1, Nat.lt_of_lt_of_le h.2.2.2.2 hb.size⟩
theorem P2.new (W : World) (x y : Int) (t : TypeId) : P2 (W.alloc (.cells #[.int .i64 x, .int .i64 y] t)) W.heap.size x y :=
  ⟨by simp [World.cell?_alloc_new], by simp [World.cell?_alloc_new], World.frozen?_alloc_new _ _ _ _, World.frozen?_alloc_new _ _ _ _, by simp⟩
theorem P2.store {W : World} {b : Nat} {x y : Int} (h : P2 W b x y) (u v : Int) : P2 ((W.setCell ⟨b, 0, none⟩ (.int .i64 u)).setCell ⟨b, 1, none⟩ (.int .i64 v)) b u v := by
  obtain ⟨h0, h1, f0, f1, hz⟩ := h
  have a0 := World.cell?_setCell_same W ⟨b, 0, none⟩ (.int .i64 u) h0
  have a1 : (W.setCell ⟨b, 0, none⟩ (.int .i64 u)).cell? ⟨b, 1, none⟩ = some (.int .i64 y) := (World.cell?_setCell_other _ _ _ _ (by intro e; simp at e)).trans h1
  refine ⟨(World.cell?_setCell_other _ _ _ _ (by intro e; simp at e)).trans a0, World.cell?_setCell_same _ _ _ a1, ?_, ?_, by simp [World.setCell]; exact hz⟩
  · rw [World.frozen?_setCell, World.frozen?_setCell]; exact f0
  · rw [World.frozen?_setCell, World.frozen?_setCell]; exact f1
theorem P2.far {W : World} {b c : Nat} {x y : Int} (h : P2 W b x y) (hne : b ≠ c) (u v : Value) : P2 ((W.setCell ⟨c, 0, none⟩ u).setCell ⟨c, 1, none⟩ v) b x y := by
  obtain ⟨h0, h1, f0, f1, hz⟩ := h
  have o : ∀ (W : World) (q : Nat) (u : Value) (k : Nat), (W.setCell ⟨c, k, none⟩ u).cell? ⟨b, q, none⟩ = W.cell? ⟨b, q, none⟩ := fun W q u k => World.cell?_setCell_other _ _ _ _ (by intro e; simp only [Addr.mk.injEq] at e; omega)
  refine ⟨((o _ _ _ _).trans (o _ _ _ _)).trans h0, ((o _ _ _ _).trans (o _ _ _ _)).trans h1, ?_, ?_, by simp [World.setCell]; exact hz⟩
  · rw [World.frozen?_setCell, World.frozen?_setCell]; exact f0
  · rw [World.frozen?_setCell, World.frozen?_setCell]; exact f1

/-- a slice's shares, wherever they lie -/
def Shs (w : World) (A : Option Addr) (n : Nat) (X Y : Nat → Int) : Prop :=
  0 < n → ∃ b o, A = some ⟨b, o, none⟩ ∧ ∀ i, i < n → w.cell? ⟨b, o + i * 2, none⟩ = some (.int .i64 (X i)) ∧ w.cell? ⟨b, o + i * 2 + 1, none⟩ = some (.int .i64 (Y i))
theorem Shs.below {w w' : World} {A : Option Addr} {n : Nat} {X Y : Nat → Int} (h : Shs w A n X Y) (hb : Below w.heap.size w w') : Shs w' A n X Y := fun hn => by
  obtain ⟨b, o, e, hc⟩ := h hn
  exact ⟨b, o, e, fun i hi => ⟨cell_later hb (hc i hi).1, cell_later hb (hc i hi).2⟩⟩
/-- the sum of the first ones -/
def tsm (X : Nat → Int) : Nat → Int
  | 0 => 0
  | k + 1 => tsm X k + X k
/-- may all of the first ones, and their sums so far, be? -/
def okT (X Y : Nat → Int) : Nat → Bool
  | 0 => true
  | k + 1 => okT X Y k && ((amtB (X k) && amtB (tsm X k + X k)) && (amtB (Y k) && amtB (tsm Y k + Y k)))
theorem okT_amt {X Y : Nat → Int} {k : Nat} (h : okT X Y k = true) : amtB (tsm X k) = true ∧ amtB (tsm Y k) = true := by
  cases k with
  | zero => exact ⟨rfl, rfl⟩
  | succ k =>
    simp only [okT, Bool.and_eq_true] at h
    exact ⟨h.2.1.2, h.2.2.2⟩
theorem okT_stop {X Y : Nat → Int} {k n : Nat} (hk : k < n) (h : okT X Y (k + 1) = false) : okT X Y n = false := by
  obtain ⟨m, rfl⟩ : ∃ m, n = k + 1 + m := ⟨n - k - 1, by omega⟩
  induction m with
  | zero => exact h
  | succ m ih =>
    have := ih (by omega)
    show (okT X Y (k + 1 + m) && _) = false
    rw [this]; rfl

def totV (X Y : Nat → Int) (n : Nat) : Value := .tuple #[.agg #[.int .i64 (if okT X Y n = true then tsm X n else 0), .int .i64 (if okT X Y n = true then tsm Y n else 0)], .int .i64 (if okT X Y n = true then 0 else 10)]
theorem totV_no {X Y : Nat → Int} {n : Nat} (h : okT X Y n = false) : Value.tuple #[.agg #[.int .i64 0, .int .i64 0], .int .i64 10] = totV X Y n := by simp [totV, h]
theorem totV_yes {X Y : Nat → Int} {n : Nat} (h : okT X Y n = true) : Value.tuple #[.agg #[.int .i64 (tsm X n), .int .i64 (tsm Y n)], .int .i64 0] = totV X Y n := by simp [totV, h]
set_option maxHeartbeats 8000000 in
set_option maxRecDepth 100000 in
theorem total_any (A : Option Addr) (n c : Nat) (w : World) (X Y : Nat → Int) (h : Shs w A n X Y) (hn : n ≤ 4611686018427387904) :
    Calls Tryd.prog 79 #[.slice A n c] w fun e w' => e = .returned (totV X Y n) ∧ Below w.heap.size w w' := by
  have hN : ∀ k, k < n → okT X Y (k + 1) = false → okT X Y n = false := fun k hk h => okT_stop hk h
  have hp0 := P2.new w 0 0 70
  have hb0 : Below w.heap.size w (w.alloc (.cells #[.int .i64 0, .int .i64 0] 70)) := (Below.refl _ _).alloc (Nat.le_refl _) _
  have hp1 := P2.new (w.alloc (.cells #[.int .i64 0, .int .i64 0] 70)) 0 0 70
  have hb1 := hb0.alloc hb0.size (.cells #[.int .i64 0, .int .i64 0] 70)
  have hp01 := hp0.below ((Below.refl _ _).alloc (Nat.le_refl _) (.cells #[.int .i64 0, .int .i64 0] 70))
  rw [show (w.alloc (.cells #[.int .i64 0, .int .i64 0] 70)).heap.size = w.heap.size + 1 by simp] at hp1
  go_enter Tryd.func79, Tryd.ntmps79
  go_wp2
  go_loopw [13] (fun v W => ∃ i : Nat, i ≤ n ∧ v = .int .i64 i ∧ okT X Y i = true ∧ P2 W (w.heap.size + 1) (tsm X i) (tsm Y i) ∧ P2 W w.heap.size 0 0 ∧ Below w.heap.size w W) (fun v _ => n - (intOf v).toNat)
  case atStart => exact ⟨0, Nat.zero_le _, rfl, rfl, hp1, hp01, hb1⟩
  case round =>
    obtain ⟨i, hi, rfl, hok, hs, hr, hb⟩ := hrel
    obtain ⟨am1, am2⟩ := okT_amt hok
    by_cases hlt : i < n
    · obtain ⟨b, o, rfl, hc⟩ := h (by omega)
      obtain ⟨c0, c1⟩ := hc i hlt
      have d0 := cell_later hb c0
      have d1 := cell_later hb c1
      have hbl : b < wr.heap.size := World.block_lt_of_cell? _ _ d0
      have hbx : Below wr.heap.size wr (wr.alloc (.cells #[.int .i64 (X i), .int .i64 (Y i)] 70)) := (Below.refl _ _).alloc (Nat.le_refl _) _
      have hpx := P2.new wr (X i) (Y i) 70
      have hs2 := hs.below hbx
      have hr2 := hr.below hbx
      have hb2 := hb.trans (hbx.mono hb.size)
      have hzz := hb.size
      have hH := Lib.hid h
      have HOK := Lib.hid hok
      have HN2 := Lib.hid (hN i hlt)
      have hs0 := hs.1
      have hs1 := hs.2.1
      have hsz := hs.2.2.2.2
      have hsucc : okT X Y (i + 1) = ((amtB (X i) && amtB (tsm X i + X i)) && (amtB (Y i) && amtB (tsm Y i + Y i))) := by
        show (okT X Y i && _) = _
        rw [hok]; rfl
      have HSU := Lib.hid hsucc
      have ht1 : tsm X (i + 1) = tsm X i + X i := rfl
      have ht2 : tsm Y (i + 1) = tsm Y i + Y i := rfl
      have HT := Lib.hid (And.intro ht1 ht2)
      obtain ⟨a1, a2⟩ := amtB_yes am1
      obtain ⟨a3, a4⟩ := amtB_yes am2
      clear ht1 ht2 hsucc hok hN h hc c0 c1
      cases hA : amtB (X i) && amtB (tsm X i + X i)
      · have ad := fun W => add_bad (tsm X i) (X i) W (by rw [am1]; simpa using hA)
        have hno : okT X Y n = false := HN2.out (by rw [HSU.out, hA]; rfl)
        have HNO := Lib.hid hno
        clear hA am1 am2 hno
        generalize tsm X i = p at *
        generalize tsm Y i = q at *
        generalize X i = xi at *
        generalize Y i = yi at *
        obtain ⟨x0, x1, _, _, x4⟩ := hpx
        obtain ⟨y0, y1, _, _, y4⟩ := hs2
        go_wp2_with (fail)
        with_reducible refine (ad _).mono ?_
        rintro e w2 ⟨rfl, d2⟩
        obtain ⟨r0, r1, f0, f1, rz⟩ := hr2.below d2
        have hb3 := hb2.trans (d2.mono (Nat.le_trans hb.size hbx.size))
        clear x0 x1 x4 y0 y1 y4 d0 d1 hs hr hr2 d2
        have hq := P2.store ⟨r0, r1, f0, f1, rz⟩ 0 0
        go_wp2
        exact bodyPost_ret (v := .tuple #[.agg #[.int .i64 0, .int .i64 0], .int .i64 10]) (by simp [results, Tryd.results79, go_sem, hq.1, hq.2.1]) rfl ⟨congrArg Ending.returned (totV_no HNO.out), (hb3.setCell (Nat.le_refl _) _).setCell (Nat.le_refl _) _⟩
      · obtain ⟨q1, q2⟩ := Bool.and_eq_true_iff.1 hA
        have ad := fun W => add_ok (tsm X i) (X i) W (by rw [am1, q1]; rfl) q2
        obtain ⟨q3, q4⟩ := amtB_yes q2
        cases hE : amtB (Y i) && amtB (tsm Y i + Y i)
        · have ae := fun W => add_bad (tsm Y i) (Y i) W (by rw [am2]; simpa using hE)
          have hno : okT X Y n = false := HN2.out (by rw [HSU.out, hA, hE]; rfl)
          have HNO := Lib.hid hno
          clear hA hE q1 q2 am1 am2 hno
          generalize tsm X i = p at *
          generalize tsm Y i = q at *
          generalize X i = xi at *
          generalize Y i = yi at *
          have hpx' := hpx
          have hs2' := hs2
          obtain ⟨x0, x1, _, _, x4⟩ := hpx
          obtain ⟨y0, y1, _, _, y4⟩ := hs2
          go_wp2_with (fail)
          with_reducible refine (ad _).mono ?_
          rintro e w2 ⟨rfl, d2⟩
          obtain ⟨x0', x1', _, _, x4'⟩ := hpx'.below d2
          obtain ⟨y0', y1', _, _, y4'⟩ := hs2'.below d2
          have hr3 := hr2.below d2
          have hb3 := hb2.trans (d2.mono (Nat.le_trans hb.size hbx.size))
          clear x0 x1 x4 y0 y1 y4 d0 d1 hs hr hr2 hpx' hs2'
          go_wp2_with (fail)
          with_reducible refine (ae _).mono ?_
          rintro e w3 ⟨rfl, d3⟩
          obtain ⟨r0, r1, f0, f1, rz⟩ := hr3.below d3
          have hb4 := hb3.trans (d3.mono hb3.size)
          clear x0' x1' x4' y0' y1' y4' hr3
          have hq := P2.store ⟨r0, r1, f0, f1, rz⟩ 0 0
          go_wp2
          exact bodyPost_ret (v := .tuple #[.agg #[.int .i64 0, .int .i64 0], .int .i64 10]) (by simp [results, Tryd.results79, go_sem, hq.1, hq.2.1]) rfl ⟨congrArg Ending.returned (totV_no HNO.out), (hb4.setCell (Nat.le_refl _) _).setCell (Nat.le_refl _) _⟩
        · obtain ⟨q5, q6⟩ := Bool.and_eq_true_iff.1 hE
          have ae := fun W => add_ok (tsm Y i) (Y i) W (by rw [am2, q5]; rfl) q6
          obtain ⟨q7, q8⟩ := amtB_yes q6
          have hyes : okT X Y (i + 1) = true := by rw [HSU.out, hA, hE]; rfl
          have HY := Lib.hid hyes
          clear hA hE q1 q2 q5 q6 am1 am2 hyes
          generalize tsm X i = p at *
          generalize tsm Y i = q at *
          generalize X i = xi at *
          generalize Y i = yi at *
          have hpx' := hpx
          have hs2' := hs2
          obtain ⟨x0, x1, _, _, x4⟩ := hpx
          obtain ⟨y0, y1, _, _, y4⟩ := hs2
          go_wp2_with (fail)
          with_reducible refine (ad _).mono ?_
          rintro e w2 ⟨rfl, d2⟩
          have hs3 := hs2'.below d2
          obtain ⟨x0', x1', _, _, x4'⟩ := hpx'.below d2
          obtain ⟨y0', y1', _, _, y4'⟩ := hs2'.below d2
          have hr3 := hr2.below d2
          have hb3 := hb2.trans (d2.mono (Nat.le_trans hb.size hbx.size))
          clear x0 x1 x4 y0 y1 y4 d0 d1 hs hr hr2 hpx' hs2'
          go_wp2_with (fail)
          with_reducible refine (ae _).mono ?_
          rintro e w3 ⟨rfl, d3⟩
          have hr4 := hr3.below d3
          have hs4 := hs3.below d3
          have hb4 := hb3.trans (d3.mono hb3.size)
          obtain ⟨r0, r1, f0, f1, rz⟩ := id hs4
          clear x0' x1' x4' y0' y1' y4' hr3 hs3
          have hs5 := hs4.store (p + xi) (q + yi)
          have hr5 := hr4.far (c := w.heap.size + 1) (by omega) (.int .i64 (p + xi)) (.int .i64 (q + yi))
          have hb5 := (hb4.setCell (p := ⟨w.heap.size + 1, 0, none⟩) (Nat.le_succ _) (.int .i64 (p + xi))).setCell (p := ⟨w.heap.size + 1, 1, none⟩) (Nat.le_succ _) (.int .i64 (q + yi))
          clear hs4 hr4 hb4
          go_wp2
          go_roundw
          case rel => exact ⟨i + 1, by omega, by go_num, HY.out, by rw [HT.out.1, HT.out.2]; exact hs5, hr5, hb5⟩
          case measure => first | omega | (simp [intOf]; omega)
    · obtain rfl : i = n := by omega
      have HOK := Lib.hid hok
      have hs0 := hs.1
      have hs1 := hs.2.1
      obtain ⟨r0, r1, f0, f1, rz⟩ := id hr
      have hq := hr.store (tsm X i) (tsm Y i)
      have hq0 := hq.1
      have hq1 := hq.2.1
      clear hok h hN am1 am2 hs hr hq
      generalize hp : tsm X i = p at *
      generalize hqq : tsm Y i = q at *
      have HP := Lib.hid (And.intro hp hqq)
      clear hp hqq
      go_wp2
      exact bodyPost_ret (v := .tuple #[.agg #[.int .i64 p, .int .i64 q], .int .i64 0]) (by simp [results, Tryd.results79, go_sem, hq0, hq1]) rfl ⟨congrArg Ending.returned (by rw [← HP.out.1, ← HP.out.2]; exact totV_yes HOK.out), (hb.setCell (Nat.le_refl _) _).setCell (Nat.le_refl _) _⟩
end Go.Proofs.YtgadlfdioakodabDoor
