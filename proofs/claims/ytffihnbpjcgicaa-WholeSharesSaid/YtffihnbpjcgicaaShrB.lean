/- What share.Post, share.New and the calls of share.Year answer. -/
import Derived.Test.YtffihnbpjcgicaaShrA
import Derived.Laws.CopyRow
namespace Go.Proofs.Ytffihnbpjcgicaa
open Go.RowKit Go.Sort
set_option linter.unusedVariables false
set_option linter.unusedSimpArgs false

theorem post_len (A B : Option Addr) (n m c d : Nat) (w : World) (h : n ≠ m) :
    Calls Try.prog 22 #[.slice A n c, .slice B m d] w fun e w' => e = .returned (.tuple #[.slice none 0 0, .int .i64 3]) ∧ Below w.heap.size w w' := by
  have q : ((n : Int) != (m : Int)) = true := by simp; omega
  go_enter Try.func22, Try.ntmps22
  go_wp2
  go_ret2
  exact ⟨rfl, Below.refl _ _⟩
/-- two rows together: both sides of each -/
theorem two_ok {n : Nat} {X Y U V : Nat → Int} (h : ∀ i, i < n → ((amtB (X i) && amtB (Y i)) && (amtB (U i) && amtB (V i)) && (amtB (X i + U i) && amtB (Y i + V i))) = true) : firstE (smE n (fun _ => n) (fun k i => if k = 0 then X i else U i) (fun k i => if k = 0 then Y i else V i)) 2 = 0 := by
  have h0 : smE n (fun _ => n) (fun k i => if k = 0 then X i else U i) (fun k i => if k = 0 then Y i else V i) 0 = 0 := by
    unfold smE
    rw [if_pos rfl]
    refine first_of_zero fun i hi => ?_
    have := h i hi
    simp only [Bool.and_eq_true] at this
    obtain ⟨⟨⟨a, b⟩, _⟩, _⟩ := this
    unfold itE
    simp [smS, a, b]
  have h1 : smE n (fun _ => n) (fun k i => if k = 0 then X i else U i) (fun k i => if k = 0 then Y i else V i) 1 = 0 := by
    unfold smE
    rw [if_pos rfl]
    refine first_of_zero fun i hi => ?_
    have := h i hi
    simp only [Bool.and_eq_true] at this
    obtain ⟨⟨⟨a, b⟩, c, d⟩, e, f⟩ := this
    unfold itE
    simp [smS, c, d, e, f]
  exact first_succ (first_succ rfl h0) h1
theorem post_ok (A B : Option Addr) (n c d : Nat) (X Y U V : Nat → Int) (w : World) (hA : Shs w A n X Y) (hB : Shs w B n U V) (hn : n ≤ 64) (h : ∀ i, i < n → ((amtB (X i) && amtB (Y i)) && (amtB (U i) && amtB (V i)) && (amtB (X i + U i) && amtB (Y i + V i))) = true) :
    Calls Try.prog 22 #[.slice A n c, .slice B n d] w fun e w' => ∃ b, e = .returned (.tuple #[.slice (some ⟨b, 0, none⟩) n n, .int .i64 0]) ∧ w.heap.size ≤ b ∧ ShB w' b n (fun i => X i + U i) (fun i => Y i + V i) ∧ Below w.heap.size w w' := by
  have q : ((n : Int) != (n : Int)) = false := by simp
  have K := bx_new w [.slice A n c, .slice B n d] 33
  have B1 := below_new w (.cells #[.slice A n c, .slice B n d] 33)
  have hM : RowsM (w.alloc (.cells #[.slice A n c, .slice B n d] 33)) (some ⟨w.heap.size, 0, none⟩) 2 (fun _ => n) (fun k i => if k = 0 then X i else U i) (fun k i => if k = 0 then Y i else V i) := fun _ => ⟨_, _, rfl, fun k hk => by
    rcases (show k = 0 ∨ k = 1 by omega) with rfl | rfl
    · exact ⟨A, c, K.cell rfl, hA.below B1⟩
    · exact ⟨B, d, K.cell rfl, hB.below B1⟩⟩
  have cS := sum_any n (some ⟨w.heap.size, 0, none⟩) 2 2 (fun _ => n) _ _ _ hM hn (by omega)
  have h0 := two_ok h
  clear hM K h hA hB
  go_enter Try.func22, Try.ntmps22
  go_wp2_with (fail)
  with_reducible refine cS.mono ?_
  rintro e w1 ⟨hok, _, hb⟩
  obtain ⟨b, rfl, hbl, HS⟩ := hok h0
  have B2 := below_step B1 hb B1.size
  have hz := B1.size
  have HSS := Lib.hid (HS.congr (X' := fun i => X i + U i) (Y' := fun i => Y i + V i) (fun i _ => by simp [smS]) (fun i _ => by simp [smS]))
  clear hok HS cS h0
  go_wp2
  go_ret2
  exact ⟨b, rfl, by omega, HSS.out, B2⟩
theorem sides_any (A : Option Addr) (n c : Nat) (w : World) (X Y : Nat → Int) (h : Shs w A n X Y) (hn : n ≤ 4611686018427387904) :
    Calls Try.prog 14 #[.slice A n c] w fun e w' => e = .returned (totV X Y n) ∧ Below w.heap.size w w' := by
  have K := bx_new w [.int .i64 0, .int .i64 0] 47
  have B1 := below_new w (.cells #[.int .i64 0, .int .i64 0] 47)
  have cT := total_any A n c _ X Y (h.below B1) hn
  have hv : totV X Y n = .tuple #[.agg #[.int .i64 (if okT X Y n = true then tsm X n else 0), .int .i64 (if okT X Y n = true then tsm Y n else 0)], .int .i64 (if okT X Y n = true then 0 else 10)] := rfl
  rw [hv] at cT ⊢
  generalize (if okT X Y n = true then tsm X n else 0) = u at *
  generalize (if okT X Y n = true then tsm Y n else 0) = v at *
  generalize (if okT X Y n = true then (0 : Int) else 10) = r at *
  clear hv h
  go_enter Try.func14, Try.ntmps14
  go_wp2_with (fail)
  with_reducible refine cT.mono ?_
  rintro e w1 ⟨rfl, hb⟩
  have B2 := below_step B1 hb B1.size
  replace K := K.below hb
  have k0 := K.cell (i := 0) rfl
  have k1 := K.cell (i := 1) rfl
  have f0 := K.fr 0
  have f1 := K.fr 1
  have Z := (K.set 0 (.int .i64 u)).set 1 (.int .i64 v)
  have z0 := Z.cell (i := 0) rfl
  have z1 := Z.cell (i := 1) rfl
  clear K Z cT hb B1
  go_wp2
  exact bodyPost_ret (v := .tuple #[.agg #[.int .i64 u, .int .i64 v], .int .i64 r]) (by simp [results, Try.results14, go_sem, z0, z1]) rfl ⟨rfl, (B2.setCell (p := ⟨w.heap.size, 0, none⟩) (Nat.le_refl _) _).setCell (p := ⟨w.heap.size, 1, none⟩) (Nat.le_refl _) _⟩
theorem new_range (n : Int) (w : World) (h : n < 0 ∨ 64 < n) :
    Calls Try.prog 4 #[.int .i64 n] w fun e w' => e = .returned (.tuple #[.pointer none, .int .i64 1]) ∧ Below w.heap.size w w' := by
  have cS := sum_range n none 0 0 w h
  clear h
  go_enter Try.func4, Try.ntmps4
  go_wp2_with (fail)
  with_reducible refine cS.mono ?_
  rintro e w1 ⟨rfl, hb⟩
  go_wp2
  go_ret2
  exact ⟨rfl, hb⟩
/-- a year in memory: its row, and how often something was posted -/
def YrO (W : World) (B p n : Nat) (X Y : Nat → Int) (k : Int) : Prop := ∃ b, Bx W p 55 [.slice (some ⟨b, 0, none⟩) n n, .int .i64 k] ∧ ShB W b n X Y ∧ B ≤ b ∧ B ≤ p ∧ b ≠ p
theorem YrO.below {W W' : World} {B p n : Nat} {X Y : Nat → Int} {k : Int} (h : YrO W B p n X Y k) (hb : Below W.heap.size W W') : YrO W' B p n X Y k := by
  obtain ⟨b, h1, h2, h3⟩ := h
  exact ⟨b, h1.below hb, h2.below hb, h3⟩
theorem new_ok (n : Nat) (w : World) (h : n ≤ 64) :
    Calls Try.prog 4 #[.int .i64 (n : Int)] w fun e w' => ∃ p, e = .returned (.tuple #[.pointer (some ⟨p, 0, none⟩), .int .i64 0]) ∧ YrO w' w.heap.size p n (fun _ => 0) (fun _ => 0) 0 ∧ Below w.heap.size w w' := by
  have cS := sum_any n none 0 0 (fun _ => 0) (fun _ _ => 0) (fun _ _ => 0) w (fun h0 => absurd h0 (Nat.lt_irrefl 0)) h (by omega)
  go_enter Try.func4, Try.ntmps4
  go_wp2_with (fail)
  with_reducible refine cS.mono ?_
  rintro e w1 ⟨hok, _, hb⟩
  obtain ⟨b, rfl, hbl, HS⟩ := hok rfl
  have hlt := World.rowIs.lt HS
  have K := bx_new w1 [.slice (some ⟨b, 0, none⟩) n n, .int .i64 0] 55
  have NB := below_new w1 (.cells #[.slice (some ⟨b, 0, none⟩) n n, .int .i64 0] 55)
  have B2 := below_step hb NB hb.size
  have HS2 := Lib.hid (HS.below NB)
  have hz := hb.size
  have HY := Lib.hid (show YrO _ w.heap.size w1.heap.size n (fun _ => 0) (fun _ => 0) 0 from ⟨b, K, HS2.out, hbl, hz, by omega⟩)
  clear hok HS cS K NB HS2
  go_wp2
  go_ret2
  exact ⟨_, rfl, HY.out, B2⟩
theorem posts_is {W : World} {B p n : Nat} {X Y : Nat → Int} {k : Int} (h : YrO W B p n X Y k) :
    Calls Try.prog 16 #[.pointer (some ⟨p, 0, none⟩)] W fun e w' => e = .returned (.int .i64 k) ∧ W = w' := by
  obtain ⟨b, K, _⟩ := h
  have k1 := K.cell (i := 1) rfl
  have k0 := K.cell (i := 0) rfl
  clear K
  go_enter Try.func16, Try.ntmps16
  go_wp2
  go_ret
  exact ⟨rfl, rfl⟩
theorem YrO.row {W : World} {B p n : Nat} {X Y : Nat → Int} {k : Int} (h : YrO W B p n X Y k) : ∃ b, W.cell? ⟨p, 0, none⟩ = some (.slice (some ⟨b, 0, none⟩) n n) ∧ Shs W (some ⟨b, 0, none⟩) n X Y := by
  obtain ⟨b, K, S, _⟩ := h
  exact ⟨b, K.cell rfl, S.shs⟩
theorem reach_len (A : Option Addr) (m c : Nat) {W : World} {B p n : Nat} {X Y : Nat → Int} {k : Int} (h : YrO W B p n X Y k) (hm : m ≠ n) :
    Calls Try.prog 12 #[.pointer (some ⟨p, 0, none⟩), .slice A m c] W fun e w' => e = .returned (.tuple #[.slice none 0 0, .int .i64 3]) ∧ Below W.heap.size W w' := by
  obtain ⟨b, k0, S⟩ := h.row
  have cD := delta_len A (some ⟨b, 0, none⟩) m n c n W hm
  clear h S
  go_enter Try.func12, Try.ntmps12
  go_wp2_with (fail)
  with_reducible refine cD.mono ?_
  rintro e w1 ⟨rfl, hb⟩
  go_wp2
  go_ret2
  exact ⟨rfl, hb⟩
theorem reach_bad (A : Option Addr) (c : Nat) {W : World} {B p n : Nat} {X Y U V : Nat → Int} {k : Int} (h : YrO W B p n X Y k) (hA : Shs W A n U V) (hn : n ≤ 1000) (hE : firstE (dlE U V X Y) n ≠ 0) :
    Calls Try.prog 12 #[.pointer (some ⟨p, 0, none⟩), .slice A n c] W fun e w' => e = .returned (.tuple #[.slice none 0 0, .int .i64 10]) ∧ Below W.heap.size W w' := by
  obtain ⟨b, k0, S⟩ := h.row
  have cD := delta_any A (some ⟨b, 0, none⟩) n c n U V X Y W hA S hn
  have HE := Lib.hid hE
  clear h S hE
  go_enter Try.func12, Try.ntmps12
  go_wp2_with (fail)
  with_reducible refine cD.mono ?_
  rintro e w1 ⟨_, hbad, hb⟩
  obtain rfl := hbad HE.out
  clear hbad
  go_wp2
  go_ret2
  exact ⟨rfl, hb⟩
set_option maxHeartbeats 1000000 in
theorem reach_ok (A : Option Addr) (c : Nat) {W : World} {B p n : Nat} {X Y U V : Nat → Int} {k : Int} (h : YrO W B p n X Y k) (hA : Shs W A n U V) (hn : n ≤ 64) (hB : B ≤ W.heap.size) (hE : firstE (dlE U V X Y) n = 0) (hk0 : 0 ≤ k) (hk : k ≤ 1000000) :
    Calls Try.prog 12 #[.pointer (some ⟨p, 0, none⟩), .slice A n c] W fun e w' => ∃ v, e = .returned (.tuple #[v, .int .i64 0]) ∧ w'.ownsRow W.heap.size 47 2 v n (shc (dlL U V X Y n)) ∧ YrO w' B p n U V (k + 1) ∧ (∀ q, q < W.heap.size → q ≠ p → w'.heap[q]? = W.heap[q]?) ∧ W.heap.size ≤ w'.heap.size ∧ ∀ w0, Below B w0 W → Below B w0 w' := by
  have hle : ∀ i, i < n → leB (U i) (V i) (X i) (Y i) = true := fun i hi => by
    have := first_zero hE i hi
    unfold dlE at this
    cases hq : leB (U i) (V i) (X i) (Y i)
    · rw [hq] at this; simp at this
    · rfl
  obtain ⟨b, K, S, hb1, hb2, hb3⟩ := id h
  have hpl := K.lt
  have k0 := K.cell (i := 0) rfl
  have cD := delta_any A (some ⟨b, 0, none⟩) n c n U V X Y W hA S.shs (by omega)
  have HE := Lib.hid hE
  have HLE := Lib.hid hle
  have HSS := Lib.hid S
  have hw1 : wrap64 (k + 1) = k + 1 := IntWalk.wrap64_in _ (by omega)
  clear h hE hle S
  go_enter Try.func12, Try.ntmps12
  go_wp2_with (fail)
  with_reducible refine cD.mono ?_
  rintro e w1 ⟨hok, _, NB⟩
  obtain ⟨v, rfl, HO⟩ := hok HE.out
  obtain ⟨Av, cv, rfl, _, hAv⟩ := own_len HO
  have hsv := shs_own HO
  have cP := post_ok (some ⟨b, 0, none⟩) Av n n cv X Y (fun i => U i - X i) (fun i => V i - Y i) w1 (HSS.out.shs.below NB) hsv hn (fun i hi => by
    have := HLE.out i hi
    unfold leB at this
    simp only [Bool.and_eq_true] at this
    obtain ⟨⟨⟨a1, a2⟩, a3⟩, ⟨a4, a5⟩, a6⟩ := this
    simp only [Bool.and_eq_true]
    exact ⟨⟨⟨a2, a5⟩, a3, a6⟩, by rw [show X i + (U i - X i) = U i by omega]; exact a1, by rw [show Y i + (V i - Y i) = V i by omega]; exact a4⟩)
  replace K := K.below NB
  have k0 := K.cell (i := 0) rfl
  have HOO := Lib.hid HO
  clear hok HO hsv cD hA
  go_wp2_with (fail)
  with_reducible refine cP.mono ?_
  rintro e w2 ⟨b', rfl, hb', HS, NB2⟩
  have NB3 := below_step NB NB2 NB.size
  replace K := K.below NB2
  have k0 := K.cell (i := 0) rfl
  have k1 := K.cell (i := 1) rfl
  have f0 := K.fr 0
  have f1 := K.fr 1
  have HS2 := Lib.hid (HS.congr (X' := U) (Y' := V) (fun i _ => by omega) (fun i _ => by omega))
  have HO2 := Lib.hid (own_below HOO.out NB2)
  have Z := (K.set 0 (.slice (some ⟨b', 0, none⟩) n n)).set 1 (.int .i64 (k + 1))
  have Y1 := K.set 0 (.slice (some ⟨b', 0, none⟩) n n)
  have y1 := Y1.cell (i := 1) rfl
  have y2 := Y1.fr 1
  have hz := NB.size
  have HZ := Lib.hid Z
  clear HS cP K Z Y1
  go_wp2
  go_ret2
  refine ⟨_, rfl, ?_, ⟨b', HZ.out, ?_, by omega, hb2, by omega⟩, fun q hq hqp => ((Go.Deep.blk_setCell_other _ _ _ _ hqp).trans (Go.Deep.blk_setCell_other _ _ _ _ hqp)).trans (NB3.block q hq), by have := NB3.size; simpa [World.setCell] using this, fun w0 h0 => ((h0.trans (NB3.mono hB)).setCell (p := ⟨p, 0, none⟩) hb2 _).setCell (p := ⟨p, 1, none⟩) hb2 _⟩
  · exact own_other (own_other HO2.out hpl 0 _) hpl 1 _
  · exact World.rowIs.setOther (World.rowIs.setOther HS2.out (a := ⟨p, 0, none⟩) (by show b' ≠ p; omega) _) (a := ⟨p, 1, none⟩) (by show b' ≠ p; omega) _
end Go.Proofs.Ytffihnbpjcgicaa
