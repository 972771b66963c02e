/- What year.together and year.New answer. -/
import Derived.Test.YtfnjhalpedccaaaYrI
import Derived.Test.YtfnjhalpedccaaaStA
namespace Go.Proofs.Ytfnjhalpedccaaa
open Go.RowKit Go.Sort
set_option linter.unusedVariables false
set_option linter.unusedSimpArgs false

/-- what the first ones come to -/
def totG (g : Nat → Slp) : Nat → Tot
  | 0 => Tot.z
  | i + 1 => (totG g i).add (g i)
def ZTV : Value := .agg #[.int .i64 0, .int .i64 0, .int .i64 0, .int .i64 0, .int .i64 0, .slice none 0 0, .int .i64 0, .int .i64 0, .int .i64 0]
/-- the value of totals -/
def Tot.v (t : Tot) (A : Option Addr) (n c : Nat) : Value := .agg #[.int .i64 t.ca, .int .i64 t.tb, .int .i64 t.so, .int .i64 t.tx, .int .i64 t.sf, .slice A n c, .int .i64 t.net, .int .i64 t.tk, .int .i64 t.pay]
set_option maxHeartbeats 2000000 in
theorem tog_range (n : Int) (A : Option Addr) (m q : Nat) (w : World) (h : n < 0 ∨ 64 < n) :
    Calls Try.prog 38 #[.int .i64 n, .slice A m q] w fun e w' => e = .returned (.tuple #[.agg #[.int .i64 0, .int .i64 0, .int .i64 0, .int .i64 0, .int .i64 0, .slice none 0 0, .int .i64 0, .int .i64 0, .int .i64 0], .int .i64 1]) ∧ Below w.heap.size w w' := by
  have cS := fun w => sum_range n none 0 0 w h
  clear h
  have K0 : Bx (w.alloc (.cells #[.int .i64 0, .int .i64 0, .int .i64 0, .int .i64 0, .int .i64 0, .slice none 0 0, .int .i64 0, .int .i64 0, .int .i64 0] 34)) (w.heap.size) 34 [.int .i64 0, .int .i64 0, .int .i64 0, .int .i64 0, .int .i64 0, .slice none 0 0, .int .i64 0, .int .i64 0, .int .i64 0] := bx_new w [.int .i64 0, .int .i64 0, .int .i64 0, .int .i64 0, .int .i64 0, .slice none 0 0, .int .i64 0, .int .i64 0, .int .i64 0] 34
  have B : Below w.heap.size w (w.alloc (.cells #[.int .i64 0, .int .i64 0, .int .i64 0, .int .i64 0, .int .i64 0, .slice none 0 0, .int .i64 0, .int .i64 0, .int .i64 0] 34)) := ((Below.refl _ _).alloc (Nat.le_refl _) _)
  have k0_0 := K0.cell (i := 0) rfl
  have k0_1 := K0.cell (i := 1) rfl
  have k0_2 := K0.cell (i := 2) rfl
  have k0_3 := K0.cell (i := 3) rfl
  have k0_4 := K0.cell (i := 4) rfl
  have k0_5 := K0.cell (i := 5) rfl
  have k0_6 := K0.cell (i := 6) rfl
  have k0_7 := K0.cell (i := 7) rfl
  have k0_8 := K0.cell (i := 8) rfl
  go_enter Try.func38, Try.ntmps38
  go_wp2_with (fail)
  with_reducible refine (cS _).mono ?_
  rintro e w1 ⟨rfl, hb⟩
  clear k0_0 k0_1 k0_2 k0_3 k0_4 k0_5 k0_6 k0_7 k0_8
  replace K0 := K0.below hb
  replace B := below_step B hb B.size
  clear hb
  have k0_0 := K0.cell (i := 0) rfl
  have k0_1 := K0.cell (i := 1) rfl
  have k0_2 := K0.cell (i := 2) rfl
  have k0_3 := K0.cell (i := 3) rfl
  have k0_4 := K0.cell (i := 4) rfl
  have k0_5 := K0.cell (i := 5) rfl
  have k0_6 := K0.cell (i := 6) rfl
  have k0_7 := K0.cell (i := 7) rfl
  have k0_8 := K0.cell (i := 8) rfl
  clear cS
  have g_0 := K0.fr 0
  have g_1 := K0.fr 1
  have g_2 := K0.fr 2
  have g_3 := K0.fr 3
  have g_4 := K0.fr 4
  have g_5 := K0.fr 5
  have g_6 := K0.fr 6
  have g_7 := K0.fr 7
  have g_8 := K0.fr 8
  have Z := stAll_self K0 [.int .i64 0, .int .i64 0, .int .i64 0, .int .i64 0, .int .i64 0, .slice none 0 0, .int .i64 0, .int .i64 0, .int .i64 0] rfl
  have z_0 := Z.cell (i := 0) rfl
  have z_1 := Z.cell (i := 1) rfl
  have z_2 := Z.cell (i := 2) rfl
  have z_3 := Z.cell (i := 3) rfl
  have z_4 := Z.cell (i := 4) rfl
  have z_5 := Z.cell (i := 5) rfl
  have z_6 := Z.cell (i := 6) rfl
  have z_7 := Z.cell (i := 7) rfl
  have z_8 := Z.cell (i := 8) rfl
  have BZ := stAll_below (p := w.heap.size) (Nat.le_refl _) [.int .i64 0, .int .i64 0, .int .i64 0, .int .i64 0, .int .i64 0, .slice none 0 0, .int .i64 0, .int .i64 0, .int .i64 0] w1 0 B
  clear Z K0 B
  go_wp2
  exact bodyPost_ret (v := .tuple #[.agg #[.int .i64 0, .int .i64 0, .int .i64 0, .int .i64 0, .int .i64 0, .slice none 0 0, .int .i64 0, .int .i64 0, .int .i64 0], .int .i64 1]) (by simp [results, Try.results38, go_sem, stAll] at z_0 z_1 z_2 z_3 z_4 z_5 z_6 z_7 z_8 ⊢; simp [results, Try.results38, go_sem, z_0, z_1, z_2, z_3, z_4, z_5, z_6, z_7, z_8]) rfl ⟨rfl, BZ⟩
/-- what together leaves -/
def TogP (t : Tot) (n : Nat) (w : World) (e : Ending) (w' : World) : Prop := ∃ b, e = .returned (.tuple #[.agg #[.int .i64 t.ca, .int .i64 t.tb, .int .i64 t.so, .int .i64 t.tx, .int .i64 t.sf, .slice (some ⟨b, 0, none⟩) n n, .int .i64 t.net, .int .i64 t.tk, .int .i64 t.pay], .int .i64 0]) ∧ w.heap.size ≤ b ∧ ShB w' b n t.X t.Y ∧ Below w.heap.size w w'
set_option maxRecDepth 100000 in
set_option maxHeartbeats 8000000 in
theorem tog_ok (n : Nat) (A : Option Addr) (N q : Nat) (g : Nat → Slp) (w : World) (hA : Sls w A N g) (hn : n ≤ 64) (hN : N ≤ 1000) (hg : ∀ i, i < N → (g i).OK n ∧ (g i).m ≤ 100000) (ht : ∀ i, i ≤ N → (totG g i).rB n = true) :
    Calls Try.prog 38 #[.int .i64 (n : Int), .slice A N q] w (TogP (totG g N) n w) := by
  unfold TogP
  have cS := fun w => sum_any n none 0 0 (fun _ => 0) (fun _ _ => 0) (fun _ _ => 0) w (fun h0 => absurd h0 (Nat.lt_irrefl 0)) hn (by omega)
  have HG := Lib.hid hg
  have HT := Lib.hid ht
  have HA := Lib.hid hA
  clear hg ht hA
  have K0 : Bx (w.alloc (.cells #[.int .i64 0, .int .i64 0, .int .i64 0, .int .i64 0, .int .i64 0, .slice none 0 0, .int .i64 0, .int .i64 0, .int .i64 0] 34)) (w.heap.size) 34 [.int .i64 0, .int .i64 0, .int .i64 0, .int .i64 0, .int .i64 0, .slice none 0 0, .int .i64 0, .int .i64 0, .int .i64 0] := bx_new w [.int .i64 0, .int .i64 0, .int .i64 0, .int .i64 0, .int .i64 0, .slice none 0 0, .int .i64 0, .int .i64 0, .int .i64 0] 34
  have B : Below w.heap.size w (w.alloc (.cells #[.int .i64 0, .int .i64 0, .int .i64 0, .int .i64 0, .int .i64 0, .slice none 0 0, .int .i64 0, .int .i64 0, .int .i64 0] 34)) := ((Below.refl _ _).alloc (Nat.le_refl _) _)
  have k0_0 := K0.cell (i := 0) rfl
  have k0_1 := K0.cell (i := 1) rfl
  have k0_2 := K0.cell (i := 2) rfl
  have k0_3 := K0.cell (i := 3) rfl
  have k0_4 := K0.cell (i := 4) rfl
  have k0_5 := K0.cell (i := 5) rfl
  have k0_6 := K0.cell (i := 6) rfl
  have k0_7 := K0.cell (i := 7) rfl
  have k0_8 := K0.cell (i := 8) rfl
  go_enter Try.func38, Try.ntmps38
  go_wp2_with (fail)
  with_reducible refine (cS _).mono ?_
  rintro e w1 ⟨hok, _, hb⟩
  clear k0_0 k0_1 k0_2 k0_3 k0_4 k0_5 k0_6 k0_7 k0_8
  replace K0 := K0.below hb
  replace B := below_step B hb B.size
  clear hb
  have k0_0 := K0.cell (i := 0) rfl
  have k0_1 := K0.cell (i := 1) rfl
  have k0_2 := K0.cell (i := 2) rfl
  have k0_3 := K0.cell (i := 3) rfl
  have k0_4 := K0.cell (i := 4) rfl
  have k0_5 := K0.cell (i := 5) rfl
  have k0_6 := K0.cell (i := 6) rfl
  have k0_7 := K0.cell (i := 7) rfl
  have k0_8 := K0.cell (i := 8) rfl
  clear cS
  obtain ⟨b, rfl, hbl, HS⟩ := hok rfl
  clear hok
  replace hbl : w.heap.size + 1 ≤ b := by simpa using hbl
  have HS := Lib.hid (show ShB w1 b n (fun _ => 0) (fun _ => 0) from HS)
  have hz1 : w.heap.size < w1.heap.size := K0.lt
  have HS := Lib.hid (HS.out.below (below_new w1 (.cells #[.int .i64 0, .int .i64 0, .int .i64 0, .int .i64 0, .int .i64 0, .slice (some ⟨b, 0, none⟩) n n, .int .i64 0, .int .i64 0, .int .i64 0] 34)))
  have NBn := below_new w1 (.cells #[.int .i64 0, .int .i64 0, .int .i64 0, .int .i64 0, .int .i64 0, .slice (some ⟨b, 0, none⟩) n n, .int .i64 0, .int .i64 0, .int .i64 0] 34)
  have K8 := bx_new w1 [.int .i64 0, .int .i64 0, .int .i64 0, .int .i64 0, .int .i64 0, .slice (some ⟨b, 0, none⟩) n n, .int .i64 0, .int .i64 0, .int .i64 0] 34
  clear k0_0 k0_1 k0_2 k0_3 k0_4 k0_5 k0_6 k0_7 k0_8
  replace K0 := K0.below NBn
  replace B := below_step B NBn B.size
  clear NBn
  have k0_0 := K0.cell (i := 0) rfl
  have k0_1 := K0.cell (i := 1) rfl
  have k0_2 := K0.cell (i := 2) rfl
  have k0_3 := K0.cell (i := 3) rfl
  have k0_4 := K0.cell (i := 4) rfl
  have k0_5 := K0.cell (i := 5) rfl
  have k0_6 := K0.cell (i := 6) rfl
  have k0_7 := K0.cell (i := 7) rfl
  have k0_8 := K0.cell (i := 8) rfl
  have k8_0 := K8.cell (i := 0) rfl
  have k8_1 := K8.cell (i := 1) rfl
  have k8_2 := K8.cell (i := 2) rfl
  have k8_3 := K8.cell (i := 3) rfl
  have k8_4 := K8.cell (i := 4) rfl
  have k8_5 := K8.cell (i := 5) rfl
  have k8_6 := K8.cell (i := 6) rfl
  have k8_7 := K8.cell (i := 7) rfl
  have k8_8 := K8.cell (i := 8) rfl
  go_wp2
  generalize hW : (w1.alloc (.cells #[.int .i64 0, .int .i64 0, .int .i64 0, .int .i64 0, .int .i64 0, .slice (some ⟨b, 0, none⟩) n n, .int .i64 0, .int .i64 0, .int .i64 0] 34)) = c0w at *
  clear hW
  have hb8 : b ≠ w1.heap.size := by
    intro e
    subst e
    have h1 : c0w.heap[w1.heap.size]? = _ := K8
    obtain ⟨cc, h2, _⟩ := HS.out
    rw [h1] at h2
    have := (Option.some.inj h2)
    simp at this
  generalize w1.heap.size = p8 at *
  clear k0_0 k0_1 k0_2 k0_3 k0_4 k0_5 k0_6 k0_7 k0_8 k8_0 k8_1 k8_2 k8_3 k8_4 k8_5 k8_6 k8_7 k8_8
  go_loopw [24] (fun k W => ∃ (i b : Nat), i ≤ N ∧ k = .int .i64 i ∧ Bx W p8 34 [.int .i64 (totG g i).ca, .int .i64 (totG g i).tb, .int .i64 (totG g i).so, .int .i64 (totG g i).tx, .int .i64 (totG g i).sf, .slice (some ⟨b, 0, none⟩) n n, .int .i64 (totG g i).net, .int .i64 (totG g i).tk, .int .i64 (totG g i).pay] ∧ Bx W w.heap.size 34 [.int .i64 0, .int .i64 0, .int .i64 0, .int .i64 0, .int .i64 0, .slice none 0 0, .int .i64 0, .int .i64 0, .int .i64 0] ∧ ShB W b n (totG g i).X (totG g i).Y ∧ w.heap.size < b ∧ b ≠ p8 ∧ Below w.heap.size w W) (fun k _ => N - (intOf k).toNat)
  case atStart => exact ⟨0, b, Nat.zero_le _, rfl, K8, K0, HS.out, by omega, hb8, B⟩
  case round =>
    clear K8 K0 HS B hbl hb8
    obtain ⟨i, b, hi, rfl, K8, K0, HS, hbl, hb8, B⟩ := hrel
    replace HS := Lib.hid HS
    have hl0 := K0.lt
    have hl8 := K8.lt
    have hlb := World.rowIs.lt HS.out
    by_cases hlt : i < N
    · obtain ⟨b1, o1, rfl, hc⟩ := HA.out (by omega)
      obtain ⟨hAt, hM⟩ := hc i hlt
      replace hAt := hAt.below B
      replace hM := hM.below B
      obtain ⟨x_0, x_1, x_2, x_3, x_4, x_5, x_6, x_7, x_8, x_9⟩ := hAt.all
      have hil : (i : Int) < (N : Int) := by omega
      obtain ⟨hok, hm⟩ := HG.out i hlt
      have cW := fun W h0 hM => with_ok (totG g i) (some ⟨b, 0, none⟩) n (g i) n W h0 hM hok hn hm (HT.out i (by omega)) (HT.out (i + 1) (by omega))
      have HTS : Hid (totG g (i + 1) = (totG g i).add (g i)) := Lib.hid rfl
      clear hc hok hm hAt
      generalize (totG g i).add (g i) = T2 at *
      generalize totG g i = T1 at *
      generalize g i = s at *
      have k0_0 := K0.cell (i := 0) rfl
      have k0_1 := K0.cell (i := 1) rfl
      have k0_2 := K0.cell (i := 2) rfl
      have k0_3 := K0.cell (i := 3) rfl
      have k0_4 := K0.cell (i := 4) rfl
      have k0_5 := K0.cell (i := 5) rfl
      have k0_6 := K0.cell (i := 6) rfl
      have k0_7 := K0.cell (i := 7) rfl
      have k0_8 := K0.cell (i := 8) rfl
      have k8_0 := K8.cell (i := 0) rfl
      have k8_1 := K8.cell (i := 1) rfl
      have k8_2 := K8.cell (i := 2) rfl
      have k8_3 := K8.cell (i := 3) rfl
      have k8_4 := K8.cell (i := 4) rfl
      have k8_5 := K8.cell (i := 5) rfl
      have k8_6 := K8.cell (i := 6) rfl
      have k8_7 := K8.cell (i := 7) rfl
      have k8_8 := K8.cell (i := 8) rfl
      replace HS := Lib.hid (HS.out.below (below_new wr (.cells #[.int .i64 s.k, .int .i64 s.ca, .int .i64 s.tb, .int .i64 s.so, .int .i64 s.tx, .int .i64 s.sf, .slice s.A s.n s.c, .int .i64 s.net, .slice s.T s.m s.d, .int .i64 s.pay] 37)))
      replace hM := hM.below (below_new wr (.cells #[.int .i64 s.k, .int .i64 s.ca, .int .i64 s.tb, .int .i64 s.so, .int .i64 s.tx, .int .i64 s.sf, .slice s.A s.n s.c, .int .i64 s.net, .slice s.T s.m s.d, .int .i64 s.pay] 37))
      have NBn := below_new wr (.cells #[.int .i64 s.k, .int .i64 s.ca, .int .i64 s.tb, .int .i64 s.so, .int .i64 s.tx, .int .i64 s.sf, .slice s.A s.n s.c, .int .i64 s.net, .slice s.T s.m s.d, .int .i64 s.pay] 37)
      have KS := bx_new wr [.int .i64 s.k, .int .i64 s.ca, .int .i64 s.tb, .int .i64 s.so, .int .i64 s.tx, .int .i64 s.sf, .slice s.A s.n s.c, .int .i64 s.net, .slice s.T s.m s.d, .int .i64 s.pay] 37
      clear k0_0 k0_1 k0_2 k0_3 k0_4 k0_5 k0_6 k0_7 k0_8 k8_0 k8_1 k8_2 k8_3 k8_4 k8_5 k8_6 k8_7 k8_8
      replace K0 := K0.below NBn
      replace K8 := K8.below NBn
      replace B := below_step B NBn B.size
      clear NBn
      have k0_0 := K0.cell (i := 0) rfl
      have k0_1 := K0.cell (i := 1) rfl
      have k0_2 := K0.cell (i := 2) rfl
      have k0_3 := K0.cell (i := 3) rfl
      have k0_4 := K0.cell (i := 4) rfl
      have k0_5 := K0.cell (i := 5) rfl
      have k0_6 := K0.cell (i := 6) rfl
      have k0_7 := K0.cell (i := 7) rfl
      have k0_8 := K0.cell (i := 8) rfl
      have k8_0 := K8.cell (i := 0) rfl
      have k8_1 := K8.cell (i := 1) rfl
      have k8_2 := K8.cell (i := 2) rfl
      have k8_3 := K8.cell (i := 3) rfl
      have k8_4 := K8.cell (i := 4) rfl
      have k8_5 := K8.cell (i := 5) rfl
      have k8_6 := K8.cell (i := 6) rfl
      have k8_7 := K8.cell (i := 7) rfl
      have k8_8 := K8.cell (i := 8) rfl
      have ks_0 := KS.cell (i := 0) rfl
      have ks_1 := KS.cell (i := 1) rfl
      have ks_2 := KS.cell (i := 2) rfl
      have ks_3 := KS.cell (i := 3) rfl
      have ks_4 := KS.cell (i := 4) rfl
      have ks_5 := KS.cell (i := 5) rfl
      have ks_6 := KS.cell (i := 6) rfl
      have ks_7 := KS.cell (i := 7) rfl
      have ks_8 := KS.cell (i := 8) rfl
      have ks_9 := KS.cell (i := 9) rfl
      go_wp2_with (fail)
      clear x_0 x_1 x_2 x_3 x_4 x_5 x_6 x_7 x_8 x_9
      with_reducible refine (cW _ HS.out.shs hM).mono ?_
      rintro e w5 ⟨b', rfl, hb', HS', hb⟩
      clear cW HS hM
      replace hb' : wr.heap.size + 1 ≤ b' := by simpa using hb'
      replace HS' := Lib.hid HS'
      clear k0_0 k0_1 k0_2 k0_3 k0_4 k0_5 k0_6 k0_7 k0_8 k8_0 k8_1 k8_2 k8_3 k8_4 k8_5 k8_6 k8_7 k8_8 ks_0 ks_1 ks_2 ks_3 ks_4 ks_5 ks_6 ks_7 ks_8 ks_9
      replace K0 := K0.below hb
      replace K8 := K8.below hb
      replace KS := KS.below hb
      replace B := below_step B hb B.size
      clear hb
      have k0_0 := K0.cell (i := 0) rfl
      have k0_1 := K0.cell (i := 1) rfl
      have k0_2 := K0.cell (i := 2) rfl
      have k0_3 := K0.cell (i := 3) rfl
      have k0_4 := K0.cell (i := 4) rfl
      have k0_5 := K0.cell (i := 5) rfl
      have k0_6 := K0.cell (i := 6) rfl
      have k0_7 := K0.cell (i := 7) rfl
      have k0_8 := K0.cell (i := 8) rfl
      have k8_0 := K8.cell (i := 0) rfl
      have k8_1 := K8.cell (i := 1) rfl
      have k8_2 := K8.cell (i := 2) rfl
      have k8_3 := K8.cell (i := 3) rfl
      have k8_4 := K8.cell (i := 4) rfl
      have k8_5 := K8.cell (i := 5) rfl
      have k8_6 := K8.cell (i := 6) rfl
      have k8_7 := K8.cell (i := 7) rfl
      have k8_8 := K8.cell (i := 8) rfl
      have ks_0 := KS.cell (i := 0) rfl
      have ks_1 := KS.cell (i := 1) rfl
      have ks_2 := KS.cell (i := 2) rfl
      have ks_3 := KS.cell (i := 3) rfl
      have ks_4 := KS.cell (i := 4) rfl
      have ks_5 := KS.cell (i := 5) rfl
      have ks_6 := KS.cell (i := 6) rfl
      have ks_7 := KS.cell (i := 7) rfl
      have ks_8 := KS.cell (i := 8) rfl
      have ks_9 := KS.cell (i := 9) rfl
      clear ks_0 ks_1 ks_2 ks_3 ks_4 ks_5 ks_6 ks_7 ks_8 ks_9 KS
      have g_0 := K8.fr 0
      have g_1 := K8.fr 1
      have g_2 := K8.fr 2
      have g_3 := K8.fr 3
      have g_4 := K8.fr 4
      have g_5 := K8.fr 5
      have g_6 := K8.fr 6
      have g_7 := K8.fr 7
      have g_8 := K8.fr 8
      have Z8 := stAll_self K8 [.int .i64 T2.ca, .int .i64 T2.tb, .int .i64 T2.so, .int .i64 T2.tx, .int .i64 T2.sf, .slice (some ⟨b', 0, none⟩) n n, .int .i64 T2.net, .int .i64 T2.tk, .int .i64 T2.pay] rfl
      have Z0 := stAll_bx K0 (p := p8) (by omega) [.int .i64 T2.ca, .int .i64 T2.tb, .int .i64 T2.so, .int .i64 T2.tx, .int .i64 T2.sf, .slice (some ⟨b', 0, none⟩) n n, .int .i64 T2.net, .int .i64 T2.tk, .int .i64 T2.pay] 0
      have ZS := Lib.hid (stAll_sh HS'.out (p := p8) (by omega) [.int .i64 T2.ca, .int .i64 T2.tb, .int .i64 T2.so, .int .i64 T2.tx, .int .i64 T2.sf, .slice (some ⟨b', 0, none⟩) n n, .int .i64 T2.net, .int .i64 T2.tk, .int .i64 T2.pay] 0)
      have BZ := stAll_below (p := p8) (by omega) [.int .i64 T2.ca, .int .i64 T2.tb, .int .i64 T2.so, .int .i64 T2.tx, .int .i64 T2.sf, .slice (some ⟨b', 0, none⟩) n n, .int .i64 T2.net, .int .i64 T2.tk, .int .i64 T2.pay] w5 0 B
      clear k0_0 k0_1 k0_2 k0_3 k0_4 k0_5 k0_6 k0_7 k0_8 k8_0 k8_1 k8_2 k8_3 k8_4 k8_5 k8_6 k8_7 k8_8
      have k0_0 := K0.cell (i := 0) rfl
      have k0_1 := K0.cell (i := 1) rfl
      have k0_2 := K0.cell (i := 2) rfl
      have k0_3 := K0.cell (i := 3) rfl
      have k0_4 := K0.cell (i := 4) rfl
      have k0_5 := K0.cell (i := 5) rfl
      have k0_6 := K0.cell (i := 6) rfl
      have k0_7 := K0.cell (i := 7) rfl
      have k0_8 := K0.cell (i := 8) rfl
      have k8_0 := K8.cell (i := 0) rfl
      have k8_1 := K8.cell (i := 1) rfl
      have k8_2 := K8.cell (i := 2) rfl
      have k8_3 := K8.cell (i := 3) rfl
      have k8_4 := K8.cell (i := 4) rfl
      have k8_5 := K8.cell (i := 5) rfl
      have k8_6 := K8.cell (i := 6) rfl
      have k8_7 := K8.cell (i := 7) rfl
      have k8_8 := K8.cell (i := 8) rfl
      clear K0 K8 HS' B
      go_wp2
      refine ⟨⟨i + 1, b', by omega, by go_num, ?_⟩, ?_⟩
      · rw [HTS.out]; exact ⟨Z8, Z0, ZS.out, by omega, by omega, BZ⟩
      simp [intOf]; omega
    · obtain rfl : N = i := by omega
      have hnl : ¬ (N : Int) < (N : Int) := by omega
      have k8_0 := K8.cell (i := 0) rfl
      have k0_0 := K0.cell (i := 0) rfl
      have g_0 := K0.fr 0
      have k8_1 := K8.cell (i := 1) rfl
      have k0_1 := K0.cell (i := 1) rfl
      have g_1 := K0.fr 1
      have k8_2 := K8.cell (i := 2) rfl
      have k0_2 := K0.cell (i := 2) rfl
      have g_2 := K0.fr 2
      have k8_3 := K8.cell (i := 3) rfl
      have k0_3 := K0.cell (i := 3) rfl
      have g_3 := K0.fr 3
      have k8_4 := K8.cell (i := 4) rfl
      have k0_4 := K0.cell (i := 4) rfl
      have g_4 := K0.fr 4
      have k8_5 := K8.cell (i := 5) rfl
      have k0_5 := K0.cell (i := 5) rfl
      have g_5 := K0.fr 5
      have k8_6 := K8.cell (i := 6) rfl
      have k0_6 := K0.cell (i := 6) rfl
      have g_6 := K0.fr 6
      have k8_7 := K8.cell (i := 7) rfl
      have k0_7 := K0.cell (i := 7) rfl
      have g_7 := K0.fr 7
      have k8_8 := K8.cell (i := 8) rfl
      have k0_8 := K0.cell (i := 8) rfl
      have g_8 := K0.fr 8
      have Z := stAll_self K0 [.int .i64 (totG g N).ca, .int .i64 (totG g N).tb, .int .i64 (totG g N).so, .int .i64 (totG g N).tx, .int .i64 (totG g N).sf, .slice (some ⟨b, 0, none⟩) n n, .int .i64 (totG g N).net, .int .i64 (totG g N).tk, .int .i64 (totG g N).pay] rfl
      have z_0 := Z.cell (i := 0) rfl
      have z_1 := Z.cell (i := 1) rfl
      have z_2 := Z.cell (i := 2) rfl
      have z_3 := Z.cell (i := 3) rfl
      have z_4 := Z.cell (i := 4) rfl
      have z_5 := Z.cell (i := 5) rfl
      have z_6 := Z.cell (i := 6) rfl
      have z_7 := Z.cell (i := 7) rfl
      have z_8 := Z.cell (i := 8) rfl
      have ZS := Lib.hid (stAll_sh HS.out (p := w.heap.size) (by omega) [.int .i64 (totG g N).ca, .int .i64 (totG g N).tb, .int .i64 (totG g N).so, .int .i64 (totG g N).tx, .int .i64 (totG g N).sf, .slice (some ⟨b, 0, none⟩) n n, .int .i64 (totG g N).net, .int .i64 (totG g N).tk, .int .i64 (totG g N).pay] 0)
      have BZ := stAll_below (p := w.heap.size) (Nat.le_refl _) [.int .i64 (totG g N).ca, .int .i64 (totG g N).tb, .int .i64 (totG g N).so, .int .i64 (totG g N).tx, .int .i64 (totG g N).sf, .slice (some ⟨b, 0, none⟩) n n, .int .i64 (totG g N).net, .int .i64 (totG g N).tk, .int .i64 (totG g N).pay] wr 0 B
      clear Z K0 K8 B HS HA HG HT
      go_wp2
      exact bodyPost_ret (v := .tuple #[.agg #[.int .i64 (totG g N).ca, .int .i64 (totG g N).tb, .int .i64 (totG g N).so, .int .i64 (totG g N).tx, .int .i64 (totG g N).sf, .slice (some ⟨b, 0, none⟩) n n, .int .i64 (totG g N).net, .int .i64 (totG g N).tk, .int .i64 (totG g N).pay], .int .i64 0]) (by simp [results, Try.results38, go_sem, stAll] at z_0 z_1 z_2 z_3 z_4 z_5 z_6 z_7 z_8 ⊢; simp [results, Try.results38, go_sem, z_0, z_1, z_2, z_3, z_4, z_5, z_6, z_7, z_8]) rfl ⟨b, rfl, by omega, ZS.out, BZ⟩
end Go.Proofs.Ytfnjhalpedccaaa
