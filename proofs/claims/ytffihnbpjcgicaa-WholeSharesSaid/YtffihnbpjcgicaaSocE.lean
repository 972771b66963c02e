/- What social.Sum answers of any rows. -/
import Derived.Test.YtffihnbpjcgicaaSocD
import Derived.Deep.RegionHeld3
namespace Go.Proofs.Ytffihnbpjcgicaa
open Go.RowKit Go.Sort
set_option linter.unusedVariables false
set_option linter.unusedSimpArgs false

/-- rows of any lengths, wherever they lie -/
def RowsM (w : World) (A : Option Addr) (m : Nat) (L : Nat → Nat) (X Y : Nat → Nat → Int) : Prop :=
  0 < m → ∃ b o, A = some ⟨b, o, none⟩ ∧ ∀ k, k < m → ∃ A' c', w.cell? ⟨b, o + k, none⟩ = some (.slice A' (L k) c') ∧ Shs w A' (L k) (X k) (Y k)
theorem RowsM.below {w w' : World} {A : Option Addr} {m : Nat} {L : Nat → Nat} {X Y : Nat → Nat → Int} (h : RowsM w A m L X Y) (hb : Below w.heap.size w w') : RowsM w' A m L X Y := fun h0 => by
  obtain ⟨b, o, e, hc⟩ := h h0
  refine ⟨b, o, e, fun k hk => ?_⟩
  obtain ⟨A', c', h1, h2⟩ := hc k hk
  exact ⟨A', c', cell_later hb h1, h2.below hb⟩
/-- the sums so far -/
def smS (X : Nat → Nat → Int) : Nat → Nat → Int
  | 0, _ => 0
  | k + 1, i => smS X k i + X k i
/-- may one be put to the sum so far, on both sides? -/
def itE (X Y : Nat → Nat → Int) (k i : Nat) : Int := if ((amtB (X k i) && amtB (smS X k i + X k i)) && (amtB (Y k i) && amtB (smS Y k i + Y k i))) = true then 0 else 10
/-- what is wrong with a row -/
def smE (n : Nat) (L : Nat → Nat) (X Y : Nat → Nat → Int) (k : Nat) : Int := if L k = n then firstE (itE X Y k) n else 3
/-- the sums while a row is put to them -/
def cuS (X : Nat → Nat → Int) (k i j : Nat) : Int := if j < i then smS X (k + 1) j else smS X k j
/-- a block of shares -/
def ShB (W : World) (b n : Nat) (X Y : Nat → Int) : Prop := W.rowIs b 47 (n * 2) fun q => .int .i64 (if q % 2 = 0 then X (q / 2) else Y (q / 2))
theorem ShB.cells {W : World} {b n : Nat} {X Y : Nat → Int} (h : ShB W b n X Y) {i : Nat} (hi : i < n) : W.cell? ⟨b, i * 2, none⟩ = some (.int .i64 (X i)) ∧ W.cell? ⟨b, i * 2 + 1, none⟩ = some (.int .i64 (Y i)) ∧ W.frozen? ⟨b, i * 2, none⟩ = false ∧ W.frozen? ⟨b, i * 2 + 1, none⟩ = false := by
  have h0 := World.rowIs.cell h (i := i * 2) (by omega)
  have h1 := World.rowIs.cell h (i := i * 2 + 1) (by omega)
  rw [if_pos (by omega), show i * 2 / 2 = i by omega] at h0
  rw [if_neg (by omega), show (i * 2 + 1) / 2 = i by omega] at h1
  exact ⟨h0, h1, World.rowIs.frozen h _, World.rowIs.frozen h _⟩
theorem ShB.below {W W' : World} {b n : Nat} {X Y : Nat → Int} (h : ShB W b n X Y) (hb : Below W.heap.size W W') : ShB W' b n X Y := World.rowIs.of_block h (hb.block _ (World.rowIs.lt h))
theorem ShB.congr {W : World} {b n : Nat} {X Y X' Y' : Nat → Int} (h : ShB W b n X Y) (hX : ∀ i, i < n → X i = X' i) (hY : ∀ i, i < n → Y i = Y' i) : ShB W b n X' Y' := World.rowIs.congr h fun q hq => by
  rw [hX (q / 2) (by omega), hY (q / 2) (by omega)]
theorem ShB.store {W : World} {b n : Nat} {X Y : Nat → Int} (h : ShB W b n X Y) {i : Nat} (hi : i < n) (u v : Int) {X' Y' : Nat → Int} (hX : ∀ j, j < n → X' j = if j = i then u else X j) (hY : ∀ j, j < n → Y' j = if j = i then v else Y j) : ShB ((W.setCell ⟨b, i * 2, none⟩ (.int .i64 u)).setCell ⟨b, i * 2 + 1, none⟩ (.int .i64 v)) b n X' Y' := by
  have h1 := World.rowIs.set h (i * 2) (.int .i64 u)
  have h2 := World.rowIs.set h1 (i * 2 + 1) (.int .i64 v)
  refine World.rowIs.congr h2 fun q hq => ?_
  by_cases e1 : q = i * 2 + 1
  · subst e1
    rw [if_pos rfl, if_neg (by omega), hY _ (by omega), if_pos (by omega)]
  · rw [if_neg e1]
    by_cases e2 : q = i * 2
    · subst e2
      rw [if_pos rfl, if_pos (by omega), hX _ (by omega), if_pos (by omega)]
    · have hne : q / 2 ≠ i := by omega
      rw [if_neg e2, hX _ (by omega), hY _ (by omega), if_neg hne, if_neg hne]
theorem ShB.shs {W : World} {b n : Nat} {X Y : Nat → Int} (h : ShB W b n X Y) : Shs W (some ⟨b, 0, none⟩) n X Y := fun _ => ⟨b, 0, rfl, fun i hi => by
  have := h.cells hi
  rw [Nat.zero_add]
  exact ⟨this.1, this.2.1⟩⟩
/-- make of n shares -/
theorem make_sh (n : Nat) (hn : n ≤ 1000000) : ∃ cs, (∀ W : World, (Instr.makeSlice 33 (.int .i64 (n : Int)) (.int .i64 (n : Int))).run Try.prog W = .ok (.slice (some ⟨W.heap.size, 0, none⟩) n n) (W.alloc (.cells cs 47))) ∧ ∀ W : World, ShB (W.alloc (.cells cs 47)) W.heap.size n (fun _ => 0) (fun _ => 0) := by
  obtain ⟨i0, hi0, hz0, hz1, hz2⟩ := info_parts infoSh
  refine ⟨madeCells #[.int .i64 0, .int .i64 0] (n * 2), fun W => ?_, fun W => ?_⟩
  · have hr := run_make (P := Try.prog) W 33 47 i0 (.agg #[.int .i64 0, .int .i64 0]) (by kernel_rfl) hi0 hz0 .i64 .i64 n n (by omega) (Int.le_refl _) (by rw [hz2]; omega) (by omega)
    rw [hz1, show (Value.agg #[.int .i64 0, .int .i64 0]).cells = #[.int .i64 0, .int .i64 0] from rfl, Int.toNat_natCast] at hr
    exact hr
  · have := World.rowIs_alloc W (madeCells #[.int .i64 0, .int .i64 0] (n * 2)) 47 (fun q => .int .i64 (if q % 2 = 0 then 0 else 0)) (fun i hi => by
      rw [size_madeCells] at hi
      simp only [madeCells, Array.getElem?_map, Array.getElem?_range, hi, ite_self]
      rcases (show i % 2 = 0 ∨ i % 2 = 1 by omega) with e | e <;> simp [hi, e])
    rw [size_madeCells] at this
    exact this
theorem okT2 (p q u v : Int) (hp : amtB p = true) (hq : amtB q = true) : okT (fun i => if i = 0 then p else u) (fun i => if i = 0 then q else v) 2 = ((amtB u && amtB (p + u)) && (amtB v && amtB (q + v))) := by
  simp [okT, tsm, hp, hq]
theorem tot2 (p q u v : Int) (b : Nat) (W : World) (hp : amtB p = true) (hq : amtB q = true) (c0 : W.cell? ⟨b, 0, none⟩ = some (.int .i64 p)) (c1 : W.cell? ⟨b, 1, none⟩ = some (.int .i64 q)) (c2 : W.cell? ⟨b, 2, none⟩ = some (.int .i64 u)) (c3 : W.cell? ⟨b, 3, none⟩ = some (.int .i64 v)) (o : Bool) (ho : ((amtB u && amtB (p + u)) && (amtB v && amtB (q + v))) = o) :
    Calls Try.prog 15 #[.slice (some ⟨b, 0, none⟩) 2 2] W fun e w' => e = .returned (.tuple #[.agg #[.int .i64 (if o = true then p + u else 0), .int .i64 (if o = true then q + v else 0)], .int .i64 (if o = true then 0 else 10)]) ∧ Below W.heap.size W w' := by
  have h : Shs W (some ⟨b, 0, none⟩) 2 (fun i => if i = 0 then p else u) (fun i => if i = 0 then q else v) := fun _ => ⟨b, 0, rfl, fun i hi => by
    rcases (show i = 0 ∨ i = 1 by omega) with rfl | rfl
    · exact ⟨c0, c1⟩
    · exact ⟨c2, c3⟩⟩
  have := total_any (some ⟨b, 0, none⟩) 2 2 W _ _ h (by omega)
  have e : totV (fun i => if i = 0 then p else u) (fun i => if i = 0 then q else v) 2 = .tuple #[.agg #[.int .i64 (if o = true then p + u else 0), .int .i64 (if o = true then q + v else 0)], .int .i64 (if o = true then 0 else 10)] := by
    unfold totV
    rw [okT2 p q u v hp hq, ho]
    simp [tsm]
  rw [e] at this
  exact this
theorem sm_amt {n : Nat} {L : Nat → Nat} {X Y : Nat → Nat → Int} : ∀ {k : Nat}, (∀ j, j < k → smE n L X Y j = 0) → ∀ i, i < n → amtB (smS X k i) = true ∧ amtB (smS Y k i) = true
  | 0, _, i, _ => ⟨rfl, rfl⟩
  | k + 1, h, i, hi => by
    have hk := h k (by omega)
    unfold smE at hk
    split at hk
    · have := first_zero hk i hi
      unfold itE at this
      split at this
      · rename_i hh
        simp only [Bool.and_eq_true] at hh
        exact ⟨hh.1.2, hh.2.2⟩
      · omega
    · omega
theorem cu_zero (X : Nat → Nat → Int) (k j : Nat) : cuS X k 0 j = smS X k j := by simp [cuS]
theorem cu_end (X : Nat → Nat → Int) (k n j : Nat) (h : j < n) : cuS X k n j = smS X (k + 1) j := by simp [cuS, h]
theorem cu_at (X : Nat → Nat → Int) (k i : Nat) : cuS X k i i = smS X k i := by simp [cuS]
theorem cu_succ (X : Nat → Nat → Int) (k i j : Nat) : cuS X k (i + 1) j = if j = i then smS X k i + X k i else cuS X k i j := by
  unfold cuS
  by_cases e : j = i
  · subst e; simp [smS]
  · rw [if_neg e]
    by_cases e2 : j < i
    · rw [if_pos (by omega), if_pos e2]
    · rw [if_neg (by omega), if_neg e2]
theorem sum_range (n : Int) (A : Option Addr) (m q : Nat) (w : World) (h : n < 0 ∨ 64 < n) :
    Calls Try.prog 17 #[.int .i64 n, .slice A m q] w fun e w' => e = .returned (.tuple #[.slice none 0 0, .int .i64 1]) ∧ Below w.heap.size w w' := by
  have key : decide (n < 0) = true ∨ (decide (n < 0) = false ∧ decide (64 < n) = true) := by
    simp only [decide_eq_true_eq, decide_eq_false_iff_not]; omega
  rcases key with k1 | ⟨k1, k2⟩
  all_goals
    go_enter Try.func17, Try.ntmps17
    go_wp2
    go_ret2
    exact ⟨rfl, Below.refl _ _⟩
theorem tot2b (p q u v : Int) (t : TypeId) (hp : amtB p = true) (hq : amtB q = true) (o : Bool) (ho : ((amtB u && amtB (p + u)) && (amtB v && amtB (q + v))) = o) (W : World) (n : Nat) (K : Bx W n t [.int .i64 p, .int .i64 q, .int .i64 u, .int .i64 v]) :
    Calls Try.prog 15 #[.slice (some ⟨n, 0, none⟩) 2 2] W fun e w' => e = .returned (.tuple #[.agg #[.int .i64 (if o = true then p + u else 0), .int .i64 (if o = true then q + v else 0)], .int .i64 (if o = true then 0 else 10)]) ∧ Below W.heap.size W w' :=
  tot2 p q u v n _ hp hq (K.cell rfl) (K.cell rfl) (K.cell rfl) (K.cell rfl) o ho
theorem held_go {F : Exit → Act → World → Prop} {e : Exit} {a : Act} {W : World} (S : World → Prop) (h : S W) (k : ∀ W, S W → F e a W) : F e a W := k W h
set_option maxRecDepth 100000 in
set_option maxHeartbeats 8000000 in
theorem sum_any (n : Nat) (A : Option Addr) (m q : Nat) (L : Nat → Nat) (X Y : Nat → Nat → Int) (w : World) (h : RowsM w A m L X Y) (hn : n ≤ 64) (hm : m ≤ 1000) :
    Calls Try.prog 17 #[.int .i64 (n : Int), .slice A m q] w fun e w' => (firstE (smE n L X Y) m = 0 → ∃ b, e = .returned (.tuple #[.slice (some ⟨b, 0, none⟩) n n, .int .i64 0]) ∧ w.heap.size ≤ b ∧ ShB w' b n (smS X m) (smS Y m)) ∧ (firstE (smE n L X Y) m ≠ 0 → e = .returned (.tuple #[.slice none 0 0, .int .i64 (firstE (smE n L X Y) m)])) ∧ Below w.heap.size w w' := by
  have k1 : decide ((n : Int) < 0) = false := by simp
  have k2 : decide (64 < (n : Int)) = false := by simp; omega
  obtain ⟨cs, hmk, hsb⟩ := make_sh n (by omega)
  have SB := hsb w
  have B1 := below_new w (.cells cs 47)
  clear hsb
  go_enter Try.func17, Try.ntmps17
  go_wp2_with (fail)
  generalize w.alloc (.cells cs 47) = w1 at *
  go_loopw [23] (fun k W => ∃ i : Nat, i ≤ m ∧ k = .int .i64 i ∧ ShB W w.heap.size n (smS X i) (smS Y i) ∧ firstE (smE n L X Y) i = 0 ∧ Below w.heap.size w W) (fun k _ => m - (intOf k).toNat)
  case atStart => exact ⟨0, Nat.zero_le _, rfl, SB, rfl, B1⟩
  case round =>
    clear SB B1 hmk
    obtain ⟨k, hk, rfl, HS, hf, hbX⟩ := hrel
    by_cases hlt : k < m
    · obtain ⟨b, o, rfl, hcc⟩ := id (h (by omega))
      obtain ⟨A', c', g, hsh⟩ := hcc k hlt
      have g0 := cell_later hbX g
      have HSE : Hid (smE n L X Y k = if L k = n then firstE (itE X Y k) n else 3) := Lib.hid rfl
      clear hcc h g
      by_cases hLn : L k = n
      · have q1 : ((L k : Int) != (n : Int)) = false := by simp; omega
        have hamt := sm_amt (k := k) (fun j hj => first_zero hf j hj)
        have HAM := Lib.hid hamt
        have HFK := Lib.hid hf
        rw [if_pos hLn] at HSE
        have hS0 : ShB wr w.heap.size n (cuS X k 0) (cuS Y k 0) := HS.congr (fun j _ => (cu_zero X k j).symm) (fun j _ => (cu_zero Y k j).symm)
        clear hamt hf HS
        rw [hLn] at hsh g0 q1
        have HLN := Lib.hid hLn
        clear hLn
        go_wp2
        go_loopw [33] (fun j W => ∃ i : Nat, i ≤ n ∧ j = .int .i64 i ∧ ShB W w.heap.size n (cuS X k i) (cuS Y k i) ∧ firstE (itE X Y k) i = 0 ∧ Below w.heap.size w W) (fun j _ => n - (intOf j).toNat)
        case atStart => exact ⟨0, Nat.zero_le _, rfl, hS0, rfl, hbX⟩
        case round =>
          clear hS0 hbX g0
          obtain ⟨i, hi, rfl, HS, hf, hbX⟩ := hrel
          by_cases hit : i < n
          · obtain ⟨b', o', rfl, hsc⟩ := id (hsh (by omega))
            obtain ⟨s0, s1⟩ := hsc i hit
            replace s0 := cell_later hbX s0
            replace s1 := cell_later hbX s1
            obtain ⟨a0, a1, _, _⟩ := HS.cells hit
            rw [cu_at] at a0 a1
            have HIT : Hid (itE X Y k i = if ((amtB (X k i) && amtB (smS X k i + X k i)) && (amtB (Y k i) && amtB (smS Y k i + Y k i))) = true then 0 else 10) := Lib.hid rfl
            have hami := HAM.out i hit
            have HCX := Lib.hid (cu_succ X k i)
            have HCY := Lib.hid (cu_succ Y k i)
            have K3 := bx_new wr [.int .i64 (X k i), .int .i64 (Y k i)] 47
            have NB := below_new wr (.cells #[.int .i64 (X k i), .int .i64 (Y k i)] 47)
            have HS3 := HS.below NB
            have B3 := below_step hbX NB hbX.size
            have d0 := cell_later NB a0
            have d1 := cell_later NB a1
            have hlw : wr.heap.size < (wr.alloc (.cells #[.int .i64 (X k i), .int .i64 (Y k i)] 47)).heap.size := by simp
            have HF := Lib.hid hf
            have cT := fun o ho (W : World) nn hK => tot2b (smS X k i) (smS Y k i) (X k i) (Y k i) 47 hami.1 hami.2 o ho W nn hK
            clear hsc NB HS hsh hbX hf
            generalize X k i = u at *
            generalize Y k i = v at *
            generalize smS X k i = p at *
            generalize smS Y k i = p2 at *
            go_wp2_with (fail)
            clear s0 s1 a0 a1
            have k30 := K3.cell (i := 0) rfl
            have k31 := K3.cell (i := 1) rfl
            generalize wr.alloc (.cells #[.int .i64 u, .int .i64 v] 47) = W3 at *
            generalize wr.heap.size = c3 at *
            have S1 : W3.drew.cell? ⟨w.heap.size, i * 2, none⟩ = some (.int .i64 p) ∧ W3.drew.cell? ⟨w.heap.size, i * 2 + 1, none⟩ = some (.int .i64 p2) ∧ W3.drew.cell? ⟨c3, 0, none⟩ = some (.int .i64 u) ∧ W3.drew.cell? ⟨c3, 1, none⟩ = some (.int .i64 v) ∧ Below W3.heap.size W3 W3.drew := ⟨d0, d1, k30, k31, (Below.refl _ _).drew⟩
            have S0 : W3.cell? ⟨w.heap.size, i * 2, none⟩ = some (.int .i64 p) ∧ W3.cell? ⟨w.heap.size, i * 2 + 1, none⟩ = some (.int .i64 p2) ∧ W3.cell? ⟨c3, 0, none⟩ = some (.int .i64 u) ∧ W3.cell? ⟨c3, 1, none⟩ = some (.int .i64 v) ∧ Below W3.heap.size W3 W3 := ⟨d0, d1, k30, k31, Below.refl _ _⟩
            have step : ∀ U V : World, Below U.heap.size U V → (U.cell? ⟨w.heap.size, i * 2, none⟩ = some (.int .i64 p) ∧ U.cell? ⟨w.heap.size, i * 2 + 1, none⟩ = some (.int .i64 p2) ∧ U.cell? ⟨c3, 0, none⟩ = some (.int .i64 u) ∧ U.cell? ⟨c3, 1, none⟩ = some (.int .i64 v) ∧ Below W3.heap.size W3 U) → (V.cell? ⟨w.heap.size, i * 2, none⟩ = some (.int .i64 p) ∧ V.cell? ⟨w.heap.size, i * 2 + 1, none⟩ = some (.int .i64 p2) ∧ V.cell? ⟨c3, 0, none⟩ = some (.int .i64 u) ∧ V.cell? ⟨c3, 1, none⟩ = some (.int .i64 v) ∧ Below W3.heap.size W3 V) := fun U V hb h => ⟨cell_later hb h.1, cell_later hb h.2.1, cell_later hb h.2.2.1, cell_later hb h.2.2.2.1, below_step h.2.2.2.2 hb h.2.2.2.2.size⟩
            have mk : ∀ V : World, Below W3.heap.size W3 V → (V.cell? ⟨w.heap.size, i * 2, none⟩ = some (.int .i64 p) ∧ V.cell? ⟨w.heap.size, i * 2 + 1, none⟩ = some (.int .i64 p2) ∧ V.cell? ⟨c3, 0, none⟩ = some (.int .i64 u) ∧ V.cell? ⟨c3, 1, none⟩ = some (.int .i64 v) ∧ Below W3.heap.size W3 V) := fun V hb => step _ _ hb S0
            have BA : Bx (W3.alloc (.cells #[.int .i64 p, .int .i64 p2, .int .i64 u, .int .i64 v] 47)).drew W3.heap.size 47 [.int .i64 p, .int .i64 p2, .int .i64 u, .int .i64 v] := bx_new W3 [.int .i64 p, .int .i64 p2, .int .i64 u, .int .i64 v] 47
            have BB : Bx ((W3.alloc (.cells #[.int .i64 p, .int .i64 p2, .int .i64 u, .int .i64 v] 47)).alloc (.cells #[.int .i64 0, .int .i64 0] 47)).drew W3.heap.size 47 [.int .i64 p, .int .i64 p2, .int .i64 u, .int .i64 v] := (bx_new W3 [.int .i64 p, .int .i64 p2, .int .i64 u, .int .i64 v] 47).alloc _
            have BC : Bx ((W3.alloc (.cells #[.int .i64 0, .int .i64 0] 47)).alloc (.cells #[.int .i64 p, .int .i64 p2, .int .i64 u, .int .i64 v] 47)).drew (W3.heap.size + 1) 47 [.int .i64 p, .int .i64 p2, .int .i64 u, .int .i64 v] := bx_at (W3.alloc (.cells #[.int .i64 0, .int .i64 0] 47)) [.int .i64 p, .int .i64 p2, .int .i64 u, .int .i64 v] 47 (by simp)
            have ZB : Bx ((W3.alloc (.cells #[.int .i64 p, .int .i64 p2, .int .i64 u, .int .i64 v] 47)).alloc (.cells #[.int .i64 0, .int .i64 0] 47)).drew (W3.heap.size + 1) 47 [.int .i64 0, .int .i64 0] := bx_at (W3.alloc (.cells #[.int .i64 p, .int .i64 p2, .int .i64 u, .int .i64 v] 47)) [.int .i64 0, .int .i64 0] 47 (by simp)
            have ZC : Bx ((W3.alloc (.cells #[.int .i64 0, .int .i64 0] 47)).alloc (.cells #[.int .i64 p, .int .i64 p2, .int .i64 u, .int .i64 v] 47)).drew W3.heap.size 47 [.int .i64 0, .int .i64 0] := (bx_new W3 [.int .i64 0, .int .i64 0] 47).alloc _
            have SA := step W3 (W3.alloc (.cells #[.int .i64 p, .int .i64 p2, .int .i64 u, .int .i64 v] 47)).drew ((below_new _ _).drew) S0
            have SB := step W3 ((W3.alloc (.cells #[.int .i64 p, .int .i64 p2, .int .i64 u, .int .i64 v] 47)).alloc (.cells #[.int .i64 0, .int .i64 0] 47)).drew (((below_new _ _).alloc (by simp) _).drew) S0
            have SC := step W3 ((W3.alloc (.cells #[.int .i64 0, .int .i64 0] 47)).alloc (.cells #[.int .i64 p, .int .i64 p2, .int .i64 u, .int .i64 v] 47)).drew (((below_new _ _).alloc (by simp) _).drew) S0
            cases hq : (amtB u && amtB (p + u)) && (amtB v && amtB (p2 + v))
            · have cT1 := cT false hq
              have hfe := first_stop (n := n) hit HF.out (by rw [HIT.out, hq]; simp)
              rw [HIT.out, hq] at hfe
              have hfk := first_stop (n := m) hlt HFK.out (by rw [HSE.out, hfe]; simp)
              rw [HSE.out, hfe] at hfk
              have HFE := Lib.hid hfk
              clear cT d0 d1 k30 k31 hq hfe hfk
              simp only [if_neg Bool.false_ne_true] at cT1
              go_region_held3 (fun X => X.cell? ⟨w.heap.size, i * 2, none⟩ = some (.int .i64 p) ∧ X.cell? ⟨w.heap.size, i * 2 + 1, none⟩ = some (.int .i64 p2) ∧ X.cell? ⟨c3, 0, none⟩ = some (.int .i64 u) ∧ X.cell? ⟨c3, 1, none⟩ = some (.int .i64 v) ∧ Below W3.heap.size W3 X)
                ((first | exact S1 | assumption | exact step _ _ (below_new _ _) (by assumption) | exact mk _ ((SW.2.2.2.2.setCell (by show W3.heap.size ≤ W3.heap.size + 1; omega) _).setCell (by show W3.heap.size ≤ W3.heap.size + 1; omega) _) | exact mk _ ((SW.2.2.2.2.setCell (Nat.le_refl _) _).setCell (Nat.le_refl _) _) | exact mk _ (SW.2.2.2.2.alloc SW.2.2.2.2.size _)))
                (first
                  | (go_at_call 15; with_reducible refine (cT1 _ _ BA).mono ?_; rintro e w6 ⟨rfl, hb⟩; have SW := step _ _ hb SA; have hz6 := SW.2.2.2.2.size)
                  | (go_at_call 15; with_reducible refine (cT1 _ _ BB).mono ?_; rintro e w6 ⟨rfl, hb⟩; have SW := step _ _ hb SB; have ZW := ZB.below hb; have z0 := ZW.cell (i := 0) rfl; have z1 := ZW.cell (i := 1) rfl; have z2 := ZW.fr 0; have z3 := ZW.fr 1)
                  | (go_at_call 15; with_reducible refine (cT1 _ _ BC).mono ?_; rintro e w6 ⟨rfl, hb⟩; have SW := step _ _ hb SC; have ZW := ZC.below hb; have z0 := ZW.cell (i := 0) rfl; have z1 := ZW.cell (i := 1) rfl; have z2 := ZW.fr 0; have z3 := ZW.fr 1))
              all_goals
                rename_i hH
                refine held_go (fun X => Below W3.heap.size W3 X) hH.2.2.2.2 ?_
                intro W9 H9
                have B9 := below_step B3 H9 B3.size
                clear SA SB SC BA BB BC ZB ZC S0 S1 step mk
                go_wp2
                go_ret2
                refine ⟨fun h0 => ?_, fun _ => (by rw [HFE.out]; rfl), B9⟩
                exfalso; rw [HFE.out] at h0; simp at h0
            · have cT1 := cT true hq
              have HFN := Lib.hid (first_succ HF.out (by rw [HIT.out, hq]; rfl))
              clear cT d0 d1 k30 k31 hq
              simp only [if_true] at cT1
              go_region_held3 (fun X => X.cell? ⟨w.heap.size, i * 2, none⟩ = some (.int .i64 p) ∧ X.cell? ⟨w.heap.size, i * 2 + 1, none⟩ = some (.int .i64 p2) ∧ X.cell? ⟨c3, 0, none⟩ = some (.int .i64 u) ∧ X.cell? ⟨c3, 1, none⟩ = some (.int .i64 v) ∧ Below W3.heap.size W3 X)
                ((first | exact S1 | assumption | exact step _ _ (below_new _ _) (by assumption) | exact mk _ ((SW.2.2.2.2.setCell (by show W3.heap.size ≤ W3.heap.size + 1; omega) _).setCell (by show W3.heap.size ≤ W3.heap.size + 1; omega) _) | exact mk _ ((SW.2.2.2.2.setCell (Nat.le_refl _) _).setCell (Nat.le_refl _) _) | exact mk _ (SW.2.2.2.2.alloc SW.2.2.2.2.size _)))
                (first
                  | (go_at_call 15; with_reducible refine (cT1 _ _ BA).mono ?_; rintro e w6 ⟨rfl, hb⟩; have SW := step _ _ hb SA; have hz6 := SW.2.2.2.2.size)
                  | (go_at_call 15; with_reducible refine (cT1 _ _ BB).mono ?_; rintro e w6 ⟨rfl, hb⟩; have SW := step _ _ hb SB; have ZW := ZB.below hb; have z0 := ZW.cell (i := 0) rfl; have z1 := ZW.cell (i := 1) rfl; have z2 := ZW.fr 0; have z3 := ZW.fr 1)
                  | (go_at_call 15; with_reducible refine (cT1 _ _ BC).mono ?_; rintro e w6 ⟨rfl, hb⟩; have SW := step _ _ hb SC; have ZW := ZC.below hb; have z0 := ZW.cell (i := 0) rfl; have z1 := ZW.cell (i := 1) rfl; have z2 := ZW.fr 0; have z3 := ZW.fr 1))
              all_goals
                rename_i hH
                first
                  | refine held_go (fun X => Below W3.heap.size W3 X ∧ Bx X (w6.heap.size) 47 [.int .i64 (p + u), .int .i64 (p2 + v)]) ⟨hH.2.2.2.2, bx_new w6 [.int .i64 (p + u), .int .i64 (p2 + v)] _⟩ ?_
                  | refine held_go (fun X => Below W3.heap.size W3 X ∧ Bx X (W3.heap.size + 1) 47 [.int .i64 (p + u), .int .i64 (p2 + v)]) ⟨hH.2.2.2.2, (ZW.set 0 (.int .i64 (p + u))).set 1 (.int .i64 (p2 + v))⟩ ?_
                  | refine held_go (fun X => Below W3.heap.size W3 X ∧ Bx X (W3.heap.size) 47 [.int .i64 (p + u), .int .i64 (p2 + v)]) ⟨hH.2.2.2.2, (ZW.set 0 (.int .i64 (p + u))).set 1 (.int .i64 (p2 + v))⟩ ?_
                rintro W9 ⟨H9, K9⟩
                have B9 := below_step B3 H9 B3.size
                have HS9 := HS3.below H9
                obtain ⟨a0, a1, fz0, fz1⟩ := HS9.cells hit
                have k90 := K9.cell (i := 0) rfl
                have k91 := K9.cell (i := 1) rfl
                clear SA SB SC BA BB BC ZB ZC S0 S1 step mk
                go_wp2
                refine ⟨⟨i + 1, by omega, by go_num, HS9.store hit (p + u) (p2 + v) (fun j _ => HCX.out j) (fun j _ => HCY.out j), HFN.out, (B9.setCell (p := ⟨w.heap.size, i * 2, none⟩) (Nat.le_refl _) _).setCell (p := ⟨w.heap.size, i * 2 + 1, none⟩) (Nat.le_refl _) _⟩, ?_⟩
                simp [intOf]; omega
          · obtain rfl : i = n := by omega
            have HFI := Lib.hid hf
            have HSI := Lib.hid (HS.congr (X' := smS X (k + 1)) (Y' := smS Y (k + 1)) (fun j hj => cu_end X k i j hj) (fun j hj => cu_end Y k i j hj))
            have HFN := Lib.hid (first_succ HFK.out (by rw [HSE.out]; exact hf))
            have hnl : ¬ (i : Int) < (i : Int) := by omega
            clear hf HS hsh
            go_wp2
            refine ⟨⟨k + 1, by omega, by go_num, HSI.out, HFN.out, hbX⟩, ?_⟩
            simp [intOf]; omega
      · have q1 : ((L k : Int) != (n : Int)) = true := by simp; omega
        have hfe := first_stop (n := m) hlt hf (by rw [HSE.out, if_neg hLn]; simp)
        rw [HSE.out, if_neg hLn] at hfe
        have HFE := Lib.hid hfe
        clear hfe hf hLn
        go_wp2
        go_ret2
        refine ⟨fun h0 => ?_, fun _ => (by rw [HFE.out]; rfl), hbX⟩
        exfalso; rw [HFE.out] at h0; simp at h0
    · obtain rfl : k = m := by omega
      have HF := Lib.hid hf
      have HSH := Lib.hid HS
      have hnl : ¬ (k : Int) < (k : Int) := by omega
      clear hf HS h
      go_wp2
      go_ret2
      exact ⟨fun _ => ⟨_, rfl, Nat.le_refl _, HSH.out⟩, fun h0 => absurd HF.out h0, hbX⟩
end Go.Proofs.Ytffihnbpjcgicaa
