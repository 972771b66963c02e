/- What band.Scale answers. -/
import Derived.Test.YtkiefceomgbbhaaBandD
namespace Go.Proofs.Ytkiefceomgbbhaa
open Go.RowKit Go.Sort
set_option linter.unusedVariables false

theorem bscale_chk (a d : Int) (A : Option Addr) (n c : Nat) (w : World) (F R E : Nat → Int) (h : Bds w A n F R E) (hn : n ≤ 4611686018427387904) (hbad : chk F R E n ≠ 0) :
    Calls Try.prog 19 #[.int .i64 a, .int .i64 d, .slice A n c] w fun e w' => e = .returned (.tuple #[.slice none 0 0, .int .i64 (chk F R E n)]) ∧ Below w.heap.size w w' := by
  have ck := check_any A n c w F R E h hn
  have hne : (chk F R E n != 0) = true := by simpa using hbad
  generalize chk F R E n = k at *
  clear hbad
  go_enter Try.func19, Try.ntmps19
  go_wp2_with (fail)
  refine ck.mono ?_
  rintro e w1 ⟨rfl, hb1⟩
  go_wp2
  go_ret2
  exact ⟨rfl, hb1⟩

set_option maxHeartbeats 2000000 in
theorem bscale_rng (a d : Int) (A : Option Addr) (n c : Nat) (w : World) (F R E : Nat → Int) (h : Bds w A n F R E) (hok : Okb F R E n) (hbad : a < 0 ∨ d < 1 ∨ d < a ∨ 1048576 < d) :
    Calls Try.prog 19 #[.int .i64 a, .int .i64 d, .slice A n c] w fun e w' => e = .returned (.tuple #[.slice none 0 0, .int .i64 1]) ∧ Below w.heap.size w w' := by
  have ck := check_any A n c w F R E h (by have := hok.2.1; omega)
  rw [chk_of hok] at ck
  by_cases hda : d < a
  · clear hbad
    go_enter Try.func19, Try.ntmps19
    go_wp2_with (fail)
    refine ck.mono ?_
    rintro e w1 ⟨rfl, hb1⟩
    go_wp2
    go_ret2
    exact ⟨rfl, hb1⟩
  · have hF0 := hok.2.2.2.1 0 (by have := hok.1; omega)
    have sc := fun W => scale_range (F 0) a d W (amtB_mk (by omega) (by omega)) (by omega)
    have h1 := hok.1
    have hda2 : a ≤ d := by omega
    have hda3 : decide (d < a) = false := by simp; omega
    clear hbad hda hF0 hok
    go_enter Try.func19, Try.ntmps19
    go_wp2_with (fail)
    refine ck.mono ?_
    rintro e w1 ⟨rfl, hb1⟩
    go_wp2
    obtain ⟨b, o, rfl, hc⟩ := h.below hb1 (by omega)
    obtain ⟨c0, c1, c2⟩ := hc 0 (by omega)
    simp only [Nat.zero_mul, Nat.add_zero] at c0 c1 c2
    refine wp_loop_rounds 1 ?_
    rw [rounds_succ]
    have g0 : (0 : Int) < n := by omega
    have g1 : 0 < n := by omega
    clear hc h
    go_wp2_with (fail)
    refine (sc _).mono ?_
    rintro e w2 ⟨rfl, hb2⟩
    have hb3 := (hb1.alloc hb1.size _).trans (hb2.mono (Nat.le_trans hb1.size (by simp)))
    go_wp2
    go_ret2
    exact ⟨rfl, hb3⟩

def Free (W : World) (b : Nat) : Prop := W.frozen? ⟨b, 0, none⟩ = false ∧ W.frozen? ⟨b, 1, none⟩ = false ∧ W.frozen? ⟨b, 2, none⟩ = false
theorem free_new (w : World) (c : Array Value) (t : TypeId) : Free (w.alloc (.cells c t)) w.heap.size := ⟨World.frozen?_alloc_new _ _ _ _, World.frozen?_alloc_new _ _ _ _, World.frozen?_alloc_new _ _ _ _⟩
theorem own_below {w w' : World} {B : Nat} {e : TypeId} {size n : Nat} {v : Value} {xs : List Value} (h : w.ownsRow B e size v n xs) (hb : Below w.heap.size w w') : w'.ownsRow B e size v n xs := by
  refine ⟨h.1, ?_⟩
  rcases h.2 with h2 | ⟨g, cap, cur, hv, hg, hh, r⟩
  · exact .inl h2
  · have hlt : g < w.heap.size := by
      rcases Nat.lt_or_ge g w.heap.size with hlt | hge
      · exact hlt
      · rw [Array.getElem?_eq_none hge] at hh; cases hh
    exact .inr ⟨g, cap, cur, hv, hg, (hb.block g hlt).trans hh, r⟩
theorem cell_three_new (w : World) (x y z : Value) (t : TypeId) (H : Nat) (hH : w.heap.size = H) : ∀ j u, [x, y, z][j]? = some u → (w.alloc (.cells #[x, y, z] t)).cell? ((⟨H, 0, none⟩ : Addr).add j) = some u := by
  subst hH
  intro j u hu
  have hj : j = 0 ∨ j = 1 ∨ j = 2 := by
    rcases Nat.lt_or_ge j 3 with h | h
    · omega
    · rw [List.getElem?_eq_none (by simp; omega)] at hu; cases hu
  rcases hj with rfl | rfl | rfl
  all_goals
    simp at hu
    subst hu
    simp [Addr.add, World.cell?_alloc_new]
theorem rw_push {w : World} {B : Nat} {v : Value} {L M : List Bd} {m : Nat} {a b c : Int} (h : w.ownsRow B 37 3 v (m + 1) (cl L ++ [.int .i64 a, .int .i64 b, .int .i64 c])) (hm : L.length = m) (hM : M = L ++ [(a, b, c)]) : Rw w B v M := by
  subst hM hm
  unfold Rw
  rw [List.length_append, cl_app]
  exact h
set_option maxHeartbeats 4000000 in
set_option maxRecDepth 100000 in
theorem bscale_ok (a d : Int) (A : Option Addr) (n c : Nat) (w : World) (F R E p : Nat → Int) (h : Bds w A n F R E) (hok : Okb F R E n) (h1 : 0 ≤ a) (h2 : 1 ≤ d) (h3 : a ≤ d) (h4 : d ≤ 1048576) (hp : p = fun i => F i * a / d) :
    Calls Try.prog 19 #[.int .i64 a, .int .i64 d, .slice A n c] w fun e w' => ∃ v, e = .returned (.tuple #[v, .int .i64 0]) ∧ Rw w' w.heap.size v (scl p R E n) ∧ Below w.heap.size w w' := by
  obtain ⟨i0, hi0, hz0, hz1, hz2⟩ := info_parts info37
  have Hi := Lib.hid hi0
  have Hz := Lib.hid hz0
  have ck := check_any A n c w F R E h (by have := hok.2.1; omega)
  rw [chk_of hok] at ck
  obtain ⟨pm0, pm1, pm2⟩ := part_mono hok h1 h2 h3
  have scF : ∀ i, i < n → ∀ W, Calls Try.prog 48 #[.int .i64 (F i), .int .i64 a, .int .i64 d] W fun e w' => e = .returned (.tuple #[.int .i64 (p i), .int .i64 0]) ∧ Below W.heap.size W w' := fun i hi W => by
    have hf := hok.2.2.2.1 i hi
    have hq := pm2 i hi
    have := scale_ok (F i) a d W (amtB_mk (by omega) (by omega)) h1 (by omega) h2 h4 true (amtB_mk (by omega) (by omega))
    rw [if_pos rfl, if_pos rfl] at this
    rw [hp]
    exact this
  have o1 := hok.1
  have o2 := hok.2.1
  have hda3 : decide (d < a) = false := by simp; omega
  clear hp pm0 pm1 pm2 hok hi0 hz0
  go_enter Try.func19, Try.ntmps19
  go_wp2_with (fail)
  refine ck.mono ?_
  rintro e w1 ⟨rfl, hb1⟩
  go_wp2
  go_loopw [9, 25] (fun s v W => ∃ i : Nat, i ≤ n ∧ v = .int .i64 i ∧ Rw W w.heap.size s (scl p R E i) ∧ (i = 0 → s = .slice none 0 0) ∧ Below w.heap.size w W) (fun _ v _ => n - (intOf v).toNat)
  case atStart => exact ⟨0, Nat.zero_le _, rfl, World.ownsRow_nil _ _ _ _, fun _ => rfl, hb1⟩
  case round =>
    obtain ⟨i, hi, rfl, hown, hnil, hb⟩ := hrel
    by_cases hlt : i < n
    · obtain ⟨b, o, rfl, hc⟩ := h (by omega)
      obtain ⟨c0, c1, c2⟩ := hc i hlt
      have d0 := cell_later hb c0
      have d1 := cell_later hb c1
      have d2 := cell_later hb c2
      have hsz := hb.size
      have sc := scF i hlt
      have HSF := Lib.hid scF
      have HH := Lib.hid h
      have HCK := Lib.hid ck
      clear hc h c0 c1 c2 scF ck
      by_cases h0 : 0 < i
      · have hl := scl_len p R E (i - 1)
        have hla := scl_last p R E (i - 1)
        rw [show i - 1 + 1 = i by omega] at hl hla
        have hkl := kep_le p (i - 1)
        obtain ⟨g, cap, rfl, hg, hgc, hgm, hB⟩ := rw_bds_of hown (by omega)
        have hlast := (cl_get _ _ _ hla).1
        rw [← hown.cellAt _ (by omega)] at hlast
        have hS1 : p i = p (i - 1) → scl p R E (i + 1) = (scl p R E i).take ((scl p R E i).length - 1) ++ [(p i, R i, E i)] := fun e => by
          show (if 0 < i ∧ p i = p (i - 1) then (scl p R E i).dropLast else scl p R E i) ++ _ = _
          rw [if_pos ⟨h0, e⟩, List.dropLast_eq_take]
        have hS2 : p i ≠ p (i - 1) → scl p R E (i + 1) = scl p R E i ++ [(p i, R i, E i)] := fun e => by
          show (if 0 < i ∧ p i = p (i - 1) then (scl p R E i).dropLast else scl p R E i) ++ _ = _
          rw [if_neg (fun h => e h.2)]
        have hcut := rw_cut hown (k := (scl p R E i).length - 1) (by omega)
        have hk1 : kep p (i - 1) = (scl p R E i).length - 1 := by omega
        rw [hk1] at hlast
        simp only at hlast
        unfold Rw at hown hcut
        have hlen1 : ((scl p R E i).take ((scl p R E i).length - 1)).length = (scl p R E i).length - 1 := by simp
        rw [hlen1] at hcut
        have hcap : cap ≤ 9223372036854775807 := by unfold maxLen at hgm; omega
        have hm1 : 1 ≤ (scl p R E i).length := by omega
        have hm8 : (scl p R E i).length ≤ 8 := by omega
        generalize hm : (scl p R E i).length = m at *
        have e1 : ((m : Int) - 1).toNat = m - 1 := by omega
        have e2 : (m : Int) - 1 = ((m - 1 : Nat) : Int) := by omega
        have w1' : IntKind.i64.wrap ((m : Int) - 1) = (m : Int) - 1 := IntWalk.i64_in _ (by omega)
        have i0' : 0 ≤ (m : Int) - 1 := by omega
        have i2' : (1 : Int) ≤ (m : Int) := by omega
        have i1' : (m : Int) - 1 < (m : Int) := by omega
        have i3' : (m : Int) - 1 ≤ (cap : Int) := by omega
        have HM := Lib.hid hm
        have HE2 := Lib.hid e2
        clear hl hla hkl hk1 hm e2 hB hgm
        by_cases hpe : p i = p (i - 1)
        · have hS := hS1 hpe
          have t1 : (p (i - 1) == p i) = true := by simp [hpe]
          have HNI := Lib.hid hnil
          clear hS1 hS2 hpe hnil
          have hbx := hb.alloc hsz (Obj.cells #[.int .i64 (F i), .int .i64 (R i), .int .i64 (E i)] 37)
          have x0 : (wr.alloc (Obj.cells #[.int .i64 (F i), .int .i64 (R i), .int .i64 (E i)] 37)).cell? ⟨wr.heap.size, 0, none⟩ = some (.int .i64 (F i)) := by simp [World.cell?_alloc_new]
          have x1 : (wr.alloc (Obj.cells #[.int .i64 (F i), .int .i64 (R i), .int .i64 (E i)] 37)).cell? ⟨wr.heap.size, 1, none⟩ = some (.int .i64 (R i)) := by simp [World.cell?_alloc_new]
          have x2 : (wr.alloc (Obj.cells #[.int .i64 (F i), .int .i64 (R i), .int .i64 (E i)] 37)).cell? ⟨wr.heap.size, 2, none⟩ = some (.int .i64 (E i)) := by simp [World.cell?_alloc_new]
          have f0 : (wr.alloc (Obj.cells #[.int .i64 (F i), .int .i64 (R i), .int .i64 (E i)] 37)).frozen? ⟨wr.heap.size, 0, none⟩ = false := (free_new wr _ _).1
          have z0 : wr.heap.size < (wr.alloc (Obj.cells #[.int .i64 (F i), .int .i64 (R i), .int .i64 (E i)] 37)).heap.size := by simp
          go_wp2_with (fail)
          refine (sc _).mono ?_
          rintro e w2 ⟨rfl, hb2⟩
          have hb3 := hbx.trans (hb2.mono (Nat.le_trans hb.size (by simp)))
          have y0 := cell_later hb2 x0
          have y1 := cell_later hb2 x1
          have y2 := cell_later hb2 x2
          have yf := (hb2.frozen (p := ⟨wr.heap.size, 0, none⟩) z0).trans f0
          have hz3 := hb2.size
          have hw2 : wr.heap.size < w2.heap.size := by simp at hz3; omega
          have hb4 : Below wr.heap.size wr w2 := ((Below.refl _ _).alloc (Nat.le_refl _) _).trans (hb2.mono (by simp))
          have hb5 := hb4.setCell (p := ⟨wr.heap.size, 0, none⟩) (Nat.le_refl _) (.int .i64 (p i))
          have hb6 := hb5.alloc hb5.size (.cells #[.int .i64 (p i), .int .i64 (R i), .int .i64 (E i)] 37)
          have hb7 := hb.trans (hb6.mono hb.size)
          have hown6 := own_below hcut hb6
          have hs3 : (w2.setCell ⟨wr.heap.size, 0, none⟩ (.int .i64 (p i))).heap.size = w2.heap.size := by simp [World.setCell]
          have hc1 := cell_three_new (w2.setCell ⟨wr.heap.size, 0, none⟩ (.int .i64 (p i))) (.int .i64 (p i)) (.int .i64 (R i)) (.int .i64 (E i)) 37 w2.heap.size hs3
          have hc2 : ∀ v ∈ [Value.int .i64 (p i), Value.int .i64 (R i), Value.int .i64 (E i)], v.oneCell' = true := by simp [Value.oneCell']
          have hc5 := hb7.size
          have HC3 : (m - 1) + 1 ≤ maxLen := by unfold maxLen; omega
          have HC4 : ((m - 1) + 1) * 24 ≤ 140737488355328 := by omega
          have hlast2 := cell_later hb4 hlast
          have hgne : g ≠ wr.heap.size := by have := World.block_lt_of_cell? _ _ hlast; show g ≠ _; simp at this; omega
          clear x0 x1 x2 f0 z0 hb2 hs3 hb4 hb5 hb6 hlast
          go_wp2_with (at_builtin; refine wpList_append_own _ rfl _ _ 22 rfl w.heap.size 37 i0 (.agg #[.int .i64 0, .int .i64 0, .int .i64 0]) 3 24 Try.underlying22 Hi.out Hz.out hz1 hz2 rfl (by decide) _ _ _ rfl hown6 ⟨w2.heap.size, 0, none⟩ 1 1 [.int .i64 (p i), .int .i64 (R i), .int .i64 (E i)] rfl rfl hc1 hc2 HC3 HC4 hc5 ?_; intro v' w3 hown2 hg2 _)
          have hb8 := hb7.grown hg2 hc5 (fun k hk => (hown6.lt k hk).1)
          have hown3 : Rw w3 w.heap.size v' (scl p R E (i + 1)) := rw_push hown2 hlen1 hS
          clear hown2 hg2 hown6 hown
          go_wp2
          go_roundw
          case rel => exact ⟨i + 1, by omega, by go_num, hown3, fun e => by omega, hb8⟩
          case measure => first | omega | (simp [intOf]; omega)
        · have hS := hS2 hpe
          have t1 : (p (i - 1) == p i) = false := by simp; omega
          have hm := HM.out
          have HNI := Lib.hid hnil
          clear hS1 hS2 hpe hnil hcut
          have hbx := hb.alloc hsz (Obj.cells #[.int .i64 (F i), .int .i64 (R i), .int .i64 (E i)] 37)
          have x0 : (wr.alloc (Obj.cells #[.int .i64 (F i), .int .i64 (R i), .int .i64 (E i)] 37)).cell? ⟨wr.heap.size, 0, none⟩ = some (.int .i64 (F i)) := by simp [World.cell?_alloc_new]
          have x1 : (wr.alloc (Obj.cells #[.int .i64 (F i), .int .i64 (R i), .int .i64 (E i)] 37)).cell? ⟨wr.heap.size, 1, none⟩ = some (.int .i64 (R i)) := by simp [World.cell?_alloc_new]
          have x2 : (wr.alloc (Obj.cells #[.int .i64 (F i), .int .i64 (R i), .int .i64 (E i)] 37)).cell? ⟨wr.heap.size, 2, none⟩ = some (.int .i64 (E i)) := by simp [World.cell?_alloc_new]
          have f0 : (wr.alloc (Obj.cells #[.int .i64 (F i), .int .i64 (R i), .int .i64 (E i)] 37)).frozen? ⟨wr.heap.size, 0, none⟩ = false := (free_new wr _ _).1
          have z0 : wr.heap.size < (wr.alloc (Obj.cells #[.int .i64 (F i), .int .i64 (R i), .int .i64 (E i)] 37)).heap.size := by simp
          go_wp2_with (fail)
          refine (sc _).mono ?_
          rintro e w2 ⟨rfl, hb2⟩
          have hb3 := hbx.trans (hb2.mono (Nat.le_trans hb.size (by simp)))
          have y0 := cell_later hb2 x0
          have y1 := cell_later hb2 x1
          have y2 := cell_later hb2 x2
          have yf := (hb2.frozen (p := ⟨wr.heap.size, 0, none⟩) z0).trans f0
          have hz3 := hb2.size
          have hw2 : wr.heap.size < w2.heap.size := by simp at hz3; omega
          have hb4 : Below wr.heap.size wr w2 := ((Below.refl _ _).alloc (Nat.le_refl _) _).trans (hb2.mono (by simp))
          have hb5 := hb4.setCell (p := ⟨wr.heap.size, 0, none⟩) (Nat.le_refl _) (.int .i64 (p i))
          have hb6 := hb5.alloc hb5.size (.cells #[.int .i64 (p i), .int .i64 (R i), .int .i64 (E i)] 37)
          have hb7 := hb.trans (hb6.mono hb.size)
          have hown6 := own_below hown hb6
          have hs3 : (w2.setCell ⟨wr.heap.size, 0, none⟩ (.int .i64 (p i))).heap.size = w2.heap.size := by simp [World.setCell]
          have hc1 := cell_three_new (w2.setCell ⟨wr.heap.size, 0, none⟩ (.int .i64 (p i))) (.int .i64 (p i)) (.int .i64 (R i)) (.int .i64 (E i)) 37 w2.heap.size hs3
          have hc2 : ∀ v ∈ [Value.int .i64 (p i), Value.int .i64 (R i), Value.int .i64 (E i)], v.oneCell' = true := by simp [Value.oneCell']
          have hc5 := hb7.size
          have HC3 : m + 1 ≤ maxLen := by unfold maxLen; omega
          have HC4 : (m + 1) * 24 ≤ 140737488355328 := by omega
          have hlast2 := cell_later hb4 hlast
          have hgne : g ≠ wr.heap.size := by have := World.block_lt_of_cell? _ _ hlast; show g ≠ _; simp at this; omega
          clear x0 x1 x2 f0 z0 hb2 hs3 hb4 hb5 hb6 hlast
          go_wp2_with (at_builtin; refine wpList_append_own _ rfl _ _ 22 rfl w.heap.size 37 i0 (.agg #[.int .i64 0, .int .i64 0, .int .i64 0]) 3 24 Try.underlying22 Hi.out Hz.out hz1 hz2 rfl (by decide) _ _ _ rfl hown6 ⟨w2.heap.size, 0, none⟩ 1 1 [.int .i64 (p i), .int .i64 (R i), .int .i64 (E i)] rfl rfl hc1 hc2 HC3 HC4 hc5 ?_; intro v' w3 hown2 hg2 _)
          have hb8 := hb7.grown hg2 hc5 (fun k hk => (hown6.lt k hk).1)
          have hown3 : Rw w3 w.heap.size v' (scl p R E (i + 1)) := rw_push hown2 hm hS
          clear hown2 hg2 hown6 hown
          go_wp2
          go_roundw
          case rel => exact ⟨i + 1, by omega, by go_num, hown3, fun e => by omega, hb8⟩
          case measure => first | omega | (simp [intOf]; omega)
      · have e0 : i = 0 := by omega
        obtain rfl := hnil e0
        have E0 := Lib.hid e0
        have HNI := Lib.hid hnil
        clear e0 hnil
        have hbx := hb.alloc hsz (Obj.cells #[.int .i64 (F i), .int .i64 (R i), .int .i64 (E i)] 37)
        have x0 : (wr.alloc (Obj.cells #[.int .i64 (F i), .int .i64 (R i), .int .i64 (E i)] 37)).cell? ⟨wr.heap.size, 0, none⟩ = some (.int .i64 (F i)) := by simp [World.cell?_alloc_new]
        have x1 : (wr.alloc (Obj.cells #[.int .i64 (F i), .int .i64 (R i), .int .i64 (E i)] 37)).cell? ⟨wr.heap.size, 1, none⟩ = some (.int .i64 (R i)) := by simp [World.cell?_alloc_new]
        have x2 : (wr.alloc (Obj.cells #[.int .i64 (F i), .int .i64 (R i), .int .i64 (E i)] 37)).cell? ⟨wr.heap.size, 2, none⟩ = some (.int .i64 (E i)) := by simp [World.cell?_alloc_new]
        have f0 : (wr.alloc (Obj.cells #[.int .i64 (F i), .int .i64 (R i), .int .i64 (E i)] 37)).frozen? ⟨wr.heap.size, 0, none⟩ = false := (free_new wr _ _).1
        have z0 : wr.heap.size < (wr.alloc (Obj.cells #[.int .i64 (F i), .int .i64 (R i), .int .i64 (E i)] 37)).heap.size := by simp
        go_wp2_with (fail)
        refine (sc _).mono ?_
        rintro e w2 ⟨rfl, hb2⟩
        have hb3 := hbx.trans (hb2.mono (Nat.le_trans hb.size (by simp)))
        have y0 := cell_later hb2 x0
        have y1 := cell_later hb2 x1
        have y2 := cell_later hb2 x2
        have yf := (hb2.frozen (p := ⟨wr.heap.size, 0, none⟩) z0).trans f0
        have hz3 := hb2.size
        have hw2 : wr.heap.size < w2.heap.size := by simp at hz3; omega
        have hb4 : Below wr.heap.size wr w2 := ((Below.refl _ _).alloc (Nat.le_refl _) _).trans (hb2.mono (by simp))
        have hb5 := hb4.setCell (p := ⟨wr.heap.size, 0, none⟩) (Nat.le_refl _) (.int .i64 (p i))
        have hb6 := hb5.alloc hb5.size (.cells #[.int .i64 (p i), .int .i64 (R i), .int .i64 (E i)] 37)
        have hb7 := hb.trans (hb6.mono hb.size)
        have hown6 := own_below hown hb6
        have hs3 : (w2.setCell ⟨wr.heap.size, 0, none⟩ (.int .i64 (p i))).heap.size = w2.heap.size := by simp [World.setCell]
        have hc1 := cell_three_new (w2.setCell ⟨wr.heap.size, 0, none⟩ (.int .i64 (p i))) (.int .i64 (p i)) (.int .i64 (R i)) (.int .i64 (E i)) 37 w2.heap.size hs3
        have hc2 : ∀ v ∈ [Value.int .i64 (p i), Value.int .i64 (R i), Value.int .i64 (E i)], v.oneCell' = true := by simp [Value.oneCell']
        have hc5 := hb7.size
        have hlen : (scl p R E i).length = 0 := by have := E0.out; subst this; rfl
        have HC3 : (scl p R E i).length + 1 ≤ maxLen := by unfold maxLen; omega
        have HC4 : ((scl p R E i).length + 1) * 24 ≤ 140737488355328 := by omega
        clear hlen
        clear x0 x1 x2 f0 z0 hb2 hs3 hb4 hb5 hb6
        go_wp2_with (at_builtin; refine wpList_append_own _ rfl _ _ 22 rfl w.heap.size 37 i0 (.agg #[.int .i64 0, .int .i64 0, .int .i64 0]) 3 24 Try.underlying22 Hi.out Hz.out hz1 hz2 rfl (by decide) _ _ _ rfl hown6 ⟨w2.heap.size, 0, none⟩ 1 1 [.int .i64 (p i), .int .i64 (R i), .int .i64 (E i)] rfl rfl hc1 hc2 HC3 HC4 hc5 ?_; intro v' w3 hown2 hg2 _)
        have hb8 := hb7.grown hg2 hc5 (fun k hk => (hown6.lt k hk).1)
        have hown3 : Rw w3 w.heap.size v' (scl p R E (i + 1)) := rw_push hown2 rfl (by have := E0.out; subst this; rfl)
        clear hown2 hg2 hown6 hown
        go_wp2
        go_roundw
        case rel => exact ⟨i + 1, by omega, by go_num, hown3, fun e => by omega, hb8⟩
        case measure => first | omega | (simp [intOf]; omega)
    · obtain rfl : i = n := by omega
      clear h
      go_wp2
      go_ret2
      exact ⟨_, rfl, hown, hb⟩
end Go.Proofs.Ytkiefceomgbbhaa
