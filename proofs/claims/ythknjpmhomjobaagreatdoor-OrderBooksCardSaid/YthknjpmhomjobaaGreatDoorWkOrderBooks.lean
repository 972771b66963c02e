/- The walk of the law OrderBooks. -/
import Derived.Test.YthknjpmhomjobaaGreatDoorBkS
import Derived.Test.YthknjpmhomjobaaGreatDoorBkV
import Derived.Test.YthknjpmhomjobaaGreatDoorOwr
namespace Go.Proofs.YthknjpmhomjobaaGreatDoor
open Go.RowKit Go.Sort
set_option linter.unusedVariables false
set_option linter.unusedSimpArgs false

/-- what is done lies there: an order, and whether it is cancelled -/
def PAt (W : World) (b o : Nat) (s : Sta) (v : Bool) : Prop := OAt W b o s ∧ W.cell? ⟨b, o + 5, none⟩ = some (.bool v)
theorem PAt.below {W W' : World} {b o : Nat} {s : Sta} {v : Bool} (h : PAt W b o s v) (hb : Below W.heap.size W W') : PAt W' b o s v := ⟨h.1.below hb, cell_later hb h.2⟩
def Ops (W : World) (A : Option Addr) (n : Nat) (g : Nat → Sta) (cb : Nat → Bool) : Prop := 0 < n → ∃ b o, A = some ⟨b, o, none⟩ ∧ ∀ i, i < n → PAt W b (o + i * 6) (g i) (cb i)
theorem Ops.below {W W' : World} {A : Option Addr} {n : Nat} {g : Nat → Sta} {cb : Nat → Bool} (h : Ops W A n g cb) (hb : Below W.heap.size W W') : Ops W' A n g cb := fun hn => by
  obtain ⟨b, o, e, hc⟩ := h hn
  exact ⟨b, o, e, fun i hi => (hc i hi).below hb⟩
theorem odc_del5 (h : Nat → Sta) {a n : Nat} (ha : a < n + 1) : odc h a ++ odc (fun j => h (a + 1 + j)) (n - a) = odc (dlO h a) n := by
  rw [← odc_del h a (n - a), show a + (n - a) = n by omega]
theorem own_where {w : World} {B n c size : Nat} {A : Option Addr} {e : TypeId} {xs : List Value} (h : w.ownsRow B e size (.slice A n c) n xs) : ∀ a, A = some a → ∃ g, a = ⟨g, 0, none⟩ ∧ B ≤ g ∧ g < w.heap.size := by
  obtain ⟨A', c', e', hA, _⟩ := own_len h
  obtain ⟨rfl, _, rfl⟩ := Value.slice.inj e'
  exact hA
/-- a box that is older than nothing of a slice's own block -/
theorem bx_grown {W W' : World} {q nn ch : Nat} {t : TypeId} {l : List Value} {Ah : Option Addr} (K : Bx W q t l) (hg : W.grownBy W' (Value.slice Ah nn ch).ownBlock) (hA : ∀ a, Ah = some a → ∃ g, a = ⟨g, 0, none⟩ ∧ g ≠ q) : Bx W' q t l :=
  K.of_block (hg.block q K.lt fun e => by
    cases Ah with
    | none => cases e
    | some a =>
      obtain ⟨g', rfl, h2⟩ := hA a rfl
      have : q = g' := by simpa [Value.ownBlock] using e
      exact h2 this.symm)
theorem own5_conv {w : World} {B B' m n : Nat} {e : TypeId} {v : Value} {xs ys : List Value} (h : w.ownsRow B e 5 v m xs) (hm : m = n) (hx : xs = ys) (hB : B' ≤ B) : w.ownsRow B' e 5 v n ys := by
  subst hm hx
  exact own_mono h hB
theorem sub5 {a n : Nat} (ha : a < n + 1) : a + (n - a) = n := by omega
set_option maxRecDepth 100000 in
set_option maxHeartbeats 4000000 in
theorem obk_long (A : Option Addr) (m c : Nat) (w : World) (h : 60 < m) :
    Calls Tryz.prog 4 #[.slice A m c] w fun e w' => e = .returned (.bool true) ∧ Below w.heap.size w w' := by
  have q0 : decide (60 < (m : Int)) = true := decide_eq_true (by omega)
  go_enter Tryz.func4, Tryz.ntmps4
  go_wp2_with (fail)
  with_reducible refine (obooks_any _).mono ?_
  rintro e w1 ⟨rfl, B1⟩
  go_wp2
  go_ret
  exact ⟨rfl, B1⟩
set_option maxRecDepth 100000 in
set_option maxHeartbeats 16000000 in
theorem obk_any (A : Option Addr) (m c : Nat) (g : Nat → Sta) (cb : Nat → Bool) (w : World) (hA : Ops w A m g cb) (hm : m ≤ 60) :
    Calls Tryz.prog 4 #[.slice A m c] w fun e w' => e = .returned (.bool true) ∧ Below w.heap.size w w' := by
  have q0 : decide (60 < (m : Int)) = false := decide_eq_false (by omega)
  have q2 : ¬ 60 < m := by omega
  go_enter Tryz.func4, Tryz.ntmps4
  go_wp2_with (fail)
  with_reducible refine (obooks_any _).mono ?_
  rintro e w1 ⟨rfl, B1⟩
  have NB := below_new w1 (.cells #[.slice none 0 0] 35)
  have K := bx_new w1 [.slice none 0 0] 35
  have B2 := below_step B1 NB B1.size
  have hbk : BkN (w1.alloc (.cells #[.slice none 0 0] 35)) w1.heap.size 0 g none := ⟨none, 0, K, fun h0 => absurd h0 (Nat.lt_irrefl 0), fun _ => rfl, fun _ _ e => (nomatch e)⟩
  have hinv : InvJ 0 g g := ⟨⟨fun k => k, perO_id 0, fun i hi => absurd hi (Nat.not_lt_zero i)⟩, fun k hk => by omega, fun i _ hi => absurd hi (Nat.not_lt_zero i), fun i hi => absurd hi (Nat.not_lt_zero i)⟩
  have hwp : w.heap.size ≤ w1.heap.size := B1.size
  have HA := Lib.hid hA
  clear NB K B1 hA
  go_wp2
  generalize w1.alloc (.cells #[.slice none 0 0] 35) = w2 at *
  generalize w1.heap.size = p at *
  go_loopw [4, 19] (fun s4 s19 W => ∃ (k n : Nat) (h f : Nat → Sta) (Ah : Option Addr) (ch : Nat), k ≤ m ∧ s4 = .slice Ah n ch ∧ s19 = .int .i64 k ∧ n ≤ 8 ∧ InvJ n h f ∧ W.ownsRow (p + 1) 23 5 (.slice Ah n ch) n (odc h n) ∧ BkN W p n f Ah ∧ Below w.heap.size w W) (fun _ s19 _ => m - (intOf s19).toNat)
  case atStart => exact ⟨0, 0, g, g, none, 0, Nat.zero_le _, rfl, rfl, by omega, hinv, World.ownsRow_nil _ _ _ _, hbk, B2⟩
  case round =>
    clear hinv hbk B2
    obtain ⟨k, n, h, f, Ah, ch, hk, rfl, rfl, hn, hinv, hown, hbk, hB⟩ := hrel
    by_cases hlk : k < m
    · obtain ⟨b, o, rfl, hc⟩ := (HA.out.below hB) (by omega)
      obtain ⟨⟨d0, d1, d2, d3, d4⟩, d5⟩ := hc k hlk
      have hkl : (k : Int) < (m : Int) := by omega
      have hkm : k + 1 ≤ m := hlk
      have HH := Lib.hid hinv
      clear hc hinv
      generalize (g k).id = x0 at *
      generalize (g k).pr = x1 at *
      generalize (g k).am = x2 at *
      generalize (g k).rt = x3 at *
      generalize (g k).tot = x4 at *
      generalize cb k = v at *
      have K := bx_new wr [.int .i64 x0, .int .i64 x1, .int .i64 x2, .int .i64 x3, .int .i64 x4, .bool v] 38
      have NB := below_new wr (.cells #[.int .i64 x0, .int .i64 x1, .int .i64 x2, .int .i64 x3, .int .i64 x4, .bool v] 38)
      have HK := Lib.hid K
      have HB := Lib.hid (below_step hB NB hB.size)
      have HBK := Lib.hid (hbk.below NB)
      have HOW := Lib.hid (own_below hown NB)
      have hpw := hbk.bk.lt
      have HGQ := Lib.hid (own_where hown)
      have hpq : Hid (p < wr.heap.size) := Lib.hid hpw
      clear K NB hB hbk hown hpw
      go_wp2
      generalize wr.alloc (.cells #[.int .i64 x0, .int .i64 x1, .int .i64 x2, .int .i64 x3, .int .i64 x4, .bool v] 38) = wi at *
      generalize wr.heap.size = qx at *
      go_loopw [7, 25] (fun s7 s25 W => ∃ j : Nat, j ≤ n ∧ s7 = .int .i64 (lst h x0 j) ∧ s25 = .int .i64 j ∧ Below wi.heap.size wi W) (fun _ s25 _ => n - (intOf s25).toNat)
      case atStart => exact ⟨0, Nat.zero_le _, rfl, rfl, Below.refl _ _⟩
      case round =>
        obtain ⟨j, hj, rfl, rfl, hBj⟩ := hrel
        by_cases hjn : j < n
        · obtain ⟨gx, rfl, e0, e1, e2, e3, e4⟩ := own5_at (own_below HOW.out hBj) hjn
          have hjl : (j : Int) < (n : Int) := by omega
          have hls : lst h x0 (j + 1) = if (h j).id = x0 then (j : Int) else lst h x0 j := rfl
          obtain ⟨lj, hlj⟩ : ∃ v, lst h x0 j = v := ⟨_, rfl⟩
          have HKj := HK.out.below hBj
          rw [hlj] at hls ⊢
          have hj1 : j + 1 ≤ n := hjn
          have HLS0 := Lib.hid hls
          clear hlj hls HBK HOW HH HB HA HK
          obtain ⟨y0, hy0⟩ : ∃ y, (h j).id = y := ⟨_, rfl⟩
          rw [hy0] at e0
          have hls := HLS0.out
          rw [hy0] at hls
          have HLS := Lib.hid hls
          clear HLS0 hls hy0
          generalize (h j).pr = y1 at *
          generalize (h j).am = y2 at *
          generalize (h j).rt = y3 at *
          generalize (h j).tot = y4 at *
          have K2 := bx_new wr [.int .i64 y0, .int .i64 y1, .int .i64 y2, .int .i64 y3, .int .i64 y4] 23
          have NB := below_new wr (.cells #[.int .i64 y0, .int .i64 y1, .int .i64 y2, .int .i64 y3, .int .i64 y4] 23)
          have z0 := K2.cell (i := 0) rfl
          have z1 := (HKj.below NB).cell (i := 0) rfl
          have BE := below_step hBj NB hBj.size
          clear K2 NB HKj hBj
          by_cases hxy : y0 = x0
          · have tt : (y0 == x0) = true := by simp [hxy]
            have HXY := Lib.hid hxy
            clear hxy
            go_wp2
            refine ⟨⟨j + 1, hj1, by rw [HLS.out, if_pos HXY.out], by go_num, BE⟩, meas_step hjn⟩
          · have tt : (y0 == x0) = false := by simp [hxy]
            have HXY := Lib.hid hxy
            clear hxy
            go_wp2
            refine ⟨⟨j + 1, hj1, by rw [HLS.out, if_neg HXY.out], by go_num, BE⟩, meas_step hjn⟩
        · obtain rfl : n = j := by omega
          have hnl3 : ¬ (n : Int) < (n : Int) := by omega
          have HKj := Lib.hid (HK.out.below hBj)
          have HB1 := Lib.hid (below_step HB.out hBj HB.out.size)
          have HBK1 := Lib.hid (HBK.out.below hBj)
          have HOW1 := Lib.hid (own_below HOW.out hBj)
          clear hBj HB HBK HOW HK
          have k_0 := HKj.out.cell (i := 0) rfl
          have k_1 := HKj.out.cell (i := 1) rfl
          have k_2 := HKj.out.cell (i := 2) rfl
          have k_3 := HKj.out.cell (i := 3) rfl
          have k_4 := HKj.out.cell (i := 4) rfl
          have k_5 := HKj.out.cell (i := 5) rfl
          rcases lst_cases h x0 n with ⟨hl, hno⟩ | ⟨a, han, hl, hida⟩
          · rw [hl]
            have hpn := HH.out.none hno
            cases v
            · have cW := owrong_any x0 x1 x2 x3 x4 wr _ rfl
              obtain ⟨vv, hvv⟩ : ∃ vv, chkO x0 x1 x2 x3 x4 = vv := ⟨_, rfl⟩
              have HVV := Lib.hid hvv
              rw [hvv] at cW
              clear hvv
              go_wp2_with (fail)
              with_reducible refine cW.mono ?_
              rintro e ws ⟨rfl, Cs⟩
              have HKs := HKj.out.below Cs
              have HKs1 := Lib.hid HKs
              have HBs := Lib.hid (HBK1.out.below Cs)
              have HOs := Lib.hid (own_below HOW1.out Cs)
              have HLs := Lib.hid (below_step HB1.out Cs HB1.out.size)
              clear cW Cs HBK1 HOW1 HB1 HKj k_0 k_1 k_2 k_3 k_4 k_5
              have q_0 := HKs.cell (i := 0) rfl
              have q_1 := HKs.cell (i := 1) rfl
              have q_2 := HKs.cell (i := 2) rfl
              have q_3 := HKs.cell (i := 3) rfl
              have q_4 := HKs.cell (i := 4) rfl
              have q_5 := HKs.cell (i := 5) rfl
              have hvv2 : (vv != vv) = false := by simp
              by_cases hv0 : vv = 0
              · subst hv0
                by_cases h8 : n = 8
                · subst h8
                  have cA := add_twice p 8 f x0 x1 x2 x3 x4 ws HBs.out.bk hn HVV.out (-1) hpn (.inr ⟨by omega, rfl⟩) 2 rfl
                  go_wp2_with (fail)
                  with_reducible refine cA.mono ?_
                  rintro e wz ⟨rfl, Cz⟩
                  have tbk := HBs.out.below Cz
                  have tow := own_below HOs.out Cz
                  have tbl := below_step HLs.out Cz HLs.out.size
                  clear cA Cz HBs HOs HLs HKs q_0 q_1 q_2 q_3 q_4 q_5
                  have cL := list_any p _ _ wz (BkN.bk tbk) (by omega)
                  have HTB := Lib.hid tbk
                  have HTO := Lib.hid tow
                  have HTL := Lib.hid tbl
                  clear tbk tow tbl
                  go_wp2_with (fail)
                  with_reducible refine cL.mono ?_
                  rintro e wy ⟨vy, rfl, howny, Cy⟩
                  obtain ⟨Ay, cy, rfl, _, _⟩ := own_len howny
                  have HTB2 := Lib.hid (HTB.out.below Cy)
                  have HTO2 := Lib.hid (own_below HTO.out Cy)
                  have HTL2 := Lib.hid (below_step HTL.out Cy HTL.out.size)
                  have cS := stands_any Ay _ cy _ _ ch _ wy (ors_own howny) (ods_own HTO2.out) HH.out (by omega)
                  clear cL HTB HTO HTL howny Cy
                  go_wp2_with (fail)
                  with_reducible refine cS.mono ?_
                  rintro e wx ⟨rfl, Cx⟩
                  have HTB3 := Lib.hid (HTB2.out.below Cx)
                  have HTO3 := Lib.hid (own_below HTO2.out Cx)
                  have HTL3 := Lib.hid (below_step HTL2.out Cx HTL2.out.size)
                  clear cS HTB2 HTO2 HTL2 Cx
                  go_wp2
                  refine ⟨⟨k + 1, _, _, _, _, _, hkm, rfl, by go_num, hn, HH.out, HTO3.out, HTB3.out, HTL3.out⟩, meas_step hlk⟩
                · have t8 : ((n : Int) == 8) = false := by simp; omega
                  have cA := fun W hb => add_bookB p n f x0 x1 x2 x3 x4 W hb (by omega) HVV.out hpn
                  obtain ⟨j0, hj0, hz0, hz1, hz2⟩ := info_parts infoOd
                  have Hj := Lib.hid (And.intro hj0 (And.intro hz0 (And.intro hz1 hz2)))
                  have NB := below_new ws (.cells #[.int .i64 x0, .int .i64 x1, .int .i64 x2, .int .i64 x3, .int .i64 x4] 23)
                  have KA := bx_new ws [.int .i64 x0, .int .i64 x1, .int .i64 x2, .int .i64 x3, .int .i64 x4] 23
                  have hownA := own_below HOs.out NB
                  have hsA : p + 1 ≤ (ws.alloc (.cells #[.int .i64 x0, .int .i64 x1, .int .i64 x2, .int .i64 x3, .int .i64 x4] 23)).heap.size := Nat.le_trans HBs.out.bk.lt NB.size
                  have HOA := Lib.hid hownA
                  have HKA := Lib.hid KA
                  have HNB := Lib.hid NB
                  have HSA := Lib.hid hsA
                  have HNO := Lib.hid hno
                  have hone : Hid (∀ u ∈ ([.int .i64 x0, .int .i64 x1, .int .i64 x2, .int .i64 x3, .int .i64 x4] : List Value), u.oneCell' = true) := Lib.hid (by simp [Value.oneCell'])
                  have hn9 : n + 1 ≤ 8 := by omega
                  have m1 : n + 1 ≤ maxLen := by unfold maxLen; omega
                  have m2 : (n + 1) * 40 ≤ 140737488355328 := by omega
                  clear hj0 hz0 hz1 hz2 NB KA hownA hsA hno hpn hl h8
                  have HGK : Hid (∀ a, Ah = some a → ∃ g, a = ⟨g, 0, none⟩ ∧ g ≠ qx) := Lib.hid fun a e => by obtain ⟨g, e', _, h2⟩ := HGQ.out a e; exact ⟨g, e', by omega⟩
                  have HGP : Hid (∀ a, Ah = some a → ∃ g, a = ⟨g, 0, none⟩ ∧ p < g) := Lib.hid fun a e => by obtain ⟨g, e', h1, _⟩ := HGQ.out a e; exact ⟨g, e', h1⟩
                  go_wp2_with (at_builtin; refine wpList_append_lies _ rfl _ _ 36 rfl (p + 1) 23 j0 (.agg #[.int .i64 0, .int .i64 0, .int .i64 0, .int .i64 0, .int .i64 0]) 5 40 Tryz.underlying36 Hj.out.1 Hj.out.2.1 Hj.out.2.2.1 Hj.out.2.2.2 rfl (by decide) _ _ _ rfl HOA.out ⟨ws.heap.size, 0, none⟩ 1 1 [.int .i64 x0, .int .i64 x1, .int .i64 x2, .int .i64 x3, .int .i64 x4] rfl rfl (bx_add HKA.out) hone.out (by decide) m1 m2 HSA.out _ rfl ?_; intro g9 c9 w9 hown9 hgr hat hlt9; have hk9 := bx_grown (nn := n) (ch := ch) (HKs1.out.below HNB.out) hgr HGK.out; have r0 := hk9.cell (i := 0) rfl; have r1 := hk9.cell (i := 1) rfl; have r2 := hk9.cell (i := 2) rfl; have r3 := hk9.cell (i := 3) rfl; have r4 := hk9.cell (i := 4) rfl)
                  have hbN := (HBs.out.below HNB.out).grown (nn := n) (ch := ch) hgr HGP.out hat
                  have hown10 : w9.ownsRow (p + 1) 23 5 (.slice (some ⟨g9, 0, none⟩) (n + 1) c9) (n + 1) (odc (exO h n ⟨x0, x1, x2, x3, x4, 0, 0⟩) (n + 1)) := by rw [odc_exO]; exact hown9
                  have hB9 : Below w.heap.size w w9 := (below_step HLs.out HNB.out HLs.out.size).grown hgr (Nat.le_trans HLs.out.size HNB.out.size) (fun q hq => by have := (HOA.out.lt q hq).1; omega)
                  have HO9 := Lib.hid hown10
                  have HL9 := Lib.hid hB9
                  have HG9 := Lib.hid hlt9
                  have HB9 := Lib.hid hbN
                  clear hown10 hown9 hB9 hlt9 hbN hgr hat
                  with_reducible refine (cA _ HB9.out.bk).mono ?_
                  rintro e wz ⟨f', rfl, hm', hs', tbk0, hr⟩
                  have tbk := tbk0.apart (Ah := some ⟨g9, 0, none⟩) fun g o e => by have := HG9.out; simp only [Option.some.injEq, Addr.mk.injEq] at e; omega
                  have tow := own_rel HO9.out hr (Nat.lt_succ_self p)
                  have tbl := hr.below HL9.out HL9.out.size hwp
                  have HJ2 := HH.out.add (s := ⟨x0, x1, x2, x3, x4, 0, 0⟩) rfl rfl HNO.out hm' hs'
                  have HJJ := Lib.hid HJ2
                  clear cA hr tbk0 hm' hs' HJ2 HO9 HL9 HB9 r0 r1 r2 r3 r4 hk9
                  have cL := list_any p _ _ wz (BkN.bk tbk) (by omega)
                  have HTB := Lib.hid tbk
                  have HTO := Lib.hid tow
                  have HTL := Lib.hid tbl
                  clear tbk tow tbl
                  go_wp2_with (fail)
                  with_reducible refine cL.mono ?_
                  rintro e wy ⟨vy, rfl, howny, Cy⟩
                  obtain ⟨Ay, cy, rfl, _, _⟩ := own_len howny
                  have HTB2 := Lib.hid (HTB.out.below Cy)
                  have HTO2 := Lib.hid (own_below HTO.out Cy)
                  have HTL2 := Lib.hid (below_step HTL.out Cy HTL.out.size)
                  have cS := stands_any Ay _ cy _ _ c9 _ wy (ors_own howny) (ods_own HTO2.out) HJJ.out (by omega)
                  clear cL HTB HTO HTL howny Cy
                  go_wp2_with (fail)
                  with_reducible refine cS.mono ?_
                  rintro e wx ⟨rfl, Cx⟩
                  have HTB3 := Lib.hid (HTB2.out.below Cx)
                  have HTO3 := Lib.hid (own_below HTO2.out Cx)
                  have HTL3 := Lib.hid (below_step HTL2.out Cx HTL2.out.size)
                  clear cS HTB2 HTO2 HTL2 Cx
                  go_wp2
                  refine ⟨⟨k + 1, _, _, _, _, _, hkm, rfl, by go_num, hn9, HJJ.out, HTO3.out, HTB3.out, HTL3.out⟩, meas_step hlk⟩
              · have t1 : (vv != 0) = true := by simp [hv0]
                have cA := add_no p n f x0 x1 x2 x3 x4 ws HBs.out.bk hn (by rw [HVV.out]; exact hv0)
                rw [HVV.out] at cA
                clear hv0
                go_wp2_with (fail)
                with_reducible refine cA.mono ?_
                rintro e wz ⟨rfl, Cz⟩
                have tbk := HBs.out.below Cz
                have tow := own_below HOs.out Cz
                have tbl := below_step HLs.out Cz HLs.out.size
                clear cA Cz HBs HOs HLs HKs q_0 q_1 q_2 q_3 q_4 q_5
                have cL := list_any p _ _ wz (BkN.bk tbk) (by omega)
                have HTB := Lib.hid tbk
                have HTO := Lib.hid tow
                have HTL := Lib.hid tbl
                clear tbk tow tbl
                go_wp2_with (fail)
                with_reducible refine cL.mono ?_
                rintro e wy ⟨vy, rfl, howny, Cy⟩
                obtain ⟨Ay, cy, rfl, _, _⟩ := own_len howny
                have HTB2 := Lib.hid (HTB.out.below Cy)
                have HTO2 := Lib.hid (own_below HTO.out Cy)
                have HTL2 := Lib.hid (below_step HTL.out Cy HTL.out.size)
                have cS := stands_any Ay _ cy _ _ ch _ wy (ors_own howny) (ods_own HTO2.out) HH.out (by omega)
                clear cL HTB HTO HTL howny Cy
                go_wp2_with (fail)
                with_reducible refine cS.mono ?_
                rintro e wx ⟨rfl, Cx⟩
                have HTB3 := Lib.hid (HTB2.out.below Cx)
                have HTO3 := Lib.hid (own_below HTO2.out Cx)
                have HTL3 := Lib.hid (below_step HTL2.out Cx HTL2.out.size)
                clear cS HTB2 HTO2 HTL2 Cx
                go_wp2
                refine ⟨⟨k + 1, _, _, _, _, _, hkm, rfl, by go_num, hn, HH.out, HTO3.out, HTB3.out, HTL3.out⟩, meas_step hlk⟩
            · have cC := fun W hb => cancel_no p n f x0 W hb (by omega) hpn
              have HNO := Lib.hid hno
              clear hl hno hpn
              go_wp2_with (fail)
              with_reducible refine (cC _ HBK1.out.bk).mono ?_
              rintro e wz ⟨rfl, Cz⟩
              have tbk := HBK1.out.below Cz
              have tow := own_below HOW1.out Cz
              have tbl := below_step HB1.out Cz HB1.out.size
              clear cC Cz HBK1 HOW1 HB1
              have cL := list_any p _ _ wz (BkN.bk tbk) (by omega)
              have HTB := Lib.hid tbk
              have HTO := Lib.hid tow
              have HTL := Lib.hid tbl
              clear tbk tow tbl
              go_wp2_with (fail)
              with_reducible refine cL.mono ?_
              rintro e wy ⟨vy, rfl, howny, Cy⟩
              obtain ⟨Ay, cy, rfl, _, _⟩ := own_len howny
              have HTB2 := Lib.hid (HTB.out.below Cy)
              have HTO2 := Lib.hid (own_below HTO.out Cy)
              have HTL2 := Lib.hid (below_step HTL.out Cy HTL.out.size)
              have cS := stands_any Ay _ cy _ _ ch _ wy (ors_own howny) (ods_own HTO2.out) HH.out (by omega)
              clear cL HTB HTO HTL howny Cy
              go_wp2_with (fail)
              with_reducible refine cS.mono ?_
              rintro e wx ⟨rfl, Cx⟩
              have HTB3 := Lib.hid (HTB2.out.below Cx)
              have HTO3 := Lib.hid (own_below HTO2.out Cx)
              have HTL3 := Lib.hid (below_step HTL2.out Cx HTL2.out.size)
              clear cS HTB2 HTO2 HTL2 Cx
              go_wp2
              refine ⟨⟨k + 1, _, _, _, _, _, hkm, rfl, by go_num, hn, HH.out, HTO3.out, HTB3.out, HTL3.out⟩, meas_step hlk⟩
          · rw [hl]
            obtain ⟨i0, hi0n, hfi, hpl⟩ := HH.out.some han
            rw [hida] at hpl
            have ha0 : ¬ (a : Int) < 0 := by omega
            cases v
            · have cW := owrong_any x0 x1 x2 x3 x4 wr _ rfl
              obtain ⟨vv, hvv⟩ : ∃ vv, chkO x0 x1 x2 x3 x4 = vv := ⟨_, rfl⟩
              have HVV := Lib.hid hvv
              rw [hvv] at cW
              clear hvv
              go_wp2_with (fail)
              with_reducible refine cW.mono ?_
              rintro e ws ⟨rfl, Cs⟩
              have HKs := HKj.out.below Cs
              have HKs1 := Lib.hid HKs
              have HBs := Lib.hid (HBK1.out.below Cs)
              have HOs := Lib.hid (own_below HOW1.out Cs)
              have HLs := Lib.hid (below_step HB1.out Cs HB1.out.size)
              clear cW Cs HBK1 HOW1 HB1 HKj k_0 k_1 k_2 k_3 k_4 k_5
              have q_0 := HKs.cell (i := 0) rfl
              have q_1 := HKs.cell (i := 1) rfl
              have q_2 := HKs.cell (i := 2) rfl
              have q_3 := HKs.cell (i := 3) rfl
              have q_4 := HKs.cell (i := 4) rfl
              have q_5 := HKs.cell (i := 5) rfl
              have hvv2 : (vv != vv) = false := by simp
              by_cases hv0 : vv = 0
              · subst hv0
                have hi00 : (0 : Int) ≤ (i0 : Int) := by omega
                have ha1 : (0 : Int) ≤ (a : Int) := by omega
                have cA := add_twice p n f x0 x1 x2 x3 x4 ws HBs.out.bk hn HVV.out (i0 : Int) hpl (.inl hi00) 4 (if_pos hi00)
                go_wp2_with (fail)
                with_reducible refine cA.mono ?_
                rintro e wz ⟨rfl, Cz⟩
                have tbk := HBs.out.below Cz
                have tow := own_below HOs.out Cz
                have tbl := below_step HLs.out Cz HLs.out.size
                clear cA Cz HBs HOs HLs HKs q_0 q_1 q_2 q_3 q_4 q_5
                have cL := list_any p _ _ wz (BkN.bk tbk) (by omega)
                have HTB := Lib.hid tbk
                have HTO := Lib.hid tow
                have HTL := Lib.hid tbl
                clear tbk tow tbl
                go_wp2_with (fail)
                with_reducible refine cL.mono ?_
                rintro e wy ⟨vy, rfl, howny, Cy⟩
                obtain ⟨Ay, cy, rfl, _, _⟩ := own_len howny
                have HTB2 := Lib.hid (HTB.out.below Cy)
                have HTO2 := Lib.hid (own_below HTO.out Cy)
                have HTL2 := Lib.hid (below_step HTL.out Cy HTL.out.size)
                have cS := stands_any Ay _ cy _ _ ch _ wy (ors_own howny) (ods_own HTO2.out) HH.out (by omega)
                clear cL HTB HTO HTL howny Cy
                go_wp2_with (fail)
                with_reducible refine cS.mono ?_
                rintro e wx ⟨rfl, Cx⟩
                have HTB3 := Lib.hid (HTB2.out.below Cx)
                have HTO3 := Lib.hid (own_below HTO2.out Cx)
                have HTL3 := Lib.hid (below_step HTL2.out Cx HTL2.out.size)
                clear cS HTB2 HTO2 HTL2 Cx
                go_wp2
                refine ⟨⟨k + 1, _, _, _, _, _, hkm, rfl, by go_num, hn, HH.out, HTO3.out, HTB3.out, HTL3.out⟩, meas_step hlk⟩
              · have t1 : (vv != 0) = true := by simp [hv0]
                have cA := add_no p n f x0 x1 x2 x3 x4 ws HBs.out.bk hn (by rw [HVV.out]; exact hv0)
                rw [HVV.out] at cA
                clear hv0
                go_wp2_with (fail)
                with_reducible refine cA.mono ?_
                rintro e wz ⟨rfl, Cz⟩
                have tbk := HBs.out.below Cz
                have tow := own_below HOs.out Cz
                have tbl := below_step HLs.out Cz HLs.out.size
                clear cA Cz HBs HOs HLs HKs q_0 q_1 q_2 q_3 q_4 q_5
                have cL := list_any p _ _ wz (BkN.bk tbk) (by omega)
                have HTB := Lib.hid tbk
                have HTO := Lib.hid tow
                have HTL := Lib.hid tbl
                clear tbk tow tbl
                go_wp2_with (fail)
                with_reducible refine cL.mono ?_
                rintro e wy ⟨vy, rfl, howny, Cy⟩
                obtain ⟨Ay, cy, rfl, _, _⟩ := own_len howny
                have HTB2 := Lib.hid (HTB.out.below Cy)
                have HTO2 := Lib.hid (own_below HTO.out Cy)
                have HTL2 := Lib.hid (below_step HTL.out Cy HTL.out.size)
                have cS := stands_any Ay _ cy _ _ ch _ wy (ors_own howny) (ods_own HTO2.out) HH.out (by omega)
                clear cL HTB HTO HTL howny Cy
                go_wp2_with (fail)
                with_reducible refine cS.mono ?_
                rintro e wx ⟨rfl, Cx⟩
                have HTB3 := Lib.hid (HTB2.out.below Cx)
                have HTO3 := Lib.hid (own_below HTO2.out Cx)
                have HTL3 := Lib.hid (below_step HTL2.out Cx HTL2.out.size)
                clear cS HTB2 HTO2 HTL2 Cx
                go_wp2
                refine ⟨⟨k + 1, _, _, _, _, _, hkm, rfl, by go_num, hn, HH.out, HTO3.out, HTB3.out, HTL3.out⟩, meas_step hlk⟩
            · obtain ⟨n1, rfl⟩ : ∃ n1, n = n1 + 1 := ⟨n - 1, by omega⟩
              have cC := fun W hb => cancel_atB p n1 i0 f x0 W hb (by omega) hi0n hpl
              have HJ := Lib.hid (HH.out.del hi0n han hfi)
              have hown := HOW1.out
              obtain ⟨Ah', ch', e', _, hgg⟩ := own_len hown
              obtain ⟨rfl, _, rfl⟩ := Value.slice.inj e'
              obtain ⟨gh, rfl⟩ := hgg (by omega)
              have hcap : n1 + 1 ≤ ch := by
                rcases hown.2 with ⟨h', _⟩ | ⟨g', cap', cur, h', hb, hg, hnc, _⟩
                · simp at h'
                · simp only [Value.slice.injEq, Option.some.injEq, Addr.mk.injEq, and_true, true_and] at h'
                  obtain ⟨rfl, rfl⟩ := h'
                  exact hnc
              obtain ⟨A2, hA2, hsrc⟩ : ∃ A2 : Addr, (if ch = a + 1 then some (⟨gh, 0, none⟩ : Addr) else some ⟨gh, (a + 1) * 5, none⟩) = some A2 ∧ Hid (∀ t u, (odc (fun j => h (a + 1 + j)) (n1 - a))[t]? = some u → wr.cell? (A2.add t) = some u) := by
                by_cases hc : ch = a + 1
                · refine ⟨_, if_pos hc, Lib.hid fun t u hu => ?_⟩
                  rw [show n1 - a = 0 by omega] at hu
                  exact absurd hu (by simp [odc])
                · refine ⟨_, if_neg hc, Lib.hid fun t u hu => ?_⟩
                  rw [Go.WideShapes.add_plain]
                  refine own_cells (w := wr) hown (j := (a + 1) * 5 + t) ?_
                  have e := odc_add h (a + 1) (n1 - a)
                  rw [show a + 1 + (n1 - a) = n1 + 1 by omega] at e
                  rw [e, List.getElem?_append_right (by rw [odc_len]; omega), odc_len, show (a + 1) * 5 + t - (a + 1) * 5 = t by omega]
                  exact hu
              have hsrc1 : Hid (∀ t u, (odc h a)[t]? = some u → wr.cell? ((⟨gh, 0, none⟩ : Addr).add t) = some u) := Lib.hid fun t u hu => by
                rw [Go.WideShapes.add_plain, Nat.zero_add]
                refine own_cells (w := wr) hown (j := t) ?_
                have e := odc_add h a (n1 + 1 - a)
                rw [show a + (n1 + 1 - a) = n1 + 1 by omega] at e
                have ht : t < (odc h a).length := (List.getElem?_eq_some_iff.1 hu).1
                rw [e, List.getElem?_append_left ht]
                exact hu
              obtain ⟨j0, hj0, hz0, hz1, hz2⟩ := info_parts infoOd
              have Hj := Lib.hid (And.intro hj0 (And.intro hz0 (And.intro hz1 hz2)))
              have hb0 : Below wr.heap.size wr (wr.alloc (.cells #[] 23)).drew := (below_new _ _).drew
              have hown0 : (wr.alloc (.cells #[] 23)).drew.ownsRow wr.heap.size 23 5 (.slice (some ⟨wr.heap.size, 0, none⟩) 0 0) 0 [] := World.ownsRow_lit wr #[] 0 (Nat.le_refl _) (by unfold maxLen; omega) (by simp)
              have hB0 := Lib.hid hb0
              have hO0 := Lib.hid hown0
              have hp1 : p + 1 ≤ wr.heap.size := HBK1.out.bk.lt
              have HP1 := Lib.hid hp1
              have l1 := Lib.hid (odc_len h a)
              have l2 := Lib.hid (odc_len (fun j => h (a + 1 + j)) (n1 - a))
              have o1 := Lib.hid (odc_one h a)
              have o2 := Lib.hid (odc_one (fun j => h (a + 1 + j)) (n1 - a))
              have m1 : 0 + a ≤ maxLen := by unfold maxLen; omega
              have m2 : (0 + a) * 40 ≤ 140737488355328 := by omega
              have m3 : a + (n1 - a) ≤ maxLen := by unfold maxLen; omega
              have m4 : (a + (n1 - a)) * 40 ≤ 140737488355328 := by omega
              have hi2 : (a : Int) ≤ (n1 : Int) + 1 := by omega
              have hic : a ≤ ch := by omega
              have hic2 : (a : Int) ≤ (ch : Int) := by omega
              have hi3 : 0 ≤ (a : Int) + 1 := by omega
              have hi4 : ((a : Int) + 1).toNat = a + 1 := by omega
              have hi5 : (a : Int) + 1 ≤ (n1 : Int) + 1 := by omega
              have hi6 : a + 1 ≤ n1 + 1 := by omega
              have hi7 : IntKind.i64.wrap ((a : Int) + 1) = (a : Int) + 1 := IntWalk.i64_in _ (by omega)
              have hi8 : wrap64 ((a : Int) + 1) = (a : Int) + 1 := IntWalk.wrap64_in _ (by omega)
              have HOWN := Lib.hid hown
              have HDEL : Hid (odc h a ++ odc (fun j => h (a + 1 + j)) (n1 - a) = odc (dlO h a) n1) := Lib.hid (odc_del5 h han)
              have HSUB := Lib.hid (sub5 han)
              have HFI := Lib.hid hfi
              have HPL := Lib.hid hpl
              have HL := Lib.hid hl
              clear hown hb0 hown0 hj0 hz0 hz1 hz2 hp1 hfi hpl hl e'
              generalize odc (fun j => h (a + 1 + j)) (n1 - a) = news at *
              go_upto_region 21 with fail
              go_cut [4] from 42 to 51 (fun s4 wx => ∃ A9 c9, s4 = .slice A9 n1 c9 ∧ wx.ownsRow (p + 1) 23 5 (.slice A9 n1 c9) n1 (odc (dlO h a) n1) ∧ Below wr.heap.size wr wx)
              case first =>
                go_region_law (first
                  | (refine step_append_own5 (by rfl) (.tmp 42) (.tmp 45) 36 (by rfl) wr.heap.size 23 j0 (.agg #[.int .i64 0, .int .i64 0, .int .i64 0, .int .i64 0, .int .i64 0]) 5 40 Tryz.underlying36 Hj.out.1 Hj.out.2.1 Hj.out.2.2.1 Hj.out.2.2.2 (by rfl) (by decide) (.slice (some ⟨wr.heap.size, 0, none⟩) 0 0) 0 [] (by simp [Act.eval, Act.put]) hO0.out ⟨gh, 0, none⟩ a ch (odc h a) (by simp [Act.eval, Act.put]) l1.out (fun t u hu => cell_later hB0.out (hsrc1.out t u hu)) o1.out m1 m2 hB0.out.size ?_; intro v6 w6 hown6 hg6 _; have hown6' : w6.ownsRow wr.heap.size 23 5 v6 a (odc h a) := (by simpa using hown6); obtain ⟨A6, c6, rfl, _, _⟩ := own_len hown6'; have hw6 : Below wr.heap.size wr w6 := hB0.out.grown hg6 hB0.out.size (fun k hk => (hO0.out.lt k hk).1))
                  | (refine step_append_own5 (by rfl) (.tmp 46) (.tmp 50) 36 (by rfl) wr.heap.size 23 j0 (.agg #[.int .i64 0, .int .i64 0, .int .i64 0, .int .i64 0, .int .i64 0]) 5 40 Tryz.underlying36 Hj.out.1 Hj.out.2.1 Hj.out.2.2.1 Hj.out.2.2.2 (by rfl) (by decide) (.slice A6 a c6) a (odc h a) (by simp [Act.eval, Act.put]) hown6' A2 (n1 - a) (ch - (a + 1)) news (by simp [Act.eval, Act.put]) l2.out (fun t u hu => cell_later hw6 (hsrc.out t u hu)) o2.out m3 m4 hw6.size ?_; intro v7 w7 hown7 hg7 _; have hown8 := own5_conv hown7 HSUB.out HDEL.out HP1.out; obtain ⟨A9, c9, rfl, _, _⟩ := own_len hown8; have hw7 : Below wr.heap.size wr w7 := hw6.grown hg7 hw6.size (fun k hk => (hown6'.lt k hk).1)))
                go_wp2_with fail
                go_meet
                case rel => exact ⟨A9, c9, rfl, hown8, hw7⟩
              case rest =>
                obtain ⟨A9, c9, rfl, how9, hB9⟩ := hcut
                have hb9 := HBK1.out.below hB9
                have HK9 := HKj.out.below hB9
                have HB9 := Lib.hid (below_step HB1.out hB9 HB1.out.size)
                have HO9 := Lib.hid how9
                clear k_0 k_1 k_2 k_3 k_4 k_5
                have k0 := HK9.cell (i := 0) rfl
                clear how9 hB9 HK9
                go_wp2_with (fail)
                with_reducible refine (cC _ hb9.bk).mono ?_
                rintro e wz ⟨rfl, tbk0, hr⟩
                have hg9 := own_where HO9.out
                have tbk := tbk0.apart (Ah := A9) fun g o e => by obtain ⟨g', e', _, h'⟩ := hg9 _ e; simp only [Addr.mk.injEq] at e'; omega
                have tow := own_rel HO9.out hr (Nat.lt_succ_self p)
                clear tbk0 hg9
                have tbl := hr.below HB9.out HB9.out.size hwp
                have hn1 : n1 ≤ 8 := by omega
                clear cC hr hb9 HO9 HB9 HOWN HBK1 HOW1 HB1 k0
                have cL := list_any p _ _ wz (BkN.bk tbk) (by omega)
                have HTB := Lib.hid tbk
                have HTO := Lib.hid tow
                have HTL := Lib.hid tbl
                clear tbk tow tbl
                go_wp2_with (fail)
                with_reducible refine cL.mono ?_
                rintro e wy ⟨vy, rfl, howny, Cy⟩
                obtain ⟨Ay, cy, rfl, _, _⟩ := own_len howny
                have HTB2 := Lib.hid (HTB.out.below Cy)
                have HTO2 := Lib.hid (own_below HTO.out Cy)
                have HTL2 := Lib.hid (below_step HTL.out Cy HTL.out.size)
                have cS := stands_any Ay _ cy _ _ c9 _ wy (ors_own howny) (ods_own HTO2.out) HJ.out (by omega)
                clear cL HTB HTO HTL howny Cy
                go_wp2_with (fail)
                with_reducible refine cS.mono ?_
                rintro e wx ⟨rfl, Cx⟩
                have HTB3 := Lib.hid (HTB2.out.below Cx)
                have HTO3 := Lib.hid (own_below HTO2.out Cx)
                have HTL3 := Lib.hid (below_step HTL2.out Cx HTL2.out.size)
                clear cS HTB2 HTO2 HTL2 Cx
                go_wp2
                refine ⟨⟨k + 1, _, _, _, _, _, hkm, rfl, by go_num, hn1, HJ.out, HTO3.out, HTB3.out, HTL3.out⟩, meas_step hlk⟩
    · obtain rfl : m = k := by omega
      have hnl2 : ¬ (m : Int) < (m : Int) := by omega
      clear HA hinv hown hbk
      go_wp2
      go_ret
      exact ⟨rfl, hB⟩
theorem wOrderBooks (A : Option Addr) (m c : Nat) (g : Nat → Sta × Bool) (w : World) (hA : Ops w A m (fun i => (g i).1) (fun i => (g i).2)) :
    Calls Tryz.prog 4 #[.slice A m c] w fun e w' => e = .returned (.bool true) ∧ Below w.heap.size w w' := by
  by_cases h1 : 60 < m
  · exact obk_long A m c w h1
  · exact obk_any A m c _ _ w hA (by omega)
end Go.Proofs.YthknjpmhomjobaaGreatDoor
