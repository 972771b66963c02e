/- The walk of the law YearOwn. -/
import Derived.Test.YtfnjhalpedccaaaWkYearUpto
import Derived.Test.YtfnjhalpedccaaaYrSB
namespace Go.Proofs.Ytfnjhalpedccaaa
open Go.RowKit Go.Sort
set_option linter.unusedVariables false
set_option linter.unusedSimpArgs false

theorem own_set' {w : World} {B g n cap size : Nat} {e : TypeId} {xs : List Value} (h : w.ownsRow B e size (.slice (some ⟨g, 0, none⟩) n cap) n xs) (j : Nat) (hj : j < xs.length) (x : Value) : (w.setCell ⟨g, j, none⟩ x).ownsRow B e size (.slice (some ⟨g, 0, none⟩) n cap) n (xs.set j x) := by
  obtain ⟨hl, h | ⟨g', cap', cur, hv, hg, hh, h1, h2, h3, h4⟩⟩ := h
  · exact absurd h.1 (by simp)
  · simp only [Value.slice.injEq, Option.some.injEq, Addr.mk.injEq, and_true, true_and] at hv
    obtain ⟨rfl, rfl⟩ := hv
    refine ⟨by simp [hl], .inr ⟨g, cap, cur.setIfInBounds j x, rfl, hg, ?_, h1, h2, by simp [h3], ?_⟩⟩
    · simp [World.setCell, Array.getElem?_modify, hh]
    · rw [Array.toList_setIfInBounds, ← h4, List.take_set]
theorem ob_at' {A : Option Addr} {n c q : Nat} (h : (Value.slice A n c).ownBlock = some q) : atB A q := by
  cases A with
  | none => cases h
  | some a => exact h
/-- a cell of a row of the call's own, and that it may be stored into -/
theorem own_at {w : World} {B n size : Nat} {e : TypeId} {A : Option Addr} {c : Nat} {xs : List Value} (h : w.ownsRow B e size (.slice A n c) n xs) {j : Nat} (hj : j < n * size) (hn : 0 < n) : ∃ g u, A = some ⟨g, 0, none⟩ ∧ w.cell? ⟨g, j, none⟩ = some u ∧ w.frozen? ⟨g, j, none⟩ = false ∧ j < xs.length := by
  obtain ⟨A', c', e1, _, hg⟩ := own_len h
  obtain ⟨g, rfl⟩ := hg hn
  obtain ⟨rfl, _, rfl⟩ := Value.slice.inj e1
  have hl : j < xs.length := by rw [h.1]; exact hj
  exact ⟨g, xs[j], rfl, own_cells h (List.getElem?_eq_getElem hl), own_fr h g rfl j, hl⟩
theorem store_at {w : World} {B n size : Nat} {e : TypeId} {A : Option Addr} {c g j : Nat} {xs : List Value} (h : w.ownsRow B e size (.slice A n c) n xs) (hA : A = some ⟨g, 0, none⟩) (hj : j < xs.length) (x : Value) : (w.setCell ⟨g, j, none⟩ x).ownsRow B e size (.slice A n c) n (xs.set j x) := by
  subst hA
  exact own_set' h j hj x
theorem wrap_in {j : Nat} (h : j < 30) : wrap64 ((j : Int) + 1) = (j : Int) + 1 := IntWalk.wrap64_in _ (by omega)
theorem wrap_in6 {j : Nat} (h : j < 60) : wrap64 ((j : Int) + 1) = (j : Int) + 1 := IntWalk.wrap64_in _ (by omega)
theorem yi_mv {W W' : World} {p p2 n cnt : Nat} {g f : Nat → Slp} {t : Tot} {F : Nat → Prop} {B : Nat} (h : YI W p n cnt g t F B) (hY : YO W' p2 n cnt f t (newF W W')) (hf : ∀ i, i < cnt → ∃ A c T d, f i = (g i).mv A c T d) : YI W' p2 n cnt f t (newF W W') W.heap.size where
  y := hY
  ok := fun i hi => by
    obtain ⟨A, c, T, d, e⟩ := hf i hi
    rw [e]
    exact ⟨ok_mv (h.ok i hi).1 _ _ _ _, (h.ok i hi).2⟩
  tg := by rw [totG_mv cnt hf]; exact h.tg
  rb := fun i hi => by rw [totG_mv i fun j hj => hf j (by omega)]; exact h.rb i hi
  cb := h.cb
  nb := h.nb
  lo := fun q hq => hq.1
theorem wrap_in7 {j : Nat} (h : j < 64) : wrap64 ((j : Int) + 1) = (j : Int) + 1 := IntWalk.wrap64_in _ (by omega)
theorem cell_set_ex {W : World} {a : Addr} {u : Value} (h : W.cell? a = some u) (p : Addr) (x : Value) : ∃ u', (W.setCell p x).cell? a = some u' := by
  by_cases e : p = a
  · subst e; exact ⟨x, World.cell?_setCell_same _ _ _ h⟩
  · exact ⟨u, (World.cell?_setCell_other _ _ _ _ e).trans h⟩
/-- the lists of payslips of the call's own may be stored into -/
def StL (q0 q1 : Nat) (v : Value) (W : World) (h : Nat → Slp) (cnt : Nat) : Prop := ∀ j, j < cnt → ∀ i, i < (h j).n → ∃ b o u, (h j).A = some ⟨b, o, none⟩ ∧ q0 ≤ b ∧ b < q1 ∧ v.ownBlock ≠ some b ∧ W.cell? ⟨b, o + i * 2 + 1, none⟩ = some u ∧ W.frozen? ⟨b, o + i * 2 + 1, none⟩ = false
theorem st_new {w W : World} {v : Value} {cnt : Nat} {g h : Nat → Slp} (hj : ∀ j, j < cnt → (∃ A c T d, h j = (g j).mv A c T d) ∧ SlM W (h j) ∧ ∀ q, (h j).at_ q → w.heap.size ≤ q ∧ q < W.heap.size ∧ v.ownBlock ≠ some q ∧ ∀ o, W.frozen? ⟨q, o, none⟩ = false) : StL w.heap.size W.heap.size v W h cnt := fun j hl i hi => by
  obtain ⟨_, hM, hq⟩ := hj j hl
  obtain ⟨b, o, e, hc⟩ := hM.sh (by omega)
  have h2 := hq b (.inl (by rw [e]; rfl))
  exact ⟨b, o, _, e, h2.1, h2.2.1, h2.2.2.1, (hc i hi).2, h2.2.2.2 _⟩
theorem StL.below {q0 q1 : Nat} {v : Value} {W W' : World} {h : Nat → Slp} {cnt : Nat} (H : StL q0 q1 v W h cnt) (hb : Below W.heap.size W W') (hq : q1 ≤ W.heap.size) : StL q0 q1 v W' h cnt := fun j hl i hi => by
  obtain ⟨b, o, u, e, h1, h2, h3, h4, h5⟩ := H j hl i hi
  exact ⟨b, o, u, e, h1, h2, h3, cell_later hb h4, (fr_blk (hb.block b (Nat.lt_of_lt_of_le h2 hq))).trans h5⟩
theorem StL.set {q0 q1 : Nat} {v : Value} {W : World} {h : Nat → Slp} {cnt : Nat} (H : StL q0 q1 v W h cnt) (p : Addr) (x : Value) : StL q0 q1 v (W.setCell p x) h cnt := fun j hl i hi => by
  obtain ⟨b, o, u, e, h1, h2, h3, h4, h5⟩ := H j hl i hi
  obtain ⟨u', h6⟩ := cell_set_ex h4 p x
  exact ⟨b, o, u', e, h1, h2, h3, h6, (World.frozen?_setCell _ _ _ _).trans h5⟩
theorem pstV_mv (s : Slp) (n cnt : Nat) (t : Tot) (A : Option Addr) (c : Nat) (T : Option Addr) (d : Nat) : pstV (s.mv A c T d) n cnt t = pstV s n cnt t := rfl
set_option maxRecDepth 100000 in
set_option maxHeartbeats 4000000 in
theorem yw_small (n : Int) (A : Option Addr) (N c : Nat) (g0 : Nat → Slp) (w : World) (hS : Sls w A N g0) (hN : N ≤ 9223372036854775807) (hq : (smB g0 N && decide (N ≤ 60)) = false) :
    Calls Try.prog 5 #[.int .i64 n, .slice A N c] w fun e w' => e = .returned (.bool true) ∧ Below w.heap.size w w' := by
  go_enter Try.func5, Try.ntmps5
  have cK := keeps_any w
  go_wp2_with (fail)
  with_reducible refine cK.mono ?_
  rintro e w1 ⟨rfl, B⟩
  replace hS := hS.below B
  clear cK
  go_wp2_with (fail)
  with_reducible refine (lsmall_big A N c g0 _ hS hN false hq).mono ?_
  rintro e w2 ⟨rfl, hb⟩
  replace B := below_step B hb B.size
  clear hb hq hS
  go_wp2
  go_ret
  exact ⟨rfl, B⟩
set_option maxRecDepth 100000 in
set_option maxHeartbeats 4000000 in
theorem yw_out (n : Int) (A : Option Addr) (N c : Nat) (g0 : Nat → Slp) (w : World) (hS : Sls w A N g0) (hN : N ≤ 9223372036854775807) (hq : (smB g0 N && decide (N ≤ 60)) = true) (hn : n < 0 ∨ 30 < n) :
    Calls Try.prog 5 #[.int .i64 n, .slice A N c] w fun e w' => e = .returned (.bool true) ∧ Below w.heap.size w w' := by
  have key : decide (n < 0) = true ∨ (decide (n < 0) = false ∧ decide (30 < n) = true) := by
    by_cases e : n < 0
    · exact .inl (decide_eq_true e)
    · exact .inr ⟨decide_eq_false e, decide_eq_true (by omega)⟩
  clear hn
  rcases key with l0 | ⟨l0, l1⟩
  all_goals
    go_enter Try.func5, Try.ntmps5
    have cK := keeps_any w
    go_wp2_with (fail)
    with_reducible refine cK.mono ?_
    rintro e w1 ⟨rfl, B⟩
    replace hS := hS.below B
    clear cK
    go_wp2_with (fail)
    with_reducible refine (lsmall_big A N c g0 _ hS hN true hq).mono ?_
    rintro e w2 ⟨rfl, hb⟩
    replace B := below_step B hb B.size
    clear hb hq hS
    go_wp2
    go_ret
    exact ⟨rfl, B⟩
theorem Chg.wide {F G : Nat → Prop} {w w' : World} (h : Chg F w w') (hFG : ∀ q, F q → G q) : Chg G w w' := ⟨h.os, h.tape, h.output, h.size, fun q hq hg => h.block q hq fun f => hg (hFG q f)⟩
/-- what the law's first loop holds of what it kept -/
structure Kpt (w W : World) (F : Nat → Prop) (cnt : Nat) (g h : Nat → Slp) (v : Value) : Prop where
  own : W.ownsRow w.heap.size 37 10 v cnt (slc h cnt)
  sep : ∀ q, v.ownBlock = some q → ¬ F q
  mv : ∀ j, j < cnt → SlM w (h j) ∧ ∃ A c T d, g j = (h j).mv A c T d
set_option maxRecDepth 100000 in
set_option maxHeartbeats 16000000 in
theorem yw_main (n : Nat) (A : Option Addr) (N c : Nat) (g0 : Nat → Slp) (w : World) (hS : Sls w A N g0) (hN : N ≤ 9223372036854775807) (hq : (smB g0 N && decide (N ≤ 60)) = true) (hn : n ≤ 30) :
    Calls Try.prog 5 #[.int .i64 (n : Int), .slice A N c] w fun e w' => e = .returned (.bool true) ∧ Below w.heap.size w w' := by
  have l0 : decide ((n : Int) < 0) = false := decide_eq_false (by omega)
  have l1 : decide ((30 : Int) < (n : Int)) = false := decide_eq_false (by omega)
  have hq2 := hq
  rw [Bool.and_eq_true] at hq2
  have HSB := Lib.hid (smB_at hq2.1)
  have HN6 : Hid (N ≤ 60) := Lib.hid (by simpa using hq2.2)
  have HNN : Hid (n ≤ 64) := Lib.hid (by omega)
  have HS0 := Lib.hid hS
  obtain ⟨i0, hi0, hz0, hz1, hz2⟩ := info_parts infoSs
  have Hi := Lib.hid hi0
  have Hz := Lib.hid hz0
  clear hq2 hi0 hz0
  go_enter Try.func5, Try.ntmps5
  have cK := keeps_any w
  go_wp2_with (fail)
  with_reducible refine cK.mono ?_
  rintro e w1 ⟨rfl, B⟩
  replace hS := hS.below B
  clear cK
  go_wp2_with (fail)
  with_reducible refine (lsmall_big A N c g0 _ hS hN true hq).mono ?_
  rintro e w2 ⟨rfl, hb⟩
  replace B := below_step B hb B.size
  clear hb hq hN hS
  have cN := ynew_ok n g0 w2 HNN.out
  go_wp2_with (fail)
  with_reducible refine cN.mono ?_
  rintro e w3 ⟨p, rfl, hY, hb⟩
  have hI := yi_new B.size HNN.out hY
  replace B := below_step B hb B.size
  have HB := Lib.hid B
  clear hb cN hY l0 l1 hn B
  go_wp2
  go_loopw [7, 47] (fun s7 ii W => ∃ i : Nat, i ≤ N ∧ ii = .int .i64 i ∧ (∃ cnt g t F h, YI W p n cnt g t F w.heap.size ∧ Kpt w W F cnt g h s7) ∧ Below w.heap.size w W) (fun _ ii _ => N - (intOf ii).toNat)
  case atStart => exact ⟨0, Nat.zero_le _, rfl, ⟨0, g0, Tot.z, _, g0, hI, ⟨World.ownsRow_nil _ _ _ _, fun q hq => by simp [Value.ownBlock] at hq, fun j hj => absurd hj (Nat.not_lt_zero j)⟩⟩, HB.out⟩
  case round =>
    clear hI HB
    obtain ⟨i, hi, rfl, ⟨cnt, g, t, F, hk, hI, hK⟩, B⟩ := hrel
    by_cases hlt : i < N
    · have hil : (i : Int) < (N : Int) := by omega
      have hS := HS0.out.below B
      obtain ⟨b, o, hA0, hc⟩ := hS (by omega)
      obtain rfl := hA0
      obtain ⟨hAt, hM⟩ := hc i hlt
      obtain ⟨x_0, x_1, x_2, x_3, x_4, x_5, x_6, x_7, x_8, x_9⟩ := hAt.all
      have hsz := HSB.out i hlt
      have hw1 : wrap64 ((i : Int) + 1) = (i : Int) + 1 := IntWalk.wrap64_in _ (by have := HN6.out; omega)
      have HM0 : Hid (SlM w (g0 i)) := Lib.hid (by
        obtain ⟨b', o', e', hc'⟩ := HS0.out (by omega)
        exact (hc' i hlt).2)
      clear hc hAt hS
      generalize g0 i = s at *
      have hsn : s.n ≤ 100000 := by omega
      have hsm : s.m ≤ 100000 := by omega
      have hsn3 : s.n ≤ 30 := hsz.1
      have hsm3 : s.m ≤ 30 := hsz.2
      have hFS : ∀ q, F q → q < wr.heap.size := hI.y.lt
      have hKS : ∀ q, u7.ownBlock = some q → q < wr.heap.size := fun q e => (hK.own.lt q e).2
      have K9 := bx_new wr [.int .i64 s.k, .int .i64 s.ca, .int .i64 s.tb, .int .i64 s.so, .int .i64 s.tx, .int .i64 s.sf, .slice s.A s.n s.c, .int .i64 s.net, .slice s.T s.m s.d, .int .i64 s.pay] 37
      have N9 := below_new wr (.cells #[.int .i64 s.k, .int .i64 s.ca, .int .i64 s.tb, .int .i64 s.so, .int .i64 s.tx, .int .i64 s.sf, .slice s.A s.n s.c, .int .i64 s.net, .slice s.T s.m s.d, .int .i64 s.pay] 37)
      have hz9 : (wr.alloc (.cells #[.int .i64 s.k, .int .i64 s.ca, .int .i64 s.tb, .int .i64 s.so, .int .i64 s.tx, .int .i64 s.sf, .slice s.A s.n s.c, .int .i64 s.net, .slice s.T s.m s.d, .int .i64 s.pay] 37)).heap.size = wr.heap.size + 1 := by simp
      have K10 := bx_at (wr.alloc (.cells #[.int .i64 s.k, .int .i64 s.ca, .int .i64 s.tb, .int .i64 s.so, .int .i64 s.tx, .int .i64 s.sf, .slice s.A s.n s.c, .int .i64 s.net, .slice s.T s.m s.d, .int .i64 s.pay] 37)) [.int .i64 s.k, .int .i64 s.ca, .int .i64 s.tb, .int .i64 s.so, .int .i64 s.tx, .int .i64 s.sf, .slice s.A s.n s.c, .int .i64 s.net, .slice s.T s.m s.d, .int .i64 s.pay] 37 (n := wr.heap.size + 1) hz9
      have N10 := below_new (wr.alloc (.cells #[.int .i64 s.k, .int .i64 s.ca, .int .i64 s.tb, .int .i64 s.so, .int .i64 s.tx, .int .i64 s.sf, .slice s.A s.n s.c, .int .i64 s.net, .slice s.T s.m s.d, .int .i64 s.pay] 37)) (.cells #[.int .i64 s.k, .int .i64 s.ca, .int .i64 s.tb, .int .i64 s.so, .int .i64 s.tx, .int .i64 s.sf, .slice s.A s.n s.c, .int .i64 s.net, .slice s.T s.m s.d, .int .i64 s.pay] 37)
      have a_0 := K9.cell (i := 0) rfl
      have a_1 := K9.cell (i := 1) rfl
      have a_2 := K9.cell (i := 2) rfl
      have a_3 := K9.cell (i := 3) rfl
      have a_4 := K9.cell (i := 4) rfl
      have a_5 := K9.cell (i := 5) rfl
      have a_6 := K9.cell (i := 6) rfl
      have a_7 := K9.cell (i := 7) rfl
      have a_8 := K9.cell (i := 8) rfl
      have a_9 := K9.cell (i := 9) rfl
      have B2 := below_step (below_step B N9 B.size) N10 (Nat.le_trans B.size N9.size)
      have hI2 := (hI.below N9).below N10
      have hO2 := own_below (own_below hK.own N9) N10
      replace K9 := K9.below N10
      have hMv := Lib.hid hK.mv
      have hSep := Lib.hid hK.sep
      have hzr : w.heap.size ≤ wr.heap.size := B.size
      have hq10 := K10.lt
      clear hI hK B N9 N10 hsz hM hz9
      go_wp2
      clear x_0 x_1 x_2 x_3 x_4 x_5 x_6 x_7 x_8 x_9
      clear a_0 a_1 a_2 a_3 a_4 a_5 a_6 a_7 a_8 a_9
      generalize ((wr.alloc (.cells #[.int .i64 s.k, .int .i64 s.ca, .int .i64 s.tb, .int .i64 s.so, .int .i64 s.tx, .int .i64 s.sf, .slice s.A s.n s.c, .int .i64 s.net, .slice s.T s.m s.d, .int .i64 s.pay] 37)).alloc (.cells #[.int .i64 s.k, .int .i64 s.ca, .int .i64 s.tb, .int .i64 s.so, .int .i64 s.tx, .int .i64 s.sf, .slice s.A s.n s.c, .int .i64 s.net, .slice s.T s.m s.d, .int .i64 s.pay] 37)) = wq at *
      go_cut [47] from 47 to 92 (fun s47 wx => s47 = .int .i64 (i : Int) ∧ ∃ (A2 : Option Addr) (c2 : Nat) (T2 : Option Addr) (d2 : Nat), Bx wx wr.heap.size 37 [.int .i64 s.k, .int .i64 s.ca, .int .i64 s.tb, .int .i64 s.so, .int .i64 s.tx, .int .i64 s.sf, .slice s.A s.n s.c, .int .i64 s.net, .slice s.T s.m s.d, .int .i64 s.pay] ∧ Bx wx (wr.heap.size + 1) 37 [.int .i64 s.k, .int .i64 s.ca, .int .i64 s.tb, .int .i64 s.so, .int .i64 s.tx, .int .i64 s.sf, .slice A2 s.n c2, .int .i64 s.net, .slice T2 s.m d2, .int .i64 s.pay] ∧ wx.ownsRow wq.heap.size 53 2 (.slice A2 s.n c2) s.n (sh2 s.X s.Y s.n) ∧ wx.ownsRow wq.heap.size 58 6 (.slice T2 s.m d2) s.m (tkc s.f s.m) ∧ Chg (fun q => q = wr.heap.size + 1) wq wx ∧ ∀ q, atB A2 q → ¬ atB T2 q)
      case first =>
        as_aux_lemma =>
          have hdd : Below wq.heap.size wq wq.drew := (Below.refl _ _).drew
          have c2 := fun V (hV : Below wq.heap.size wq V) => clo2 s.A s.n s.c V s.X s.Y (((HM0.out.below B2).below hV).sh) hsn HM0.out.sa
          have c6 := fun V (hV : Below wq.heap.size wq V) => clo6 s.T s.m s.d V s.f (((HM0.out.below B2).below hV).tk) hsm HM0.out.ta
          have Kd := K9.below hdd
          have Qd := K10.below hdd
          have a6 := K9.cell (i := 6) rfl
          have a8 := K9.cell (i := 8) rfl
          have d6 := Kd.cell (i := 6) rfl
          have d8 := Kd.cell (i := 8) rfl
          have hq10 : wr.heap.size + 1 < wq.heap.size := K10.lt
          go_region_with (first
            | (go_at_call 21; refine (c2 _ hdd).mono ?_; rintro e w7 ⟨v7, rfl, ho7, hb7⟩; obtain ⟨A7, c7, rfl, _, _⟩ := own_len ho7; have R7 := Kd.below hb7; have Q7 := Qd.below hb7; have hw7 := below_step hdd hb7 hdd.size; have m6 := R7.cell (i := 6) rfl; have m8 := R7.cell (i := 8) rfl)
            | (go_at_call 22; refine (c6 _ hw7).mono ?_; rintro e w8 ⟨v8, rfl, ho8, hb8⟩; obtain ⟨T8, d8', rfl, _, _⟩ := own_len ho8; have R8 := R7.below hb8; have Q8 := Q7.below hb8; have hw8 := below_step hw7 hb8 hw7.size; have n6 := Q8.cell (i := 6) rfl; have n8 := Q8.cell (i := 8) rfl; have f6 := Q8.fr 6; have f8 := Q8.fr 8; have Q9 := Q8.set 6 (.slice A7 s.n c7); have p8 := Q9.cell (i := 8) rfl; have g8 := Q9.fr 8))
          all_goals
            have Z := (Q8.set 6 (.slice A7 s.n c7)).set 8 (.slice T8 s.m d8')
            have R10 := (R8.other (q := wr.heap.size + 1) (Nat.succ_ne_self _) 6 (.slice A7 s.n c7)).other (q := wr.heap.size + 1) (Nat.succ_ne_self _) 8 (.slice T8 s.m d8')
            have O7 := own_other (own_other (own_below ho7 hb8) (show wr.heap.size + 1 < wq.drew.heap.size from hq10) 6 (.slice A7 s.n c7)) (show wr.heap.size + 1 < wq.drew.heap.size from hq10) 8 (.slice T8 s.m d8')
            have k7l := Q7.lt
            have O8 := own_mono (own_other (own_other ho8 k7l 6 (.slice A7 s.n c7)) k7l 8 (.slice T8 s.m d8')) (show wq.heap.size ≤ w7.heap.size from hw7.size)
            have C9 := ((Chg.of (F := fun q => q = wr.heap.size + 1) hw8).set (p := wr.heap.size + 1) rfl 6 (.slice A7 s.n c7)).set (p := wr.heap.size + 1) rfl 8 (.slice T8 s.m d8')
            have hse : ∀ q, atB A7 q → ¬ atB T8 q := fun q h1 h2 => absurd ((own_new ho7).1 q h1).2 (Nat.not_lt_of_le ((own_new ho8).1 q h2).1)
            go_wp2_with fail
            go_meet
            case rel => exact ⟨rfl, A7, c7, T8, d8', R10, Z, O7, O8, C9, hse⟩
      case rest =>
      clear K9 K10
      obtain ⟨rfl, A2, c2, T2, d2, K9, K10, O7, O8, hC, hne⟩ := hcut
      have hI3 := hI2.chg hC (fun q f e => by
        have := hFS q f
        omega)
      have hO3 := own_blk hO2 (fun q e => hC.block q (hO2.lt q e).2 (fun h => by
        have := hKS q e
        omega))
      have B3 := hC.below B2 B2.size (fun q e => by
        have := B2.size
        have := hzr
        omega)
      have hM3 : SlM wc (s.mv A2 c2 T2 d2) := ⟨shs_own O7, tks_own O8, (own_new O7).2, (own_new O8).2⟩
      clear hI2 hO2 B2
      have a_0 := K10.cell (i := 0) rfl
      have a_1 := K10.cell (i := 1) rfl
      have a_2 := K10.cell (i := 2) rfl
      have a_3 := K10.cell (i := 3) rfl
      have a_4 := K10.cell (i := 4) rfl
      have a_5 := K10.cell (i := 5) rfl
      have a_6 := K10.cell (i := 6) rfl
      have a_7 := K10.cell (i := 7) rfl
      have a_8 := K10.cell (i := 8) rfl
      have a_9 := K10.cell (i := 9) rfl
      by_cases hv : pstV s n cnt t = 0
      rotate_left
      · have cP : Calls Try.prog 14 #[.pointer (some ⟨p, 0, none⟩), .agg #[.int .i64 s.k, .int .i64 s.ca, .int .i64 s.tb, .int .i64 s.so, .int .i64 s.tx, .int .i64 s.sf, .slice A2 s.n c2, .int .i64 s.net, .slice T2 s.m d2, .int .i64 s.pay]] wc fun e w' => e = .returned (.int .i64 (pstV s n cnt t)) ∧ Below wc.heap.size wc w' := yp_no hI3 (s.mv A2 c2 T2 d2) hM3 hsn hsm _ rfl hv
        generalize pstV s n cnt t = vv at *
        have e1 : (vv != 0) = true := by simp [hv]
        clear hv
        go_wp2_with (fail)
        with_reducible refine cP.mono ?_
        rintro e w5 ⟨rfl, hb⟩
        have hI4 := hI3.below hb
        have hO4 := own_below hO3 hb
        have B4 := below_step B3 hb B3.size
        clear cP hI3 hO3 B3 hb
        go_wp2
        refine ⟨⟨i + 1, by omega, by go_num, ⟨cnt, g, t, F, hk, hI4, ⟨hO4, hSep.out, hMv.out⟩⟩, B4⟩, ?_⟩
        first | exact meas_step hlt | (rw [hw1]; exact meas_step hlt)
      have cP : Calls Try.prog 14 #[.pointer (some ⟨p, 0, none⟩), .agg #[.int .i64 s.k, .int .i64 s.ca, .int .i64 s.tb, .int .i64 s.so, .int .i64 s.tx, .int .i64 s.sf, .slice A2 s.n c2, .int .i64 s.net, .slice T2 s.m d2, .int .i64 s.pay]] wc (YkP p n cnt g t (s.mv A2 c2 T2 d2) F w.heap.size wc) := yp_ok hI3 B3.size (s.mv A2 c2 T2 d2) hM3 hsn hsm hv
      unfold YkP at cP
      go_wp2_with (fail)
      with_reducible refine cP.mono ?_
      rintro e w12 ⟨g', F', rfl, hI4, ⟨Ax, cx, Tx, dx, hmv⟩, hold, hF', hC2⟩
      clear a_0 a_1 a_2 a_3 a_4 a_5 a_6 a_7 a_8 a_9
      have hnF : ∀ q, wr.heap.size ≤ q → ¬ F q := fun q hq f => absurd (hFS q f) (Nat.not_lt_of_le hq)
      have hqs : wr.heap.size ≤ wq.heap.size := Nat.le_of_lt (Nat.lt_of_succ_lt hq10)
      have K9' := K9.of_block (hC2.block _ K9.lt (hnF _ (Nat.le_refl _)))
      have K10' := K10.of_block (hC2.block _ K10.lt (hnF _ (Nat.le_succ _)))
      have O7' := own_blk O7 (fun q e => hC2.block q (O7.lt q e).2 (hnF q (Nat.le_trans hqs (O7.lt q e).1)))
      have O8' := own_blk O8 (fun q e => hC2.block q (O8.lt q e).2 (hnF q (Nat.le_trans hqs (O8.lt q e).1)))
      have hO4 := own_blk hO3 (fun q e => hC2.block q (hO3.lt q e).2 (hSep.out q e))
      have B4 := hC2.below B3 B3.size hI3.lo
      have hsep4 : ∀ q, u7.ownBlock = some q → ¬ F' q := fun q e f => (hF' q f).elim (hSep.out q e) (fun h => absurd (hO3.lt q e).2 (Nat.not_lt_of_le h))
      have hnF' : ∀ q, wq.heap.size ≤ q → q < wc.heap.size → ¬ F' q := fun q h1 h2 f => (hF' q f).elim (hnF q (Nat.le_trans hqs h1)) (fun h => absurd h2 (Nat.not_lt_of_le h))
      have hA7 : ∀ q, atB A2 q → ¬ F' q ∧ wq.heap.size ≤ q := fun q e => ⟨hnF' q (O7.lt q (ob_at e)).1 (O7.lt q (ob_at e)).2, (O7.lt q (ob_at e)).1⟩
      have hT8 : ∀ q, atB T2 q → ¬ F' q ∧ wq.heap.size ≤ q := fun q e => ⟨hnF' q (O8.lt q (ob_at e)).1 (O8.lt q (ob_at e)).2, (O8.lt q (ob_at e)).1⟩
      have hKS2 : ∀ q, u7.ownBlock = some q → q < wr.heap.size := hKS
      clear K9 K10 O7 O8 hO3 B3 hI3 hC2 hF' cP hM3 hv hC
      have hcA := bx_add (bx_new w12 [.int .i64 s.k, .int .i64 s.ca, .int .i64 s.tb, .int .i64 s.so, .int .i64 s.tx, .int .i64 s.sf, .slice s.A s.n s.c, .int .i64 s.net, .slice s.T s.m s.d, .int .i64 s.pay] 37)
      have hc2 : ∀ u ∈ ([.int .i64 s.k, .int .i64 s.ca, .int .i64 s.tb, .int .i64 s.so, .int .i64 s.tx, .int .i64 s.sf, .slice s.A s.n s.c, .int .i64 s.net, .slice s.T s.m s.d, .int .i64 s.pay] : List Value), u.oneCell' = true := by simp [Value.oneCell']
      have hcnt1 : cnt + 1 ≤ 1000 := Nat.le_trans hI4.cb (by decide)
      have hc3 : cnt + 1 ≤ maxLen := Nat.le_trans hcnt1 (by decide)
      have hc4 : (cnt + 1) * 112 ≤ 140737488355328 := Nat.le_trans (Nat.mul_le_mul_right 112 hcnt1) (by decide)
      have hc5 : w.heap.size ≤ (w12.alloc (.cells #[.int .i64 s.k, .int .i64 s.ca, .int .i64 s.tb, .int .i64 s.so, .int .i64 s.tx, .int .i64 s.sf, .slice s.A s.n s.c, .int .i64 s.net, .slice s.T s.m s.d, .int .i64 s.pay] 37)).heap.size := Nat.le_trans B4.size (below_new w12 _).size
      have a_0 := K9'.cell (i := 0) rfl
      have a_1 := K9'.cell (i := 1) rfl
      have a_2 := K9'.cell (i := 2) rfl
      have a_3 := K9'.cell (i := 3) rfl
      have a_4 := K9'.cell (i := 4) rfl
      have a_5 := K9'.cell (i := 5) rfl
      have a_6 := K9'.cell (i := 6) rfl
      have a_7 := K9'.cell (i := 7) rfl
      have a_8 := K9'.cell (i := 8) rfl
      have a_9 := K9'.cell (i := 9) rfl
      go_wp2_with (at_builtin; first
        | (refine wpList_append_own_at _ rfl _ _ 22 rfl w.heap.size 37 i0 (.agg #[.int .i64 0, .int .i64 0, .int .i64 0, .int .i64 0, .int .i64 0, .int .i64 0, .slice none 0 0, .int .i64 0, .slice none 0 0, .int .i64 0]) 10 112 Try.underlying22 Hi.out Hz.out hz1 hz2 rfl (by decide) _ _ _ rfl (hO4.alloc _) ⟨w12.heap.size, 0, none⟩ 1 1 [.int .i64 s.k, .int .i64 s.ca, .int .i64 s.tb, .int .i64 s.so, .int .i64 s.tx, .int .i64 s.sf, .slice s.A s.n s.c, .int .i64 s.net, .slice s.T s.m s.d, .int .i64 s.pay] rfl rfl hcA hc2 hc3 hc4 hc5 ?_
           intro va wa hown hg _ hob
           have OA : wa.ownsRow w.heap.size 37 10 va (cnt + 1) (slc (exG hk cnt s) (cnt + 1)) := Eq.mpr (by rw [exG_cells]; rfl) hown
           have hgb : ∀ q, q < w12.heap.size → u7.ownBlock ≠ some q → wa.heap[q]? = w12.heap[q]? := fun q h1 h2 => (hg.block q (Nat.lt_of_lt_of_le h1 (below_new w12 (.cells #[.int .i64 s.k, .int .i64 s.ca, .int .i64 s.tb, .int .i64 s.so, .int .i64 s.tx, .int .i64 s.sf, .slice s.A s.n s.c, .int .i64 s.net, .slice s.T s.m s.d, .int .i64 s.pay] 37)).size) (fun e => h2 e.symm)).trans ((below_new w12 (.cells #[.int .i64 s.k, .int .i64 s.ca, .int .i64 s.tb, .int .i64 s.so, .int .i64 s.tx, .int .i64 s.sf, .slice s.A s.n s.c, .int .i64 s.net, .slice s.T s.m s.d, .int .i64 s.pay] 37)).block q h1)
           have hne7 : ∀ q, wr.heap.size ≤ q → u7.ownBlock ≠ some q := fun q hq e => absurd (hKS2 q e) (Nat.not_lt_of_le hq)
           have K10a := K10'.of_block (hgb _ K10'.lt (hne7 _ (Nat.le_succ _)))
           have O7a := own_blk O7' (fun q e => hgb q (O7'.lt q e).2 (hne7 q (Nat.le_trans hqs (O7'.lt q e).1)))
           have O8a := own_blk O8' (fun q e => hgb q (O8'.lt q e).2 (hne7 q (Nat.le_trans hqs (O8'.lt q e).1)))
           have hIa : YI wa p n (cnt + 1) g' (t.add (s.mv A2 c2 T2 d2)) F' w.heap.size := ⟨hI4.y.same (Nat.le_trans (below_new w12 (.cells #[.int .i64 s.k, .int .i64 s.ca, .int .i64 s.tb, .int .i64 s.so, .int .i64 s.tx, .int .i64 s.sf, .slice s.A s.n s.c, .int .i64 s.net, .slice s.T s.m s.d, .int .i64 s.pay] 37)).size hg.size) (fun q f => hgb q (hI4.y.lt q f) (fun e => hsep4 q e f)), hI4.ok, hI4.tg, hI4.rb, hI4.cb, hI4.nb, hI4.lo⟩
           have Ba := (B4.alloc B4.size (Obj.cells #[.int .i64 s.k, .int .i64 s.ca, .int .i64 s.tb, .int .i64 s.so, .int .i64 s.tx, .int .i64 s.sf, .slice s.A s.n s.c, .int .i64 s.net, .slice s.T s.m s.d, .int .i64 s.pay] 37)).grown hg hc5 (fun k hk => (hO4.lt k hk).1)
           have hsepa : ∀ q, va.ownBlock = some q → ¬ F' q ∧ ¬ atB A2 q ∧ ¬ atB T2 q := fun q e => by
             rcases hob with h | h
             · have e2 := h.symm.trans e
               exact ⟨hsep4 q e2, fun a => hne7 q (Nat.le_trans hqs (hA7 q a).2) e2, fun a => hne7 q (Nat.le_trans hqs (hT8 q a).2) e2⟩
             · have e2 : (w12.alloc (.cells #[.int .i64 s.k, .int .i64 s.ca, .int .i64 s.tb, .int .i64 s.so, .int .i64 s.tx, .int .i64 s.sf, .slice s.A s.n s.c, .int .i64 s.net, .slice s.T s.m s.d, .int .i64 s.pay] 37)).heap.size = q := by simpa using h.symm.trans e
               have l1 := (below_new w12 (.cells #[.int .i64 s.k, .int .i64 s.ca, .int .i64 s.tb, .int .i64 s.so, .int .i64 s.tx, .int .i64 s.sf, .slice s.A s.n s.c, .int .i64 s.net, .slice s.T s.m s.d, .int .i64 s.pay] 37)).size
               exact ⟨fun f => absurd (hI4.y.lt q f) (by omega), fun a => absurd (O7'.lt q (ob_at a)).2 (by omega), fun a => absurd (O8'.lt q (ob_at a)).2 (by omega)⟩
           clear hown hg hob hgb hne7 hO4 K9' a_0 a_1 a_2 a_3 a_4 a_5 a_6 a_7 a_8 a_9 hcA hc2 hc3 hc4 hc5 K10' O7' O8' hI4 B4
           have b_6 := K10a.cell (i := 6) rfl))
      clear b_6
      have HO8 := Lib.hid O8a
      have hne7b : Hid (∀ q, (Value.slice T2 s.m d2).ownBlock = some q → ¬ atB A2 q) := Lib.hid fun q e a => hne q a (ob_at' e)
      clear hne
      have HAT := Lib.hid (And.intro hA7 (And.intro hT8 hsepa))
      have HIA := Lib.hid hIa
      have HOA := Lib.hid OA
      have HBA := Lib.hid Ba
      have HMVX := Lib.hid hmv
      have HOLD := Lib.hid hold
      have HQW := Lib.hid (Nat.le_trans hzr hqs)
      have HHK : Hid (Kpt w wa F' (cnt + 1) g' (exG hk cnt s) va) := Lib.hid ⟨OA, fun q e => (HAT.out.2.2 q e).1, fun j hj => by
        rcases Nat.lt_or_ge j cnt with h | h
        · rw [exG_lt h, hold j h]; exact hMv.out j h
        · obtain rfl : j = cnt := by omega
          rw [exG_at]
          exact ⟨HM0.out, Ax, cx, Tx, dx, by rw [hmv]; rfl⟩⟩
      have HW1 := Lib.hid hw1
      have hq10' := hq10
      have HQ10 := Lib.hid hq10'
      have HSN3 := Lib.hid hsn3
      have HSM3 := Lib.hid hsm3
      clear hIa OA Ba hmv hold hw1 hqs hzr hsn hsm hcnt1 hKS2 hFS hKS hq10 hq10' hsn3 hsm3
      generalize hqr : wr.heap.size = qr at *
      clear hqr
      have C0 : Chg (fun q => atB A2 q) wa wa := Chg.of (Below.refl _ _)
      clear O8a hA7 hT8 hsepa hsep4 hnF hnF'
      go_loopw [71] (fun jj W => ∃ j : Nat, j ≤ s.n ∧ jj = .int .i64 j ∧ (∃ xs, W.ownsRow wq.heap.size 53 2 (.slice A2 s.n c2) s.n xs) ∧ Chg (fun q => atB A2 q) wa W) (fun jj _ => s.n - (intOf jj).toNat)
      case atStart => exact ⟨0, Nat.zero_le _, rfl, ⟨_, O7a⟩, C0⟩
      case round =>
        clear O7a C0
        obtain ⟨j, hj, rfl, ⟨xs, hx⟩, hC⟩ := hrel
        have hq10A : ¬ atB A2 (qr + 1) := fun a => absurd (HAT.out.1 _ a).2 (Nat.not_le_of_lt HQ10.out)
        have K10b := K10a.of_block (hC.block _ K10a.lt hq10A)
        by_cases hlj : j < s.n
        · have hjl : (j : Int) < (s.n : Int) := by omega
          have hw2 : wrap64 ((j : Int) + 1) = (j : Int) + 1 := wrap_in (Nat.lt_of_lt_of_le hlj HSN3.out)
          obtain ⟨gA, u, hA9, hcell, hfr, hlen⟩ := own_at hx (j := j * 2) (Nat.mul_lt_mul_of_pos_right hlj (by decide)) (Nat.lt_of_le_of_lt (Nat.zero_le _) hlj)
          have hx2 := store_at hx hA9 hlen (.int .i64 (-3))
          have hC2 := hC.set (p := gA) (show atB A2 gA by rw [hA9]; rfl) (j * 2) (.int .i64 (-3))
          have b_6 := K10b.cell (i := 6) rfl
          rw [hA9] at b_6
          have HX2 := Lib.hid hx2
          have HC2 := Lib.hid hC2
          clear hx hC K10b hlen hq10A hA9 hx2 hC2
          go_wp2
          refine ⟨⟨j + 1, Nat.succ_le_of_lt hlj, (by first | rfl | (rw [hw2]; rfl)), ⟨_, HX2.out⟩, HC2.out⟩, ?_⟩
          first | exact meas_step hlj | (rw [hw2]; exact meas_step hlj)
        · obtain rfl : s.n = j := by omega
          have hnl2 : ¬ (s.n : Int) < (s.n : Int) := by omega
          have hO8 := own_blk HO8.out (fun q e => hC.block q (HO8.out.lt q e).2 (hne7b.out q e))
          have b_8 := K10b.cell (i := 8) rfl
          have HC := Lib.hid hC
          clear hx hC
          go_wp2
          clear b_8
          have C1 : Chg (fun q => atB A2 q ∨ atB T2 q) wa wr := HC.out.wide fun q a => .inl a
          go_loopw [83] (fun jj W => ∃ j : Nat, j ≤ s.m ∧ jj = .int .i64 j ∧ (∃ xs, W.ownsRow wq.heap.size 58 6 (.slice T2 s.m d2) s.m xs) ∧ Chg (fun q => atB A2 q ∨ atB T2 q) wa W) (fun jj _ => s.m - (intOf jj).toNat)
          case atStart => exact ⟨0, Nat.zero_le _, rfl, ⟨_, hO8⟩, C1⟩
          case round =>
            clear hO8 C1 K10b
            obtain ⟨j, hj, rfl, ⟨xs, hx⟩, hC⟩ := hrel
            by_cases hlj : j < s.m
            · have hjl : (j : Int) < (s.m : Int) := by omega
              have hw2 : wrap64 ((j : Int) + 1) = (j : Int) + 1 := wrap_in (Nat.lt_of_lt_of_le hlj HSM3.out)
              have K10b := K10a.of_block (hC.block _ K10a.lt (fun a => a.elim (fun a => absurd (HAT.out.1 _ a).2 (Nat.not_le_of_lt HQ10.out)) (fun a => absurd (HAT.out.2.1 _ a).2 (Nat.not_le_of_lt HQ10.out))))
              obtain ⟨gA, u, hA9, hcell, hfr, hlen⟩ := own_at hx (j := j * 6 + 4) (by omega) (by omega)
              have hx2 := store_at hx hA9 hlen (.int .i64 (-3))
              have hC2 := hC.set (p := gA) (.inr (show atB T2 gA by rw [hA9]; rfl)) (j * 6 + 4) (.int .i64 (-3))
              have b_8 := K10b.cell (i := 8) rfl
              rw [hA9] at b_8
              have HX2 := Lib.hid hx2
              have HC2 := Lib.hid hC2
              clear hx hC K10b hlen hA9 hx2 hC2
              go_wp2
              refine ⟨⟨j + 1, Nat.succ_le_of_lt hlj, (by first | rfl | (rw [hw2]; rfl)), ⟨_, HX2.out⟩, HC2.out⟩, ?_⟩
              first | exact meas_step hlj | (rw [hw2]; exact meas_step hlj)
            · obtain rfl : s.m = j := by omega
              have hnl3 : ¬ (s.m : Int) < (s.m : Int) := by omega
              have hI9 := HIA.out.chg hC (fun q f a => a.elim (fun a => (HAT.out.1 q a).1 f) (fun a => (HAT.out.2.1 q a).1 f))
              have hB9 := hC.below HBA.out HBA.out.size (fun q a => a.elim (fun a => Nat.le_trans HQW.out (HAT.out.1 q a).2) (fun a => Nat.le_trans HQW.out (HAT.out.2.1 q a).2))
              have hK9 := HHK.out
              have hK9' : Kpt w wr F' (cnt + 1) g' (exG hk cnt s) va := ⟨own_blk hK9.own (fun q e => hC.block q (hK9.own.lt q e).2 (fun a => a.elim (HAT.out.2.2 q e).2.1 (HAT.out.2.2 q e).2.2)), hK9.sep, hK9.mv⟩
              have HE := Lib.hid (And.intro hI9 (And.intro hB9 hK9'))
              clear hx hC hI9 hB9 hK9 hK9'
              go_wp2
              refine ⟨⟨i + 1, Nat.succ_le_of_lt hlt, (by first | rfl | (rw [HW1.out]; rfl)), ⟨cnt + 1, g', _, F', exG hk cnt s, HE.out.1, HE.out.2.2⟩, HE.out.2.1⟩, ?_⟩
              first | exact meas_step hlt | (rw [HW1.out]; exact meas_step hlt)
    · obtain rfl : N = i := by omega
      have hnl : ¬ (N : Int) < (N : Int) := by omega
      clear hi hlt
      generalize wr = wy at *
      have HIy := Lib.hid hI
      have HKy := Lib.hid hK
      have HBy := Lib.hid B
      have cCl := yclone_any hI.y HNN.out hI.szs (Nat.le_trans hI.cb (by decide))
      unfold YcP at cCl
      clear hI hK B
      go_wp2_with (fail)
      with_reducible refine cCl.mono ?_
      rintro e w20 ⟨p2, f2, rfl, hY2, hf2, hb⟩
      have hI2 := yi_mv HIy.out hY2 hf2
      have hb20 := Lib.hid hb
      clear cCl hY2 hf2 hb
      go_wp2
      go_loopw [97] (fun ii W => ∃ i : Nat, i ≤ N ∧ ii = .int .i64 i ∧ (∃ cnt2 g2 t2 F2, YI W p2 n cnt2 g2 t2 F2 wy.heap.size ∧ Hid (cnt ≤ cnt2)) ∧ Below wy.heap.size wy W) (fun ii _ => N - (intOf ii).toNat)
      case atStart => exact ⟨0, Nat.zero_le _, rfl, ⟨cnt, f2, t, _, hI2, Lib.hid (Nat.le_refl _)⟩, hb20.out⟩
      case round =>
        clear hI2
        obtain ⟨i, hi, rfl, ⟨cnt2, g2, t2, F2, hI, hcc⟩, hBy⟩ := hrel
        by_cases hlt : i < N
        · have hil : (i : Int) < (N : Int) := by omega
          have hS := HS0.out.below (below_step HBy.out hBy HBy.out.size)
          obtain ⟨b, o, hA0, hc⟩ := hS (by omega)
          obtain rfl := hA0
          obtain ⟨hAt, hM⟩ := hc i hlt
          obtain ⟨x_0, x_1, x_2, x_3, x_4, x_5, x_6, x_7, x_8, x_9⟩ := hAt.all
          have hsz := HSB.out i hlt
          have hw1 : wrap64 ((i : Int) + 1) = (i : Int) + 1 := wrap_in6 (Nat.lt_of_lt_of_le hlt HN6.out)
          have hw2 : wrap64 ((cnt2 : Int) + 1) = (cnt2 : Int) + 1 := wrap_in6 (Nat.lt_of_le_of_lt hI.cb (by decide))
          have hsn : (g0 i).n ≤ 100000 := Nat.le_trans hsz.1 (by decide)
          have hsm : (g0 i).m ≤ 100000 := Nat.le_trans hsz.2 (by decide)
          clear hc hAt hS hsz
          generalize g0 i = s at *
          have K := bx_new wr [.int .i64 s.k, .int .i64 s.ca, .int .i64 s.tb, .int .i64 s.so, .int .i64 s.tx, .int .i64 s.sf, .slice s.A s.n s.c, .int .i64 s.net, .slice s.T s.m s.d, .int .i64 s.pay] 37
          have N0 := below_new wr (.cells #[.int .i64 s.k, .int .i64 s.ca, .int .i64 s.tb, .int .i64 s.so, .int .i64 s.tx, .int .i64 s.sf, .slice s.A s.n s.c, .int .i64 s.net, .slice s.T s.m s.d, .int .i64 s.pay] 37)
          have k_0 := K.cell (i := 0) rfl
          have kf_0 := K.fr 0
          have k_1 := K.cell (i := 1) rfl
          have kf_1 := K.fr 1
          have k_2 := K.cell (i := 2) rfl
          have kf_2 := K.fr 2
          have k_3 := K.cell (i := 3) rfl
          have kf_3 := K.fr 3
          have k_4 := K.cell (i := 4) rfl
          have kf_4 := K.fr 4
          have k_5 := K.cell (i := 5) rfl
          have kf_5 := K.fr 5
          have k_6 := K.cell (i := 6) rfl
          have kf_6 := K.fr 6
          have k_7 := K.cell (i := 7) rfl
          have kf_7 := K.fr 7
          have k_8 := K.cell (i := 8) rfl
          have kf_8 := K.fr 8
          have k_9 := K.cell (i := 9) rfl
          have kf_9 := K.fr 9
          have cC := ycount_any (hI.below N0).y
          have K1 := bx_new wr [.int .i64 ((cnt2 : Int) + 1), .int .i64 s.ca, .int .i64 s.tb, .int .i64 s.so, .int .i64 s.tx, .int .i64 s.sf, .slice s.A s.n s.c, .int .i64 s.net, .slice s.T s.m s.d, .int .i64 s.pay] 37
          have N1 := below_new wr (.cells #[.int .i64 ((cnt2 : Int) + 1), .int .i64 s.ca, .int .i64 s.tb, .int .i64 s.so, .int .i64 s.tx, .int .i64 s.sf, .slice s.A s.n s.c, .int .i64 s.net, .slice s.T s.m s.d, .int .i64 s.pay] 37)
          have j_0 := K1.cell (i := 0) rfl
          have j_1 := K1.cell (i := 1) rfl
          have j_2 := K1.cell (i := 2) rfl
          have j_3 := K1.cell (i := 3) rfl
          have j_4 := K1.cell (i := 4) rfl
          have j_5 := K1.cell (i := 5) rfl
          have j_6 := K1.cell (i := 6) rfl
          have j_7 := K1.cell (i := 7) rfl
          have j_8 := K1.cell (i := 8) rfl
          have j_9 := K1.cell (i := 9) rfl
          have hM1 : SlM (wr.alloc (.cells #[.int .i64 ((cnt2 : Int) + 1), .int .i64 s.ca, .int .i64 s.tb, .int .i64 s.so, .int .i64 s.tx, .int .i64 s.sf, .slice s.A s.n s.c, .int .i64 s.net, .slice s.T s.m s.d, .int .i64 s.pay] 37)) (⟨(cnt2 : Int) + 1, s.ca, s.tb, s.so, s.tx, s.sf, s.A, s.n, s.c, s.net, s.T, s.m, s.d, s.pay, s.X, s.Y, s.f⟩ : Slp) := ⟨(hM.below N1).sh, (hM.below N1).tk, hM.sa, hM.ta⟩
          have hI1 := hI.below N1
          have hB1 := below_step hBy N1 hBy.size
          have HLT := Lib.hid hlt
          clear N1 N0 K K1 hM hI hBy
          go_wp2_with (fail)
          with_reducible refine cC.mono ?_
          rintro e w21 ⟨rfl, rfl⟩
          clear cC
          by_cases hv : pstV (⟨(cnt2 : Int) + 1, s.ca, s.tb, s.so, s.tx, s.sf, s.A, s.n, s.c, s.net, s.T, s.m, s.d, s.pay, s.X, s.Y, s.f⟩ : Slp) n cnt2 t2 = 0
          · have cP : Calls Try.prog 14 #[.pointer (some ⟨p2, 0, none⟩), .agg #[.int .i64 ((cnt2 : Int) + 1), .int .i64 s.ca, .int .i64 s.tb, .int .i64 s.so, .int .i64 s.tx, .int .i64 s.sf, .slice s.A s.n s.c, .int .i64 s.net, .slice s.T s.m s.d, .int .i64 s.pay]] (wr.alloc (.cells #[.int .i64 ((cnt2 : Int) + 1), .int .i64 s.ca, .int .i64 s.tb, .int .i64 s.so, .int .i64 s.tx, .int .i64 s.sf, .slice s.A s.n s.c, .int .i64 s.net, .slice s.T s.m s.d, .int .i64 s.pay] 37)) (YkP p2 n cnt2 g2 t2 (⟨(cnt2 : Int) + 1, s.ca, s.tb, s.so, s.tx, s.sf, s.A, s.n, s.c, s.net, s.T, s.m, s.d, s.pay, s.X, s.Y, s.f⟩ : Slp) F2 wy.heap.size (wr.alloc (.cells #[.int .i64 ((cnt2 : Int) + 1), .int .i64 s.ca, .int .i64 s.tb, .int .i64 s.so, .int .i64 s.tx, .int .i64 s.sf, .slice s.A s.n s.c, .int .i64 s.net, .slice s.T s.m s.d, .int .i64 s.pay] 37))) := yp_ok hI1 hB1.size (⟨(cnt2 : Int) + 1, s.ca, s.tb, s.so, s.tx, s.sf, s.A, s.n, s.c, s.net, s.T, s.m, s.d, s.pay, s.X, s.Y, s.f⟩ : Slp) hM1 hsn hsm hv
            clear hv hM1 hsn hsm
            go_wp2_with (fail)
            generalize (wr.alloc (.cells #[.int .i64 ((cnt2 : Int) + 1), .int .i64 s.ca, .int .i64 s.tb, .int .i64 s.so, .int .i64 s.tx, .int .i64 s.sf, .slice s.A s.n s.c, .int .i64 s.net, .slice s.T s.m s.d, .int .i64 s.pay] 37)) = wq at *
            with_reducible refine cP.mono ?_
            rintro e w5 ⟨g', F', rfl, hI3, _, _, hF', hC⟩
            have B2 := Lib.hid (hC.below hB1 hB1.size hI1.lo)
            clear cP hC hI1 hB1 hF'
            go_wp2
            refine ⟨⟨i + 1, Nat.succ_le_of_lt HLT.out, (by first | rfl | (rw [hw1]; rfl)), ⟨_, g', _, F', hI3, Lib.hid (Nat.le_succ_of_le hcc.out)⟩, B2.out⟩, ?_⟩
            first | exact meas_step HLT.out | (rw [hw1]; exact meas_step HLT.out)
          · have cP : Calls Try.prog 14 #[.pointer (some ⟨p2, 0, none⟩), .agg #[.int .i64 ((cnt2 : Int) + 1), .int .i64 s.ca, .int .i64 s.tb, .int .i64 s.so, .int .i64 s.tx, .int .i64 s.sf, .slice s.A s.n s.c, .int .i64 s.net, .slice s.T s.m s.d, .int .i64 s.pay]] (wr.alloc (.cells #[.int .i64 ((cnt2 : Int) + 1), .int .i64 s.ca, .int .i64 s.tb, .int .i64 s.so, .int .i64 s.tx, .int .i64 s.sf, .slice s.A s.n s.c, .int .i64 s.net, .slice s.T s.m s.d, .int .i64 s.pay] 37)) fun e w' => e = .returned (.int .i64 (pstV (⟨(cnt2 : Int) + 1, s.ca, s.tb, s.so, s.tx, s.sf, s.A, s.n, s.c, s.net, s.T, s.m, s.d, s.pay, s.X, s.Y, s.f⟩ : Slp) n cnt2 t2)) ∧ Below (wr.alloc (.cells #[.int .i64 ((cnt2 : Int) + 1), .int .i64 s.ca, .int .i64 s.tb, .int .i64 s.so, .int .i64 s.tx, .int .i64 s.sf, .slice s.A s.n s.c, .int .i64 s.net, .slice s.T s.m s.d, .int .i64 s.pay] 37)).heap.size (wr.alloc (.cells #[.int .i64 ((cnt2 : Int) + 1), .int .i64 s.ca, .int .i64 s.tb, .int .i64 s.so, .int .i64 s.tx, .int .i64 s.sf, .slice s.A s.n s.c, .int .i64 s.net, .slice s.T s.m s.d, .int .i64 s.pay] 37)) w' := yp_no hI1 (⟨(cnt2 : Int) + 1, s.ca, s.tb, s.so, s.tx, s.sf, s.A, s.n, s.c, s.net, s.T, s.m, s.d, s.pay, s.X, s.Y, s.f⟩ : Slp) hM1 hsn hsm _ rfl hv
            generalize pstV (⟨(cnt2 : Int) + 1, s.ca, s.tb, s.so, s.tx, s.sf, s.A, s.n, s.c, s.net, s.T, s.m, s.d, s.pay, s.X, s.Y, s.f⟩ : Slp) n cnt2 t2 = vv at *
            clear hv hM1 hsn hsm
            go_wp2_with (fail)
            generalize (wr.alloc (.cells #[.int .i64 ((cnt2 : Int) + 1), .int .i64 s.ca, .int .i64 s.tb, .int .i64 s.so, .int .i64 s.tx, .int .i64 s.sf, .slice s.A s.n s.c, .int .i64 s.net, .slice s.T s.m s.d, .int .i64 s.pay] 37)) = wq at *
            with_reducible refine cP.mono ?_
            rintro e w5 ⟨rfl, hb⟩
            have hI3 := hI1.below hb
            have B2 := Lib.hid (below_step hB1 hb hB1.size)
            clear cP hI1 hB1 hb
            go_wp2
            refine ⟨⟨i + 1, Nat.succ_le_of_lt HLT.out, (by first | rfl | (rw [hw1]; rfl)), ⟨cnt2, g2, t2, F2, hI3, hcc⟩, B2.out⟩, ?_⟩
            first | exact meas_step HLT.out | (rw [hw1]; exact meas_step HLT.out)
        · obtain rfl : N = i := by omega
          have hnl5 : ¬ (N : Int) < (N : Int) := by omega
          clear hi hlt
          generalize wr = wz at *
          have HIz := Lib.hid (HIy.out.below hBy)
          have HKz := Lib.hid (own_below HKy.out.own hBy)
          have HBz := Lib.hid (below_step HBy.out hBy HBy.out.size)
          have HIc := Lib.hid (And.intro hI hcc)
          have cL := yslips_fr HIz.out.y HIz.out.szs (Nat.le_trans HIz.out.cb (by decide))
          unfold YlD at cL
          clear hI hBy
          go_wp2_with (fail)
          with_reducible refine cL.mono ?_
          rintro e w30 ⟨v5, rfl, ⟨h5, hown5, hj5⟩, hb5⟩
          have hSt := st_new hj5
          obtain ⟨A5, c5, rfl, _, _⟩ := own_len hown5
          have H5 := Lib.hid (fun j (hj : j < cnt) => (hj5 j hj).1)
          have HQ30 := Lib.hid hb5.size
          clear cL hj5
          go_wp2
          go_loopw [112] (fun jj W => ∃ j : Nat, j ≤ cnt ∧ jj = .int .i64 j ∧ W.ownsRow wz.heap.size 37 10 (.slice A5 cnt c5) cnt (slc h5 cnt) ∧ StL wz.heap.size w30.heap.size (.slice A5 cnt c5) W h5 cnt ∧ Below wz.heap.size wz W ∧ Hid (w30.heap.size ≤ W.heap.size)) (fun jj _ => cnt - (intOf jj).toNat)
          case atStart => exact ⟨0, Nat.zero_le _, rfl, hown5, hSt, hb5, Lib.hid (Nat.le_refl _)⟩
          case round =>
            clear hown5 hSt hb5
            obtain ⟨j, hj, rfl, hown, hSt, hBw, hz30⟩ := hrel
            by_cases hlj : j < cnt
            · have hjl : (j : Int) < (cnt : Int) := by omega
              have hw1 : wrap64 ((j : Int) + 1) = (j : Int) + 1 := wrap_in6 (Nat.lt_of_lt_of_le hlj (Nat.le_trans HIz.out.cb (by decide)))
              obtain ⟨b, rfl, hAt⟩ := sl_own hown hlj
              obtain ⟨x_0, x_1, x_2, x_3, x_4, x_5, x_6, x_7, x_8, x_9⟩ := hAt.all
              have hnj : (h5 j).n ≤ 64 := by
                obtain ⟨A, c, T, d, e⟩ := H5.out j hlj
                have h1 := (HIz.out.ok j hlj).1.n
                have h2 := HNN.out
                rw [e]
                show (g j).n ≤ 64
                omega
              have HNJ := Lib.hid hnj
              have KS := bx_new wr [.int .i64 (h5 j).k, .int .i64 (h5 j).ca, .int .i64 (h5 j).tb, .int .i64 (h5 j).so, .int .i64 (h5 j).tx, .int .i64 (h5 j).sf, .slice (h5 j).A (h5 j).n (h5 j).c, .int .i64 (h5 j).net, .slice (h5 j).T (h5 j).m (h5 j).d, .int .i64 (h5 j).pay] 37
              have NS := below_new wr (.cells #[.int .i64 (h5 j).k, .int .i64 (h5 j).ca, .int .i64 (h5 j).tb, .int .i64 (h5 j).so, .int .i64 (h5 j).tx, .int .i64 (h5 j).sf, .slice (h5 j).A (h5 j).n (h5 j).c, .int .i64 (h5 j).net, .slice (h5 j).T (h5 j).m (h5 j).d, .int .i64 (h5 j).pay] 37)
              have HQ17 := hz30
              have hown2 := own_below hown NS
              have hSt2 := hSt.below NS hz30.out
              have hBw2 := below_step hBw NS hBw.size
              have hz31 : Hid (w30.heap.size ≤ (wr.alloc (.cells #[.int .i64 (h5 j).k, .int .i64 (h5 j).ca, .int .i64 (h5 j).tb, .int .i64 (h5 j).so, .int .i64 (h5 j).tx, .int .i64 (h5 j).sf, .slice (h5 j).A (h5 j).n (h5 j).c, .int .i64 (h5 j).net, .slice (h5 j).T (h5 j).m (h5 j).d, .int .i64 (h5 j).pay] 37)).heap.size) := Lib.hid (Nat.le_trans hz30.out NS.size)
              have k_0 := KS.cell (i := 0) rfl
              have k_1 := KS.cell (i := 1) rfl
              have k_2 := KS.cell (i := 2) rfl
              have k_3 := KS.cell (i := 3) rfl
              have k_4 := KS.cell (i := 4) rfl
              have k_5 := KS.cell (i := 5) rfl
              have k_6 := KS.cell (i := 6) rfl
              have k_7 := KS.cell (i := 7) rfl
              have k_8 := KS.cell (i := 8) rfl
              have k_9 := KS.cell (i := 9) rfl
              have HLJ := Lib.hid hlj
              clear hAt hnj hown hSt hBw NS
              go_wp2
              clear x_0 x_1 x_2 x_3 x_4 x_5 x_6 x_7 x_8 x_9
              clear k_0 k_1 k_2 k_3 k_4 k_5 k_6 k_7 k_8 k_9
              generalize (wr.alloc (.cells #[.int .i64 (h5 j).k, .int .i64 (h5 j).ca, .int .i64 (h5 j).tb, .int .i64 (h5 j).so, .int .i64 (h5 j).tx, .int .i64 (h5 j).sf, .slice (h5 j).A (h5 j).n (h5 j).c, .int .i64 (h5 j).net, .slice (h5 j).T (h5 j).m (h5 j).d, .int .i64 (h5 j).pay] 37)) = wq at *
              generalize wr.heap.size = q17 at *
              go_loopw [119] (fun kk W => ∃ m : Nat, m ≤ (h5 j).n ∧ kk = .int .i64 m ∧ Bx W q17 37 [.int .i64 (h5 j).k, .int .i64 (h5 j).ca, .int .i64 (h5 j).tb, .int .i64 (h5 j).so, .int .i64 (h5 j).tx, .int .i64 (h5 j).sf, .slice (h5 j).A (h5 j).n (h5 j).c, .int .i64 (h5 j).net, .slice (h5 j).T (h5 j).m (h5 j).d, .int .i64 (h5 j).pay] ∧ W.ownsRow wz.heap.size 37 10 (.slice (some ⟨b, 0, none⟩) cnt c5) cnt (slc h5 cnt) ∧ StL wz.heap.size w30.heap.size (.slice (some ⟨b, 0, none⟩) cnt c5) W h5 cnt ∧ Below wz.heap.size wz W ∧ Hid (w30.heap.size ≤ W.heap.size)) (fun kk _ => (h5 j).n - (intOf kk).toNat)
              case atStart => exact ⟨0, Nat.zero_le _, rfl, KS, hown2, hSt2, hBw2, hz31⟩
              case round =>
                clear KS hown2 hSt2 hBw2 hz31
                obtain ⟨m, hm, rfl, K7, hown, hSt, hBw, hz32⟩ := hrel
                by_cases hlm : m < (h5 j).n
                · have hml : (m : Int) < ((h5 j).n : Int) := by omega
                  have hw2 : wrap64 ((m : Int) + 1) = (m : Int) + 1 := wrap_in7 (Nat.lt_of_lt_of_le hlm HNJ.out)
                  obtain ⟨bb, ob, u, hAb, hb0, hb1, hb2, hcell, hfr⟩ := hSt j HLJ.out m hlm
                  have HLM := Lib.hid hlm
                  have k_6 := K7.cell (i := 6) rfl
                  rw [hAb] at k_6
                  have HA := Lib.hid (And.intro (K7.other (q := bb) (Nat.ne_of_lt (Nat.lt_of_lt_of_le hb1 HQ17.out)) (ob + m * 2 + 1) (.int .i64 99)) (And.intro (own_blk hown (w' := wr.setCell ⟨bb, ob + m * 2 + 1, none⟩ (.int .i64 99)) (fun q e => Go.Deep.blk_setCell_other _ _ _ _ (show q ≠ bb from fun h => hb2 (h ▸ e)))) (And.intro (hSt.set ⟨bb, ob + m * 2 + 1, none⟩ (.int .i64 99)) (hBw.setCell (p := ⟨bb, ob + m * 2 + 1, none⟩) hb0 (.int .i64 99)))))
                  have hz33 : Hid (w30.heap.size ≤ (wr.setCell ⟨bb, ob + m * 2 + 1, none⟩ (.int .i64 99)).heap.size) := Lib.hid (by simpa [World.setCell] using hz32.out)
                  clear hb0 hb1 hb2 hAb hSt hown hBw K7 hm hz32
                  go_wp2
                  refine ⟨⟨m + 1, Nat.succ_le_of_lt HLM.out, (by first | rfl | (rw [hw2]; rfl)), HA.out.1, HA.out.2.1, HA.out.2.2.1, HA.out.2.2.2, hz33⟩, ?_⟩
                  first | exact meas_step HLM.out | (rw [hw2]; exact meas_step HLM.out)
                · have hnl6 : ¬ (m : Int) < ((h5 j).n : Int) := by omega
                  have HE := Lib.hid (And.intro hown (And.intro hSt hBw))
                  clear hown hSt hBw K7 hm
                  go_wp2
                  refine ⟨⟨j + 1, Nat.succ_le_of_lt HLJ.out, (by first | rfl | (rw [hw1]; rfl)), HE.out.1, HE.out.2.1, HE.out.2.2, hz32⟩, ?_⟩
                  first | exact meas_step HLJ.out | (rw [hw1]; exact meas_step HLJ.out)
            · obtain rfl : cnt = j := by omega
              have hnl7 : ¬ (cnt : Int) < (cnt : Int) := by omega
              clear hj hlj hown hSt
              have hI8 := HIz.out.below hBw
              have hK8 := Lib.hid (own_below HKz.out hBw)
              have hB8 := Lib.hid (below_step HBz.out hBw HBz.out.size)
              have hIc8 := HIc.out.1.below hBw
              have hcc8 := HIc.out.2
              obtain ⟨A8, c8, rfl, _, _⟩ := own_len hK8.out
              clear hBw hz30
              generalize wr = wt at *
              have cT := ytotals_any hI8.y HNN.out
              unfold YtP at cT
              go_wp2_with (fail)
              with_reducible refine cT.mono ?_
              rintro e w40 ⟨A7, c7, rfl, hO7, hb⟩
              have K19 := bx_new w40 [.int .i64 t.ca, .int .i64 t.tb, .int .i64 t.so, .int .i64 t.tx, .int .i64 t.sf, .slice A7 n c7, .int .i64 t.net, .int .i64 t.tk, .int .i64 t.pay] 34
              have N19 := below_new w40 (.cells #[.int .i64 t.ca, .int .i64 t.tb, .int .i64 t.so, .int .i64 t.tx, .int .i64 t.sf, .slice A7 n c7, .int .i64 t.net, .int .i64 t.tk, .int .i64 t.pay] 34)
              have HA7 : Hid (∀ q, atB A7 q → wt.heap.size ≤ q ∧ q < w40.heap.size) := Lib.hid fun q e => hO7.lt q (ob_at e)
              have hO8 := own_below hO7 N19
              have hb8 := below_step hb N19 hb.size
              have hB40 : Hid (wt.heap.size ≤ w40.heap.size) := Lib.hid hb.size
              have HI8 := Lib.hid hI8
              have HIc8 := Lib.hid hIc8
              have k_5 := K19.cell (i := 5) rfl
              clear cT hO7 hb N19 hI8 hIc8
              go_wp2
              clear k_5
              go_loopw [134] (fun mm W => ∃ m : Nat, m ≤ n ∧ mm = .int .i64 m ∧ Bx W w40.heap.size 34 [.int .i64 t.ca, .int .i64 t.tb, .int .i64 t.so, .int .i64 t.tx, .int .i64 t.sf, .slice A7 n c7, .int .i64 t.net, .int .i64 t.tk, .int .i64 t.pay] ∧ (∃ xs, W.ownsRow wt.heap.size 53 2 (.slice A7 n c7) n xs) ∧ Below wt.heap.size wt W) (fun mm _ => n - (intOf mm).toNat)
              case atStart => exact ⟨0, Nat.zero_le _, rfl, K19, ⟨_, hO8⟩, hb8⟩
              case round =>
                clear K19 hO8 hb8
                obtain ⟨m, hm, rfl, K19, ⟨xs, hx⟩, hBw⟩ := hrel
                by_cases hlm : m < n
                · have hml : (m : Int) < (n : Int) := by omega
                  have hw2 : wrap64 ((m : Int) + 1) = (m : Int) + 1 := wrap_in7 (Nat.lt_of_lt_of_le hlm HNN.out)
                  obtain ⟨gA, u, hA9, hcell, hfr, hlen⟩ := own_at hx (j := m * 2) (by omega) (by omega)
                  have hq := HA7.out gA (by rw [hA9]; rfl)
                  have HX := Lib.hid (And.intro (K19.other (q := gA) (Nat.ne_of_lt hq.2) (m * 2) (.int .i64 98)) (And.intro (store_at hx hA9 hlen (.int .i64 98)) (hBw.setCell (p := ⟨gA, m * 2, none⟩) hq.1 (.int .i64 98))))
                  have k_5 := K19.cell (i := 5) rfl
                  rw [hA9] at k_5
                  have HLM := Lib.hid hlm
                  clear hx hBw K19 hlen hA9 hq hm
                  go_wp2
                  refine ⟨⟨m + 1, Nat.succ_le_of_lt HLM.out, (by first | rfl | (rw [hw2]; rfl)), HX.out.1, ⟨_, HX.out.2.1⟩, HX.out.2.2⟩, ?_⟩
                  first | exact meas_step HLM.out | (rw [hw2]; exact meas_step HLM.out)
                · obtain rfl : n = m := by omega
                  have hnl8 : ¬ (n : Int) < (n : Int) := by omega
                  have hI9 := HI8.out.below hBw
                  have hIc9 := HIc8.out.below hBw
                  have hK9 := own_below hK8.out hBw
                  have hB9 := below_step hB8.out hBw hB8.out.size
                  have cL := yslips_any hI9.y hI9.szs (Nat.le_trans hI9.cb (by decide))
                  unfold YlP at cL
                  clear hBw K19 hx hm hlm
                  go_wp2_with (fail)
                  with_reducible refine cL.mono ?_
                  rintro e w50 ⟨v6, rfl, ⟨h6, hown6, hj6⟩, hb⟩
                  obtain ⟨A6, c6, rfl, _, _⟩ := own_len hown6
                  have hIa := hI9.below hb
                  have hIca := hIc9.below hb
                  have HKa := Lib.hid (own_below hK9 hb)
                  have HBa := Lib.hid (below_step hB9 hb hB9.size)
                  have cC2 := ycount_any hIca.y
                  have cC1 := ycount_any hIa.y
                  have HIa := Lib.hid hIa
                  have H6 := Lib.hid hown6
                  have HJ6 := Lib.hid hj6
                  have e1 : ((cnt : Int) != (cnt : Int)) = false := by simp
                  have e2 : decide ((cnt2 : Int) < (cnt : Int)) = false := decide_eq_false (by have := hcc8.out; omega)
                  have e3 : decide (cnt2 < cnt) = false := decide_eq_false (by have := hcc8.out; omega)
                  have e4 : ¬ (cnt2 : Int) < (cnt : Int) := by have := hcc8.out; omega
                  clear hI9 hIc9 hK9 hB9 hb cL hown6 hj6 hIa hIca
                  go_wp2_with (fail)
                  with_reducible refine cC2.mono ?_
                  rintro e w51 ⟨rfl, rfl⟩
                  go_wp2_with (fail)
                  with_reducible refine cC1.mono ?_
                  rintro e w52 ⟨rfl, rfl⟩
                  clear cC2
                  go_wp2
                  clear e1 e2 e3 e4
                  have Bw := Below.refl w50.heap.size w50
                  go_loopw [159] (fun mm W => ∃ m : Nat, m ≤ cnt ∧ mm = .int .i64 m ∧ Below w50.heap.size w50 W) (fun mm _ => cnt - (intOf mm).toNat)
                  case atStart => exact ⟨0, Nat.zero_le _, rfl, Bw⟩
                  case round =>
                    clear Bw cC1
                    obtain ⟨m, hm, rfl, hBw⟩ := hrel
                    by_cases hlm : m < cnt
                    · have hml : (m : Int) < (cnt : Int) := by omega
                      have hm0 : (0 : Int) ≤ (m : Int) := by omega
                      have hw2 : wrap64 ((m : Int) + 1) = (m : Int) + 1 := wrap_in6 (Nat.lt_of_lt_of_le hlm (Nat.le_trans HIa.out.cb (by decide)))
                      obtain ⟨hM0, Ah, ch, Th, dh, eg⟩ := HKy.out.mv m hlm
                      obtain ⟨⟨Al, cl, Tl, dl, el⟩, hM6, _⟩ := HJ6.out m hlm
                      have e6 : h6 m = (hk m).mv Al cl Tl dl := by rw [el, eg]; rfl
                      obtain ⟨bl, hbl, hAt6⟩ := sl_own H6.out hlm
                      obtain ⟨bk, hbk, hAtk⟩ := sl_own HKa.out hlm
                      obtain rfl := hbl
                      obtain rfl := hbk
                      rw [e6] at hAt6 hM6
                      have hnm := (HIa.out.ok m hlm).1.n
                      have hmm := (HIa.out.ok m hlm).2
                      rw [eg] at hnm hmm
                      have hkn : (hk m).n ≤ 1000000 := Nat.le_trans (Nat.le_of_eq hnm) (Nat.le_trans HNN.out (by decide))
                      have hkm : (hk m).m ≤ 1000000 := Nat.le_trans (show (hk m).m ≤ 100000 from hmm) (by decide)
                      obtain ⟨x_0, x_1, x_2, x_3, x_4, x_5, x_6, x_7, x_8, x_9⟩ := (hAt6.below hBw).all
                      obtain ⟨y_0, y_1, y_2, y_3, y_4, y_5, y_6, y_7, y_8, y_9⟩ := (hAtk.below hBw).all
                      dsimp only [Slp.mv] at x_0 x_1 x_2 x_3 x_4 x_5 x_6 x_7 x_8 x_9
                      have hMl := hM6.below hBw
                      have hMk := hM0.below (below_step HBa.out hBw HBa.out.size)
                      have cE := fun (d : Nat) (os : Array Obj) => Calls.regrown_of (d := d) (os := os) (w := wr) (lsame_raw (hk m).k (hk m).ca (hk m).tb (hk m).so (hk m).tx (hk m).sf Al (hk m).n cl (hk m).net Tl (hk m).m dl (hk m).pay (hk m).A (hk m).c (hk m).T (hk m).d (hk m).X (hk m).Y (hk m).f (grow (redrawn wr d) os) (hMl.below (below_regrown wr d os)).sh (hMk.below (below_regrown wr d os)).sh (hMl.below (below_regrown wr d os)).tk (hMk.below (below_regrown wr d os)).tk hkn hkm)
                      have u_0 := fun d os => cell_regrown x_0 d os
                      have v_0 := fun d os => cell_regrown y_0 d os
                      have u_1 := fun d os => cell_regrown x_1 d os
                      have v_1 := fun d os => cell_regrown y_1 d os
                      have u_2 := fun d os => cell_regrown x_2 d os
                      have v_2 := fun d os => cell_regrown y_2 d os
                      have u_3 := fun d os => cell_regrown x_3 d os
                      have v_3 := fun d os => cell_regrown y_3 d os
                      have u_4 := fun d os => cell_regrown x_4 d os
                      have v_4 := fun d os => cell_regrown y_4 d os
                      have u_5 := fun d os => cell_regrown x_5 d os
                      have v_5 := fun d os => cell_regrown y_5 d os
                      have u_6 := fun d os => cell_regrown x_6 d os
                      have v_6 := fun d os => cell_regrown y_6 d os
                      have u_7 := fun d os => cell_regrown x_7 d os
                      have v_7 := fun d os => cell_regrown y_7 d os
                      have u_8 := fun d os => cell_regrown x_8 d os
                      have v_8 := fun d os => cell_regrown y_8 d os
                      have u_9 := fun d os => cell_regrown x_9 d os
                      have v_9 := fun d os => cell_regrown y_9 d os
                      have HLM := Lib.hid hlm
                      have HBW := Lib.hid hBw
                      clear hM0 hM6 hAt6 hAtk hnm hmm hkn hkm hMl hMk e6 eg el hBw x_0 x_1 x_2 x_3 x_4 x_5 x_6 x_7 x_8 x_9 y_0 y_1 y_2 y_3 y_4 y_5 y_6 y_7 y_8 y_9 hm
                      go_wp2
                      refine wp_region_quiet_below mixedY (by kernel_rfl) ?_
                      iterate 8 (go_big_quiet_step (fail))
                      go_big_quiet_step (exact cE _ _)
                      repeat (go_big_quiet_step (fail))
                      refine wpQuiet_nil ?_
                      intro _ hw'
                      obtain ⟨⟨dq, osq⟩, hw''⟩ := hw'
                      subst hw''
                      have HB2 := Lib.hid (below_step HBW.out (below_regrown wr dq osq) HBW.out.size)
                      clear cE u_0 u_1 u_2 u_3 u_4 u_5 u_6 u_7 u_8 u_9 v_0 v_1 v_2 v_3 v_4 v_5 v_6 v_7 v_8 v_9
                      generalize grow (redrawn wr dq) osq = w60 at *
                      go_wp2
                      refine ⟨⟨m + 1, Nat.succ_le_of_lt HLM.out, (by first | rfl | (rw [hw2]; rfl)), HB2.out⟩, ?_⟩
                      first | exact meas_step HLM.out | (rw [hw2]; exact meas_step HLM.out)
                    · obtain rfl : cnt = m := by omega
                      have hnl9 : ¬ (cnt : Int) < (cnt : Int) := by omega
                      have hI := HIa.out.below hBw
                      have B := below_step HBa.out hBw HBa.out.size
                      have cC := ycount_any hI.y
                      have cU := yupto_ok hI.y hI.nb (Nat.le_trans hI.cb (by decide)) hI.ok hI.rb cnt (Nat.le_refl _)
                      unfold TogP at cU
                      rw [hI.tg] at cU
                      clear hBw hm hlm
                      go_wp2_with (fail)
                      with_reducible refine cC.mono ?_
                      rintro e w61 ⟨rfl, rfl⟩
                      go_wp2_with (fail)
                      with_reducible refine cU.mono ?_
                      rintro e w62 ⟨ba, rfl, _, hSA, hb⟩
                      replace hI := hI.below hb
                      replace B := below_step B hb B.size
                      have KA := bx_new w62 [.int .i64 t.ca, .int .i64 t.tb, .int .i64 t.so, .int .i64 t.tx, .int .i64 t.sf, .slice (some ⟨ba, 0, none⟩) n n, .int .i64 t.net, .int .i64 t.tk, .int .i64 t.pay] 34
                      have NA := below_new w62 (.cells #[.int .i64 t.ca, .int .i64 t.tb, .int .i64 t.so, .int .i64 t.tx, .int .i64 t.sf, .slice (some ⟨ba, 0, none⟩) n n, .int .i64 t.net, .int .i64 t.tk, .int .i64 t.pay] 34)
                      replace hI := hI.below NA
                      replace B := below_step B NA B.size
                      replace hSA := hSA.below NA
                      clear cC cU hb NA
                      go_wp2
                      generalize (w62.alloc (.cells #[.int .i64 t.ca, .int .i64 t.tb, .int .i64 t.so, .int .i64 t.tx, .int .i64 t.sf, .slice (some ⟨ba, 0, none⟩) n n, .int .i64 t.net, .int .i64 t.tk, .int .i64 t.pay] 34)) = w9 at *
                      generalize w62.heap.size = qA at *
                      have hn6 : n ≤ 1000000 := Nat.le_trans HNN.out (by decide)
                      have D1 : Below w9.heap.size w9 w9.drew := (Below.refl _ _).drew
                      have cT := ytotals_any (hI.y.below D1) HNN.out
                      unfold YtP at cT
                      have k_0 := KA.cell (i := 0) rfl
                      have k_1 := KA.cell (i := 1) rfl
                      have k_2 := KA.cell (i := 2) rfl
                      have k_3 := KA.cell (i := 3) rfl
                      have k_4 := KA.cell (i := 4) rfl
                      have k_5 := KA.cell (i := 5) rfl
                      have k_6 := KA.cell (i := 6) rfl
                      have k_7 := KA.cell (i := 7) rfl
                      have k_8 := KA.cell (i := 8) rfl
                      go_cut [4] from 180 to 187 (fun s4 wx => s4 = .bool true ∧ Below w9.heap.size w9 wx)
                      case first =>
                        as_aux_lemma =>
                          have S1 : w9.drew.cell? ⟨qA, 0, none⟩ = some (.int .i64 t.ca) ∧ w9.drew.cell? ⟨qA, 1, none⟩ = some (.int .i64 t.tb) ∧ w9.drew.cell? ⟨qA, 2, none⟩ = some (.int .i64 t.so) ∧ w9.drew.cell? ⟨qA, 3, none⟩ = some (.int .i64 t.tx) ∧ w9.drew.cell? ⟨qA, 4, none⟩ = some (.int .i64 t.sf) ∧ w9.drew.cell? ⟨qA, 5, none⟩ = some (.slice (some ⟨ba, 0, none⟩) n n) ∧ w9.drew.cell? ⟨qA, 6, none⟩ = some (.int .i64 t.net) ∧ w9.drew.cell? ⟨qA, 7, none⟩ = some (.int .i64 t.tk) ∧ w9.drew.cell? ⟨qA, 8, none⟩ = some (.int .i64 t.pay) ∧ Below w9.heap.size w9 w9.drew := ⟨k_0, k_1, k_2, k_3, k_4, k_5, k_6, k_7, k_8, D1⟩
                          have mk : ∀ V : World, Below w9.heap.size w9 V → V.cell? ⟨qA, 0, none⟩ = some (.int .i64 t.ca) ∧ V.cell? ⟨qA, 1, none⟩ = some (.int .i64 t.tb) ∧ V.cell? ⟨qA, 2, none⟩ = some (.int .i64 t.so) ∧ V.cell? ⟨qA, 3, none⟩ = some (.int .i64 t.tx) ∧ V.cell? ⟨qA, 4, none⟩ = some (.int .i64 t.sf) ∧ V.cell? ⟨qA, 5, none⟩ = some (.slice (some ⟨ba, 0, none⟩) n n) ∧ V.cell? ⟨qA, 6, none⟩ = some (.int .i64 t.net) ∧ V.cell? ⟨qA, 7, none⟩ = some (.int .i64 t.tk) ∧ V.cell? ⟨qA, 8, none⟩ = some (.int .i64 t.pay) ∧ Below w9.heap.size w9 V := fun V hb => ⟨cell_later hb k_0, cell_later hb k_1, cell_later hb k_2, cell_later hb k_3, cell_later hb k_4, cell_later hb k_5, cell_later hb k_6, cell_later hb k_7, cell_later hb k_8, hb⟩
                          go_region_held3 (fun X => X.cell? ⟨qA, 0, none⟩ = some (.int .i64 t.ca) ∧ X.cell? ⟨qA, 1, none⟩ = some (.int .i64 t.tb) ∧ X.cell? ⟨qA, 2, none⟩ = some (.int .i64 t.so) ∧ X.cell? ⟨qA, 3, none⟩ = some (.int .i64 t.tx) ∧ X.cell? ⟨qA, 4, none⟩ = some (.int .i64 t.sf) ∧ X.cell? ⟨qA, 5, none⟩ = some (.slice (some ⟨ba, 0, none⟩) n n) ∧ X.cell? ⟨qA, 6, none⟩ = some (.int .i64 t.net) ∧ X.cell? ⟨qA, 7, none⟩ = some (.int .i64 t.tk) ∧ X.cell? ⟨qA, 8, none⟩ = some (.int .i64 t.pay) ∧ Below w9.heap.size w9 X)
                            ((first | exact S1 | exact SW2 | exact SW | assumption))
                            (first
                              | (go_at_call 17; (with_reducible refine cT.mono ?_); rintro e w10 ⟨A2, c2, rfl, hown, hb10⟩; have b10 := below_step D1 hb10 D1.size; have SW := mk w10 b10; have cS := ysame_any t (some ⟨ba, 0, none⟩) A2 n n c2 w10 (hSA.below b10).shs (shs_own hown) hn6; clear hown)
                              | (go_at_call 13; (with_reducible refine cS.mono ?_); rintro e w11 ⟨rfl, hb11⟩; have SW2 := mk w11 (below_step b10 hb11 b10.size)))
                          all_goals
                            rename_i hH
                            go_wp2_with fail
                            go_meet
                            case rel => exact ⟨rfl, hH.2.2.2.2.2.2.2.2.2⟩
                      case rest =>
                      obtain ⟨rfl, hbc⟩ := hcut
                      have B2 := below_step B hbc B.size
                      clear k_0 k_1 k_2 k_3 k_4 k_5 k_6 k_7 k_8 cT D1 hbc B
                      go_wp2
                      go_ret
                      exact ⟨rfl, B2⟩
theorem yearOwn_any (n : Int) (A : Option Addr) (N c : Nat) (g0 : Nat → Slp) (w : World) (hS : Sls w A N g0) (hN : N ≤ 9223372036854775807) :
    Calls Try.prog 5 #[.int .i64 n, .slice A N c] w fun e w' => e = .returned (.bool true) ∧ Below w.heap.size w w' := by
  cases hq : (smB g0 N && decide (N ≤ 60))
  · exact yw_small n A N c g0 w hS hN hq
  · by_cases hn : n < 0 ∨ 30 < n
    · exact yw_out n A N c g0 w hS hN hq hn
    · obtain ⟨m, rfl⟩ : ∃ m : Nat, n = (m : Int) := ⟨n.toNat, by omega⟩
      exact yw_main m A N c g0 w hS hN hq (by omega)
end Go.Proofs.Ytfnjhalpedccaaa
