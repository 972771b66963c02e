/- What slices.Clone of rows of shares and of what orders took, and year.own, answer. -/
import Derived.Test.YtfnjhalpedccaaaYrM
import Derived.Test.YtfnjhalpedccaaaShrB
import Derived.Laws.OwnMore
import Derived.Lib.SliceRun
import Derived.OwnWalk
import Derived.Deep.RegionWith
namespace Go.Proofs.Ytfnjhalpedccaaa
open Go.RowKit Go.Sort
set_option linter.unusedVariables false
set_option linter.unusedSimpArgs false

/-- a row of a list's cells, of the call's own -/
def ClP (el : TypeId) (k : Nat) (xs : List Value) (n : Nat) (w : World) (e : Ending) (w' : World) : Prop := ∃ v, e = .returned v ∧ w'.ownsRow w.heap.size el k v n xs ∧ Below w.heap.size w w'
def sh2 (X Y : Nat → Int) (n : Nat) : List Value := shc ((List.range n).map fun i => (X i, Y i))
theorem sh2_len (X Y : Nat → Int) (n : Nat) : (sh2 X Y n).length = n * 2 := by unfold sh2; rw [shc_len]; simp
theorem sh2_one (X Y : Nat → Int) (n : Nat) : ∀ v ∈ sh2 X Y n, v.oneCell' = true := fun v hv => by
  unfold sh2 shc at hv
  obtain ⟨p, _, hp⟩ := List.mem_flatMap.1 hv
  simp at hp
  rcases hp with rfl | rfl <;> rfl
theorem sh2_news {w : World} {b o n : Nat} {X Y : Nat → Int} (hc : ∀ i, i < n → w.cell? ⟨b, o + i * 2, none⟩ = some (.int .i64 (X i)) ∧ w.cell? ⟨b, o + i * 2 + 1, none⟩ = some (.int .i64 (Y i))) : ∀ q u, (sh2 X Y n)[q]? = some u → w.cell? ((⟨b, o, none⟩ : Addr).add q) = some u := by
  intro q u hu
  have hq : q < n * 2 := by
    have := (List.getElem?_eq_some_iff.1 hu).1
    rwa [sh2_len] at this
  obtain ⟨i, j, rfl, hi, hj⟩ : ∃ i j, q = i * 2 + j ∧ i < n ∧ j < 2 := ⟨q / 2, q % 2, by omega, by omega, by omega⟩
  have hs := shc_get ((List.range n).map fun i => (X i, Y i)) i (X i, Y i) (by rw [List.getElem?_map, List.getElem?_range hi]; rfl)
  rw [Go.WideShapes.add_plain]
  rcases (show j = 0 ∨ j = 1 by omega) with rfl | rfl
  · rw [Nat.add_zero] at hu ⊢
    exact (hc i hi).1.trans (hs.1.symm.trans hu)
  · rw [← Nat.add_assoc]
    exact (hc i hi).2.trans (hs.2.symm.trans hu)
theorem tkc_one (f : Nat → Tkn) (n : Nat) : ∀ v ∈ tkc f n, v.oneCell' = true := by
  induction n with
  | zero => intro v hv; cases hv
  | succ n ih =>
    intro v hv
    rcases List.mem_append.1 (show v ∈ tkc f n ++ (f n).cs from hv) with h | h
    · exact ih v h
    · simp [Tkn.cs] at h
      rcases h with rfl | rfl | rfl | rfl | rfl | rfl <;> rfl
theorem tkc_news {w : World} {b o n : Nat} {f : Nat → Tkn} (hc : ∀ i, i < n → TAt w b (o + i * 6) (f i)) : ∀ q u, (tkc f n)[q]? = some u → w.cell? ((⟨b, o, none⟩ : Addr).add q) = some u := by
  intro q u hu
  have hq : q < n * 6 := by
    have := (List.getElem?_eq_some_iff.1 hu).1
    rwa [tkc_len] at this
  obtain ⟨i, j, rfl, hi, hj⟩ : ∃ i j, q = i * 6 + j ∧ i < n ∧ j < 6 := ⟨q / 6, q % 6, by omega, by omega, by omega⟩
  rw [tkc_get f hi hj] at hu
  rw [Go.WideShapes.add_plain]
  obtain ⟨h0, h1, h2, h3, h4, h5⟩ := hc i hi
  rcases (show j = 0 ∨ j = 1 ∨ j = 2 ∨ j = 3 ∨ j = 4 ∨ j = 5 by omega) with rfl | rfl | rfl | rfl | rfl | rfl
  · exact h0.trans hu
  · exact h1.trans hu
  · exact h2.trans hu
  · exact h3.trans hu
  · exact h4.trans hu
  · exact h5.trans hu
theorem infoTkn : (Try.prog.info? 58).map (fun i => (i.zero, i.size, i.bytes)) = some (some (.agg #[.int .i64 0, .int .i64 0, .int .i64 0, .int .i64 0, .int .i64 0, .int .i64 0]), 6, 48) := by kernel_rfl
set_option maxRecDepth 100000 in
set_option maxHeartbeats 1000000 in
theorem clo2 (A : Option Addr) (n c : Nat) (w : World) (X Y : Nat → Int) (h : Shs w A n X Y) (hn : n ≤ 100000) (hA : A = none → c = 0) :
    Calls Try.prog 21 #[.slice A n c] w (ClP 53 2 (sh2 X Y n) n w) := by
  cases A with
  | none =>
    have h0 : n = 0 := by
      rcases Nat.eq_zero_or_pos n with q | q
      · exact q
      · obtain ⟨b, o, e, _⟩ := h q
        cases e
    subst h0
    obtain rfl := hA rfl
    have heq := Lib.run_eql_slice_nil (P := Try.prog) w 31 53 none 0 0 0 0 Try.underlying31
    go_enter Try.func21, Try.ntmps21
    go_wp2
    go_ret
    exact ⟨_, rfl, World.ownsRow_nil _ _ _ _, Below.refl _ _⟩
  | some ad =>
    obtain ⟨i0, hi0, hz0, hz1, hz2⟩ := info_parts infoSh
    have Hi := Lib.hid hi0
    have Hz := Lib.hid hz0
    have heq := Lib.run_eql_slice_nil (P := Try.prog) w 31 53 (some ad) n c 0 0 Try.underlying31
    have hb0 : Below w.heap.size w (w.alloc (.cells #[] 53)) := (Below.refl _ _).alloc (Nat.le_refl _) _
    have hr := h.below hb0
    have hnews : ∀ q u, (sh2 X Y n)[q]? = some u → (w.alloc (.cells #[] 53)).cell? (ad.add q) = some u := by
      intro q u hu
      have hq := (List.getElem?_eq_some_iff.1 hu).1
      rw [sh2_len X Y n] at hq
      have hn0 : 0 < n := by omega
      obtain ⟨b, o, e, hc⟩ := hr hn0
      have hA' : ad = ⟨b, o, none⟩ := by simpa using e
      subst hA'
      exact sh2_news hc q u hu
    have hown : (w.alloc (.cells #[] 53)).ownsRow w.heap.size 53 2 (.slice (some ⟨w.heap.size, 0, none⟩) 0 0) 0 [] := World.ownsRow_lit w #[] 0 (Nat.le_refl _) (by unfold maxLen; omega) (by simp)
    have hl := sh2_len X Y n
    have hone := sh2_one X Y n
    have hc3 : 0 + n ≤ maxLen := by unfold maxLen; omega
    have hc4 : (0 + n) * 16 ≤ 140737488355328 := by omega
    have hc5 := hb0.size
    clear hi0 hz0 h hr
    go_enter Try.func21, Try.ntmps21
    go_wp2_with (at_builtin; refine wpList_append_own _ rfl _ _ 31 rfl w.heap.size 53 i0 (.agg #[.int .i64 0, .int .i64 0]) 2 16 Try.underlying31 Hi.out Hz.out hz1 hz2 rfl (by decide) _ _ _ rfl hown ad n c _ rfl hl hnews hone hc3 hc4 hc5 ?_; intro v' w3 hown2 hg2 _)
    go_ret
    refine ⟨_, rfl, ?_, hb0.grown hg2 hc5 (fun k hk => (hown.lt k hk).1)⟩
    simpa using hown2
set_option maxRecDepth 100000 in
set_option maxHeartbeats 1000000 in
theorem clo2r (A : Option Addr) (n c : Nat) (w : World) (X Y : Nat → Int) (h : Shs w A n X Y) (hn : n ≤ 100000) (hA : A = none → c = 0) :
    Calls Try.prog 45 #[.slice A n c] w (ClP 53 2 (sh2 X Y n) n w) := by
  cases A with
  | none =>
    have h0 : n = 0 := by
      rcases Nat.eq_zero_or_pos n with q | q
      · exact q
      · obtain ⟨b, o, e, _⟩ := h q
        cases e
    subst h0
    obtain rfl := hA rfl
    have heq := Lib.run_eql_slice_nil (P := Try.prog) w 32 53 none 0 0 0 0 Try.underlying32
    go_enter Try.func45, Try.ntmps45
    go_wp2
    go_ret
    exact ⟨_, rfl, World.ownsRow_nil _ _ _ _, Below.refl _ _⟩
  | some ad =>
    obtain ⟨i0, hi0, hz0, hz1, hz2⟩ := info_parts infoSh
    have Hi := Lib.hid hi0
    have Hz := Lib.hid hz0
    have heq := Lib.run_eql_slice_nil (P := Try.prog) w 32 53 (some ad) n c 0 0 Try.underlying32
    have hb0 : Below w.heap.size w (w.alloc (.cells #[] 53)) := (Below.refl _ _).alloc (Nat.le_refl _) _
    have hr := h.below hb0
    have hnews : ∀ q u, (sh2 X Y n)[q]? = some u → (w.alloc (.cells #[] 53)).cell? (ad.add q) = some u := by
      intro q u hu
      have hq := (List.getElem?_eq_some_iff.1 hu).1
      rw [sh2_len X Y n] at hq
      have hn0 : 0 < n := by omega
      obtain ⟨b, o, e, hc⟩ := hr hn0
      have hA' : ad = ⟨b, o, none⟩ := by simpa using e
      subst hA'
      exact sh2_news hc q u hu
    have hown : (w.alloc (.cells #[] 53)).ownsRow w.heap.size 53 2 (.slice (some ⟨w.heap.size, 0, none⟩) 0 0) 0 [] := World.ownsRow_lit w #[] 0 (Nat.le_refl _) (by unfold maxLen; omega) (by simp)
    have hl := sh2_len X Y n
    have hone := sh2_one X Y n
    have hc3 : 0 + n ≤ maxLen := by unfold maxLen; omega
    have hc4 : (0 + n) * 16 ≤ 140737488355328 := by omega
    have hc5 := hb0.size
    clear hi0 hz0 h hr
    go_enter Try.func45, Try.ntmps45
    go_wp2_with (at_builtin; refine wpList_append_own _ rfl _ _ 32 rfl w.heap.size 53 i0 (.agg #[.int .i64 0, .int .i64 0]) 2 16 Try.underlying32 Hi.out Hz.out hz1 hz2 rfl (by decide) _ _ _ rfl hown ad n c _ rfl hl hnews hone hc3 hc4 hc5 ?_; intro v' w3 hown2 hg2 _)
    go_ret
    refine ⟨_, rfl, ?_, hb0.grown hg2 hc5 (fun k hk => (hown.lt k hk).1)⟩
    simpa using hown2
set_option maxRecDepth 100000 in
set_option maxHeartbeats 1000000 in
theorem clo6 (A : Option Addr) (n c : Nat) (w : World) (f : Nat → Tkn) (h : Tks w A n f) (hn : n ≤ 100000) (hA : A = none → c = 0) :
    Calls Try.prog 22 #[.slice A n c] w (ClP 58 6 (tkc f n) n w) := by
  cases A with
  | none =>
    have h0 : n = 0 := by
      rcases Nat.eq_zero_or_pos n with q | q
      · exact q
      · obtain ⟨b, o, e, _⟩ := h q
        cases e
    subst h0
    obtain rfl := hA rfl
    have heq := Lib.run_eql_slice_nil (P := Try.prog) w 35 58 none 0 0 0 0 Try.underlying35
    go_enter Try.func22, Try.ntmps22
    go_wp2
    go_ret
    exact ⟨_, rfl, World.ownsRow_nil _ _ _ _, Below.refl _ _⟩
  | some ad =>
    obtain ⟨i0, hi0, hz0, hz1, hz2⟩ := info_parts infoTkn
    have Hi := Lib.hid hi0
    have Hz := Lib.hid hz0
    have heq := Lib.run_eql_slice_nil (P := Try.prog) w 35 58 (some ad) n c 0 0 Try.underlying35
    have hb0 : Below w.heap.size w (w.alloc (.cells #[] 58)) := (Below.refl _ _).alloc (Nat.le_refl _) _
    have hr := h.below hb0
    have hnews : ∀ q u, (tkc f n)[q]? = some u → (w.alloc (.cells #[] 58)).cell? (ad.add q) = some u := by
      intro q u hu
      have hq := (List.getElem?_eq_some_iff.1 hu).1
      rw [tkc_len f n] at hq
      have hn0 : 0 < n := by omega
      obtain ⟨b, o, e, hc⟩ := hr hn0
      have hA' : ad = ⟨b, o, none⟩ := by simpa using e
      subst hA'
      exact tkc_news hc q u hu
    have hown : (w.alloc (.cells #[] 58)).ownsRow w.heap.size 58 6 (.slice (some ⟨w.heap.size, 0, none⟩) 0 0) 0 [] := World.ownsRow_lit w #[] 0 (Nat.le_refl _) (by unfold maxLen; omega) (by simp)
    have hl := tkc_len f n
    have hone := tkc_one f n
    have hc3 : 0 + n ≤ maxLen := by unfold maxLen; omega
    have hc4 : (0 + n) * 48 ≤ 140737488355328 := by omega
    have hc5 := hb0.size
    clear hi0 hz0 h hr
    go_enter Try.func22, Try.ntmps22
    go_wp2_with (at_builtin; refine wpList_append_own _ rfl _ _ 35 rfl w.heap.size 58 i0 (.agg #[.int .i64 0, .int .i64 0, .int .i64 0, .int .i64 0, .int .i64 0, .int .i64 0]) 6 48 Try.underlying35 Hi.out Hz.out hz1 hz2 rfl (by decide) _ _ _ rfl hown ad n c _ rfl hl hnews hone hc3 hc4 hc5 ?_; intro v' w3 hown2 hg2 _)
    go_ret
    refine ⟨_, rfl, ?_, hb0.grown hg2 hc5 (fun k hk => (hown.lt k hk).1)⟩
    simpa using hown2
/-- a row of the call's own, as a list that is new -/
theorem own_new {w w' : World} {el : TypeId} {k n : Nat} {A : Option Addr} {c : Nat} {xs : List Value} (h : w'.ownsRow w.heap.size el k (.slice A n c) n xs) : (∀ q, atB A q → w.heap.size ≤ q ∧ q < w'.heap.size) ∧ (A = none → c = 0) := by
  obtain ⟨A', c', e, hA, _⟩ := own_len h
  obtain ⟨rfl, _, rfl⟩ := Value.slice.inj e
  refine ⟨fun q hq => ?_, fun h0 => ?_⟩
  · cases A with
    | none => cases hq
    | some a =>
      obtain ⟨g, rfl, h1, h2⟩ := hA a rfl
      obtain rfl : g = q := by simpa [atB] using hq
      exact ⟨h1, h2⟩
  · subst h0
    rcases h.2 with ⟨hv, _⟩ | ⟨g, cap, cur, hv, _⟩
    · exact (Value.slice.inj hv).2.2
    · cases (Value.slice.inj hv).1
/-- a payslip with other lists -/
def Slp.mv (s : Slp) (A : Option Addr) (c : Nat) (T : Option Addr) (d : Nat) : Slp := ⟨s.k, s.ca, s.tb, s.so, s.tx, s.sf, A, s.n, c, s.net, T, s.m, d, s.pay, s.X, s.Y, s.f⟩
/-- what year.own leaves: the same payslip, with lists of its own -/
def OwP (s : Slp) (w : World) (e : Ending) (w' : World) : Prop := ∃ A c T d, e = .returned (.agg #[.int .i64 s.k, .int .i64 s.ca, .int .i64 s.tb, .int .i64 s.so, .int .i64 s.tx, .int .i64 s.sf, .slice A s.n c, .int .i64 s.net, .slice T s.m d, .int .i64 s.pay]) ∧ w'.ownsRow w.heap.size 53 2 (.slice A s.n c) s.n (sh2 s.X s.Y s.n) ∧ w'.ownsRow w.heap.size 58 6 (.slice T s.m d) s.m (tkc s.f s.m) ∧ (∀ q, atB A q → ¬ atB T q) ∧ Below w.heap.size w w'
set_option maxRecDepth 100000 in
set_option maxHeartbeats 4000000 in
theorem yown_any (s : Slp) (w : World) (h : SlM w s) (hn : s.n ≤ 100000) (hm : s.m ≤ 100000) :
    Calls Try.prog 42 #[.agg #[.int .i64 s.k, .int .i64 s.ca, .int .i64 s.tb, .int .i64 s.so, .int .i64 s.tx, .int .i64 s.sf, .slice s.A s.n s.c, .int .i64 s.net, .slice s.T s.m s.d, .int .i64 s.pay]] w (OwP s w) := by
  obtain ⟨hS, hT, hsa, hta⟩ := h
  unfold OwP
  generalize s.k = xk at *
  generalize s.ca = xca at *
  generalize s.tb = xtb at *
  generalize s.so = xso at *
  generalize s.tx = xtx at *
  generalize s.sf = xsf at *
  generalize s.A = xA at *
  generalize s.n = xn at *
  generalize s.c = xc at *
  generalize s.net = xnet at *
  generalize s.T = xT at *
  generalize s.m = xm at *
  generalize s.d = xd at *
  generalize s.pay = xpay at *
  generalize s.X = X at *
  generalize s.Y = Y at *
  generalize s.f = f at *
  have K0 := (bx_new w [.int .i64 xk, .int .i64 xca, .int .i64 xtb, .int .i64 xso, .int .i64 xtx, .int .i64 xsf, .slice xA xn xc, .int .i64 xnet, .slice xT xm xd, .int .i64 xpay] 37).alloc (.cells #[.int .i64 0, .int .i64 0, .int .i64 0, .int .i64 0, .int .i64 0, .int .i64 0, .slice none 0 0, .int .i64 0, .slice none 0 0, .int .i64 0] 37)
  have K1 := bx_at (w.alloc (.cells #[.int .i64 xk, .int .i64 xca, .int .i64 xtb, .int .i64 xso, .int .i64 xtx, .int .i64 xsf, .slice xA xn xc, .int .i64 xnet, .slice xT xm xd, .int .i64 xpay] 37)) [.int .i64 0, .int .i64 0, .int .i64 0, .int .i64 0, .int .i64 0, .int .i64 0, .slice none 0 0, .int .i64 0, .slice none 0 0, .int .i64 0] 37 (n := w.heap.size + 1) (by simp)
  have B := (below_new w (.cells #[.int .i64 xk, .int .i64 xca, .int .i64 xtb, .int .i64 xso, .int .i64 xtx, .int .i64 xsf, .slice xA xn xc, .int .i64 xnet, .slice xT xm xd, .int .i64 xpay] 37)).alloc (by simp) (.cells #[.int .i64 0, .int .i64 0, .int .i64 0, .int .i64 0, .int .i64 0, .int .i64 0, .slice none 0 0, .int .i64 0, .slice none 0 0, .int .i64 0] 37)
  have hp : w.heap.size ≤ w.heap.size + 1 := by omega
  go_enter Try.func42, Try.ntmps42
  go_wp2_with (fail)
  generalize ((w.alloc (.cells #[.int .i64 xk, .int .i64 xca, .int .i64 xtb, .int .i64 xso, .int .i64 xtx, .int .i64 xsf, .slice xA xn xc, .int .i64 xnet, .slice xT xm xd, .int .i64 xpay] 37)).alloc (.cells #[.int .i64 0, .int .i64 0, .int .i64 0, .int .i64 0, .int .i64 0, .int .i64 0, .slice none 0 0, .int .i64 0, .slice none 0 0, .int .i64 0] 37)) = w2 at *
  have c2 := fun V (hV : Below w2.heap.size w2 V) => clo2 xA xn xc V X Y ((hS.below B).below hV) hn hsa
  have c6 := fun V (hV : Below w2.heap.size w2 V) => clo6 xT xm xd V f ((hT.below B).below hV) hm hta
  have hdd : Below w2.heap.size w2 w2.drew := (Below.refl _ _).drew
  have Kd := K0.below hdd
  have a6 := K0.cell (i := 6) rfl
  have a8 := K0.cell (i := 8) rfl
  have d6 := Kd.cell (i := 6) rfl
  have d8 := Kd.cell (i := 8) rfl
  go_region_with (first
    | (go_at_call 21; refine (c2 _ hdd).mono ?_; rintro e w7 ⟨v7, rfl, ho7, hb7⟩; obtain ⟨A7, c7, rfl, _, _⟩ := own_len ho7; have R7 := Kd.below hb7; have hw7 := below_step hdd hb7 hdd.size; have m6 := R7.cell (i := 6) rfl; have m8 := R7.cell (i := 8) rfl)
    | (go_at_call 22; refine (c6 _ hw7).mono ?_; rintro e w8 ⟨v8, rfl, ho8, hb8⟩; obtain ⟨T8, d8', rfl, _, _⟩ := own_len ho8; have R8 := R7.below hb8; have hw8 := below_step hw7 hb8 hw7.size; have n6 := R8.cell (i := 6) rfl; have n8 := R8.cell (i := 8) rfl; have f6 := R8.fr 6; have f8 := R8.fr 8; have R9 := R8.set 6 (.slice A7 xn c7); have p8 := R9.cell (i := 8) rfl; have g8 := R9.fr 8))
  all_goals
    have R10 := (R8.set 6 (.slice A7 xn c7)).set 8 (.slice T8 xm d8')
    have Z1 := ((K1.below hw8).other (q := w.heap.size) (by omega) 6 (.slice A7 xn c7)).other (q := w.heap.size) (by omega) 8 (.slice T8 xm d8')
    have k0l := K0.lt
    have k1l := K1.lt
    have k7l := R7.lt
    have k7m : w.heap.size + 1 < w7.heap.size := Nat.lt_of_lt_of_le k1l hw7.size
    have hNew7 := (own_new ho7).1
    have hNew8 := (own_new ho8).1
    have O7 := own_mono (own_other (own_other (own_below ho7 hb8) (show w.heap.size < w2.drew.heap.size from k0l) 6 (.slice A7 xn c7)) (show w.heap.size < w2.drew.heap.size from k0l) 8 (.slice T8 xm d8')) (show w.heap.size + 1 + 1 ≤ w2.drew.heap.size from k1l)
    have O8 := own_mono (own_other (own_other ho8 k7l 6 (.slice A7 xn c7)) k7l 8 (.slice T8 xm d8')) (show w.heap.size + 1 + 1 ≤ w7.heap.size from k7m)
    have hne : Hid (∀ q, atB A7 q → ¬ atB T8 q) := Lib.hid (fun q h1 h2 => by have := hNew7 q h1; have := hNew8 q h2; omega)
    have B9 := ((below_step B hw8 B.size).setCell (p := ⟨w.heap.size, 6, none⟩) (Nat.le_refl _) (.slice A7 xn c7)).setCell (p := ⟨w.heap.size, 8, none⟩) (Nat.le_refl _) (.slice T8 xm d8')
    clear ho7 ho8 hNew7 hNew8 R7 R8 hw7 hw8 hb7 hb8 n6 n8 f6 f8 R9 p8 g8 m6 m8 Kd a6 a8 d6 d8 hdd c2 c6 K0 K1 B k0l k1l k7l k7m hS hT
    generalize (w8.setCell ⟨w.heap.size, 6, none⟩ (.slice A7 xn c7)).setCell ⟨w.heap.size, 8, none⟩ (.slice T8 xm d8') = w9 at *
    have r_0 := R10.cell (i := 0) rfl
    have s_0 := Z1.fr 0
    have y_0 := Z1.cell (i := 0) rfl
    have r_1 := R10.cell (i := 1) rfl
    have s_1 := Z1.fr 1
    have y_1 := Z1.cell (i := 1) rfl
    have r_2 := R10.cell (i := 2) rfl
    have s_2 := Z1.fr 2
    have y_2 := Z1.cell (i := 2) rfl
    have r_3 := R10.cell (i := 3) rfl
    have s_3 := Z1.fr 3
    have y_3 := Z1.cell (i := 3) rfl
    have r_4 := R10.cell (i := 4) rfl
    have s_4 := Z1.fr 4
    have y_4 := Z1.cell (i := 4) rfl
    have r_5 := R10.cell (i := 5) rfl
    have s_5 := Z1.fr 5
    have y_5 := Z1.cell (i := 5) rfl
    have r_6 := R10.cell (i := 6) rfl
    have s_6 := Z1.fr 6
    have y_6 := Z1.cell (i := 6) rfl
    have r_7 := R10.cell (i := 7) rfl
    have s_7 := Z1.fr 7
    have y_7 := Z1.cell (i := 7) rfl
    have r_8 := R10.cell (i := 8) rfl
    have s_8 := Z1.fr 8
    have y_8 := Z1.cell (i := 8) rfl
    have r_9 := R10.cell (i := 9) rfl
    have s_9 := Z1.fr 9
    have y_9 := Z1.cell (i := 9) rfl
    have Z2 := ((((((((((Z1.set 0 (.int .i64 xk)).set 1 (.int .i64 xca)).set 2 (.int .i64 xtb)).set 3 (.int .i64 xso)).set 4 (.int .i64 xtx)).set 5 (.int .i64 xsf)).set 6 (.slice A7 xn c7)).set 7 (.int .i64 xnet)).set 8 (.slice T8 xm d8')).set 9 (.int .i64 xpay))
    have z_0 := Z2.cell (i := 0) rfl
    have z_1 := Z2.cell (i := 1) rfl
    have z_2 := Z2.cell (i := 2) rfl
    have z_3 := Z2.cell (i := 3) rfl
    have z_4 := Z2.cell (i := 4) rfl
    have z_5 := Z2.cell (i := 5) rfl
    have z_6 := Z2.cell (i := 6) rfl
    have z_7 := Z2.cell (i := 7) rfl
    have z_8 := Z2.cell (i := 8) rfl
    have z_9 := Z2.cell (i := 9) rfl
    have P7 := Lib.hid (own_mono (own_other (own_other (own_other (own_other (own_other (own_other (own_other (own_other (own_other (own_other O7 (show w.heap.size + 1 < w.heap.size + 1 + 1 by omega) 0 (.int .i64 xk)) (show w.heap.size + 1 < w.heap.size + 1 + 1 by omega) 1 (.int .i64 xca)) (show w.heap.size + 1 < w.heap.size + 1 + 1 by omega) 2 (.int .i64 xtb)) (show w.heap.size + 1 < w.heap.size + 1 + 1 by omega) 3 (.int .i64 xso)) (show w.heap.size + 1 < w.heap.size + 1 + 1 by omega) 4 (.int .i64 xtx)) (show w.heap.size + 1 < w.heap.size + 1 + 1 by omega) 5 (.int .i64 xsf)) (show w.heap.size + 1 < w.heap.size + 1 + 1 by omega) 6 (.slice A7 xn c7)) (show w.heap.size + 1 < w.heap.size + 1 + 1 by omega) 7 (.int .i64 xnet)) (show w.heap.size + 1 < w.heap.size + 1 + 1 by omega) 8 (.slice T8 xm d8')) (show w.heap.size + 1 < w.heap.size + 1 + 1 by omega) 9 (.int .i64 xpay)) (show w.heap.size ≤ w.heap.size + 1 + 1 by omega))
    have P8 := Lib.hid (own_mono (own_other (own_other (own_other (own_other (own_other (own_other (own_other (own_other (own_other (own_other O8 (show w.heap.size + 1 < w.heap.size + 1 + 1 by omega) 0 (.int .i64 xk)) (show w.heap.size + 1 < w.heap.size + 1 + 1 by omega) 1 (.int .i64 xca)) (show w.heap.size + 1 < w.heap.size + 1 + 1 by omega) 2 (.int .i64 xtb)) (show w.heap.size + 1 < w.heap.size + 1 + 1 by omega) 3 (.int .i64 xso)) (show w.heap.size + 1 < w.heap.size + 1 + 1 by omega) 4 (.int .i64 xtx)) (show w.heap.size + 1 < w.heap.size + 1 + 1 by omega) 5 (.int .i64 xsf)) (show w.heap.size + 1 < w.heap.size + 1 + 1 by omega) 6 (.slice A7 xn c7)) (show w.heap.size + 1 < w.heap.size + 1 + 1 by omega) 7 (.int .i64 xnet)) (show w.heap.size + 1 < w.heap.size + 1 + 1 by omega) 8 (.slice T8 xm d8')) (show w.heap.size + 1 < w.heap.size + 1 + 1 by omega) 9 (.int .i64 xpay)) (show w.heap.size ≤ w.heap.size + 1 + 1 by omega))
    have P9 := ((((((((((B9.setCell (p := ⟨w.heap.size + 1, 0, none⟩) hp (.int .i64 xk)).setCell (p := ⟨w.heap.size + 1, 1, none⟩) hp (.int .i64 xca)).setCell (p := ⟨w.heap.size + 1, 2, none⟩) hp (.int .i64 xtb)).setCell (p := ⟨w.heap.size + 1, 3, none⟩) hp (.int .i64 xso)).setCell (p := ⟨w.heap.size + 1, 4, none⟩) hp (.int .i64 xtx)).setCell (p := ⟨w.heap.size + 1, 5, none⟩) hp (.int .i64 xsf)).setCell (p := ⟨w.heap.size + 1, 6, none⟩) hp (.slice A7 xn c7)).setCell (p := ⟨w.heap.size + 1, 7, none⟩) hp (.int .i64 xnet)).setCell (p := ⟨w.heap.size + 1, 8, none⟩) hp (.slice T8 xm d8')).setCell (p := ⟨w.heap.size + 1, 9, none⟩) hp (.int .i64 xpay))
    clear O7 O8 B9 R10 Z1 Z2
    go_wp2
    exact bodyPost_ret (v := .agg #[.int .i64 xk, .int .i64 xca, .int .i64 xtb, .int .i64 xso, .int .i64 xtx, .int .i64 xsf, .slice A7 xn c7, .int .i64 xnet, .slice T8 xm d8', .int .i64 xpay]) (by simp [results, Try.results42, go_sem, z_0, z_1, z_2, z_3, z_4, z_5, z_6, z_7, z_8, z_9]) rfl ⟨A7, c7, T8, d8', rfl, P7.out, P8.out, hne.out, P9⟩
end Go.Proofs.Ytfnjhalpedccaaa
