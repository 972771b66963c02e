/- What year.with answers, in one word each: it may be, or not. -/
import Derived.Test.YtfnjhalpedccaaaYrE
import Derived.Test.YtfnjhalpedccaaaYrF
import Derived.Test.YtfnjhalpedccaaaYrG
import Derived.Test.YtfnjhalpedccaaaYrH
namespace Go.Proofs.Ytfnjhalpedccaaa
open Go.RowKit Go.Sort
set_option linter.unusedVariables false
set_option linter.unusedSimpArgs false

theorem ok_sh {X Y : Nat → Int} : ∀ {n : Nat}, okT X Y n = true → ∀ i, i < n → (amtB (X i) && amtB (Y i)) = true
  | 0, _, i, hi => absurd hi (Nat.not_lt_zero i)
  | n + 1, h, i, hi => by
    simp only [okT, Bool.and_eq_true] at h
    rcases Nat.lt_or_ge i n with hl | hl
    · exact ok_sh h.1 i hl
    · obtain rfl : i = n := by omega
      rw [h.2.1.1, h.2.2.1]; rfl
theorem shB_all {t : Tot} {n : Nat} (h : t.shB n = true) : ∀ i, i < n → (amtB (t.X i) && amtB (t.Y i)) = true := fun i hi => by
  have := shB_at h hi
  rw [this.1, this.2]; rfl
theorem pst_at {X Y U V : Nat → Int} {n i : Nat} (h : pstB X Y U V n = true) (hi : i < n) : (amtB (X i + U i) && amtB (Y i + V i)) = true := by
  unfold pstB at h
  rw [List.all_eq_true] at h
  exact h i (List.mem_range.2 hi)
theorem add_shB (t : Tot) (s : Slp) (n : Nat) : (t.add s).shB n = pstB t.X t.Y s.X s.Y n := rfl
theorem and3 {a b c : Bool} (ha : a = true) (hb : b = true) (hc : c = true) : (a && b && c) = true := by rw [ha, hb, hc]; rfl
theorem and3n {a b c : Bool} (hc : c = false) : (a && b && c) = false := by rw [hc]; simp
theorem with_bad (t : Tot) (A0 : Option Addr) (c0 : Nat) (s : Slp) (n : Nat) (w : World) (h0 : Shs w A0 n t.X t.Y) (hM : SlM w s) (hs : s.OK n) (hn : n ≤ 64) (hm : s.m ≤ 100000) (ht : t.rB n = true) (hr : (t.add s).rB n = false) :
    Calls Try.prog 41 #[.agg #[.int .i64 t.ca, .int .i64 t.tb, .int .i64 t.so, .int .i64 t.tx, .int .i64 t.sf, .slice A0 n c0, .int .i64 t.net, .int .i64 t.tk, .int .i64 t.pay], .agg #[.int .i64 s.k, .int .i64 s.ca, .int .i64 s.tb, .int .i64 s.so, .int .i64 s.tx, .int .i64 s.sf, .slice s.A s.n s.c, .int .i64 s.net, .slice s.T s.m s.d, .int .i64 s.pay]] w fun e w' => e = .returned (.tuple #[.agg #[.int .i64 0, .int .i64 0, .int .i64 0, .int .i64 0, .int .i64 0, .slice none 0 0, .int .i64 0, .int .i64 0, .int .i64 0], .int .i64 10]) ∧ Below w.heap.size w w' := by
  obtain ⟨hS, hT, hsa, hta⟩ := hM
  obtain ⟨_, hsn, hok, ham, ho, _, _⟩ := hs
  rw [hsn] at hS hok ⊢
  have r1 := ok_sh hok
  simp only [Tot.rB, Bool.and_eq_true] at ht
  have r0 := shB_all ht.2
  have ta := ht.1
  unfold Tot.amB at ta
  unfold Slp.amB at ham
  simp only [Bool.and_eq_true] at ta ham
  obtain ⟨⟨⟨a1, a2⟩, a3⟩, ⟨⟨a4, a5⟩, a6⟩, a7⟩ := ta
  obtain ⟨⟨⟨b1, b2⟩, b3⟩, ⟨⟨b4, b5⟩, b6⟩, b7⟩ := ham
  have hsk := okS_amt ho
  cases hB : (eB t.ca s.ca && eB t.tb s.tb && eB t.so s.so)
  · exact with_base _ _ _ _ _ _ _ n _ _ _ _ _ _ s.X s.Y s.f _ _ _ _ _ _ _ _ _ _ t.X t.Y w h0 hS hT hn (by omega) ho _ rfl 0 0 0 hB rfl rfl rfl
  cases hP : pstB t.X t.Y s.X s.Y n
  · exact with_post _ _ _ _ _ _ _ n _ _ _ _ _ _ s.X s.Y s.f _ _ _ _ _ _ _ _ _ _ t.X t.Y w h0 hS hT hn (by omega) ho _ rfl _ _ _ hB rfl rfl rfl r0 r1 hP
  have hPP : ∀ i, i < n → ((amtB (t.X i) && amtB (t.Y i)) && (amtB (s.X i) && amtB (s.Y i)) && (amtB (t.X i + s.X i) && amtB (t.Y i + s.Y i))) = true := fun i hi => and3 (r0 i hi) (r1 i hi) (pst_at hP hi)
  cases h1 : amtB (t.tx + s.tx)
  · exact with_0 _ _ _ _ _ _ _ n _ _ _ _ _ _ s.X s.Y s.f _ _ _ _ _ _ _ _ _ _ t.X t.Y w h0 hS hT hn (by omega) ho _ rfl _ _ _ hB rfl rfl rfl hPP (and3n h1)
  cases h2 : amtB (t.net + s.net)
  · exact with_1 _ _ _ _ _ _ _ n _ _ _ _ _ _ s.X s.Y s.f _ _ _ _ _ _ _ _ _ _ t.X t.Y w h0 hS hT hn (by omega) ho _ rfl _ _ _ hB rfl rfl rfl hPP (and3 a4 b4 h1) (and3n h2)
  cases h3 : amtB (t.tk + sumT s.f s.m)
  · exact with_2 _ _ _ _ _ _ _ n _ _ _ _ _ _ s.X s.Y s.f _ _ _ _ _ _ _ _ _ _ t.X t.Y w h0 hS hT hn (by omega) ho _ rfl _ _ _ hB rfl rfl rfl hPP (and3 a4 b4 h1) (and3 a5 b6 h2) (and3n h3)
  cases h4 : amtB (t.pay + s.pay)
  · exact with_3 _ _ _ _ _ _ _ n _ _ _ _ _ _ s.X s.Y s.f _ _ _ _ _ _ _ _ _ _ t.X t.Y w h0 hS hT hn (by omega) ho _ rfl _ _ _ hB rfl rfl rfl hPP (and3 a4 b4 h1) (and3 a5 b6 h2) (and3 a6 hsk h3) (and3n h4)
  exfalso
  unfold eB at hB
  simp only [Bool.and_eq_true] at hB
  obtain ⟨⟨⟨_, e1⟩, ⟨_, e2⟩⟩, ⟨_, e3⟩⟩ := hB
  have : (t.add s).rB n = true := by
    unfold Tot.rB
    rw [add_shB, hP]
    show ((amtB (t.ca + s.ca) && amtB (t.tb + s.tb) && amtB (t.so + s.so)) && (amtB (t.tx + s.tx) && amtB (t.net + s.net) && amtB (t.tk + sumT s.f s.m) && amtB (t.pay + s.pay)) && true) = true
    rw [e1, e2, e3, h1, h2, h3, h4]; rfl
  rw [this] at hr
  cases hr
theorem with_ok (t : Tot) (A0 : Option Addr) (c0 : Nat) (s : Slp) (n : Nat) (w : World) (h0 : Shs w A0 n t.X t.Y) (hM : SlM w s) (hs : s.OK n) (hn : n ≤ 64) (hm : s.m ≤ 100000) (ht : t.rB n = true) (hr : (t.add s).rB n = true) :
    Calls Try.prog 41 #[.agg #[.int .i64 t.ca, .int .i64 t.tb, .int .i64 t.so, .int .i64 t.tx, .int .i64 t.sf, .slice A0 n c0, .int .i64 t.net, .int .i64 t.tk, .int .i64 t.pay], .agg #[.int .i64 s.k, .int .i64 s.ca, .int .i64 s.tb, .int .i64 s.so, .int .i64 s.tx, .int .i64 s.sf, .slice s.A s.n s.c, .int .i64 s.net, .slice s.T s.m s.d, .int .i64 s.pay]] w fun e w' => ∃ bq, e = .returned (.tuple #[.agg #[.int .i64 (t.add s).ca, .int .i64 (t.add s).tb, .int .i64 (t.add s).so, .int .i64 (t.add s).tx, .int .i64 (t.add s).sf, .slice (some ⟨bq, 0, none⟩) n n, .int .i64 (t.add s).net, .int .i64 (t.add s).tk, .int .i64 (t.add s).pay], .int .i64 0]) ∧ w.heap.size ≤ bq ∧ ShB w' bq n (t.add s).X (t.add s).Y ∧ Below w.heap.size w w' := by
  obtain ⟨hS, hT, hsa, hta⟩ := hM
  obtain ⟨_, hsn, hok, ham, ho, _, _⟩ := hs
  rw [hsn] at hS hok ⊢
  have r1 := ok_sh hok
  simp only [Tot.rB, Bool.and_eq_true] at ht
  have r0 := shB_all ht.2
  have ta := ht.1
  unfold Tot.amB at ta
  unfold Slp.amB at ham
  simp only [Bool.and_eq_true] at ta ham
  obtain ⟨⟨⟨a1, a2⟩, a3⟩, ⟨⟨a4, a5⟩, a6⟩, a7⟩ := ta
  obtain ⟨⟨⟨b1, b2⟩, b3⟩, ⟨⟨b4, b5⟩, b6⟩, b7⟩ := ham
  have hsk := okS_amt ho
  simp only [Tot.rB, Bool.and_eq_true] at hr
  obtain ⟨hr1, hP⟩ := hr
  rw [add_shB] at hP
  replace hr1 : ((amtB (t.ca + s.ca) && amtB (t.tb + s.tb) && amtB (t.so + s.so)) && (amtB (t.tx + s.tx) && amtB (t.net + s.net) && amtB (t.tk + sumT s.f s.m) && amtB (t.pay + s.pay))) = true := hr1
  simp only [Bool.and_eq_true] at hr1
  obtain ⟨⟨⟨e1, e2⟩, e3⟩, ⟨⟨e4, e5⟩, e6⟩, e7⟩ := hr1
  have hPP : ∀ i, i < n → ((amtB (t.X i) && amtB (t.Y i)) && (amtB (s.X i) && amtB (s.Y i)) && (amtB (t.X i + s.X i) && amtB (t.Y i + s.Y i))) = true := fun i hi => and3 (r0 i hi) (r1 i hi) (pst_at hP hi)
  have hB : (eB t.ca s.ca && eB t.tb s.tb && eB t.so s.so) = true := and3 (and3 a1 b1 e1) (and3 a2 b2 e2) (and3 a3 b3 e3)
  exact with_4 _ _ _ _ _ _ _ n _ _ _ _ _ _ s.X s.Y s.f _ _ _ _ _ _ _ _ _ _ t.X t.Y w h0 hS hT hn (by omega) ho _ rfl (t.ca + s.ca) (t.tb + s.tb) (t.so + s.so) hB rfl rfl rfl hPP (and3 a4 b4 e4) (and3 a5 b6 e5) (and3 a6 hsk e6) (and3 a7 b7 e7)
end Go.Proofs.Ytfnjhalpedccaaa
