/- A year that hangs together: what Post leaves of one, whatever it is given. -/
import Derived.Test.YtfnjhalpedccaaaYrR
import Derived.Test.YtfnjhalpedccaaaYrP
import Derived.Test.YtfnjhalpedccaaaYrK
namespace Go.Proofs.Ytfnjhalpedccaaa
open Go.RowKit Go.Sort
set_option linter.unusedVariables false
set_option linter.unusedSimpArgs false

theorem totG_congr {g g' : Nat → Slp} : ∀ n, (∀ i, i < n → g i = g' i) → totG g n = totG g' n
  | 0, _ => rfl
  | n + 1, h => by
    show (totG g n).add (g n) = (totG g' n).add (g' n)
    rw [totG_congr n (fun i hi => h i (by omega)), h n (by omega)]
theorem add_mv (t : Tot) (s : Slp) (A : Option Addr) (c : Nat) (T : Option Addr) (d : Nat) : t.add (s.mv A c T d) = t.add s := rfl
theorem ok_mv {s : Slp} {n : Nat} (h : s.OK n) (A : Option Addr) (c : Nat) (T : Option Addr) (d : Nat) : (s.mv A c T d).OK n := ⟨h.kb, h.n, h.t, h.am, h.o, h.net, h.pay⟩
theorem totG_mv {g f : Nat → Slp} : ∀ n, (∀ i, i < n → ∃ A c T d, f i = (g i).mv A c T d) → totG f n = totG g n
  | 0, _ => rfl
  | n + 1, h => by
    show (totG f n).add (f n) = (totG g n).add (g n)
    obtain ⟨A, c, T, d, e⟩ := h n (by omega)
    rw [totG_mv n (fun i hi => h i (by omega)), e, add_mv]
/-- a year that hangs together -/
structure YI (W : World) (p n cnt : Nat) (g : Nat → Slp) (t : Tot) (F : Nat → Prop) (B : Nat) : Prop where
  y : YO W p n cnt g t F
  ok : ∀ i, i < cnt → (g i).OK n ∧ (g i).m ≤ 100000
  tg : totG g cnt = t
  rb : ∀ i, i ≤ cnt → (totG g i).rB n = true
  cb : cnt ≤ 53
  nb : n ≤ 64
  lo : ∀ q, F q → B ≤ q
theorem YI.t {W : World} {p n cnt : Nat} {g : Nat → Slp} {t : Tot} {F : Nat → Prop} {B : Nat} (h : YI W p n cnt g t F B) : t.rB n = true := by
  have := h.rb cnt (Nat.le_refl _)
  rwa [h.tg] at this
theorem YI.below {W W' : World} {p n cnt : Nat} {g : Nat → Slp} {t : Tot} {F : Nat → Prop} {B : Nat} (h : YI W p n cnt g t F B) (hb : Below W.heap.size W W') : YI W' p n cnt g t F B := ⟨h.y.below hb, h.ok, h.tg, h.rb, h.cb, h.nb, h.lo⟩
theorem YI.chg {W W' : World} {p n cnt : Nat} {g : Nat → Slp} {t : Tot} {F G : Nat → Prop} {B : Nat} (h : YI W p n cnt g t F B) (hc : Chg G W W') (hd : ∀ q, F q → ¬ G q) : YI W' p n cnt g t F B := ⟨h.y.chg hc hd, h.ok, h.tg, h.rb, h.cb, h.nb, h.lo⟩
theorem YI.szs {W : World} {p n cnt : Nat} {g : Nat → Slp} {t : Tot} {F : Nat → Prop} {B : Nat} (h : YI W p n cnt g t F B) : ∀ i, i < cnt → (g i).n ≤ 100000 ∧ (g i).m ≤ 100000 := fun i hi => ⟨by have := (h.ok i hi).1.n; have := h.nb; omega, (h.ok i hi).2⟩
theorem yi_new {w w' : World} {p n : Nat} {g : Nat → Slp} {B : Nat} (hB : B ≤ w.heap.size) (hn : n ≤ 64) (h : YO w' p n 0 g Tot.z (newF w w')) : YI w' p n 0 g Tot.z (newF w w') B where
  y := h
  ok := fun i hi => absurd hi (Nat.not_lt_zero i)
  tg := rfl
  rb := fun i hi => by
    obtain rfl : i = 0 := by omega
    exact z_rB n
  cb := by omega
  nb := hn
  lo := fun q hq => Nat.le_trans hB hq.1
/-- what Post tells of a payslip -/
def pstV (s : Slp) (n cnt : Nat) (t : Tot) : Int := if s.chk n ≠ 0 then s.chk n else if s.k ≠ (cnt : Int) + 1 then 6 else if (t.add s).rB n = false then 10 else 0
theorem pstV_ok {s : Slp} {n cnt : Nat} {t : Tot} (h : pstV s n cnt t = 0) : s.OK n ∧ s.k = (cnt : Int) + 1 ∧ (t.add s).rB n = true := by
  unfold pstV at h
  by_cases h1 : s.chk n ≠ 0
  · rw [if_pos h1] at h; exact absurd h h1
  rw [if_neg h1] at h
  by_cases h2 : s.k ≠ (cnt : Int) + 1
  · rw [if_pos h2] at h; omega
  rw [if_neg h2] at h
  by_cases h3 : (t.add s).rB n = false
  · rw [if_pos h3] at h; omega
  exact ⟨Slp.ok_of (by simpa using h1), by omega, by simpa using h3⟩
theorem yt_no {W : World} {p n cnt : Nat} {g : Nat → Slp} {t : Tot} {F : Nat → Prop} {B : Nat} (h : YI W p n cnt g t F B) (s : Slp) (hM : SlM W s) (hsn : s.n ≤ 100000) (hsm : s.m ≤ 100000) (v : Int) (hv : pstV s n cnt t = v) (hv0 : v ≠ 0) :
    Calls Try.prog 12 #[.pointer (some ⟨p, 0, none⟩), .agg #[.int .i64 s.k, .int .i64 s.ca, .int .i64 s.tb, .int .i64 s.so, .int .i64 s.tx, .int .i64 s.sf, .slice s.A s.n s.c, .int .i64 s.net, .slice s.T s.m s.d, .int .i64 s.pay]] W fun e w' => e = .returned (.tuple #[.agg #[.int .i64 0, .int .i64 0, .int .i64 0, .int .i64 0, .int .i64 0, .slice none 0 0, .int .i64 0, .int .i64 0, .int .i64 0], .int .i64 v]) ∧ Below W.heap.size W w' := by
  have hc := h.cb
  unfold pstV at hv
  by_cases h1 : s.chk n ≠ 0
  · rw [if_pos h1] at hv
    exact ytry_chk h.y s hM h.nb hsn hsm (by omega) v hv hv0
  rw [if_neg h1] at hv
  have hok : s.OK n := Slp.ok_of (by simpa using h1)
  by_cases h2 : s.k ≠ (cnt : Int) + 1
  · rw [if_pos h2] at hv
    subst hv
    exact ytry_ord h.y s hM h.nb hsn hsm (by omega) hok h2
  rw [if_neg h2] at hv
  by_cases h3 : (t.add s).rB n = false
  · rw [if_pos h3] at hv
    subst hv
    exact ytry_bad h.y s hM h.nb hsn hsm (by omega) hok (by omega) h.t h3
  · rw [if_neg h3] at hv
    exact absurd hv.symm hv0
theorem yp_no {W : World} {p n cnt : Nat} {g : Nat → Slp} {t : Tot} {F : Nat → Prop} {B : Nat} (h : YI W p n cnt g t F B) (s : Slp) (hM : SlM W s) (hsn : s.n ≤ 100000) (hsm : s.m ≤ 100000) (v : Int) (hv : pstV s n cnt t = v) (hv0 : v ≠ 0) :
    Calls Try.prog 14 #[.pointer (some ⟨p, 0, none⟩), .agg #[.int .i64 s.k, .int .i64 s.ca, .int .i64 s.tb, .int .i64 s.so, .int .i64 s.tx, .int .i64 s.sf, .slice s.A s.n s.c, .int .i64 s.net, .slice s.T s.m s.d, .int .i64 s.pay]] W fun e w' => e = .returned (.int .i64 v) ∧ Below W.heap.size W w' :=
  ypost_no s v hv0 hM fun w hb => yt_no (h.below hb) s (hM.below hb) hsn hsm v hv hv0
/-- what Post leaves of a year where it may -/
def YkP (p n cnt : Nat) (g : Nat → Slp) (t : Tot) (s : Slp) (F : Nat → Prop) (B : Nat) (w : World) (e : Ending) (w' : World) : Prop := ∃ g' F', e = .returned (.int .i64 0) ∧ YI w' p n (cnt + 1) g' (t.add s) F' B ∧ (∃ A c T d, g' cnt = s.mv A c T d) ∧ (∀ i, i < cnt → g' i = g i) ∧ (∀ q, F' q → F q ∨ w.heap.size ≤ q) ∧ Chg F w w'
theorem yp_ok {W : World} {p n cnt : Nat} {g : Nat → Slp} {t : Tot} {F : Nat → Prop} {B : Nat} (h : YI W p n cnt g t F B) (hB : B ≤ W.heap.size) (s : Slp) (hM : SlM W s) (hsn : s.n ≤ 100000) (hsm : s.m ≤ 100000) (hv : pstV s n cnt t = 0) :
    Calls Try.prog 14 #[.pointer (some ⟨p, 0, none⟩), .agg #[.int .i64 s.k, .int .i64 s.ca, .int .i64 s.tb, .int .i64 s.so, .int .i64 s.tx, .int .i64 s.sf, .slice s.A s.n s.c, .int .i64 s.net, .slice s.T s.m s.d, .int .i64 s.pay]] W (YkP p n cnt g t s F B W) := by
  obtain ⟨hok, hk, hr⟩ := pstV_ok hv
  have hc := h.cb
  refine (ypost_ok h.y s hM h.nb hsn hsm (by omega) hok hk h.t hr).mono ?_
  rintro e w' ⟨A, c, T, d, rfl, hY, hC⟩
  refine ⟨exG g cnt (s.mv A c T d), addF F W w', rfl, ⟨hY, ?_, ?_, ?_, ?_, h.nb, ?_⟩, ⟨A, c, T, d, exG_at⟩, fun i hi => exG_lt hi, ?_, hC⟩
  · intro i hi
    by_cases hl : i < cnt
    · rw [exG_lt hl]; exact h.ok i hl
    · obtain rfl : i = cnt := by omega
      rw [exG_at]
      exact ⟨ok_mv hok A c T d, hsm⟩
  · show (totG (exG g cnt (s.mv A c T d)) cnt).add (exG g cnt (s.mv A c T d) cnt) = _
    rw [totG_congr cnt (g' := g) (fun i hi => exG_lt hi), exG_at, h.tg, add_mv]
  · intro i hi
    by_cases hl : i ≤ cnt
    · rw [totG_congr i (g' := g) (fun j hj => exG_lt (by omega))]; exact h.rb i hl
    · obtain rfl : i = cnt + 1 := by omega
      show ((totG (exG g cnt (s.mv A c T d)) cnt).add (exG g cnt (s.mv A c T d) cnt)).rB n = true
      rw [totG_congr cnt (g' := g) (fun i hi => exG_lt hi), exG_at, h.tg, add_mv]
      exact hr
  · have := hok.kb
    omega
  · rintro q (hq | hq)
    · exact h.lo q hq
    · omega
  · rintro q (hq | hq)
    · exact .inl hq
    · exact .inr hq.1
theorem tsm_add (X Y : Nat → Int) : ∀ n, tsm (fun i => X i + Y i) n = tsm X n + tsm Y n
  | 0 => rfl
  | n + 1 => by
    show tsm (fun i => X i + Y i) n + (X n + Y n) = (tsm X n + X n) + (tsm Y n + Y n)
    rw [tsm_add X Y n]; omega
/-- in all, the cash is the tax, the contributions, what orders took, and the pay -/
theorem tot_bal {g : Nat → Slp} {n : Nat} : ∀ k, (∀ i, i < k → (g i).OK n) → (totG g k).ca = (totG g k).tx + tsm (totG g k).X n + (totG g k).tk + (totG g k).pay ∧ (totG g k).net = (totG g k).tk + (totG g k).pay
  | 0, _ => by
    have : ∀ n, tsm (fun _ => (0 : Int)) n = 0 := by
      intro n
      induction n with
      | zero => rfl
      | succ n ih => show tsm (fun _ => (0 : Int)) n + 0 = 0; rw [ih]; rfl
    show (0 : Int) = 0 + tsm (fun _ => (0 : Int)) n + 0 + 0 ∧ (0 : Int) = 0 + 0
    rw [this]; omega
  | k + 1, h => by
    have ih := tot_bal (g := g) (n := n) k fun i hi => h i (by omega)
    have o := h k (by omega)
    have e1 := o.net
    have e2 := o.pay
    have e3 := tsm_add (totG g k).X (g k).X n
    rw [o.n] at e1
    show (totG g k).ca + (g k).ca = ((totG g k).tx + (g k).tx) + tsm (fun i => (totG g k).X i + (g k).X i) n + ((totG g k).tk + sumT (g k).f (g k).m) + ((totG g k).pay + (g k).pay) ∧ (totG g k).net + (g k).net = ((totG g k).tk + sumT (g k).f (g k).m) + ((totG g k).pay + (g k).pay)
    rw [e3]
    omega
end Go.Proofs.Ytfnjhalpedccaaa
