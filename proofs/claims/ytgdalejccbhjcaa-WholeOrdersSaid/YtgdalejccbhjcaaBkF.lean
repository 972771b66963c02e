/- What attach.Book answers: a book's orders served, and kept. -/
import Derived.Test.YtgdalejccbhjcaaBkE
namespace Go.Proofs.Ytgdalejccbhjcaa
open Go.RowKit Go.Sort
set_option linter.unusedVariables false
set_option linter.unusedSimpArgs false

set_option maxHeartbeats 2000000 in
theorem abook_bad (net prot : Int) (p n : Nat) (f : Nat → Sta) (w : World) (h : Bk w p n f) (hn : n ≤ 64) (v : Int) (hv : v ≠ 0) (hS : ∀ (A : Option Addr) (c : Nat) (W : World), Ors W A n f → Calls Try.prog 5 #[.int .i64 net, .int .i64 prot, .slice A n c] W fun e w' => e = .returned (.tuple #[.slice none 0 0, .int .i64 0, .int .i64 v]) ∧ Below W.heap.size W w') :
    Calls Try.prog 7 #[.int .i64 net, .int .i64 prot, .pointer (some ⟨p, 0, none⟩)] w fun e w' => e = .returned (.tuple #[.slice none 0 0, .int .i64 0, .int .i64 v]) ∧ Below w.heap.size w w' := by
  have cL := list_any p n f w h (by omega)
  have t1 : (v != 0) = true := by simp [hv]
  clear h hv
  go_enter Try.func7, Try.ntmps7
  go_wp2_with (fail)
  with_reducible refine cL.mono ?_
  rintro e w1 ⟨u, rfl, hown, B1⟩
  obtain ⟨A1, c1, rfl, _, _⟩ := own_len hown
  have cS := hS A1 c1 w1 (ors_own hown)
  clear cL hS hown
  go_wp2_with (fail)
  with_reducible refine cS.mono ?_
  rintro e w2 ⟨rfl, NB⟩
  have B2 := below_step B1 NB B1.size
  go_wp2
  go_ret3
  exact ⟨rfl, B2⟩
/-- what Book leaves, where all may be served -/
def BoP (p n : Nat) (f : Nat → Sta) (net r0 : Int) (w : World) (e : Ending) (w' : World) : Prop :=
  (fsE (twE f n (svT f net r0)) n = 0 → ∃ v, e = .returned (.tuple #[v, .int .i64 (net - (r0 - rmX f net r0 n)), .int .i64 0]) ∧ w'.ownsRow w.heap.size 43 6 v n (tkc (svT f net r0) n) ∧ Bk w' p n (twF f n (svT f net r0) n)) ∧
  (fsE (twE f n (svT f net r0)) n ≠ 0 → e = .returned (.tuple #[.slice none 0 0, .int .i64 0, .int .i64 (fsE (twE f n (svT f net r0)) n)]) ∧ Below w.heap.size w w') ∧ RelP p w w'
theorem own_rel {w w' : World} {p B : Nat} {e : TypeId} {size n : Nat} {v : Value} {xs : List Value} (h : w.ownsRow B e size v n xs) (hr : RelP p w w') (hp : p < B) : w'.ownsRow B e size v n xs := by
  obtain ⟨w1, hb, rfl | ⟨u, rfl⟩⟩ := hr
  · exact own_below h hb
  · exact own_other (own_below h hb) hp 0 u
set_option maxRecDepth 100000 in
set_option maxHeartbeats 4000000 in
theorem abook_any (net prot : Int) (p n : Nat) (f : Nat → Sta) (w : World) (h : Bk w p n f) (hn : n ≤ 64) (hok : ∀ i, i < n → (f i).OK) (ha : (amtB net && amtB prot) = true) (hp : 0 ≤ prot) (hs : svB f net n = true) :
    Calls Try.prog 7 #[.int .i64 net, .int .i64 prot, .pointer (some ⟨p, 0, none⟩)] w (BoP p n f net (max (net - prot) 0) w) := by
  have cL := list_any p n f w h (by omega)
  have hpw := h.lt
  have HB := Lib.hid h
  clear h
  go_enter Try.func7, Try.ntmps7
  go_wp2_with (fail)
  with_reducible refine cL.mono ?_
  rintro e w1 ⟨u, rfl, hown, B1⟩
  obtain ⟨A1, c1, rfl, _, _⟩ := own_len hown
  have cS := serve_any net prot A1 n c1 f w1 (ors_own hown) hok ha hp (by omega)
  have hz1 := B1.size
  clear cL hown ha hok
  go_wp2_with (fail)
  with_reducible refine cS.mono ?_
  rintro e w2 ⟨hyes, _, NB⟩
  obtain ⟨v, rfl, HO⟩ := hyes hs
  obtain ⟨A2, c2, rfl, _, _⟩ := own_len HO
  have B2 := below_step B1 NB B1.size
  have h2 := HB.out.below B2
  have HK := tks_own HO
  have cT : Calls Try.prog 30 #[.pointer (some ⟨p, 0, none⟩), .slice A2 n c2] w2 (TwP p n f (svT f net (max (net - prot) 0)) n w2) := by
    rcases Nat.eq_zero_or_pos n with h0 | h0
    · subst h0
      exact took_none p 0 c2 f _ A2 w2 h2 HK rfl
    · exact took_any p n n c2 f _ A2 w2 h2 hn h0 HK (by omega)
  have HO2 := Lib.hid (own_mono HO hz1)
  unfold TwP at cT
  generalize max (net - prot) 0 = r0 at *
  have HBO : Hid (∀ e w', BoP p n f net r0 w e w' ↔ BoP p n f net r0 w e w') := Lib.hid (fun _ _ => Iff.rfl)
  clear cS NB hyes hs HO HK h2
  unfold BoP
  generalize hER : fsE (twE f n (svT f net r0)) n = er at *
  generalize hLF : net - (r0 - rmX f net r0 n) = lf at *
  have HER := Lib.hid hER
  have HLF := Lib.hid hLF
  clear hER hLF
  go_wp2_with (fail)
  with_reducible refine cT.mono ?_
  rintro e w3 ⟨rfl, hr, hbk, hbl⟩
  have HR := Lib.hid hr
  have HBK := Lib.hid hbk
  have HBL := Lib.hid hbl
  have HRR : Hid (RelP p w w3) := Lib.hid (by
    obtain ⟨wx, hx, hx2⟩ := hr
    exact ⟨wx, below_step B2 hx B2.size, hx2⟩)
  clear hr hbk hbl cT
  by_cases he : er = 0
  · have HE := Lib.hid he
    have t1 : (er != 0) = false := by simp [he]
    have O3 := Lib.hid (own_rel HO2.out HR.out hpw)
    clear he
    go_wp2
    go_ret3
    exact ⟨fun _ => ⟨_, by first | (rw [HLF.out]; done) | (rw [HLF.out]; rfl), O3.out, HBK.out HE.out⟩, fun h0 => absurd (HER.out.trans HE.out) h0, HRR.out⟩
  · have HE := Lib.hid he
    have t1 : (er != 0) = true := by simp [he]
    have B3 := below_step B2 (HBL.out he) B2.size
    clear he
    go_wp2
    go_ret3
    exact ⟨fun h0 => absurd (HER.out.symm.trans h0) HE.out, fun _ => ⟨by first | (rw [HER.out]; done) | (rw [HER.out]; rfl), B3⟩, HRR.out⟩
end Go.Proofs.Ytgdalejccbhjcaa
