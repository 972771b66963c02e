/- Rows of steps of a call's own, and a year of one code. -/
import Derived.Test.YtffihnbpjcgicaaDoorTaxD
import Derived.Test.YtffihnbpjcgicaaDoorTaxR
import Derived.Deep.OwnRows
namespace Go.Proofs.YtffihnbpjcgicaaDoor
open Go.RowKit Go.Sort
set_option linter.unusedVariables false
set_option linter.unusedSimpArgs false

def stc (g : St) : List Value := [.int .i64 g.s, .int .i64 g.k, .int .i64 g.a, .int .i64 g.f, .bool g.x, .int .i64 g.y]
def sc (L : List St) : List Value := L.flatMap stc
theorem sc_app (L M : List St) : sc (L ++ M) = sc L ++ sc M := by simp [sc]
theorem sc_cons (g : St) (L : List St) : sc (g :: L) = stc g ++ sc L := rfl
theorem sc_len (L : List St) : (sc L).length = L.length * 6 := by
  induction L with
  | nil => rfl
  | cons g L ih => rw [sc_cons, List.length_append, ih]; simp [stc]; omega
theorem sc_get (L : List St) (i : Nat) (g : St) (h : L[i]? = some g) : ∀ j, j < 6 → (sc L)[i * 6 + j]? = (stc g)[j]? := by
  induction L generalizing i with
  | nil => simp at h
  | cons s L ih =>
    intro j hj
    rw [sc_cons]
    cases i with
    | zero =>
      simp only [List.getElem?_cons_zero, Option.some.injEq] at h
      subst h
      rw [List.getElem?_append_left (by simp [stc]; omega)]
      congr 1; omega
    | succ i =>
      rw [List.getElem?_append_right (by simp [stc]; omega)]
      have := ih i (by simpa using h) j hj
      rw [← this]
      congr 1
      simp [stc]; omega
theorem infoSt : (Tryd.prog.info? 85).map (fun i => (i.zero, i.size, i.bytes)) = some (some (.agg #[.int .i64 0, .int .i64 0, .int .i64 0, .int .i64 0, .bool false, .int .i64 0]), 6, 48) := by kernel_rfl
/-- steps in a row of a call's own -/
abbrev Tw (w : World) (B : Nat) (v : Value) (L : List St) : Prop := w.ownsRow B 85 6 v L.length (sc L)
theorem own_set {w : World} {B g n cap size : Nat} {e : TypeId} {xs : List Value} (h : w.ownsRow B e size (.slice (some ⟨g, 0, none⟩) n cap) n xs) (j : Nat) (hj : j < xs.length) (x : Value) : (w.setCell ⟨g, j, none⟩ x).ownsRow B e size (.slice (some ⟨g, 0, none⟩) n cap) n (xs.set j x) := by
  obtain ⟨hl, h | ⟨g', cap', cur, hv, hg, hh, h1, h2, h3, h4⟩⟩ := h
  · exact absurd h.1 (by simp)
  · simp only [Value.slice.injEq, Option.some.injEq, Addr.mk.injEq, and_true, true_and] at hv
    obtain ⟨rfl, rfl⟩ := hv
    refine ⟨by simp [hl], .inr ⟨g, cap, cur.setIfInBounds j x, rfl, hg, ?_, h1, h2, by simp [h3], ?_⟩⟩
    · simp [World.setCell, Array.getElem?_modify, hh]
    · rw [Array.toList_setIfInBounds, ← h4, List.take_set]
theorem own_sep {w : World} {B q n size : Nat} {e : TypeId} {v : Value} {xs : List Value} (h : w.ownsRow B e size v n xs) (hne : v.ownBlock ≠ some q) (j : Nat) (x : Value) : (w.setCell ⟨q, j, none⟩ x).ownsRow B e size v n xs := by
  obtain ⟨hl, h | ⟨g, cap, cur, hv, hg, hh, r⟩⟩ := h
  · exact ⟨hl, .inl h⟩
  · subst hv
    have hgq : g ≠ q := fun e => hne (by rw [← e]; rfl)
    exact ⟨hl, .inr ⟨g, cap, cur, rfl, hg, (Go.Deep.blk_setCell_other _ _ _ _ hgq).trans hh, r⟩⟩
theorem tw_sts {w : World} {B : Nat} {v : Value} {L : List St} (h : Tw w B v L) (hL : 0 < L.length) (G : Nat → St) (hG : ∀ i, i < L.length → L[i]? = some (G i)) : ∃ g cap, v = .slice (some ⟨g, 0, none⟩) L.length cap ∧ Sts w (some ⟨g, 0, none⟩) L.length G := by
  rcases h.2 with ⟨_, h0⟩ | ⟨g, cap, cur, hv, hg, hh, _⟩
  · omega
  · refine ⟨g, cap, hv, fun _ => ⟨g, 0, rfl, fun i hi => ?_⟩⟩
    have hc : ∀ j u, (sc L)[j]? = some u → w.cell? ⟨g, j, none⟩ = some u := fun j u hu => by
      have := h.cells (g := g) (by rw [hv]; rfl) j u hu
      rwa [Go.WideShapes.add_plain, Nat.zero_add] at this
    have hs := sc_get L i (G i) (hG i hi)
    simp only [Nat.zero_add]
    have s0 := hs 0 (by omega)
    rw [Nat.add_zero] at s0
    exact ⟨hc _ _ s0, hc _ _ (hs 1 (by omega)), hc _ _ (hs 2 (by omega)), hc _ _ (hs 3 (by omega)), hc _ _ (hs 4 (by omega)), hc _ _ (hs 5 (by omega))⟩
/-- the tax of all of a year by one code that doesn't stand alone -/
theorem year_one {T : TB} (hT : TG T) {s k a f : Int} (hc : Fit3 T s k a f) (hz : fitsV T s k a f = 0) {G : Nat → St} (hG : ∀ i, (G i).s = s ∧ (G i).k = k ∧ (G i).a = a ∧ (G i).f = f ∧ (G i).x = false) {n : Nat} (hn : n ≤ 12) (hb : ∀ i, i ≤ n → -60000000000 ≤ tyS G i ∧ tyS G i ≤ 60000000000) (hy : ∀ i, i < n → -60000000000 ≤ (G i).y ∧ (G i).y ≤ 60000000000) :
    firstE (tyE 12 12 T G) n = 0 ∧ ∀ m, m < n → tyD 12 12 T G (m + 1) = (dueT T s k a f (tyS G (m + 1)) ((m : Int) + 1) 12).1 := by
  have hx : ∀ m, m < n → ∀ A, nextT 12 12 T (G m) ((m : Int) + 1) (tyS G (m + 1)) A = dueT T s k a f (tyS G (m + 1)) ((m : Int) + 1) 12 := fun m hm A => by
    obtain ⟨e1, e2, e3, e4, e5⟩ := hG m
    rw [next_all (by omega) e5, e1, e2, e3, e4, show min ((m : Int) + 1) 12 = (m : Int) + 1 by omega]
  have hd : ∀ m, m < n → (dueT T s k a f (tyS G (m + 1)) ((m : Int) + 1) 12).2 = 0 := fun m hm => by
    have b := hb (m + 1) (by omega)
    unfold dueT
    rw [exact_is hT.ok hc hz (by omega) (by omega) (by omega) (by omega) b.1 b.2, if_neg (by simp)]
  refine ⟨first_of_zero fun i hi => ?_, fun m hm => by show (nextT 12 12 T (G m) _ _ _).1 = _; rw [hx m hm]⟩
  have ha : (addV (tyS G i) (G i).y) = (tyS G (i + 1), 0) := by
    have b0 := hb i (by omega)
    have b1 := hb (i + 1) (by omega)
    have b2 := hy i hi
    have e : tyS G (i + 1) = tyS G i + (G i).y := rfl
    unfold addV
    rw [amtB_mk (by omega) (by omega), amtB_mk (by omega) (by omega), amtB_mk (by omega) (by omega)]
    rw [e]; rfl
  unfold tyE
  rw [ha, if_neg (by simp), hx i hi]
  exact hd i hi
theorem due_bd {T : TB} (hT : TG T) (s k a f y n d : Int) : 0 ≤ (dueT T s k a f y n d).1 ∧ (dueT T s k a f y n d).1 ≤ 100000000000 := by
  have b := exactT_bd hT.ok s k a f y n d
  unfold dueT
  split
  · exact ⟨Int.le_refl _, by show (0 : Int) ≤ _; omega⟩
  · show 0 ≤ rnd _ 10000 T.W ∧ rnd _ 10000 T.W ≤ _
    rcases rnd_cases (exactT T s k a f y n d).1 10000 T.W with e | ⟨e, h⟩
    · rw [e]; omega
    · rw [e]; omega
end Go.Proofs.YtffihnbpjcgicaaDoor
