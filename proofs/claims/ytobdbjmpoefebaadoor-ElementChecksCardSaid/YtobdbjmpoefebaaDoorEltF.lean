/- Elements in a row of memory; what element.Change answers. -/
import Derived.Test.YtobdbjmpoefebaaDoorEltB
import Derived.Laws.AppendOwn
namespace Go.Proofs.YtobdbjmpoefebaaDoor
open Go.RowKit
set_option linter.unusedVariables false
set_option linter.unusedSimpArgs false

def elG (e : EB) : List Value := [.string e.N, .int .i64 e.A, .int .i64 e.U]
/-- elements, wherever they lie -/
def ElM (w : World) (A : Option Addr) (n : Nat) (E : Nat → EB) : Prop :=
  0 < n → ∃ b o, A = some ⟨b, o, none⟩ ∧ ∀ i, i < n → w.cell? ⟨b, o + i * 3, none⟩ = some (.string (E i).N) ∧ w.cell? ⟨b, o + i * 3 + 1, none⟩ = some (.int .i64 (E i).A) ∧ w.cell? ⟨b, o + i * 3 + 2, none⟩ = some (.int .i64 (E i).U)
theorem ElM.below {w w' : World} {A : Option Addr} {n : Nat} {E : Nat → EB} (h : ElM w A n E) (hb : Below w.heap.size w w') : ElM w' A n E := fun hn => by
  obtain ⟨b, o, e, hc⟩ := h hn
  refine ⟨b, o, e, fun i hi => ?_⟩
  obtain ⟨c0, c1, c2⟩ := hc i hi
  exact ⟨cell_later hb c0, cell_later hb c1, cell_later hb c2⟩
def els (E : Nat → EB) (n : Nat) : List EB := (List.range n).map E
theorem els_len (E : Nat → EB) (n : Nat) : (els E n).length = n := by simp [els]
theorem els_drop (E : Nat → EB) {i n : Nat} (h : i < n) : (els E n).drop i = E i :: (els E n).drop (i + 1) := by
  rw [List.drop_eq_getElem_cons (by rw [els_len]; exact h)]
  simp [els]
/-- elements in a row of the call's own -/
def EsO (w : World) (B : Nat) (v : Value) (L : List EB) : Prop := w.ownsRow B 45 3 v L.length (L.flatMap elG)
theorem es_nil (w : World) (B : Nat) : EsO w B (.slice none 0 0) [] := ⟨rfl, .inl ⟨rfl, rfl⟩⟩
theorem EsO.below {w w' : World} {B : Nat} {v : Value} {L : List EB} (h : EsO w B v L) (hb : Below w.heap.size w w') : EsO w' B v L := own_below h hb
theorem es_push {w : World} {B : Nat} {v : Value} {L : List EB} {e : EB} (h : w.ownsRow B 45 3 v (L.length + 1) (L.flatMap elG ++ [.string e.N, .int .i64 e.A, .int .i64 e.U])) : EsO w B v (L ++ [e]) := by
  unfold EsO
  rw [List.length_append, List.flatMap_append]
  simpa [elG] using h
theorem flatL_len (L : List EB) : (L.flatMap elG).length = L.length * 3 := by
  induction L with
  | nil => rfl
  | cons e r ih => rw [List.flatMap_cons, List.length_append, ih]; simp [elG]; omega
theorem flatL_get : ∀ (L : List EB) (i j : Nat), i < L.length → j < 3 → (L.flatMap elG)[i * 3 + j]? = (elG (L.getD i ⟨⟨#[]⟩, 0, 0⟩))[j]?
  | [], i, j, h, _ => absurd h (Nat.not_lt_zero _)
  | e :: r, 0, j, _, hj => by
    rw [List.flatMap_cons, List.getElem?_append_left (by simp [elG]; omega)]
    simp
  | e :: r, i + 1, j, h, hj => by
    rw [List.flatMap_cons, List.getElem?_append_right (by simp [elG]; omega)]
    have := flatL_get r i j (by simpa using h) hj
    simp only [elG, List.length_cons, List.length_nil] at *
    rw [show (i + 1) * 3 + j - (0 + 1 + 1 + 1) = i * 3 + j by omega, this]
    simp
/-- an own row as one that may be read anywhere -/
theorem es_elm {w : World} {B : Nat} {v : Value} {L : List EB} (h : EsO w B v L) : ∃ A c, v = .slice A L.length c ∧ L.length ≤ maxLen ∧ ElM w A L.length (fun i => L.getD i ⟨⟨#[]⟩, 0, 0⟩) := by
  obtain ⟨hl, ⟨rfl, hn⟩ | ⟨g, cap, cur, rfl, hg, hh, hc, hm, hcs, ht⟩⟩ := h
  · exact ⟨none, 0, by rw [hn], by rw [hn]; exact Nat.zero_le _, fun h0 => by omega⟩
  · refine ⟨some ⟨g, 0, none⟩, cap, rfl, Nat.le_trans hc hm, fun h0 => ⟨g, 0, rfl, fun i hi => ?_⟩⟩
    have key : ∀ j, j < 3 → w.cell? ⟨g, 0 + i * 3 + j, none⟩ = (elG (L.getD i ⟨⟨#[]⟩, 0, 0⟩))[j]? := fun j hj => by
      rw [← flatL_get L i j hi hj, ← ht, List.getElem?_take, if_pos (by omega), Nat.zero_add]
      have hs : i * 3 + j < cur.size := by rw [hcs]; have := Nat.mul_le_mul_right 3 hc; omega
      simp [World.cell?, hh, hs]
    exact ⟨key 0 (by omega), key 1 (by omega), key 2 (by omega)⟩
theorem els_getD (L : List EB) : els (fun i => L.getD i ⟨⟨#[]⟩, 0, 0⟩) L.length = L := by
  apply List.ext_getElem
  · simp [els]
  · intro i h1 h2
    simp [els, List.getD, h2]
theorem info_el : (Tryd.prog.info? 45).map (fun i => (i.zero, i.size, i.bytes)) = some (some (.agg #[.string ⟨#[]⟩, .int .i64 0, .int .i64 0]), 3, 32) := by kernel_rfl
theorem cell_new3 (w : World) (x y z : Value) (t : TypeId) : ∀ j u, [x, y, z][j]? = some u → (w.alloc (.cells #[x, y, z] t)).cell? ((⟨w.heap.size, 0, none⟩ : Addr).add j) = some u := by
  intro j u hu
  have hj : j < 3 := by
    rcases Nat.lt_or_ge j 3 with h | h
    · exact h
    · rw [List.getElem?_eq_none (by simp; omega)] at hu; cases hu
  rcases (show j = 0 ∨ j = 1 ∨ j = 2 by omega) with rfl | rfl | rfl <;> · simp at hu; subst hu; simp [Addr.add, World.cell?_alloc_new]
/-- the elements without those of a kind, but one of an amount in the place of the first of these -/
def chs (K : ByteArray) : List EB → Int → List EB
  | [], x => if x = 0 then [] else [⟨K, x, 100⟩]
  | e :: r, x => if e.N = K then (if x = 0 then chs K r x else ⟨K, x, 100⟩ :: chs K r 0) else e :: chs K r x
theorem chs_nil (K : ByteArray) (x : Int) : chs K [] x = if x = 0 then [] else [⟨K, x, 100⟩] := rfl
theorem chs_cons (K : ByteArray) (e : EB) (r : List EB) (x : Int) : chs K (e :: r) x = if e.N = K then (if x = 0 then chs K r x else ⟨K, x, 100⟩ :: chs K r 0) else e :: chs K r x := rfl
theorem chs_len (K : ByteArray) : ∀ (l : List EB) (x : Int), (chs K l x).length ≤ l.length + 1
  | [], x => by unfold chs; split <;> simp
  | e :: r, x => by
    have h1 := chs_len K r x
    have h2 := chs_len K r 0
    unfold chs
    split
    · split
      · simp; omega
      · simp; omega
    · simp; omega
set_option maxHeartbeats 2000000 in
set_option maxRecDepth 100000 in
theorem change_any (K : ByteArray) (a : Int) (A : Option Addr) (n c : Nat) (E : Nat → EB) (w : World) (h : ElM w A n E) (hn : n ≤ 100000) (hK : K.size ≤ 281474976710656) (hE : ∀ i, i < n → (E i).N.size ≤ 281474976710656) :
    Calls Tryd.prog 32 #[.string K, .int .i64 a, .slice A n c] w fun e w' => ∃ v, e = .returned v ∧ EsO w' w.heap.size v (chs K (els E n) a) ∧ Below w.heap.size w w' := by
  obtain ⟨i0, hi0, hz0, hz1, hz2⟩ := info_parts info_el
  have Hi := Lib.hid hi0
  have Hz := Lib.hid hz0
  have HE := Lib.hid hE
  have of := fun x w => of_el K x w hK
  have HM := Lib.hid h
  clear hi0 hz0 hE h
  go_enter Tryd.func32, Tryd.ntmps32
  go_wp2
  go_loopw [7, 8, 14] (fun v l i wr => ∃ (L : List EB) (x : Int) (k : Nat), k ≤ n ∧ L.length ≤ k ∧ l = .int .i64 x ∧ i = .int .i64 k ∧ EsO wr w.heap.size v L ∧ Hid (L ++ chs K ((els E n).drop k) x = chs K (els E n) a) ∧ Below w.heap.size w wr) (fun _ _ i _ => n - (intOf i).toNat)
  case atStart => exact ⟨[], a, 0, Nat.zero_le _, Nat.le_refl _, rfl, rfl, es_nil _ _, Lib.hid rfl, Below.refl _ _⟩
  case round =>
    obtain ⟨L, x, k, hk, hL, rfl, rfl, ho, HG, hb⟩ := hrel
    by_cases hlt : k < n
    · have hg := HG.out
      rw [els_drop E hlt] at hg
      clear HG
      obtain ⟨b, o, rfl, hc⟩ := HM.out (by omega)
      obtain ⟨c0, c1, c2⟩ := hc k hlt
      have hs := HE.out k hlt
      have d0 := cell_later hb c0
      have d1 := cell_later hb c1
      have d2 := cell_later hb c2
      have B1 := below_step hb (below_new wr (.cells #[.string (E k).N, .int .i64 (E k).A, .int .i64 (E k).U] 45)) hb.size
      have o1 : EsO _ w.heap.size _ L := ho.below (below_new wr (.cells #[.string (E k).N, .int .i64 (E k).A, .int .i64 (E k).U] 45))
      clear c0 c1 c2 hc hb ho
      rw [chs_cons] at hg
      generalize E k = e at *
      obtain ⟨N, ea, eu⟩ := e
      simp only [] at hg hs d0 d1 d2 B1 o1 ⊢
      have hc3 : L.length + 1 ≤ maxLen := by unfold maxLen; omega
      have hc4 : (L.length + 1) * 32 ≤ 140737488355328 := by omega
      have HC3 := Lib.hid hc3
      have HC4 := Lib.hid hc4
      clear hc3 hc4
      by_cases hN : N = K
      · rw [if_pos hN] at hg
        have t1 := str_b N K true (by simp [hN])
        have t2 : (N.toList != K.toList) = false := by simp [hN]
        by_cases hx : x = 0
        · rw [if_pos hx] at hg
          have t3 : (x != 0) = false := by simpa using hx
          have HG := Lib.hid hg
          clear hg hN hx
          go_wp2
          go_roundw
          case rel => exact ⟨L, x, k + 1, by omega, by omega, rfl, by go_num, o1, HG, B1⟩
          case measure => simp [intOf]; omega
        · rw [if_neg hx] at hg
          have t3 : (x != 0) = true := by simpa using hx
          have HG := Lib.hid hg
          clear hg hN hx
          go_wp2_with (fail)
          refine (of _ _).mono ?_
          rintro e w2 ⟨rfl, hb2⟩
          have B2 := below_step B1 hb2 B1.size
          have o2 := o1.below hb2
          have hc1 := cell_new3 w2 (.string K) (.int .i64 x) (.int .i64 100) 45
          have hc2 : ∀ v ∈ [Value.string K, .int .i64 x, .int .i64 100], v.oneCell' = true := by simp [Value.oneCell']
          have B3 := B2.alloc B2.size (.cells #[.string K, .int .i64 x, .int .i64 100] 45)
          have hc5 := B3.size
          have o2' : w2.ownsRow w.heap.size 45 3 _ L.length (L.flatMap elG) := o2
          go_wp2_with (at_builtin; refine wpList_append_own _ rfl _ _ 50 rfl w.heap.size 45 i0 (.agg #[.string ⟨#[]⟩, .int .i64 0, .int .i64 0]) 3 32 Tryd.underlying50 Hi.out Hz.out hz1 hz2 rfl (by decide) _ _ _ rfl (o2'.alloc _) ⟨w2.heap.size, 0, none⟩ 1 1 [.string K, .int .i64 x, .int .i64 100] rfl rfl hc1 hc2 HC3.out HC4.out hc5 ?_; intro v' w3 hown2 hg2 _)
          have B4 : Below w.heap.size w w3 := B3.grown hg2 hc5 (fun k hk => (o2'.lt k hk).1)
          go_roundw
          case rel => exact ⟨L ++ [⟨K, x, 100⟩], 0, k + 1, by omega, by simp; omega, rfl, by go_num, es_push hown2, Lib.hid (by simpa using HG.out), B4⟩
          case measure => simp [intOf]; omega
      · rw [if_neg hN] at hg
        have HG := Lib.hid hg
        have t1 := str_b N K false (by simp [hN])
        have t2 : (N.toList != K.toList) = true := by rw [bne, t1]; rfl
        have ow := fun w => own_el N ea eu w hs
        clear hg hN
        go_wp2_with (fail)
        refine (ow _).mono ?_
        rintro e w2 ⟨rfl, hb2⟩
        have B2 := below_step B1 hb2 B1.size
        have o2 := o1.below hb2
        have hc1 := cell_new3 w2 (.string N) (.int .i64 ea) (.int .i64 eu) 45
        have hc2 : ∀ v ∈ [Value.string N, .int .i64 ea, .int .i64 eu], v.oneCell' = true := by simp [Value.oneCell']
        have B3 := B2.alloc B2.size (.cells #[.string N, .int .i64 ea, .int .i64 eu] 45)
        have hc5 := B3.size
        have o2' : w2.ownsRow w.heap.size 45 3 _ L.length (L.flatMap elG) := o2
        go_wp2_with (at_builtin; refine wpList_append_own _ rfl _ _ 50 rfl w.heap.size 45 i0 (.agg #[.string ⟨#[]⟩, .int .i64 0, .int .i64 0]) 3 32 Tryd.underlying50 Hi.out Hz.out hz1 hz2 rfl (by decide) _ _ _ rfl (o2'.alloc _) ⟨w2.heap.size, 0, none⟩ 1 1 [.string N, .int .i64 ea, .int .i64 eu] rfl rfl hc1 hc2 HC3.out HC4.out hc5 ?_; intro v' w3 hown2 hg2 _)
        have B4 : Below w.heap.size w w3 := B3.grown hg2 hc5 (fun k hk => (o2'.lt k hk).1)
        go_roundw
        case rel => exact ⟨L ++ [⟨N, ea, eu⟩], x, k + 1, by omega, by simp; omega, rfl, by go_num, es_push hown2, Lib.hid (by simpa using HG.out), B4⟩
        case measure => simp [intOf]; omega
    · obtain rfl : k = n := by omega
      have hg := HG.out
      rw [List.drop_of_length_le (by rw [els_len]; omega)] at hg
      clear HG
      rw [chs_nil] at hg
      have hc3 : L.length + 1 ≤ maxLen := by unfold maxLen; omega
      have hc4 : (L.length + 1) * 32 ≤ 140737488355328 := by omega
      have HC3 := Lib.hid hc3
      have HC4 := Lib.hid hc4
      clear hc3 hc4
      by_cases hx : x = 0
      · rw [if_pos hx, List.append_nil] at hg
        have t3 : (x != 0) = false := by simpa using hx
        have HG := Lib.hid hg
        clear hg hx
        go_wp2
        go_ret
        exact ⟨_, rfl, by rw [← HG.out]; exact ho, hb⟩
      · rw [if_neg hx] at hg
        have t3 : (x != 0) = true := by simpa using hx
        have HG := Lib.hid hg
        clear hg hx
        go_wp2_with (fail)
        refine (of _ _).mono ?_
        rintro e w2 ⟨rfl, hb2⟩
        have B2 := below_step hb hb2 hb.size
        have o2 := ho.below hb2
        have hc1 := cell_new3 w2 (.string K) (.int .i64 x) (.int .i64 100) 45
        have hc2 : ∀ v ∈ [Value.string K, .int .i64 x, .int .i64 100], v.oneCell' = true := by simp [Value.oneCell']
        have B3 := B2.alloc B2.size (.cells #[.string K, .int .i64 x, .int .i64 100] 45)
        have hc5 := B3.size
        have o2' : w2.ownsRow w.heap.size 45 3 _ L.length (L.flatMap elG) := o2
        go_wp2_with (at_builtin; refine wpList_append_own _ rfl _ _ 50 rfl w.heap.size 45 i0 (.agg #[.string ⟨#[]⟩, .int .i64 0, .int .i64 0]) 3 32 Tryd.underlying50 Hi.out Hz.out hz1 hz2 rfl (by decide) _ _ _ rfl (o2'.alloc _) ⟨w2.heap.size, 0, none⟩ 1 1 [.string K, .int .i64 x, .int .i64 100] rfl rfl hc1 hc2 HC3.out HC4.out hc5 ?_; intro v' w3 hown2 hg2 _)
        have B4 : Below w.heap.size w w3 := B3.grown hg2 hc5 (fun k hk => (o2'.lt k hk).1)
        go_ret
        exact ⟨_, rfl, by rw [← HG.out]; exact es_push hown2, B4⟩
end Go.Proofs.YtobdbjmpoefebaaDoor
