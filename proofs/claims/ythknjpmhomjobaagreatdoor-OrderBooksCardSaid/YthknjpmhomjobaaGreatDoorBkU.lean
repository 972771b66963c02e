/- Orders in a row of the call's own (five cells each); does a list stand as it should? -/
import Derived.Test.YthknjpmhomjobaaGreatDoorBkT
import Derived.Test.YthknjpmhomjobaaGreatDoorBkI
import Derived.Test.YthknjpmhomjobaaGreatDoorBkL
import Derived.Deep.RegionHeld3
namespace Go.Proofs.YthknjpmhomjobaaGreatDoor
open Go.RowKit Go.Sort
set_option linter.unusedVariables false
set_option linter.unusedSimpArgs false

def Sta.os (s : Sta) : List Value := [.int .i64 s.id, .int .i64 s.pr, .int .i64 s.am, .int .i64 s.rt, .int .i64 s.tot]
def odc (g : Nat → Sta) : Nat → List Value
  | 0 => []
  | n + 1 => odc g n ++ (g n).os
theorem odc_len (g : Nat → Sta) (n : Nat) : (odc g n).length = n * 5 := by
  induction n with
  | zero => rfl
  | succ n ih => simp [odc, ih, Sta.os]; omega
theorem odc_get (g : Nat → Sta) {n i j : Nat} (hi : i < n) (hj : j < 5) : (odc g n)[i * 5 + j]? = (g i).os[j]? := by
  induction n with
  | zero => omega
  | succ n ih =>
    show (odc g n ++ (g n).os)[i * 5 + j]? = _
    by_cases h : i < n
    · rw [List.getElem?_append_left (by rw [odc_len]; omega)]; exact ih h
    · obtain rfl : i = n := by omega
      rw [List.getElem?_append_right (by rw [odc_len]; omega), odc_len, show i * 5 + j - i * 5 = j by omega]
theorem odc_one (f : Nat → Sta) (n : Nat) : ∀ v ∈ odc f n, v.oneCell' = true := by
  induction n with
  | zero => intro v hv; cases hv
  | succ n ih =>
    intro v hv
    rcases List.mem_append.1 (show v ∈ odc f n ++ (f n).os from hv) with h | h
    · exact ih v h
    · simp [Sta.os] at h
      rcases h with rfl | rfl | rfl | rfl | rfl <;> rfl
theorem odc_take (f : Nat → Sta) {n k : Nat} (hk : k ≤ n) : (odc f n).take (k * 5) = odc f k := by
  induction n with
  | zero => obtain rfl : k = 0 := by omega
            rfl
  | succ n ih =>
    by_cases h : k = n + 1
    · subst h; rw [List.take_of_length_le (by rw [odc_len]; exact Nat.le_refl _)]
    · show (odc f n ++ (f n).os).take (k * 5) = _
      rw [List.take_append_of_le_length (by rw [odc_len]; omega)]
      exact ih (by omega)
theorem odc_ext {f g : Nat → Sta} : ∀ {n : Nat}, (∀ i, i < n → f i = g i) → odc f n = odc g n
  | 0, _ => rfl
  | n + 1, h => by
    show odc f n ++ (f n).os = odc g n ++ (g n).os
    rw [odc_ext (fun i hi => h i (by omega)), h n (by omega)]
/-- the cells of all but one -/
theorem odc_del (f : Nat → Sta) (i : Nat) : ∀ m, odc (dlO f i) (i + m) = odc f i ++ odc (fun j => f (i + 1 + j)) m
  | 0 => by
    rw [Nat.add_zero, show odc (fun j => f (i + 1 + j)) 0 = [] from rfl, List.append_nil]
    exact odc_ext fun j hj => if_pos hj
  | m + 1 => by
    show odc (dlO f i) (i + m) ++ (dlO f i (i + m)).os = odc f i ++ (odc (fun j => f (i + 1 + j)) m ++ (f (i + 1 + m)).os)
    rw [odc_del f i m, List.append_assoc]
    congr 2
    unfold dlO
    rw [if_neg (by omega), show i + m + 1 = i + 1 + m by omega]
theorem odc_add (f : Nat → Sta) (a : Nat) : ∀ b, odc f (a + b) = odc f a ++ odc (fun j => f (a + j)) b
  | 0 => by rw [Nat.add_zero, show odc (fun j => f (a + j)) 0 = [] from rfl, List.append_nil]
  | b + 1 => by
    show odc f (a + b) ++ (f (a + b)).os = odc f a ++ (odc (fun j => f (a + j)) b ++ (f (a + b)).os)
    rw [odc_add f a b, List.append_assoc]
theorem infoOd : (Tryz.prog.info? 23).map (fun i => (i.zero, i.size, i.bytes)) = some (some (.agg #[.int .i64 0, .int .i64 0, .int .i64 0, .int .i64 0, .int .i64 0]), 5, 40) := by kernel_rfl
theorem own5_at {w : World} {B n c : Nat} {A : Option Addr} {f : Nat → Sta} (h : w.ownsRow B 23 5 (.slice A n c) n (odc f n)) {j : Nat} (hj : j < n) : ∃ g, A = some ⟨g, 0, none⟩ ∧ OAt w g (j * 5) (f j) := by
  obtain ⟨A', c', e', hA, hg⟩ := own_len h
  obtain ⟨rfl, _, rfl⟩ := Value.slice.inj e'
  obtain ⟨g, rfl⟩ := hg (by omega)
  exact ⟨g, rfl, own_cells h ((odc_get f hj (j := 0) (by omega)).trans rfl), own_cells h ((odc_get f hj (j := 1) (by omega)).trans rfl), own_cells h ((odc_get f hj (j := 2) (by omega)).trans rfl), own_cells h ((odc_get f hj (j := 3) (by omega)).trans rfl), own_cells h ((odc_get f hj (j := 4) (by omega)).trans rfl)⟩
theorem ods_own {w : World} {B n c : Nat} {A : Option Addr} {f : Nat → Sta} (h : w.ownsRow B 23 5 (.slice A n c) n (odc f n)) : Ods w A n f := fun h0 => by
  obtain ⟨g, rfl, _⟩ := own5_at h h0
  refine ⟨g, 0, rfl, fun i hi => ?_⟩
  obtain ⟨g', e, hc⟩ := own5_at h hi
  obtain rfl : g = g' := by simpa using e
  rw [Nat.zero_add]
  exact hc
/-- are two orders the same? -/
def eqO (a b : Sta) : Bool := decide (a.id = b.id ∧ a.pr = b.pr ∧ a.am = b.am ∧ a.rt = b.rt ∧ a.tot = b.tot)
theorem eq_order (a0 a1 a2 a3 a4 b0 b1 b2 b3 b4 : Int) (v : Bool) (hv : decide (a0 = b0 ∧ a1 = b1 ∧ a2 = b2 ∧ a3 = b3 ∧ a4 = b4) = v) (W : World) : (binOp .eql 23 (.agg #[.int .i64 a0, .int .i64 a1, .int .i64 a2, .int .i64 a3, .int .i64 a4]) (.agg #[.int .i64 b0, .int .i64 b1, .int .i64 b2, .int .i64 b3, .int .i64 b4])).run Tryz.prog W = .ok (.bool v) W := by
  subst hv
  by_cases h1 : a0 = b0
  · by_cases h2 : a1 = b1
    · by_cases h3 : a2 = b2
      · by_cases h4 : a3 = b3
        · by_cases h5 : a4 = b4 <;> simp [go_sem, h1, h2, h3, h4, h5]
        · simp [go_sem, h1, h2, h3, h4]
      · simp [go_sem, h1, h2, h3]
    · simp [go_sem, h1, h2]
  · simp [go_sem, h1]
/-- is an order among the first ones? -/
def fnO (h : Nat → Sta) (s : Sta) : Nat → Bool
  | 0 => false
  | k + 1 => fnO h s k || eqO (h k) s
theorem fn_yes {h : Nat → Sta} {s : Sta} {j : Nat} : ∀ {n : Nat}, j < n → h j = s → fnO h s n = true
  | 0, hj, _ => absurd hj (Nat.not_lt_zero j)
  | n + 1, hj, e => by
    show (fnO h s n || eqO (h n) s) = true
    by_cases hn : j < n
    · rw [fn_yes hn e]; rfl
    · obtain rfl : j = n := by omega
      rw [e, show eqO s s = true by simp [eqO], Bool.or_true]
/-- what holds of the orders that were put in, and of those that stand -/
def InvJ (n : Nat) (h f : Nat → Sta) : Prop := MovO n h f ∧ SrO f n ∧ (∀ i k, i < n → k < n → (h i).id = (h k).id → i = k) ∧ ∀ i, i < n → (h i).tk = 0 ∧ (h i).ar = 0
theorem InvJ.ids {n : Nat} {h f : Nat → Sta} (H : InvJ n h f) : ∀ i k, i < n → k < n → (f i).id = (f k).id → i = k := movO_ids H.1 H.2.2.1
theorem InvJ.zero {n : Nat} {h f : Nat → Sta} (H : InvJ n h f) {i : Nat} (hi : i < n) : (f i).tk = 0 ∧ (f i).ar = 0 := by
  obtain ⟨p, ⟨p1, _⟩, hp⟩ := H.1
  rw [hp i hi]
  exact H.2.2.2 _ (p1 i hi)
theorem InvJ.found {n : Nat} {h f : Nat → Sta} (H : InvJ n h f) {i : Nat} (hi : i < n) : fnO h (f i) n = true := by
  obtain ⟨p, ⟨p1, _⟩, hp⟩ := H.1
  exact fn_yes (p1 i hi) (hp i hi).symm
theorem InvJ.rise {n : Nat} {h f : Nat → Sta} (H : InvJ n h f) {k : Nat} (hk : k + 1 < n) : (f k).pr < (f (k + 1)).pr ∨ ((f k).pr = (f (k + 1)).pr ∧ (f k).id < (f (k + 1)).id) := srO_strict H.2.1 H.ids k hk
/-- a one to one map of the first numbers meets each -/
theorem perO_surj : ∀ {n : Nat} {p : Nat → Nat}, PerO n p → ∀ a, a < n → ∃ i, i < n ∧ p i = a
  | 0, _, _, a, h => absurd h (Nat.not_lt_zero a)
  | n + 1, p, ⟨p1, p2⟩, a, ha => by
    by_cases hab : p n = a
    · exact ⟨n, by omega, hab⟩
    have hb := p1 n (by omega)
    have hne : ∀ i, i < n → p i ≠ p n := fun i hi e => by have := p2 i n (by omega) (by omega) e; omega
    have hP : PerO n fun i => if p i = n then p n else p i := by
      refine ⟨fun i hi => ?_, fun i k hi hk e => ?_⟩
      · show (if p i = n then p n else p i) < n
        have a1 := p1 i (by omega)
        have a2 := hne i hi
        split <;> omega
      · have e' : (if p i = n then p n else p i) = (if p k = n then p n else p k) := e
        have a1 := hne i hi
        have a2 := hne k hk
        by_cases h1 : p i = n <;> by_cases h2 : p k = n
        · exact p2 i k (by omega) (by omega) (h1.trans h2.symm)
        · rw [if_pos h1, if_neg h2] at e'; exact absurd e'.symm a2
        · rw [if_neg h1, if_pos h2] at e'; exact absurd e' a1
        · rw [if_neg h1, if_neg h2] at e'; exact p2 i k (by omega) (by omega) e'
    by_cases han : a = n
    · obtain ⟨i, hi, e⟩ := perO_surj hP (p n) (by omega)
      have e' : (if p i = n then p n else p i) = p n := e
      refine ⟨i, by omega, ?_⟩
      by_cases h1 : p i = n
      · rw [h1, han]
      · rw [if_neg h1] at e'; exact absurd e' (hne i hi)
    · obtain ⟨i, hi, e⟩ := perO_surj hP a (by omega)
      have e' : (if p i = n then p n else p i) = a := e
      refine ⟨i, by omega, ?_⟩
      by_cases h1 : p i = n
      · rw [if_pos h1] at e'; exact absurd e' hab
      · rw [if_neg h1] at e'; exact e'
theorem lst_cases (h : Nat → Sta) (id : Int) : ∀ n, (lst h id n = -1 ∧ ∀ i, i < n → (h i).id ≠ id) ∨ ∃ a, a < n ∧ lst h id n = (a : Int) ∧ (h a).id = id
  | 0 => .inl ⟨rfl, fun i hi => absurd hi (Nat.not_lt_zero i)⟩
  | n + 1 => by
    by_cases e : (h n).id = id
    · exact .inr ⟨n, by omega, if_pos e, e⟩
    · have he : lst h id (n + 1) = lst h id n := if_neg e
      rw [he]
      rcases lst_cases h id n with ⟨h1, h2⟩ | ⟨a, ha, h1, h2⟩
      · refine .inl ⟨h1, fun i hi => ?_⟩
        by_cases hin : i < n
        · exact h2 i hin
        · obtain rfl : i = n := by omega
          exact e
      · exact .inr ⟨a, by omega, h1, h2⟩
theorem InvJ.none {n : Nat} {h f : Nat → Sta} (H : InvJ n h f) {id : Int} (hno : ∀ i, i < n → (h i).id ≠ id) : plc f id n = -1 := by
  obtain ⟨p, ⟨p1, _⟩, hp⟩ := H.1
  exact plc_no fun i hi e => hno (p i) (p1 i hi) (by rw [← hp i hi]; exact e)
theorem InvJ.some {n : Nat} {h f : Nat → Sta} (H : InvJ n h f) {a : Nat} (ha : a < n) : ∃ i, i < n ∧ f i = h a ∧ plc f (h a).id n = (i : Int) := by
  obtain ⟨p, hP, hp⟩ := H.1
  obtain ⟨i, hi, e⟩ := perO_surj hP a ha
  have e2 : f i = h a := by rw [hp i hi, e]
  refine ⟨i, hi, e2, ?_⟩
  rw [← e2]
  exact plc_self H.ids hi
theorem InvJ.add {n : Nat} {h f f' : Nat → Sta} {s : Sta} (H : InvJ n h f) (h1 : s.tk = 0) (h2 : s.ar = 0) (hno : ∀ i, i < n → (h i).id ≠ s.id) (hm : MovO (n + 1) (exO f n s) f') (hs : SrO f' (n + 1)) : InvJ (n + 1) (exO h n s) f' := by
  have ex : ∀ i, i < n → exO h n s i = h i := fun i hi => by simp [exO, hi]
  have en : exO h n s n = s := by simp [exO]
  refine ⟨mov_add H.1 hm, hs, fun i k hi hk e => ?_, fun i hi => ?_⟩
  · by_cases x1 : i < n <;> by_cases x2 : k < n
    · rw [ex _ x1, ex _ x2] at e; exact H.2.2.1 _ _ x1 x2 e
    · obtain rfl : k = n := by omega
      rw [ex _ x1, en] at e; exact absurd e (hno i x1)
    · obtain rfl : i = n := by omega
      rw [ex _ x2, en] at e; exact absurd e.symm (hno k x2)
    · omega
  · by_cases x1 : i < n
    · rw [ex _ x1]; exact H.2.2.2 i x1
    · obtain rfl : i = n := by omega
      rw [en]; exact ⟨h1, h2⟩
theorem InvJ.del {n a i0 : Nat} {h f : Nat → Sta} (H : InvJ (n + 1) h f) (hi : i0 < n + 1) (ha : a < n + 1) (he : f i0 = h a) : InvJ n (dlO h a) (dlO f i0) := by
  have hd : ∀ j, j < n → ∃ j', j' < n + 1 ∧ dlO h a j = h j' ∧ j' = (if j < a then j else j + 1) := fun j hj => by
    unfold dlO
    by_cases q : j < a
    · exact ⟨j, by omega, if_pos q, (if_pos q).symm⟩
    · exact ⟨j + 1, by omega, if_neg q, (if_neg q).symm⟩
  refine ⟨mov_del H.1 H.2.2.1 hi ha (by rw [he]), srO_del H.2.1 hi, fun i k hi hk e => ?_, fun i hi => ?_⟩
  · obtain ⟨i', a1, a2, a3⟩ := hd i hi
    obtain ⟨k', b1, b2, b3⟩ := hd k hk
    rw [a2, b2] at e
    have := H.2.2.1 i' k' a1 b1 e
    rw [a3, b3] at this
    split at this <;> split at this <;> omega
  · obtain ⟨i', a1, a2, _⟩ := hd i hi
    rw [a2]
    exact H.2.2.2 i' a1
theorem odc_exO (f : Nat → Sta) (n : Nat) (s : Sta) : odc (exO f n s) (n + 1) = odc f n ++ s.os := by
  show odc (exO f n s) n ++ (exO f n s n).os = _
  rw [show exO f n s n = s by simp [exO], odc_ext (g := f) (fun i hi => by simp [exO, hi])]
section
variable {P : Program}
/-- an append of any number (also of none) to a row of the call's own, as a step of a region that draws -/
theorem step_append_own5 {w : World} {ops : Array Oper} {o : Oper} {a : Act} {K : Act → World → Prop} {Q : Exit → Act → World → Prop} {E : Prop} (hgd : o.guard = none) (s x : Operand) (t : TypeId)
    (ho : o.op = .call { callee := .builtin .append, args := #[s, x], argTypes := #[t, t] })
    (base : Nat) (e : TypeId) (i : TypeInfo) (z : Value) (size bytes : Nat) (ht : P.underlying t = some (.slice e)) (hi : P.info? e = some i) (hz : i.zero = some z)
    (hsize : i.size = size) (hby : i.bytes = bytes) (hzs : z.cells.size = size) (hsz : 0 < size)
    (v : Value) (n : Nat) (xs : List Value) (hs : a.eval s = v) (hown : w.ownsRow base e size v n xs)
    (ad : Addr) (m c : Nat) (news : List Value) (hx : a.eval x = .slice (some ad) m c) (hl : news.length = m * size) (hnews : ∀ j u, news[j]? = some u → w.cell? (ad.add j) = some u) (h1 : ∀ u ∈ news, u.oneCell' = true)
    (h63 : n + m ≤ maxLen) (hbytes : (n + m) * bytes ≤ 140737488355328) (hbase : base ≤ w.heap.size)
    (h : ∀ v' w', w'.ownsRow base e size v' (n + m) (xs ++ news) → w.grownBy w' v.ownBlock → (v' = .slice none 0 0 ↔ v = .slice none 0 0 ∧ m = 0) → K (a.put o.dst v') w') :
    if Region.wanted o (yielded ops a.tmps) = true then Oper.wp P o a w K Q else E := by
  have hw : Region.wanted o (yielded ops a.tmps) = true := by simp [Region.wanted, hgd]
  rw [if_pos hw]
  exact wp_append_own w s x t ho base e i z size bytes ht hi hz hsize hby hzs hsz v n xs hs hown ad m c news hx hl hnews h1 h63 hbytes hbase h
end
set_option maxRecDepth 100000 in
set_option maxHeartbeats 8000000 in
theorem stands_any (A : Option Addr) (n c : Nat) (f : Nat → Sta) (A2 : Option Addr) (c2 : Nat) (h : Nat → Sta) (w : World) (hA : Ors w A n f) (hB : Ods w A2 n h) (H : InvJ n h f) (hn : n ≤ 100) :
    Calls Tryz.prog 15 #[.slice A n c, .slice A2 n c2] w fun e w' => e = .returned (.bool true) ∧ Below w.heap.size w w' := by
  go_enter Tryz.func15, Tryz.ntmps15
  have HA := Lib.hid hA
  have HB := Lib.hid hB
  have HH := Lib.hid H
  clear hA hB H
  go_wp2
  go_loopw [17] (fun s W => ∃ i : Nat, i ≤ n ∧ s = .int .i64 i ∧ Below w.heap.size w W) (fun s _ => n - (intOf s).toNat)
  case atStart => exact ⟨0, Nat.zero_le _, rfl, Below.refl _ _⟩
  case round =>
    obtain ⟨i, hi, rfl, hBB⟩ := hrel
    by_cases hin : i < n
    · have hil : (i : Int) < (n : Int) := by omega
      have hi1 : i + 1 ≤ n := hin
      obtain ⟨b, o, rfl, hc⟩ := (HA.out.below hBB) (by omega)
      obtain ⟨d0, d1, d2, d3, d4, d5, d6⟩ := hc i hin
      have hz := HH.out.zero hin
      rw [hz.1] at d5
      rw [hz.2] at d6
      have K := bx_new wr [.int .i64 (f i).id, .int .i64 (f i).pr, .int .i64 (f i).am, .int .i64 (f i).rt, .int .i64 (f i).tot, .int .i64 0, .int .i64 0] 50
      have NB := below_new wr (.cells #[.int .i64 (f i).id, .int .i64 (f i).pr, .int .i64 (f i).am, .int .i64 (f i).rt, .int .i64 (f i).tot, .int .i64 0, .int .i64 0] 50)
      obtain ⟨x0, hx0⟩ : ∃ x, (f i).id = x := ⟨_, rfl⟩
      obtain ⟨x1, hx1⟩ : ∃ x, (f i).pr = x := ⟨_, rfl⟩
      obtain ⟨x2, hx2⟩ : ∃ x, (f i).am = x := ⟨_, rfl⟩
      obtain ⟨x3, hx3⟩ : ∃ x, (f i).rt = x := ⟨_, rfl⟩
      obtain ⟨x4, hx4⟩ : ∃ x, (f i).tot = x := ⟨_, rfl⟩
      rw [hx0, hx1, hx2, hx3, hx4] at K NB
      have HK := Lib.hid K
      have HBI := Lib.hid (below_step hBB NB hBB.size)
      have HFI := Lib.hid (And.intro hx0 (And.intro hx1 (And.intro hx2 (And.intro hx3 hx4))))
      have HCW : Hid (∀ j, j < n → SAt (wr.alloc (.cells #[.int .i64 x0, .int .i64 x1, .int .i64 x2, .int .i64 x3, .int .i64 x4, .int .i64 0, .int .i64 0] 50)) b (o + j * 7) (f j)) := Lib.hid fun j hj => (hc j hj).below NB
      rw [hx0] at d0
      rw [hx1] at d1
      rw [hx2] at d2
      rw [hx3] at d3
      rw [hx4] at d4
      clear hz K NB hc hx0 hx1 hx2 hx3 hx4 hBB
      go_wp2
      generalize wr.alloc (.cells #[.int .i64 x0, .int .i64 x1, .int .i64 x2, .int .i64 x3, .int .i64 x4, .int .i64 0, .int .i64 0] 50) = wi at *
      generalize wr.heap.size = qx at *
      go_loopw [7, 24] (fun s7 s24 W => ∃ j : Nat, j ≤ n ∧ s7 = .bool (fnO h (f i) j) ∧ s24 = .int .i64 j ∧ Below wi.heap.size wi W) (fun _ s24 _ => n - (intOf s24).toNat)
      case atStart => exact ⟨0, Nat.zero_le _, rfl, rfl, Below.refl _ _⟩
      case round =>
        obtain ⟨j, hj, rfl, rfl, hBj⟩ := hrel
        by_cases hjn : j < n
        · have hjl : (j : Int) < (n : Int) := by omega
          have hj1 : j + 1 ≤ n := hjn
          obtain ⟨b2, o2, rfl, hc2⟩ := (HB.out.below (below_step HBI.out hBj HBI.out.size)) (by omega)
          obtain ⟨e0, e1, e2, e3, e4⟩ := hc2 j hjn
          have HKj := HK.out.below hBj
          obtain ⟨v, hv⟩ : ∃ v, eqO (h j) (f i) = v := ⟨_, rfl⟩
          have hfn : fnO h (f i) (j + 1) = (fnO h (f i) j || eqO (h j) (f i)) := rfl
          obtain ⟨fb, hfb⟩ : ∃ b, fnO h (f i) j = b := ⟨_, rfl⟩
          rw [hfb] at hfn ⊢
          rw [hv] at hfn
          have hvd : decide ((h j).id = x0 ∧ (h j).pr = x1 ∧ (h j).am = x2 ∧ (h j).rt = x3 ∧ (h j).tot = x4) = v := by
            rw [← HFI.out.1, ← HFI.out.2.1, ← HFI.out.2.2.1, ← HFI.out.2.2.2.1, ← HFI.out.2.2.2.2]
            exact hv
          have HFN := Lib.hid hfn
          clear hc2 HCW hfn hv hfb HFI
          generalize (h j).id = y0 at *
          generalize (h j).pr = y1 at *
          generalize (h j).am = y2 at *
          generalize (h j).rt = y3 at *
          generalize (h j).tot = y4 at *
          have heq := fun W => eq_order y0 y1 y2 y3 y4 x0 x1 x2 x3 x4 v hvd W
          have K2 := bx_new wr [.int .i64 y0, .int .i64 y1, .int .i64 y2, .int .i64 y3, .int .i64 y4] 23
          have NB := below_new wr (.cells #[.int .i64 y0, .int .i64 y1, .int .i64 y2, .int .i64 y3, .int .i64 y4] 23)
          have HKn := HKj.below NB
          have z_0 := K2.cell (i := 0) rfl
          have z_1 := K2.cell (i := 1) rfl
          have z_2 := K2.cell (i := 2) rfl
          have z_3 := K2.cell (i := 3) rfl
          have z_4 := K2.cell (i := 4) rfl
          have k_0 := HKn.cell (i := 0) rfl
          have k_1 := HKn.cell (i := 1) rfl
          have k_2 := HKn.cell (i := 2) rfl
          have k_3 := HKn.cell (i := 3) rfl
          have k_4 := HKn.cell (i := 4) rfl
          have BE := below_step hBj NB hBj.size
          clear K2 NB HKj HKn hvd hBj
          cases fb
          · go_wp2
            refine ⟨⟨j + 1, hj1, by rw [HFN.out]; rfl, by go_num, BE⟩, meas_step hjn⟩
          · go_wp2
            refine ⟨⟨j + 1, hj1, by rw [HFN.out]; rfl, by go_num, BE⟩, meas_step hjn⟩
        · obtain rfl : n = j := by omega
          have hnl2 : ¬ (n : Int) < (n : Int) := by omega
          rw [HH.out.found hin]
          have HKj := HK.out.below hBj
          have HB2 := Lib.hid (below_step HBI.out hBj HBI.out.size)
          have k_0 := HKj.cell (i := 0) rfl
          have k_1 := HKj.cell (i := 1) rfl
          have k_2 := HKj.cell (i := 2) rfl
          have k_3 := HKj.cell (i := 3) rfl
          have k_4 := HKj.cell (i := 4) rfl
          have k_5 := HKj.cell (i := 5) rfl
          have k_6 := HKj.cell (i := 6) rfl
          by_cases hi0 : 0 < i
          · have hi0' : (0 : Int) < (i : Int) := by omega
            have hs0 : (1 : Int) ≤ (i : Int) := by omega
            have hs1 : (i : Int) - 1 < (n : Int) := by omega
            have hs2 : (0 : Int) ≤ (i : Int) - 1 := by omega
            have hs3 : wrap64 ((i : Int) - 1) = (i : Int) - 1 := IntWalk.wrap64_in _ (by omega)
            have hs4 : IntKind.i64.wrap ((i : Int) - 1) = (i : Int) - 1 := IntWalk.i64_in _ (by omega)
            have hs5 : ((i : Int) - 1).toNat = i - 1 := by omega
            have hr := HH.out.rise (k := i - 1) (by omega)
            rw [show i - 1 + 1 = i by omega, HFI.out.1, HFI.out.2.1] at hr
            obtain ⟨p0, p1, p2, p3, p4, p5, p6⟩ := (HCW.out (i - 1) (by omega)).below hBj
            have hgt : decide (0 < (i : Int)) = true := decide_eq_true hi0'
            have hgt2 : decide (0 < i) = true := decide_eq_true hi0
            clear HB HH HBI hBj HCW HFI HK p2 p3 p4 p5 p6
            generalize (f (i - 1)).pr = r1 at *
            generalize (f (i - 1)).id = r0 at *
            by_cases hpr : r1 < x1
            · have t1 : decide (x1 < r1) = false := decide_eq_false (by omega)
              have t2 : (r1 == x1) = false := by simp; omega
              clear hr hi0 hpr
              go_wp2
              go_quiet (fail)
              go_wp2
              refine ⟨⟨i + 1, hi1, by go_num, below_drewN HB2.out _⟩, meas_step hin⟩
            · obtain ⟨h1, h2⟩ : r1 = x1 ∧ r0 < x0 := by omega
              subst h1
              have t1 : decide (r1 < r1) = false := decide_eq_false (by omega)
              have t3 : decide (x0 ≤ r0) = false := decide_eq_false (by omega)
              clear hr hi0 hpr h2
              go_wp2
              go_quiet (fail)
              go_wp2
              refine ⟨⟨i + 1, hi1, by go_num, below_drewN HB2.out _⟩, meas_step hin⟩
          · obtain rfl : i = 0 := by omega
            clear HB HH HBI hBj HCW HFI HK
            go_wp2
            go_quiet (fail)
            go_wp2
            refine ⟨⟨0 + 1, hi1, by go_num, below_drewN HB2.out _⟩, meas_step hin⟩
    · obtain rfl : n = i := by omega
      have hnl : ¬ (n : Int) < (n : Int) := by omega
      clear HA HB HH
      go_wp2
      go_ret
      exact ⟨rfl, hBB⟩
end Go.Proofs.YthknjpmhomjobaaGreatDoor
