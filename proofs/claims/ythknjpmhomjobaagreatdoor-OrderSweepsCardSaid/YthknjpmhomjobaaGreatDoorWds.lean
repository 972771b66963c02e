/- Merged: Rgx, Wds. -/
import Derived.OrdersHeld
import Derived.Deep.RegionHeld3
import Derived.Below
import Derived.Test.YthknjpmhomjobaaGreatDoorBkS
import Derived.Test.YthknjpmhomjobaaGreatDoorItV
import Derived.Test.YthknjpmhomjobaaGreatDoorText
import Derived.Lib.ItoaLen
/- A region that draws its order: calls that only make memory may be taken first, too (a generalisation of the library's 'taken first': whatever may be made between two operations is borne). -/
namespace Go.Proofs.YthknjpmhomjobaaGreatDoor
open Go Go.RowKit
set_option linter.unusedVariables false
set_option linter.unusedSimpArgs false
section
variable {P : Program} {ops : Array Oper} {Q : Exit → Act → World → Prop} {md : Region.Mode} {S : World → Prop}

/-- what is yielded in a world: a value there, or a call that hands it back and only makes memory -/
def calmUpon (P : Program) (S : World → Prop) (w : World) (v : Value) : Result Next → Prop
  | .ok (.value u) w' => w' = w ∧ u = v
  | .ok (.enter f args) w' => w' = w ∧ Calls P f args w (fun e w'' => e = .returned v ∧ S w'' ∧ Below w.heap.size w w'')
  | _ => False
/-- in every world that meets S an operation yields v, and leaves a world that meets S -/
def Calm (P : Program) (ops : Array Oper) (S : World → Prop) (o : Oper) (v : Value) (a : Act) : Prop :=
  (Region.wanted o (yielded ops a.tmps) = true ∧ ∀ w, S w → calmUpon P S w v ((execOp a.eval o).run P w)) ∨
  (Region.wanted o (yielded ops a.tmps) = false ∧ v = undef)
theorem Calm.of_same {o : Oper} {v : Value} {a a' : Act} (hy : Calm P ops S o v a) (he : execOp a'.eval o = execOp a.eval o)
    (hw : Region.wanted o (yielded ops a'.tmps) = Region.wanted o (yielded ops a.tmps)) : Calm P ops S o v a' := by
  unfold Calm at *
  rw [he, hw]
  exact hy
theorem Calm.wpOp {i : Nat} {o : Oper} {v : Value} {a : Act} (hi : ops[i]? = some o) (hy : Calm P ops S o v a)
    {K : Act → World → Prop} {w : World} (hS : S w) (h : ∀ w'', S w'' → Below w.heap.size w w'' → K (a.put o.dst v) w'') : wpOp P ops Q i K a w := by
  unfold Go.wpOp
  simp only [hi]
  rcases hy with ⟨hw, hv⟩ | ⟨hw, rfl⟩
  · simp only [hw, if_true]
    refine .inl ?_
    have h3 := hv w hS
    unfold Oper.wp
    generalize (execOp a.eval o).run P w = r at *
    cases r with
    | ok n w' =>
      cases n <;> simp only [calmUpon] at h3 <;> simp only [Oper.upon]
      case value u =>
        obtain ⟨e1, e2⟩ := h3
        rw [e1, e2]
        exact h _ hS (Below.refl _ _)
      case enter f args =>
        obtain ⟨e1, hc⟩ := h3
        rw [e1]
        exact hc.mono fun e w'' ⟨he, hs, hb⟩ => by subst he; exact h _ hs hb
    | halt x w' => simp only [calmUpon] at h3
  · simp only [hw, Bool.false_eq_true, if_false]
    exact h _ hS (Below.refl _ _)
theorem wpOp_putX {j : Nat} {oi oj : Oper} {v : Value} (hj : ops[j]? = some oj) (hap : oi.apart ops oj = true)
    (hsi : ∀ cs b, oi.op ≠ .select cs b) (hsj : ∀ cs b, oj.op ≠ .select cs b)
    (hQ : ∀ c a w, Q (.panic c) (a.put oi.dst v) w → Q (.panic c) a w) {K : Act → World → Prop} {a : Act} {w : World}
    (hy : Calm P ops S oi v a) (h : Go.wpOp P ops Q j K (a.put oi.dst v) w) :
    Go.wpOp P ops Q j (fun a' w' => Calm P ops S oi v a' ∧ K (a'.put oi.dst v) w') a w := by
  obtain ⟨h1, h2, h3⟩ := Oper.apart_spec hap
  have keep : ∀ (a : Act), Calm P ops S oi v a → ∀ u, Calm P ops S oi v (a.put oj.dst u) := fun a hy u =>
    hy.of_same (execOp_put oi hsi a oj.dst u h3) (wanted_put oi a oj.dst u h3)
  have keepD : ∀ d, Calm P ops S oi v { a with defers := d :: a.defers } := fun d => hy.of_same rfl rfl
  unfold Go.wpOp at *
  simp only [hj] at *
  rw [wanted_put oj a oi.dst v h1] at h
  split
  · rename_i hw
    simp only [hw, if_true] at h
    rcases h with h | ⟨hasks, hlets⟩
    case inr => exact .inr ⟨by unfold Oper.asks at *; rw [execOp_put oj hsj a oi.dst v h1] at hasks; exact hasks, hlets⟩
    refine .inl ?_
    unfold Oper.wp at *
    rw [execOp_put oj hsj a oi.dst v h1] at h
    generalize (execOp a.eval oj).run P w = r at *
    cases r with
    | ok n w' =>
      cases n <;> simp only [Oper.upon] at h ⊢
      case value u => exact ⟨keep a hy u, by rw [← Act.put_comm a v u h2]; exact h⟩
      case skip => exact ⟨keep a hy _, by rw [← Act.put_comm a v undef h2]; exact h⟩
      case defer d =>
        refine ⟨keep _ (keepD d) _, ?_⟩
        rw [← Act.put_comm _ v undef h2, ← Act.put_defers]
        exact h
      case enter f args =>
        refine Calls.mono h fun e w'' he => ?_
        cases e with
        | returned u => exact ⟨keep a hy u, by rw [← Act.put_comm a v u h2]; exact he⟩
        | panicked c => exact hQ _ _ _ he
        | outgrown => exact he
      case row row args => exact Rows.mono h fun u w'' he => ⟨keep a hy u, by rw [← Act.put_comm a v u h2]; exact he⟩
    | halt x w' =>
      cases x <;> simp only [Oper.upon] at h ⊢
      case panic u => exact hQ _ _ _ h
  · rename_i hw
    simp only [hw] at h
    exact ⟨keep a hy _, by rw [← Act.put_comm a v undef h2]; exact h⟩
/-- whatever order is picked, and whatever memory is made between two operations -/
def wpX (P : Program) (md : Region.Mode) (ops : Array Oper) (Q : Exit → Act → World → Prop) (S : World → Prop) : Nat → Array Bool → Act → World → Prop
  | 0, listed, a, w => ∀ w1, S w1 → Below w.heap.size w w1 → Region.ready md ops listed = [] ∧ Q .normal a w1
  | fuel + 1, listed, a, w => ∀ w1, S w1 → Below w.heap.size w w1 →
    (Region.ready md ops listed = [] → Q .normal a w1) ∧
    ∀ i ∈ Region.ready md ops listed, Go.wpOp P ops Q i (fun a' w' => S w' ∧ wpX P md ops Q S fuel (listed.setIfInBounds i true) a' w') a w1
theorem wpAny_of_X : ∀ (fuel : Nat) (listed : Array Bool) (a : Act) (w : World), S w → wpX P md ops Q S fuel listed a w → wpAny P md ops Q fuel listed a w
  | 0, _, _, _, hS, h => h _ hS (Below.refl _ _)
  | fuel + 1, _, _, _, hS, h => ⟨(h _ hS (Below.refl _ _)).1, fun i hi => wpOp_mono (fun a' w' h' => wpAny_of_X fuel _ a' w' h'.1 h'.2) ((h _ hS (Below.refl _ _)).2 i hi)⟩
theorem wpX_later : ∀ {fuel : Nat} {listed : Array Bool} {a : Act} {w w2 : World}, wpX P md ops Q S fuel listed a w → Below w.heap.size w w2 → wpX P md ops Q S fuel listed a w2
  | 0, _, _, _, _, h, hb => fun w1 hS hb1 => h w1 hS (Below.trans hb (hb1.mono hb.size))
  | _ + 1, _, _, _, _, h, hb => fun w1 hS hb1 => h w1 hS (Below.trans hb (hb1.mono hb.size))
theorem wpX_first {i : Nat} {oi : Oper} {v : Value} (hi : ops[i]? = some oi) (hsel : ∀ (j : Nat) (o : Oper) cs b, ops[j]? = some o → o.op ≠ .select cs b)
    (hQ : ∀ c a w, Q (.panic c) (a.put oi.dst v) w → Q (.panic c) a w) :
    ∀ (fuel : Nat) (listed : Array Bool) (a : Act) (w : World),
      (∀ j oj, ops[j]? = some oj → j ≠ i → listed.getD j true = false → (∀ e ∈ oj.after, Region.binds md e = true → e.on ≠ i) → oi.apart ops oj = true) →
      i ∈ Region.ready md ops listed → Calm P ops S oi v a →
      wpX P md ops Q S fuel (listed.setIfInBounds i true) (a.put oi.dst v) w → wpX P md ops Q S (fuel + 1) listed a w := by
  intro fuel
  induction fuel with
  | zero =>
    intro listed a w _ hr hy H w1 hS hb
    refine ⟨fun h => (by rw [h] at hr; cases hr), fun j hj => ?_⟩
    by_cases hji : j = i
    · subst hji
      exact hy.wpOp hi hS fun w'' hS2 hb2 => ⟨hS2, wpX_later (wpX_later H hb) hb2⟩
    · have := ready_mono hj hji
      rw [(H w1 hS hb).1] at this
      cases this
  | succ fuel ih =>
    intro listed a w hfree hr hy H w1 hS hb
    refine ⟨fun h => (by rw [h] at hr; cases hr), fun j hj => ?_⟩
    by_cases hji : j = i
    · subst hji
      exact hy.wpOp hi hS fun w'' hS2 hb2 => ⟨hS2, wpX_later (wpX_later H hb) hb2⟩
    · have h1 := (H w1 hS hb).2 j (ready_mono hj hji)
      obtain ⟨hjun, oj, hoj, hall⟩ := mem_ready.1 hj
      have hnot : ∀ e ∈ oj.after, Region.binds md e = true → e.on ≠ i := fun e he hb heq => by
        have h1 := hall e he hb
        have h0 := (mem_ready.1 hr).1
        rw [heq] at h1
        rcases Nat.lt_or_ge i listed.size with h' | h'
        · simp [h'] at h0 h1; rw [h0] at h1; cases h1
        · simp [Array.getElem?_eq_none h'] at h1
      have h2 := wpOp_putX hoj (hfree j oj hoj hji hjun hnot) (fun cs b => hsel i oi cs b hi) (fun cs b => hsel j oj cs b hoj) hQ hy h1
      have hfree' : ∀ k ok, ops[k]? = some ok → k ≠ i → (listed.setIfInBounds j true).getD k true = false →
          (∀ e ∈ ok.after, Region.binds md e = true → e.on ≠ i) → oi.apart ops ok = true := fun k ok hk hki hun hno => by
        refine hfree k ok hk hki ?_ hno
        by_cases hjk : j = k
        · subst hjk; exact hjun
        · rw [getD_set_ne true hjk] at hun; exact hun
      refine wpOp_mono (fun a' w' h3 => ⟨h3.2.1, ih (listed.setIfInBounds j true) a' w' hfree' (ready_mono hr (Ne.symm hji)) h3.1 ?_⟩) h2
      rw [Array.setIfInBounds_comm _ _ hji]
      exact h3.2.2
/-- more may be known of the worlds from here on, if it stays so whatever is made -/
theorem wpX_more {S' : World → Prop} (hS : ∀ w, S' w → S w) (hcl : ∀ u u' : World, S' u → Below u.heap.size u u' → S u' → S' u') :
    ∀ (fuel : Nat) (listed : Array Bool) (a : Act) (w : World), S' w → wpX P md ops Q S' fuel listed a w → wpX P md ops Q S fuel listed a w
  | 0, _, _, w, h0, h => fun w1 hs hb => h w1 (hcl w w1 h0 hb hs) hb
  | fuel + 1, _, _, w, h0, h => fun w1 hs hb =>
    have h1 := h w1 (hcl w w1 h0 hb hs) hb
    ⟨h1.1, fun i hi => wpOp_mono (fun a' w' h' => ⟨hS w' h'.1, wpX_more hS hcl fuel _ a' w' h'.1 h'.2⟩) (h1.2 i hi)⟩
/-! the moves -/
theorem wpX_take {i : Nat} {oi : Oper} {v : Value} {fuel : Nat} {listed : Array Bool} {a : Act} {w : World} (hi : ops[i]? = some oi) (d : Option Nat) (hd : oi.dst = d)
    (hs : Region.noSelect ops = true) (hf : Region.free md ops listed i = true) (hr : (Region.ready md ops listed).contains i = true)
    (hQ : ∀ c a w, Q (.panic c) (a.put d v) w → Q (.panic c) a w) (hw : Region.wanted oi (yielded ops a.tmps) = true) (hy : ∀ w, S w → (execOp a.eval oi).run P w = .ok (.value v) w)
    (h : wpX P md ops Q S fuel (listed.setIfInBounds i true) (a.put d v) w) : wpX P md ops Q S (fuel + 1) listed a w := by
  subst hd
  exact wpX_first hi (Region.noSelect_spec hs) hQ fuel listed a w (Region.free_spec hi hf) (by simpa using hr) (.inl ⟨hw, fun w hS => by rw [hy w hS]; exact ⟨rfl, rfl⟩⟩) h
theorem wpX_call {i : Nat} {oi : Oper} {v : Value} {fuel : Nat} {listed : Array Bool} {a : Act} {w : World} (f : FuncId) (args : Array Value) (hi : ops[i]? = some oi) (d : Option Nat) (hd : oi.dst = d)
    (hs : Region.noSelect ops = true) (hf : Region.free md ops listed i = true) (hr : (Region.ready md ops listed).contains i = true)
    (hQ : ∀ c a w, Q (.panic c) (a.put d v) w → Q (.panic c) a w) (hw : Region.wanted oi (yielded ops a.tmps) = true) (hy : ∀ w, (execOp a.eval oi).run P w = .ok (.enter f args) w)
    (hc : ∀ w, S w → Calls P f args w (fun e w'' => e = .returned v ∧ S w'' ∧ Below w.heap.size w w''))
    (h : wpX P md ops Q S fuel (listed.setIfInBounds i true) (a.put d v) w) : wpX P md ops Q S (fuel + 1) listed a w := by
  subst hd
  exact wpX_first hi (Region.noSelect_spec hs) hQ fuel listed a w (Region.free_spec hi hf) (by simpa using hr) (.inl ⟨hw, fun w hS => by rw [hy w]; exact ⟨rfl, hc w hS⟩⟩) h
/-- an operation that is the only one that may come up -/
theorem wpX_one {i : Nat} {o : Oper} {fuel : Nat} {listed : Array Bool} {a : Act} {w : World} (hr : Region.ready md ops listed = [i]) (ho : ops[i]? = some o)
    (h : ∀ w1, S w1 → Below w.heap.size w w1 → ∀ K : Act → World → Prop, Shut (∀ a w, S w → wpX P md ops Q S fuel (listed.setIfInBounds i true) a w → K a w) → if Region.wanted o (yielded ops a.tmps) = true then Oper.wp P o a w1 K Q else K (a.put o.dst undef) w1) : wpX P md ops Q S (fuel + 1) listed a w :=
  fun w1 hS hb => ⟨fun h0 => (by rw [hr] at h0; cases h0), fun j hj => by
    rw [hr] at hj
    obtain rfl : j = i := by simpa using hj
    exact wpOp_step ho fun K' hK => h w1 hS hb K' fun a w hs hx => hK a w ⟨hs, hx⟩⟩
/-- one of two that may come up -/
theorem wpX_two {i j : Nat} {o p : Oper} {fuel : Nat} {listed : Array Bool} {a : Act} {w : World} (hr : Region.ready md ops listed = [i, j]) (ho : ops[i]? = some o) (hp : ops[j]? = some p)
    (h : ∀ w1, S w1 → Below w.heap.size w w1 → ∀ K : Act → World → Prop, Shut (∀ a w, S w → wpX P md ops Q S fuel (listed.setIfInBounds i true) a w → K a w) → if Region.wanted o (yielded ops a.tmps) = true then Oper.wp P o a w1 K Q else K (a.put o.dst undef) w1)
    (h' : ∀ w1, S w1 → Below w.heap.size w w1 → ∀ K : Act → World → Prop, Shut (∀ a w, S w → wpX P md ops Q S fuel (listed.setIfInBounds j true) a w → K a w) → if Region.wanted p (yielded ops a.tmps) = true then Oper.wp P p a w1 K Q else K (a.put p.dst undef) w1) : wpX P md ops Q S (fuel + 1) listed a w :=
  fun w1 hS hb => ⟨fun h0 => (by rw [hr] at h0; cases h0), fun k hk => by
    rw [hr] at hk
    simp only [List.mem_cons, List.not_mem_nil, or_false] at hk
    rcases hk with rfl | rfl
    · exact wpOp_step ho fun K' hK => h w1 hS hb K' fun a w hs hx => hK a w ⟨hs, hx⟩
    · exact wpOp_step hp fun K' hK => h' w1 hS hb K' fun a w hs hx => hK a w ⟨hs, hx⟩⟩
theorem wpX_done {fuel : Nat} {listed : Array Bool} {a : Act} {w : World} (hr : Region.ready md ops listed = []) (h : ∀ w1, S w1 → Below w.heap.size w w1 → Q .normal a w1) : wpX P md ops Q S fuel listed a w := by
  cases fuel with
  | zero => exact fun w1 hS hb => ⟨hr, h w1 hS hb⟩
  | succ n => exact fun w1 hS hb => ⟨fun _ => h w1 hS hb, by rw [hr]; simp⟩
theorem wp_region_X {id : Nat} {a : Act} {w : World} (hm : P.follows .mixedOrders = true) (hS : S w.drew) (h : wpX P .any ops Q S ops.size (Array.replicate ops.size false) a w.drew) : (Code.region id ops true).wp P Q a w :=
  wp_region_any hm (wpAny_of_X _ _ _ _ hS h)
end
end Go.Proofs.YthknjpmhomjobaaGreatDoor

/- An order's words, written and read. -/
namespace Go.Proofs.YthknjpmhomjobaaGreatDoor
open Go.RowKit Go.Sort
set_option linter.unusedVariables false
set_option linter.unusedSimpArgs false

/-- the words of an order -/
def od5 (i p a r t : Int) (j : Nat) : ByteArray := [(⟨(Lib.itoa i).toArray⟩ : ByteArray), ⟨(Lib.itoa p).toArray⟩, ⟨(txt a).toArray⟩, ⟨(Lib.itoa r).toArray⟩, ⟨(txt t).toArray⟩].getD j ⟨#[]⟩
theorem itoa_q (n : Int) (h0 : -999999999 ≤ n) (h1 : n ≤ 999999999) (w : World) (D : Tab w) : Calls Tryz.prog 11 #[.int .i64 n] w fun e w' => e = .returned (.string ⟨(Lib.itoa n).toArray⟩) ∧ Below w.heap.size w w' := by
  refine (Tryz.strconv_Itoa n (by omega) (by omega) w D).mono ?_
  rintro e w' ⟨rfl, k, os, rfl⟩
  exact ⟨rfl, Lib.below_grow _ w (Nat.le_refl _) k os⟩
theorem itoa_len (n : Int) (h0 : -999999999 ≤ n) (h1 : n ≤ 999999999) : (ByteArray.mk (Lib.itoa n).toArray).size ≤ 1000 := by
  have := Lib.itoa_length_le n (by omega) (by omega)
  show (Lib.itoa n).toArray.size ≤ 1000
  simp
  omega
theorem txt_len5 (x : Int) (h : -100000000000 ≤ x) (h' : x ≤ 100000000000) : (ByteArray.mk (txt x).toArray).size ≤ 1000 := by
  have ht : txt x = (if x < 0 then [45] else []) ++ (Lib.decDigits (x.natAbs / 100) ++ (46 :: tailB x.natAbs)) := rfl
  have hl := (tail_facts x.natAbs).2.2
  have hd : (Lib.decDigits (x.natAbs / 100)).length ≤ 9 + 1 := by
    rw [Lib.decDigits_length]
    exact nd_le 9 _ (by omega)
  show (txt x).toArray.size ≤ 1000
  rw [ht]
  by_cases hx : x < 0
  · rw [if_pos hx]; simp [hl]; omega
  · rw [if_neg hx]; simp [hl]; omega
theorem parse_od (i p a r t : Int) (hi : -999999999 ≤ i ∧ i ≤ 999999999) (hp : -999999999 ≤ p ∧ p ≤ 999999999) (ha : -100000000000 ≤ a ∧ a ≤ 100000000000) (hr : -999999999 ≤ r ∧ r ≤ 999999999) (ht : -100000000000 ≤ t ∧ t ≤ 100000000000) (v : Int) (hv : chkO i p a r t = v) :
    ∃ z0 z1 z2 z3 z4 : Int, ((v = 0 ∧ z0 = i ∧ z1 = p ∧ z2 = a ∧ z3 = r ∧ z4 = t) ∨ (v ≠ 0 ∧ z0 = 0 ∧ z1 = 0 ∧ z2 = 0 ∧ z3 = 0 ∧ z4 = 0)) ∧ ∀ (b : Nat) (X : World), (∀ j, j < 5 → X.cell? ⟨b, j, none⟩ = some (.string (od5 i p a r t j))) → Calls Tryz.prog 10 #[.slice (some ⟨b, 0, none⟩) 5 5] X fun e w' => e = .returned (.tuple #[.agg #[.int .i64 z0, .int .i64 z1, .int .i64 z2, .int .i64 z3, .int .i64 z4], .int .i64 v]) ∧ Below X.heap.size X w' := by
  have c := fun (b : Nat) (X : World) (hW : ∀ j, j < 5 → X.cell? ⟨b, j, none⟩ = some (.string (od5 i p a r t j))) => oparse_ok b 5 (od5 i p a r t) X hW i p a r t
    (by show intV (Lib.itoa i).toArray.toList = _; rw [List.toList_toArray]; exact intV_itoa hi.1 hi.2)
    (by show intV (Lib.itoa p).toArray.toList = _; rw [List.toList_toArray]; exact intV_itoa hp.1 hp.2)
    (by show parseP (txt a).toArray.toList = _; rw [List.toList_toArray, parse_txt a (by omega) (by omega), if_pos (amtB_mk ha.1 ha.2)])
    (by show intV (Lib.itoa r).toArray.toList = _; rw [List.toList_toArray]; exact intV_itoa hr.1 hr.2)
    (by show parseP (txt t).toArray.toList = _; rw [List.toList_toArray, parse_txt t (by omega) (by omega), if_pos (amtB_mk ht.1 ht.2)])
    (fun j hj => by
      rcases (by omega : j = 0 ∨ j = 1 ∨ j = 2 ∨ j = 3 ∨ j = 4) with rfl | rfl | rfl | rfl | rfl
      · exact itoa_len i hi.1 hi.2
      · exact itoa_len p hp.1 hp.2
      · exact txt_len5 a ha.1 ha.2
      · exact itoa_len r hr.1 hr.2
      · exact txt_len5 t ht.1 ht.2) v hv
  by_cases h : v = 0
  · refine ⟨i, p, a, r, t, .inl ⟨h, rfl, rfl, rfl, rfl, rfl⟩, fun b X hW => ?_⟩
    have := c b X hW
    rw [if_pos h] at this
    exact this
  · refine ⟨0, 0, 0, 0, 0, .inr ⟨h, rfl, rfl, rfl, rfl, rfl⟩, fun b X hW => ?_⟩
    have := c b X hW
    rw [if_neg h] at this
    exact this
set_option maxRecDepth 100000 in
set_option maxHeartbeats 8000000 in
theorem owords_any (i p a r t : Int) (hi : -999999999 ≤ i ∧ i ≤ 999999999) (hp : -999999999 ≤ p ∧ p ≤ 999999999) (ha : -100000000000 ≤ a ∧ a ≤ 100000000000) (hr : -999999999 ≤ r ∧ r ≤ 999999999) (ht : -100000000000 ≤ t ∧ t ≤ 100000000000) (w : World) (D : Tab w) :
    Calls Tryz.prog 20 #[.agg #[.int .i64 i, .int .i64 p, .int .i64 a, .int .i64 r, .int .i64 t]] w fun e w' => ∃ g, e = .returned (.slice (some ⟨g, 0, none⟩) 5 5) ∧ (∀ j, j < 5 → w'.cell? ⟨g, j, none⟩ = some (.string (od5 i p a r t j))) ∧ Below w.heap.size w w' := by
  have K := bx_new w [.int .i64 i, .int .i64 p, .int .i64 a, .int .i64 r, .int .i64 t] 23
  have NB := below_new w (.cells #[.int .i64 i, .int .i64 p, .int .i64 a, .int .i64 r, .int .i64 t] 23)
  have step : ∀ U V : World, Below U.heap.size U V → (U.cell? ⟨w.heap.size, 0, none⟩ = some (.int .i64 i) ∧ U.cell? ⟨w.heap.size, 1, none⟩ = some (.int .i64 p) ∧ U.cell? ⟨w.heap.size, 2, none⟩ = some (.int .i64 a) ∧ U.cell? ⟨w.heap.size, 3, none⟩ = some (.int .i64 r) ∧ U.cell? ⟨w.heap.size, 4, none⟩ = some (.int .i64 t) ∧ Tab U) → (V.cell? ⟨w.heap.size, 0, none⟩ = some (.int .i64 i) ∧ V.cell? ⟨w.heap.size, 1, none⟩ = some (.int .i64 p) ∧ V.cell? ⟨w.heap.size, 2, none⟩ = some (.int .i64 a) ∧ V.cell? ⟨w.heap.size, 3, none⟩ = some (.int .i64 r) ∧ V.cell? ⟨w.heap.size, 4, none⟩ = some (.int .i64 t) ∧ Tab V) := fun U V hb h => ⟨cell_later hb h.1, cell_later hb h.2.1, cell_later hb h.2.2.1, cell_later hb h.2.2.2.1, cell_later hb h.2.2.2.2.1, h.2.2.2.2.2.below hb⟩
  have bI : ∀ X, (X.cell? ⟨w.heap.size, 0, none⟩ = some (.int .i64 i) ∧ X.cell? ⟨w.heap.size, 1, none⟩ = some (.int .i64 p) ∧ X.cell? ⟨w.heap.size, 2, none⟩ = some (.int .i64 a) ∧ X.cell? ⟨w.heap.size, 3, none⟩ = some (.int .i64 r) ∧ X.cell? ⟨w.heap.size, 4, none⟩ = some (.int .i64 t) ∧ Tab X) → Calls Tryz.prog 11 #[.int .i64 i] X fun e w' => e = .returned (.string ⟨(Lib.itoa i).toArray⟩) ∧ (w'.cell? ⟨w.heap.size, 0, none⟩ = some (.int .i64 i) ∧ w'.cell? ⟨w.heap.size, 1, none⟩ = some (.int .i64 p) ∧ w'.cell? ⟨w.heap.size, 2, none⟩ = some (.int .i64 a) ∧ w'.cell? ⟨w.heap.size, 3, none⟩ = some (.int .i64 r) ∧ w'.cell? ⟨w.heap.size, 4, none⟩ = some (.int .i64 t) ∧ Tab w') ∧ Below X.heap.size X w' := fun X h => (itoa_q i hi.1 hi.2 X h.2.2.2.2.2).mono fun e w' hh => ⟨hh.1, step X w' hh.2 h, hh.2⟩
  have bQ : ∀ X, (X.cell? ⟨w.heap.size, 0, none⟩ = some (.int .i64 i) ∧ X.cell? ⟨w.heap.size, 1, none⟩ = some (.int .i64 p) ∧ X.cell? ⟨w.heap.size, 2, none⟩ = some (.int .i64 a) ∧ X.cell? ⟨w.heap.size, 3, none⟩ = some (.int .i64 r) ∧ X.cell? ⟨w.heap.size, 4, none⟩ = some (.int .i64 t) ∧ Tab X) → Calls Tryz.prog 11 #[.int .i64 p] X fun e w' => e = .returned (.string ⟨(Lib.itoa p).toArray⟩) ∧ (w'.cell? ⟨w.heap.size, 0, none⟩ = some (.int .i64 i) ∧ w'.cell? ⟨w.heap.size, 1, none⟩ = some (.int .i64 p) ∧ w'.cell? ⟨w.heap.size, 2, none⟩ = some (.int .i64 a) ∧ w'.cell? ⟨w.heap.size, 3, none⟩ = some (.int .i64 r) ∧ w'.cell? ⟨w.heap.size, 4, none⟩ = some (.int .i64 t) ∧ Tab w') ∧ Below X.heap.size X w' := fun X h => (itoa_q p hp.1 hp.2 X h.2.2.2.2.2).mono fun e w' hh => ⟨hh.1, step X w' hh.2 h, hh.2⟩
  have bR : ∀ X, (X.cell? ⟨w.heap.size, 0, none⟩ = some (.int .i64 i) ∧ X.cell? ⟨w.heap.size, 1, none⟩ = some (.int .i64 p) ∧ X.cell? ⟨w.heap.size, 2, none⟩ = some (.int .i64 a) ∧ X.cell? ⟨w.heap.size, 3, none⟩ = some (.int .i64 r) ∧ X.cell? ⟨w.heap.size, 4, none⟩ = some (.int .i64 t) ∧ Tab X) → Calls Tryz.prog 11 #[.int .i64 r] X fun e w' => e = .returned (.string ⟨(Lib.itoa r).toArray⟩) ∧ (w'.cell? ⟨w.heap.size, 0, none⟩ = some (.int .i64 i) ∧ w'.cell? ⟨w.heap.size, 1, none⟩ = some (.int .i64 p) ∧ w'.cell? ⟨w.heap.size, 2, none⟩ = some (.int .i64 a) ∧ w'.cell? ⟨w.heap.size, 3, none⟩ = some (.int .i64 r) ∧ w'.cell? ⟨w.heap.size, 4, none⟩ = some (.int .i64 t) ∧ Tab w') ∧ Below X.heap.size X w' := fun X h => (itoa_q r hr.1 hr.2 X h.2.2.2.2.2).mono fun e w' hh => ⟨hh.1, step X w' hh.2 h, hh.2⟩
  have bA : ∀ X, (X.cell? ⟨w.heap.size, 0, none⟩ = some (.int .i64 i) ∧ X.cell? ⟨w.heap.size, 1, none⟩ = some (.int .i64 p) ∧ X.cell? ⟨w.heap.size, 2, none⟩ = some (.int .i64 a) ∧ X.cell? ⟨w.heap.size, 3, none⟩ = some (.int .i64 r) ∧ X.cell? ⟨w.heap.size, 4, none⟩ = some (.int .i64 t) ∧ Tab X) → Calls Tryz.prog 12 #[.int .i64 a] X fun e w' => e = .returned (.string ⟨(txt a).toArray⟩) ∧ (w'.cell? ⟨w.heap.size, 0, none⟩ = some (.int .i64 i) ∧ w'.cell? ⟨w.heap.size, 1, none⟩ = some (.int .i64 p) ∧ w'.cell? ⟨w.heap.size, 2, none⟩ = some (.int .i64 a) ∧ w'.cell? ⟨w.heap.size, 3, none⟩ = some (.int .i64 r) ∧ w'.cell? ⟨w.heap.size, 4, none⟩ = some (.int .i64 t) ∧ Tab w') ∧ Below X.heap.size X w' := fun X h => (text_any a X (by omega) (by omega) h.2.2.2.2.2).mono fun e w' hh => ⟨hh.1, step X w' hh.2 h, hh.2⟩
  have bT : ∀ X, (X.cell? ⟨w.heap.size, 0, none⟩ = some (.int .i64 i) ∧ X.cell? ⟨w.heap.size, 1, none⟩ = some (.int .i64 p) ∧ X.cell? ⟨w.heap.size, 2, none⟩ = some (.int .i64 a) ∧ X.cell? ⟨w.heap.size, 3, none⟩ = some (.int .i64 r) ∧ X.cell? ⟨w.heap.size, 4, none⟩ = some (.int .i64 t) ∧ Tab X) → Calls Tryz.prog 12 #[.int .i64 t] X fun e w' => e = .returned (.string ⟨(txt t).toArray⟩) ∧ (w'.cell? ⟨w.heap.size, 0, none⟩ = some (.int .i64 i) ∧ w'.cell? ⟨w.heap.size, 1, none⟩ = some (.int .i64 p) ∧ w'.cell? ⟨w.heap.size, 2, none⟩ = some (.int .i64 a) ∧ w'.cell? ⟨w.heap.size, 3, none⟩ = some (.int .i64 r) ∧ w'.cell? ⟨w.heap.size, 4, none⟩ = some (.int .i64 t) ∧ Tab w') ∧ Below X.heap.size X w' := fun X h => (text_any t X (by omega) (by omega) h.2.2.2.2.2).mono fun e w' hh => ⟨hh.1, step X w' hh.2 h, hh.2⟩
  have S0 : (w.alloc (.cells #[.int .i64 i, .int .i64 p, .int .i64 a, .int .i64 r, .int .i64 t] 23)).cell? ⟨w.heap.size, 0, none⟩ = some (.int .i64 i) ∧ (w.alloc (.cells #[.int .i64 i, .int .i64 p, .int .i64 a, .int .i64 r, .int .i64 t] 23)).cell? ⟨w.heap.size, 1, none⟩ = some (.int .i64 p) ∧ (w.alloc (.cells #[.int .i64 i, .int .i64 p, .int .i64 a, .int .i64 r, .int .i64 t] 23)).cell? ⟨w.heap.size, 2, none⟩ = some (.int .i64 a) ∧ (w.alloc (.cells #[.int .i64 i, .int .i64 p, .int .i64 a, .int .i64 r, .int .i64 t] 23)).cell? ⟨w.heap.size, 3, none⟩ = some (.int .i64 r) ∧ (w.alloc (.cells #[.int .i64 i, .int .i64 p, .int .i64 a, .int .i64 r, .int .i64 t] 23)).cell? ⟨w.heap.size, 4, none⟩ = some (.int .i64 t) ∧ Tab (w.alloc (.cells #[.int .i64 i, .int .i64 p, .int .i64 a, .int .i64 r, .int .i64 t] 23)) := ⟨K.cell (i := 0) rfl, K.cell (i := 1) rfl, K.cell (i := 2) rfl, K.cell (i := 3) rfl, K.cell (i := 4) rfl, D.below NB⟩
  go_enter Tryz.func20, Tryz.ntmps20
  go_wp2
  refine wp_region_X (S := fun X => X.cell? ⟨w.heap.size, 0, none⟩ = some (.int .i64 i) ∧ X.cell? ⟨w.heap.size, 1, none⟩ = some (.int .i64 p) ∧ X.cell? ⟨w.heap.size, 2, none⟩ = some (.int .i64 a) ∧ X.cell? ⟨w.heap.size, 3, none⟩ = some (.int .i64 r) ∧ X.cell? ⟨w.heap.size, 4, none⟩ = some (.int .i64 t) ∧ Tab X) (by kernel_rfl) S0 ?_
  refine wpX_take (i := 0) (v := ?_) rfl (some 3) (by rfl) (by kernel_rfl) (by kernel_rfl) (by kernel_rfl) (fun _ _ _ h => h) (by rfl) (by intro X hSw; (try dsimp only at hSw); go_simp; with_reducible rfl) ?_
  try simp only [Act.put, List.setIfInBounds_toArray, List.set_cons_zero, List.set_cons_succ]
  refine wpX_take (i := 1) (v := ?_) rfl (some 4) (by rfl) (by kernel_rfl) (by kernel_rfl) (by kernel_rfl) (fun _ _ _ h => h) (by rfl) (by intro X hSw; (try dsimp only at hSw); go_simp; with_reducible rfl) ?_
  try simp only [Act.put, List.setIfInBounds_toArray, List.set_cons_zero, List.set_cons_succ]
  refine wpX_call (i := 2) (v := .string ⟨(Lib.itoa i).toArray⟩) 11 #[.int .i64 i] rfl (some 5) (by rfl) (by kernel_rfl) (by kernel_rfl) (by kernel_rfl) (fun _ _ _ h => h) (by rfl) (fun _ => by kernel_rfl) (fun X h => bI X h) ?_
  try simp only [Act.put, List.setIfInBounds_toArray, List.set_cons_zero, List.set_cons_succ]
  refine wpX_take (i := 3) (v := ?_) rfl (some 6) (by rfl) (by kernel_rfl) (by kernel_rfl) (by kernel_rfl) (fun _ _ _ h => h) (by rfl) (by intro X hSw; (try dsimp only at hSw); go_simp; with_reducible rfl) ?_
  try simp only [Act.put, List.setIfInBounds_toArray, List.set_cons_zero, List.set_cons_succ]
  refine wpX_take (i := 4) (v := ?_) rfl (some 7) (by rfl) (by kernel_rfl) (by kernel_rfl) (by kernel_rfl) (fun _ _ _ h => h) (by rfl) (by intro X hSw; (try dsimp only at hSw); go_simp; with_reducible rfl) ?_
  try simp only [Act.put, List.setIfInBounds_toArray, List.set_cons_zero, List.set_cons_succ]
  refine wpX_call (i := 5) (v := .string ⟨(Lib.itoa p).toArray⟩) 11 #[.int .i64 p] rfl (some 8) (by rfl) (by kernel_rfl) (by kernel_rfl) (by kernel_rfl) (fun _ _ _ h => h) (by rfl) (fun _ => by kernel_rfl) (fun X h => bQ X h) ?_
  try simp only [Act.put, List.setIfInBounds_toArray, List.set_cons_zero, List.set_cons_succ]
  refine wpX_take (i := 6) (v := ?_) rfl (some 9) (by rfl) (by kernel_rfl) (by kernel_rfl) (by kernel_rfl) (fun _ _ _ h => h) (by rfl) (by intro X hSw; (try dsimp only at hSw); go_simp; with_reducible rfl) ?_
  try simp only [Act.put, List.setIfInBounds_toArray, List.set_cons_zero, List.set_cons_succ]
  refine wpX_take (i := 7) (v := ?_) rfl (some 10) (by rfl) (by kernel_rfl) (by kernel_rfl) (by kernel_rfl) (fun _ _ _ h => h) (by rfl) (by intro X hSw; (try dsimp only at hSw); go_simp; with_reducible rfl) ?_
  try simp only [Act.put, List.setIfInBounds_toArray, List.set_cons_zero, List.set_cons_succ]
  refine wpX_call (i := 8) (v := .string ⟨(txt a).toArray⟩) 12 #[.int .i64 a] rfl (some 11) (by rfl) (by kernel_rfl) (by kernel_rfl) (by kernel_rfl) (fun _ _ _ h => h) (by rfl) (fun _ => by kernel_rfl) (fun X h => bA X h) ?_
  try simp only [Act.put, List.setIfInBounds_toArray, List.set_cons_zero, List.set_cons_succ]
  refine wpX_take (i := 9) (v := ?_) rfl (some 12) (by rfl) (by kernel_rfl) (by kernel_rfl) (by kernel_rfl) (fun _ _ _ h => h) (by rfl) (by intro X hSw; (try dsimp only at hSw); go_simp; with_reducible rfl) ?_
  try simp only [Act.put, List.setIfInBounds_toArray, List.set_cons_zero, List.set_cons_succ]
  refine wpX_take (i := 10) (v := ?_) rfl (some 13) (by rfl) (by kernel_rfl) (by kernel_rfl) (by kernel_rfl) (fun _ _ _ h => h) (by rfl) (by intro X hSw; (try dsimp only at hSw); go_simp; with_reducible rfl) ?_
  try simp only [Act.put, List.setIfInBounds_toArray, List.set_cons_zero, List.set_cons_succ]
  refine wpX_call (i := 11) (v := .string ⟨(Lib.itoa r).toArray⟩) 11 #[.int .i64 r] rfl (some 14) (by rfl) (by kernel_rfl) (by kernel_rfl) (by kernel_rfl) (fun _ _ _ h => h) (by rfl) (fun _ => by kernel_rfl) (fun X h => bR X h) ?_
  try simp only [Act.put, List.setIfInBounds_toArray, List.set_cons_zero, List.set_cons_succ]
  refine wpX_take (i := 12) (v := ?_) rfl (some 15) (by rfl) (by kernel_rfl) (by kernel_rfl) (by kernel_rfl) (fun _ _ _ h => h) (by rfl) (by intro X hSw; (try dsimp only at hSw); go_simp; with_reducible rfl) ?_
  try simp only [Act.put, List.setIfInBounds_toArray, List.set_cons_zero, List.set_cons_succ]
  refine wpX_take (i := 13) (v := ?_) rfl (some 16) (by rfl) (by kernel_rfl) (by kernel_rfl) (by kernel_rfl) (fun _ _ _ h => h) (by rfl) (by intro X hSw; (try dsimp only at hSw); go_simp; with_reducible rfl) ?_
  try simp only [Act.put, List.setIfInBounds_toArray, List.set_cons_zero, List.set_cons_succ]
  refine wpX_call (i := 14) (v := .string ⟨(txt t).toArray⟩) 12 #[.int .i64 t] rfl (some 17) (by rfl) (by kernel_rfl) (by kernel_rfl) (by kernel_rfl) (fun _ _ _ h => h) (by rfl) (fun _ => by kernel_rfl) (fun X h => bT X h) ?_
  try simp only [Act.put, List.setIfInBounds_toArray, List.set_cons_zero, List.set_cons_succ]
  refine wpX_one (i := 15) (by kernel_rfl) rfl ?_
  intro w1 hS1 hb1 KK hK
  go_simp
  refine hK.out _ _ (step w1 _ (below_new w1 _) hS1) ?_
  have hbW := below_new w1 (.cells #[.string ⟨(Lib.itoa i).toArray⟩, .string ⟨(Lib.itoa p).toArray⟩, .string ⟨(txt a).toArray⟩, .string ⟨(Lib.itoa r).toArray⟩, .string ⟨(txt t).toArray⟩] 9)
  have KW := bx_new w1 [.string ⟨(Lib.itoa i).toArray⟩, .string ⟨(Lib.itoa p).toArray⟩, .string ⟨(txt a).toArray⟩, .string ⟨(Lib.itoa r).toArray⟩, .string ⟨(txt t).toArray⟩] 9
  try simp only [Act.put, List.setIfInBounds_toArray, List.set_cons_zero, List.set_cons_succ]
  refine wpX_take (i := 16) (v := ?_) rfl (some 2) (by rfl) (by kernel_rfl) (by kernel_rfl) (by kernel_rfl) (fun _ _ _ h => h) (by rfl) (by intro X hSw; (try dsimp only at hSw); go_simp; with_reducible rfl) ?_
  try simp only [Act.put, List.setIfInBounds_toArray, List.set_cons_zero, List.set_cons_succ]
  refine wpX_done (by kernel_rfl) ?_
  intro w2 hS2 hb2
  have BW := below_step (below_step NB.drew hb1 NB.drew.size) hbW (Nat.le_trans NB.drew.size hb1.size)
  have BZ := Lib.hid (below_step BW hb2 BW.size)
  have KZ := Lib.hid (KW.below hb2)
  clear hb1 hK hbW KW hb2 BW hS1 hS2 S0 step bI bQ bR bA bT K NB
  go_wp2
  go_ret
  refine ⟨w1.heap.size, rfl, fun j hj => ?_, BZ.out⟩
  rcases (by omega : j = 0 ∨ j = 1 ∨ j = 2 ∨ j = 3 ∨ j = 4) with rfl | rfl | rfl | rfl | rfl
  · exact KZ.out.cell (i := 0) rfl
  · exact KZ.out.cell (i := 1) rfl
  · exact KZ.out.cell (i := 2) rfl
  · exact KZ.out.cell (i := 3) rfl
  · exact KZ.out.cell (i := 4) rfl
end Go.Proofs.YthknjpmhomjobaaGreatDoor
