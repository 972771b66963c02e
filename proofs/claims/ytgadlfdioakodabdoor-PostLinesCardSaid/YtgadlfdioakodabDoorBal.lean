/- What post.Balances answers of any book, up to the sorting: its loop. -/
import Derived.Test.YtgadlfdioakodabDoorPoD
import Derived.Test.YtgadlfdioakodabDoorBalC
import Derived.Deep.Onto
namespace Go.Proofs.YtgadlfdioakodabDoor
open Go.RowKit Go.Sort Go.Maps
set_option linter.unusedVariables false
set_option linter.unusedSimpArgs false

/-- entries with another behind them -/
def putE (f : Nat → En) (n : Nat) (x : En) (i : Nat) : En := if i = n then x else f i
theorem putE_at (f : Nat → En) (n : Nat) (x : En) : putE f n x n = x := if_pos rfl
theorem putE_lt {f : Nat → En} {n : Nat} {x : En} {i : Nat} (h : i < n) : putE f n x i = f i := if_neg (by omega)
theorem enL_ext {f g : Nat → En} : ∀ {n : Nat}, (∀ i, i < n → f i = g i) → enL f n = enL g n
  | 0, _ => rfl
  | n + 1, h => by
    show enL f n ++ enC (f n) = enL g n ++ enC (g n)
    rw [enL_ext (fun i hi => h i (by omega)), h n (by omega)]
theorem enL_put (f : Nat → En) (n : Nat) (x : En) : enL (putE f n x) (n + 1) = enL f n ++ enC x := by
  show enL (putE f n x) n ++ enC (putE f n x n) = _
  rw [putE_at, enL_ext (fun i hi => putE_lt hi)]
theorem inB_ext {f g : Nat → En} {l : List UInt8} : ∀ {n : Nat}, (∀ i, i < n → f i = g i) → inB f n l = inB g n l
  | 0, _ => rfl
  | n + 1, h => by
    show (decide (l = acc f n) || inB f n l) = (decide (l = acc g n) || inB g n l)
    rw [inB_ext (fun i hi => h i (by omega))]
    unfold acc
    rw [h n (by omega)]
theorem inB_put {f : Nat → En} {n : Nat} {x : En} {l : List UInt8} : inB (putE f n x) (n + 1) l = (decide (l = x.1.data.toList) || inB f n l) := by
  show (decide (l = acc (putE f n x) n) || inB (putE f n x) n l) = _
  unfold acc
  rw [putE_at, inB_ext (fun i hi => putE_lt hi)]
/-- so many entries say all accounts that aren't still to come, each once, and what stands on it -/
def Said (M : List UInt8 → Int) (P : List UInt8 → Bool) (left : Lit → Bool) (f : Nat → En) (n : Nat) : Prop :=
  (∀ l, inB f n l = (P l && !left (.string l))) ∧ (∀ i, i < n → (f i).2 = M (acc f i)) ∧ (∀ i, i < n → inB f i (acc f i) = false) ∧ ∀ i, i < n → (f i).1.size ≤ maxLen
theorem Said.start {M : List UInt8 → Int} {P : List UInt8 → Bool} {left : Lit → Bool} (h : ∀ l, left (.string l) = P l) (f : Nat → En) : Said M P left f 0 :=
  ⟨fun l => by rw [h]; cases P l <;> rfl, fun i hi => absurd hi (Nat.not_lt_zero _), fun i hi => absurd hi (Nat.not_lt_zero _), fun i hi => absurd hi (Nat.not_lt_zero _)⟩
theorem Said.step {M : List UInt8 → Int} {P : List UInt8 → Bool} {left : Lit → Bool} {f : Nat → En} {n : Nat} (h : Said M P left f n) {x : List UInt8} (hl : left (.string x) = true) (hp : P x = true) (hx : x.length ≤ maxLen) : Said M P (fun z => left z && !z.sameKey (.string x)) (putE f n (⟨x.toArray⟩, M x)) (n + 1) := by
  obtain ⟨h1, h2, h3, h4⟩ := h
  refine ⟨fun l => ?_, fun i hi => ?_, fun i hi => ?_, fun i hi => ?_⟩
  · rw [inB_put, h1]
    by_cases hz : l = x
    · subst hz
      have e : (Lit.string l).sameKey (.string l) = true := WideAt.sameKey_self (by trivial)
      simp [e, hp]
    · have e : (Lit.string l).sameKey (.string x) = false := sameKey_ne (by simpa using hz)
      simp [hz, e]
  · by_cases e : i = n
    · subst e; unfold acc; rw [putE_at]
    · unfold acc; rw [putE_lt (by omega)]; exact h2 i (by omega)
  · by_cases e : i = n
    · subst e; unfold acc; rw [putE_at, inB_ext (fun i hi => putE_lt hi)]
      show inB f i x = false
      rw [h1, hl]; simp
    · unfold acc; rw [putE_lt (by omega), inB_ext (fun j hj => putE_lt (by omega))]; exact h3 i (by omega)
  · by_cases e : i = n
    · subst e; rw [putE_at]; simpa [ByteArray.size] using hx
    · rw [putE_lt (by omega)]; exact h4 i (by omega)
theorem inB_iff {f : Nat → En} {l : List UInt8} : ∀ {n : Nat}, inB f n l = true ↔ ∃ i, i < n ∧ acc f i = l
  | 0 => ⟨fun h => (nomatch h), fun ⟨i, hi, _⟩ => absurd hi (Nat.not_lt_zero _)⟩
  | n + 1 => by
    show (decide (l = acc f n) || inB f n l) = true ↔ _
    rw [Bool.or_eq_true, decide_eq_true_eq, inB_iff]
    constructor
    · rintro (e | ⟨i, hi, e⟩)
      · exact ⟨n, Nat.lt_succ_self _, e.symm⟩
      · exact ⟨i, by omega, e⟩
    · rintro ⟨i, hi, e⟩
      by_cases h : i = n
      · subst h; exact .inl e.symm
      · exact .inr ⟨i, by omega, e⟩
theorem mem_arrE {f : Nat → En} {n : Nat} {x : En} : x ∈ (arrE f n).toList ↔ ∃ i, i < n ∧ f i = x := by
  simp [arrE]
/-- entries that say all of a book's accounts, in their order, each once, and what stands on it -/
def Full (M : List UInt8 → Int) (P : List UInt8 → Bool) (f : Nat → En) (n : Nat) : Prop :=
  (∀ l, inB f n l = P l) ∧ (∀ i, i < n → (f i).2 = M (acc f i)) ∧ (∀ i j, i < j → j < n → acc f i < acc f j) ∧ ∀ i, i < n → (f i).1.size ≤ maxLen
theorem nodup_arr {f : Nat → En} {n : Nat} (h : ∀ i, i < n → inB f i (acc f i) = false) : ((arrE f n).toList.map fun x => x.1.data.toList).Nodup := by
  refine List.pairwise_iff_getElem.2 fun i j hi hj hij => ?_
  have hj' : j < n := by simpa [arrE] using hj
  have h2 := h j hj'
  intro e
  have e' : acc f i = acc f j := by simpa [arrE, acc] using e
  rw [inB_iff.2 ⟨i, hij, e'⟩] at h2
  cases h2
theorem arr_nodup {f : Nat → En} {n i j : Nat} (h : ((arrE f n).toList.map fun x => x.1.data.toList).Nodup) (hij : i < j) (hj : j < n) : acc f i ≠ acc f j := by
  have a := List.pairwise_iff_getElem.1 h i j (by simp [arrE]; omega) (by simp [arrE]; omega) hij
  simpa [arrE, acc] using a
theorem Said.full {M : List UInt8 → Int} {P : List UInt8 → Bool} {f g : Nat → En} {n : Nat} (h : Said M P (fun _ => false) f n) (hp : (arrE g n).toList.Perm (arrE f n).toList) (hs : SortE g n) : Full M P g n := by
  obtain ⟨h1, h2, h3, h4⟩ := h
  have hm : ∀ i, i < n → ∃ j, j < n ∧ f j = g i := fun i hi => mem_arrE.1 (hp.mem_iff.1 (mem_arrE.2 ⟨i, hi, rfl⟩))
  have hn := (hp.map fun x => x.1.data.toList).nodup_iff.2 (nodup_arr h3)
  refine ⟨fun l => ?_, fun i hi => ?_, fun i j hij hj => ?_, fun i hi => ?_⟩
  · have e : inB f n l = P l := by rw [h1]; simp
    rw [← e]
    refine Bool.eq_iff_iff.2 ⟨fun h => ?_, fun h => ?_⟩
    · obtain ⟨i, hi, e⟩ := inB_iff.1 h
      obtain ⟨j, hj, e2⟩ := hm i hi
      exact inB_iff.2 ⟨j, hj, by rw [← e]; unfold acc; rw [e2]⟩
    · obtain ⟨i, hi, e⟩ := inB_iff.1 h
      obtain ⟨j, hj, e2⟩ := mem_arrE.1 (hp.mem_iff.2 (mem_arrE.2 ⟨i, hi, rfl⟩))
      exact inB_iff.2 ⟨j, hj, by rw [← e]; unfold acc; rw [e2]⟩
  · obtain ⟨j, hj, e⟩ := hm i hi
    have := h2 j hj
    unfold acc at this ⊢
    rwa [e] at this
  · have a := hs i j hij hj
    exact lt_of_not a (fun e => arr_nodup hn hij hj e.symm)
  · obtain ⟨j, hj, e⟩ := hm i hi
    rw [← e]
    exact h4 j hj
set_option maxRecDepth 100000 in
set_option maxHeartbeats 8000000 in
theorem bal_any {W : World} {p b c : Nat} {k : Int} {M : List UInt8 → Int} {P : List UInt8 → Bool} (h : BkA W p b c k M P) (hc : c ≤ 100000) (hsz : ∀ l, P l = true → l.length ≤ 281474976710656) :
    Calls Tryd.prog 15 #[.pointer (some ⟨p, 0, none⟩)] W fun e w' => ∃ v n f, e = .returned v ∧ w'.ownsRow W.heap.size 26 2 v n (enL f n) ∧ Below W.heap.size W w' ∧ n ≤ c ∧ Full M P f n := by
  obtain ⟨i0, hi0, hz0, hz1, hz2⟩ := info_parts infoEn
  have Hi := Lib.hid hi0
  have Hz := Lib.hid hz0
  obtain ⟨D, hown, hIs, hAt, hHas⟩ := h.2
  have c0 := h.1.cell (i := 0) rfl
  have HB := Lib.hid h
  have HD := Lib.hid (And.intro hIs (And.intro hAt hHas))
  have HC := Lib.hid hc
  have HZ := Lib.hid hsz
  have HSD := Lib.hid hown.size_le
  have hbw : b < W.heap.size := h.2.lt
  have HBW := Lib.hid hbw
  clear hi0 hz0 hc hsz hIs hAt hHas h
  go_enter Tryd.func15, Tryd.ntmps15
  go_wp2_with (at_range; refine wpList_range_own _ rfl _ 37 rfl 9 2 keyedS Tryd.underlying37 _ b c D rfl hown ?_; intro w0 hrg0 hg0 hs0)
  have hst := Said.start (M := M) (P := P) (left := has D) HD.out.2.2 (fun _ => (⟨#[]⟩, 0))
  have hB0 : Below W.heap.size W w0 := (Below.refl _ _).grown hg0 (Nat.le_refl _) (fun k hk => by cases hk)
  have hw0 : W.heap.size + 1 ≤ w0.heap.size := Nat.le_of_eq hs0.symm
  go_frame
  go_loopw [3] (fun v X => ∃ (left : Lit → Bool) (cn n : Nat) (f : Nat → En), X.ranges Tryd.prog 9 (plainElem Tryd.prog 2) b W.heap.size c D left cn ∧ X.ownsRow (W.heap.size + 1) 26 2 v n (enL f n) ∧ n + cn ≤ c ∧ W.heap.size + 1 ≤ X.heap.size ∧ Below W.heap.size W X ∧ Said M P left f n) (fun _ X => X.rangeLeft b W.heap.size)
  case atStart => exact ⟨_, _, 0, _, hrg0, World.ownsRow_nil _ _ _ _, by have := HSD.out; omega, hw0, hB0, hst⟩
  case round =>
    clear hrg0 hg0 hs0 hst hB0 hw0 c0 hown
    obtain ⟨left, cn, n, f, hrg, hown, hcc, hwl, hbX, hS⟩ := hrel
    go_wp2_with (at_next; refine wpList_next_ranges _ rfl _ rfl 9 keyedS (plainElem Tryd.prog 2) (fun l : List UInt8 => Value.string ⟨l.toArray⟩) (Value.int .i64) invStr invInt b W.heap.size c D left cn rfl hrg ?_ ?_)
    · intro hc0 hl0
      obtain rfl : left = fun _ => false := funext hl0
      have hn : n ≤ c := by omega
      have HN := Lib.hid hn
      have HS := Lib.hid hS
      have HB9 := Lib.hid hbX
      have hn2 : n ≤ 100000 := Nat.le_trans hn HC.out
      have HR := Lib.hid hown.lt
      have hcon := sort_en hown hn2
      clear hrg hcc hwl hbX hS hc0 hl0 hn hn2 hown
      go_wp2_with (fail)
      with_reducible refine hcon.mono ?_
      rintro e w9 ⟨rfl, f', hown9, hperm, hsort, hg9⟩
      have hB9 := HB9.out.grown hg9 HB9.out.size (fun k hk => by have := (HR.out k hk).1; omega)
      clear hcon
      go_wp2
      go_ret
      exact ⟨_, n, f', rfl, hown9.mono (Nat.le_succ _), hB9, HN.out, HS.out.full hperm hsort⟩
    · intro x cv kl y yp w2 cn' hkx hlx hRy hat hrg1 hlt1 hg1 hs1 hen
      obtain ⟨x2, hx2, rfl, hxl⟩ := Maps.keyOf_str Tryd.underlying9 hkx
      have hxx : (⟨x.toArray⟩ : ByteArray) = ⟨x2.toArray⟩ := Value.string.inj hx2
      have hx3 : x = x2 := by
        have := congrArg (fun s : ByteArray => s.data.toList) hxx
        simpa using this
      subst hx3
      obtain ⟨cv', e1, e2, _⟩ := plainElem_int_inv Tryd.underlying2 hRy
      obtain rfl : cv = cv' := by simpa using e1
      obtain ⟨rfl, _⟩ := Prod.mk.inj e2
      have hpx : P x = true := by rw [← HD.out.2.2]; exact has_true_of_atKey hat
      have hcv : M x = cv := by
        have a := hat (.lit (.int .i64 0))
        rw [HD.out.2.1] at a
        simpa using a
      have hxs : x.length ≤ 281474976710656 := HZ.out x hpx
      have HS := Lib.hid (hS.step hlx hpx hxl)
      rw [hcv] at HS
      have hB2 : Below W.heap.size W w2 := hbX.grown hg1 hbX.size (fun k hk => by have := Option.some.inj hk; omega)
      have hO2 := hown.kept hg1 (.inr fun e => by have := hown.lt _ e; omega)
      have HRL := Lib.hid hrg.left_eq
      have HLT := Lib.hid hlt1
      have HCC := Lib.hid (And.intro hcc HC.out)
      have HRG := Lib.hid hrg1
      have HNX : Hid (enL (putE f n (⟨x.toArray⟩, cv)) (n + 1) = enL f n ++ [.string ⟨x.toArray⟩, .int .i64 cv]) := Lib.hid (enL_put f n _)
      have hc3 : Hid (n + 1 ≤ maxLen) := Lib.hid (by have := HCC.out; unfold maxLen; omega)
      have hc4 : Hid ((n + 1) * 24 ≤ 140737488355328) := Lib.hid (by have := HCC.out; omega)
      have hwl2 : W.heap.size + 1 ≤ w2.heap.size := by omega
      have cl := fun w => strclone_any ⟨x.toArray⟩ w (by simpa [ByteArray.size] using hxs)
      have hw : Below w2.heap.size w2 w2.drew := (Below.refl _ _).drew
      have hone : ∀ u ∈ ([.string ⟨x.toArray⟩, .int .i64 cv] : List Value), u.oneCell' = true := by simp [Value.oneCell']
      clear hx2 hxx hRy hat e1 e2 hlx hlt1 hs1 hg1 hxl hkx hcc hwl hbX hS hrg hrg1 hown hpx hcv hxs
      go_wp2_with (fail)
      with_reducible refine (cl _).mono ?_
      rintro e w6 ⟨rfl, hw6⟩
      have b6 := below_step hB2 hw6 hB2.size
      have own6 := own_below hO2 hw6
      have b7 := b6.alloc b6.size (.cells #[.string ⟨x.toArray⟩, .int .i64 cv] 26)
      have own7 := own_below own6 (below_new w6 (.cells #[.string ⟨x.toArray⟩, .int .i64 cv] 26))
      have hb7 := below_new w6 (.cells #[.string ⟨x.toArray⟩, .int .i64 cv] 26)
      have hs7 := Nat.le_trans hwl2 (Nat.le_trans hw6.size hb7.size)
      go_wp2_with (refine wpList_append_lies _ rfl (.tmp 16) (.tmp 21) 22 rfl (W.heap.size + 1) 26 i0 (.agg #[.string ⟨#[]⟩, .int .i64 0]) 2 24 Tryd.underlying22 Hi.out Hz.out hz1 hz2 (by rfl) (by decide) _ n (enL f n) (by rfl) own7 ⟨_, 0, none⟩ 1 1 [.string ⟨x.toArray⟩, .int .i64 cv] (by rfl) (by rfl) (cells_at2 _ _ _ _ rfl) hone (by decide) hc3.out hc4.out hs7 _ rfl ?_; intro g9 cap9 w9 hown9 hgrow hat hlt9)
      have B9 := b7.grown hgrow b7.size (fun k hk => by have := (own7.lt k hk).1; omega)
      have hw7 := hw6.alloc hw6.size (.cells #[.string ⟨x.toArray⟩, .int .i64 cv] 26)
      have hR7 := ranges_keep HRG.out (hw7.block _ (by omega)) (hw7.block _ (by omega))
      have hR9 := hR7.kept hgrow (fun e => by have := own7.lt _ e.symm; omega) (fun e => by have := own7.lt _ e.symm; omega)
      have hms : w9.rangeLeft b W.heap.size < wr.rangeLeft b W.heap.size := by rw [hR9.left_eq, HRL.out]; exact HLT.out
      have hw9 : W.heap.size + 1 ≤ w9.heap.size := Nat.le_trans hs7 hgrow.size
      have HALL : Hid (_ ∧ _ ∧ _ ∧ _ ∧ _) := Lib.hid (And.intro hR9 (And.intro hown9 (And.intro hw9 (And.intro B9 hms))))
      clear hms hw9 hR9 hR7 hw7 B9 hown9 hgrow hat hlt9 own7 own6 b7 b6 hb7 hs7 hw6 cl hw hB2 hO2
      go_wp2
      exact ⟨⟨_, cn', n + 1, _, HALL.out.1, by rw [HNX.out]; exact HALL.out.2.1, by have := HCC.out; have := HLT.out; omega, HALL.out.2.2.1, HALL.out.2.2.2.1, HS.out⟩, HALL.out.2.2.2.2⟩
end Go.Proofs.YtgadlfdioakodabDoor
