/- CodeChecks: the whole walk. -/
import Derived.Test.YthndkplmhpbgdaaDoorCodG
import Derived.Test.YthndkplmhpbgdaaDoorCodN
namespace Go.Proofs.YthndkplmhpbgdaaDoor
open Go.RowKit
set_option linter.unusedVariables false
set_option linter.unusedSimpArgs false

/-- what is held of memory: a code in its place -/
def KD (w : World) (s k a f : Int) (x : Bool) (W : World) : Prop := Below w.heap.size w W ∧ Cb W w.heap.size s k a f x ∧ Tab W
theorem KD.step {w W W' : World} {s k a f : Int} {x : Bool} (h : KD w s k a f x W) (hb : Below W.heap.size W W') : KD w s k a f x W' := by
  obtain ⟨B, C, T⟩ := h
  exact ⟨below_step B hb B.size, C.step hb, T.below hb⟩
theorem kd_new (w : World) (s k a f : Int) (x : Bool) (D : Tab w) : KD w s k a f x (w.alloc (.cells #[.int .i64 s, .int .i64 k, .int .i64 a, .int .i64 f, .bool x] 41)) :=
  ⟨below_new w _, cb_new w s k a f x 41, D.below (below_new w _)⟩
/-- a code's text -/
theorem text_t (s k a f : Int) (x : Bool) (h : chkC s k a f = 0) : ∃ T : ByteArray, T.data.toList = txtC s k a f x ∧ 0 < T.size ∧ T.size ≤ 20 ∧ ∀ w, Tab w → Calls Tryd.prog 26 #[.agg #[.int .i64 s, .int .i64 k, .int .i64 a, .int .i64 f, .bool x]] w fun e w' => e = .returned (.string T) ∧ Below w.heap.size w w' := by
  have hl : (txtC s k a f x).length ≤ 20 := by
    obtain ⟨s0, s7, hfit⟩ := chkC_zero h
    obtain ⟨k1, k4, a0, a9, _, f0, f7⟩ := fitB_bd hfit
    have := kndT_len (k := k) a0 a9 f0 f7
    rw [txtC_of h]
    have h1 : (schT s).length ≤ 1 := by unfold schT; split <;> simp
    have h2 : (xT x).length ≤ 1 := by unfold xT; split <;> simp
    simp only [List.length_append]
    omega
  have hn : txtC s k a f x ≠ [] := fun e => (txtC_empty s k a f x).1 e h
  refine ⟨⟨(txtC s k a f x).toArray⟩, rfl, ?_, ?_, fun w D => text_ok s k a f x w D h⟩
  · show 0 < (txtC s k a f x).toArray.size
    rw [List.size_toArray]
    exact List.length_pos_iff.2 hn
  · show (txtC s k a f x).toArray.size ≤ 20
    rw [List.size_toArray]
    exact hl
set_option maxHeartbeats 2000000 in
set_option maxRecDepth 100000 in
theorem cchecks_s0 (s k a f : Int) (x : Bool) (w : World) (D : Tab w) (ba : -9223372036854775808 ≤ a ∧ a ≤ 9223372036854775807) (v : Int) (hv : chkC s k a f = v) (hz : v ≠ 0) (h8 : v = 81) (h : s < 0) :
    Calls Tryd.prog 8 #[.agg #[.int .i64 s, .int .i64 k, .int .i64 a, .int .i64 f, .bool x]] w fun e w' => e = .returned (.bool true) ∧ Below w.heap.size w w' := by
  have tx : ∀ w, Calls Tryd.prog 26 #[.agg #[.int .i64 s, .int .i64 k, .int .i64 a, .int .i64 f, .bool x]] w fun e w' => e = .returned (.string ⟨#[]⟩) ∧ Below w.heap.size w w' := fun w => by
    have := text_bad s k a f x w ba.1 ba.2 (by rw [hv]; exact hz)
    rw [txtC_bad (by rw [hv]; exact hz)] at this
    exact this
  have ck := fun w => check_c s k a f x v hv w ba.1 ba.2
  have f0 := freeV_bad (n := 1) (d := 1) (s := s) (k := k) (a := a) (f := f) (by rw [hv]; exact hz)
  rw [hv] at f0
  have fr := fun w => free_v s k a f 1 1 x 0 v f0 w ba.1 ba.2
  have ch := fun w => charge_v s k a f 5 1 1 x 0 v (chargeV_free f0 hz) w ba.1 ba.2
  clear f0 hv hz
  subst h8

  have K0 := kd_new w s k a f x D
  have C0 := fun w D => codes_any w D
  go_enter Tryd.func8, Tryd.ntmps8
  go_wp2_with (fail)
  refine (C0 _ K0.2.2).mono ?_
  rintro e w1 ⟨rfl, hb⟩
  have H := K0.step hb
  clear hb K0 C0
  obtain ⟨B, ⟨⟨d0, d1, d2, d3, d4⟩, dz⟩, T⟩ := id H
  go_wp2_with (fail)
  refine (tx _).mono ?_
  rintro e w2 ⟨rfl, hb⟩
  replace H := H.step hb
  clear hb
  clear B d0 d1 d2 d3 d4 dz T
  obtain ⟨B, ⟨⟨d0, d1, d2, d3, d4⟩, dz⟩, T⟩ := id H
  go_wp2_with (fail)
  refine (ck _).mono ?_
  rintro e w3 ⟨rfl, hb⟩
  replace H := H.step hb
  clear hb
  clear B d0 d1 d2 d3 d4 dz T
  obtain ⟨B, ⟨⟨d0, d1, d2, d3, d4⟩, dz⟩, T⟩ := id H
  go_wp2_with (fail)
  refine (fr _).mono ?_
  rintro e w4 ⟨rfl, hb⟩
  replace H := H.step hb
  clear hb
  clear B d0 d1 d2 d3 d4 dz T
  obtain ⟨B, ⟨⟨d0, d1, d2, d3, d4⟩, dz⟩, T⟩ := id H
  go_wp2_with (fail)
  refine (ch _).mono ?_
  rintro e w5 ⟨rfl, hb⟩
  replace H := H.step hb
  clear hb
  clear B d0 d1 d2 d3 d4 dz T
  obtain ⟨B, ⟨⟨d0, d1, d2, d3, d4⟩, dz⟩, T⟩ := id H
  go_wp2
  go_ret
  exact ⟨rfl, B⟩
set_option maxHeartbeats 2000000 in
set_option maxRecDepth 100000 in
theorem cchecks_s7 (s k a f : Int) (x : Bool) (w : World) (D : Tab w) (ba : -9223372036854775808 ≤ a ∧ a ≤ 9223372036854775807) (v : Int) (hv : chkC s k a f = v) (hz : v ≠ 0) (h8 : v = 81) (h : 7 < s) :
    Calls Tryd.prog 8 #[.agg #[.int .i64 s, .int .i64 k, .int .i64 a, .int .i64 f, .bool x]] w fun e w' => e = .returned (.bool true) ∧ Below w.heap.size w w' := by
  have tx : ∀ w, Calls Tryd.prog 26 #[.agg #[.int .i64 s, .int .i64 k, .int .i64 a, .int .i64 f, .bool x]] w fun e w' => e = .returned (.string ⟨#[]⟩) ∧ Below w.heap.size w w' := fun w => by
    have := text_bad s k a f x w ba.1 ba.2 (by rw [hv]; exact hz)
    rw [txtC_bad (by rw [hv]; exact hz)] at this
    exact this
  have ck := fun w => check_c s k a f x v hv w ba.1 ba.2
  have f0 := freeV_bad (n := 1) (d := 1) (s := s) (k := k) (a := a) (f := f) (by rw [hv]; exact hz)
  rw [hv] at f0
  have fr := fun w => free_v s k a f 1 1 x 0 v f0 w ba.1 ba.2
  have ch := fun w => charge_v s k a f 5 1 1 x 0 v (chargeV_free f0 hz) w ba.1 ba.2
  clear f0 hv hz
  subst h8

  have K0 := kd_new w s k a f x D
  have C0 := fun w D => codes_any w D
  go_enter Tryd.func8, Tryd.ntmps8
  go_wp2_with (fail)
  refine (C0 _ K0.2.2).mono ?_
  rintro e w1 ⟨rfl, hb⟩
  have H := K0.step hb
  clear hb K0 C0
  obtain ⟨B, ⟨⟨d0, d1, d2, d3, d4⟩, dz⟩, T⟩ := id H
  go_wp2_with (fail)
  refine (tx _).mono ?_
  rintro e w2 ⟨rfl, hb⟩
  replace H := H.step hb
  clear hb
  clear B d0 d1 d2 d3 d4 dz T
  obtain ⟨B, ⟨⟨d0, d1, d2, d3, d4⟩, dz⟩, T⟩ := id H
  go_wp2_with (fail)
  refine (ck _).mono ?_
  rintro e w3 ⟨rfl, hb⟩
  replace H := H.step hb
  clear hb
  clear B d0 d1 d2 d3 d4 dz T
  obtain ⟨B, ⟨⟨d0, d1, d2, d3, d4⟩, dz⟩, T⟩ := id H
  go_wp2_with (fail)
  refine (fr _).mono ?_
  rintro e w4 ⟨rfl, hb⟩
  replace H := H.step hb
  clear hb
  clear B d0 d1 d2 d3 d4 dz T
  obtain ⟨B, ⟨⟨d0, d1, d2, d3, d4⟩, dz⟩, T⟩ := id H
  go_wp2_with (fail)
  refine (ch _).mono ?_
  rintro e w5 ⟨rfl, hb⟩
  replace H := H.step hb
  clear hb
  clear B d0 d1 d2 d3 d4 dz T
  obtain ⟨B, ⟨⟨d0, d1, d2, d3, d4⟩, dz⟩, T⟩ := id H
  go_wp2
  go_ret
  exact ⟨rfl, B⟩
set_option maxHeartbeats 2000000 in
set_option maxRecDepth 100000 in
theorem cchecks_k0 (s k a f : Int) (x : Bool) (w : World) (D : Tab w) (ba : -9223372036854775808 ≤ a ∧ a ≤ 9223372036854775807) (v : Int) (hv : chkC s k a f = v) (hz : v ≠ 0) (h8 : v = 80) (s0 : 0 ≤ s) (s7 : s ≤ 7) (h : k < 1) :
    Calls Tryd.prog 8 #[.agg #[.int .i64 s, .int .i64 k, .int .i64 a, .int .i64 f, .bool x]] w fun e w' => e = .returned (.bool true) ∧ Below w.heap.size w w' := by
  have tx : ∀ w, Calls Tryd.prog 26 #[.agg #[.int .i64 s, .int .i64 k, .int .i64 a, .int .i64 f, .bool x]] w fun e w' => e = .returned (.string ⟨#[]⟩) ∧ Below w.heap.size w w' := fun w => by
    have := text_bad s k a f x w ba.1 ba.2 (by rw [hv]; exact hz)
    rw [txtC_bad (by rw [hv]; exact hz)] at this
    exact this
  have ck := fun w => check_c s k a f x v hv w ba.1 ba.2
  have f0 := freeV_bad (n := 1) (d := 1) (s := s) (k := k) (a := a) (f := f) (by rw [hv]; exact hz)
  rw [hv] at f0
  have fr := fun w => free_v s k a f 1 1 x 0 v f0 w ba.1 ba.2
  have ch := fun w => charge_v s k a f 5 1 1 x 0 v (chargeV_free f0 hz) w ba.1 ba.2
  clear f0 hv hz
  subst h8

  have K0 := kd_new w s k a f x D
  have C0 := fun w D => codes_any w D
  go_enter Tryd.func8, Tryd.ntmps8
  go_wp2_with (fail)
  refine (C0 _ K0.2.2).mono ?_
  rintro e w1 ⟨rfl, hb⟩
  have H := K0.step hb
  clear hb K0 C0
  obtain ⟨B, ⟨⟨d0, d1, d2, d3, d4⟩, dz⟩, T⟩ := id H
  go_wp2_with (fail)
  refine (tx _).mono ?_
  rintro e w2 ⟨rfl, hb⟩
  replace H := H.step hb
  clear hb
  clear B d0 d1 d2 d3 d4 dz T
  obtain ⟨B, ⟨⟨d0, d1, d2, d3, d4⟩, dz⟩, T⟩ := id H
  go_wp2_with (fail)
  refine (ck _).mono ?_
  rintro e w3 ⟨rfl, hb⟩
  replace H := H.step hb
  clear hb
  clear B d0 d1 d2 d3 d4 dz T
  obtain ⟨B, ⟨⟨d0, d1, d2, d3, d4⟩, dz⟩, T⟩ := id H
  go_wp2_with (fail)
  refine (fr _).mono ?_
  rintro e w4 ⟨rfl, hb⟩
  replace H := H.step hb
  clear hb
  clear B d0 d1 d2 d3 d4 dz T
  obtain ⟨B, ⟨⟨d0, d1, d2, d3, d4⟩, dz⟩, T⟩ := id H
  go_wp2_with (fail)
  refine (ch _).mono ?_
  rintro e w5 ⟨rfl, hb⟩
  replace H := H.step hb
  clear hb
  clear B d0 d1 d2 d3 d4 dz T
  obtain ⟨B, ⟨⟨d0, d1, d2, d3, d4⟩, dz⟩, T⟩ := id H
  go_wp2
  go_ret
  exact ⟨rfl, B⟩
set_option maxHeartbeats 2000000 in
set_option maxRecDepth 100000 in
theorem cchecks_k5 (s k a f : Int) (x : Bool) (w : World) (D : Tab w) (ba : -9223372036854775808 ≤ a ∧ a ≤ 9223372036854775807) (v : Int) (hv : chkC s k a f = v) (hz : v ≠ 0) (h8 : v = 80) (s0 : 0 ≤ s) (s7 : s ≤ 7) (h : 4 < k) :
    Calls Tryd.prog 8 #[.agg #[.int .i64 s, .int .i64 k, .int .i64 a, .int .i64 f, .bool x]] w fun e w' => e = .returned (.bool true) ∧ Below w.heap.size w w' := by
  have tx : ∀ w, Calls Tryd.prog 26 #[.agg #[.int .i64 s, .int .i64 k, .int .i64 a, .int .i64 f, .bool x]] w fun e w' => e = .returned (.string ⟨#[]⟩) ∧ Below w.heap.size w w' := fun w => by
    have := text_bad s k a f x w ba.1 ba.2 (by rw [hv]; exact hz)
    rw [txtC_bad (by rw [hv]; exact hz)] at this
    exact this
  have ck := fun w => check_c s k a f x v hv w ba.1 ba.2
  have f0 := freeV_bad (n := 1) (d := 1) (s := s) (k := k) (a := a) (f := f) (by rw [hv]; exact hz)
  rw [hv] at f0
  have fr := fun w => free_v s k a f 1 1 x 0 v f0 w ba.1 ba.2
  have ch := fun w => charge_v s k a f 5 1 1 x 0 v (chargeV_free f0 hz) w ba.1 ba.2
  clear f0 hv hz
  subst h8

  have K0 := kd_new w s k a f x D
  have C0 := fun w D => codes_any w D
  go_enter Tryd.func8, Tryd.ntmps8
  go_wp2_with (fail)
  refine (C0 _ K0.2.2).mono ?_
  rintro e w1 ⟨rfl, hb⟩
  have H := K0.step hb
  clear hb K0 C0
  obtain ⟨B, ⟨⟨d0, d1, d2, d3, d4⟩, dz⟩, T⟩ := id H
  go_wp2_with (fail)
  refine (tx _).mono ?_
  rintro e w2 ⟨rfl, hb⟩
  replace H := H.step hb
  clear hb
  clear B d0 d1 d2 d3 d4 dz T
  obtain ⟨B, ⟨⟨d0, d1, d2, d3, d4⟩, dz⟩, T⟩ := id H
  go_wp2_with (fail)
  refine (ck _).mono ?_
  rintro e w3 ⟨rfl, hb⟩
  replace H := H.step hb
  clear hb
  clear B d0 d1 d2 d3 d4 dz T
  obtain ⟨B, ⟨⟨d0, d1, d2, d3, d4⟩, dz⟩, T⟩ := id H
  go_wp2_with (fail)
  refine (fr _).mono ?_
  rintro e w4 ⟨rfl, hb⟩
  replace H := H.step hb
  clear hb
  clear B d0 d1 d2 d3 d4 dz T
  obtain ⟨B, ⟨⟨d0, d1, d2, d3, d4⟩, dz⟩, T⟩ := id H
  go_wp2_with (fail)
  refine (ch _).mono ?_
  rintro e w5 ⟨rfl, hb⟩
  replace H := H.step hb
  clear hb
  clear B d0 d1 d2 d3 d4 dz T
  obtain ⟨B, ⟨⟨d0, d1, d2, d3, d4⟩, dz⟩, T⟩ := id H
  go_wp2
  go_ret
  exact ⟨rfl, B⟩
set_option maxHeartbeats 2000000 in
set_option maxRecDepth 100000 in
theorem cchecks_1a (s a f : Int) (x : Bool) (w : World) (D : Tab w) (ba : -9223372036854775808 ≤ a ∧ a ≤ 9223372036854775807) (v : Int) (hv : chkC s 1 a f = v) (hz : v ≠ 0) (h8 : v = 80) (s0 : 0 ≤ s) (s7 : s ≤ 7) (h : a < 0) :
    Calls Tryd.prog 8 #[.agg #[.int .i64 s, .int .i64 1, .int .i64 a, .int .i64 f, .bool x]] w fun e w' => e = .returned (.bool true) ∧ Below w.heap.size w w' := by
  have tx : ∀ w, Calls Tryd.prog 26 #[.agg #[.int .i64 s, .int .i64 1, .int .i64 a, .int .i64 f, .bool x]] w fun e w' => e = .returned (.string ⟨#[]⟩) ∧ Below w.heap.size w w' := fun w => by
    have := text_bad s 1 a f x w ba.1 ba.2 (by rw [hv]; exact hz)
    rw [txtC_bad (by rw [hv]; exact hz)] at this
    exact this
  have ck := fun w => check_c s 1 a f x v hv w ba.1 ba.2
  have f0 := freeV_bad (n := 1) (d := 1) (s := s) (k := 1) (a := a) (f := f) (by rw [hv]; exact hz)
  rw [hv] at f0
  have fr := fun w => free_v s 1 a f 1 1 x 0 v f0 w ba.1 ba.2
  have ch := fun w => charge_v s 1 a f 5 1 1 x 0 v (chargeV_free f0 hz) w ba.1 ba.2
  clear f0 hv hz
  subst h8

  have K0 := kd_new w s 1 a f x D
  have C0 := fun w D => codes_any w D
  go_enter Tryd.func8, Tryd.ntmps8
  go_wp2_with (fail)
  refine (C0 _ K0.2.2).mono ?_
  rintro e w1 ⟨rfl, hb⟩
  have H := K0.step hb
  clear hb K0 C0
  obtain ⟨B, ⟨⟨d0, d1, d2, d3, d4⟩, dz⟩, T⟩ := id H
  go_wp2_with (fail)
  refine (tx _).mono ?_
  rintro e w2 ⟨rfl, hb⟩
  replace H := H.step hb
  clear hb
  clear B d0 d1 d2 d3 d4 dz T
  obtain ⟨B, ⟨⟨d0, d1, d2, d3, d4⟩, dz⟩, T⟩ := id H
  go_wp2_with (fail)
  refine (ck _).mono ?_
  rintro e w3 ⟨rfl, hb⟩
  replace H := H.step hb
  clear hb
  clear B d0 d1 d2 d3 d4 dz T
  obtain ⟨B, ⟨⟨d0, d1, d2, d3, d4⟩, dz⟩, T⟩ := id H
  go_wp2_with (fail)
  refine (fr _).mono ?_
  rintro e w4 ⟨rfl, hb⟩
  replace H := H.step hb
  clear hb
  clear B d0 d1 d2 d3 d4 dz T
  obtain ⟨B, ⟨⟨d0, d1, d2, d3, d4⟩, dz⟩, T⟩ := id H
  go_wp2_with (fail)
  refine (ch _).mono ?_
  rintro e w5 ⟨rfl, hb⟩
  replace H := H.step hb
  clear hb
  clear B d0 d1 d2 d3 d4 dz T
  obtain ⟨B, ⟨⟨d0, d1, d2, d3, d4⟩, dz⟩, T⟩ := id H
  go_wp2
  go_ret
  exact ⟨rfl, B⟩
set_option maxHeartbeats 2000000 in
set_option maxRecDepth 100000 in
theorem cchecks_1b (s a f : Int) (x : Bool) (w : World) (D : Tab w) (ba : -9223372036854775808 ≤ a ∧ a ≤ 9223372036854775807) (v : Int) (hv : chkC s 1 a f = v) (hz : v ≠ 0) (h8 : v = 80) (s0 : 0 ≤ s) (s7 : s ≤ 7) (h : 999999000 < a) :
    Calls Tryd.prog 8 #[.agg #[.int .i64 s, .int .i64 1, .int .i64 a, .int .i64 f, .bool x]] w fun e w' => e = .returned (.bool true) ∧ Below w.heap.size w w' := by
  have tx : ∀ w, Calls Tryd.prog 26 #[.agg #[.int .i64 s, .int .i64 1, .int .i64 a, .int .i64 f, .bool x]] w fun e w' => e = .returned (.string ⟨#[]⟩) ∧ Below w.heap.size w w' := fun w => by
    have := text_bad s 1 a f x w ba.1 ba.2 (by rw [hv]; exact hz)
    rw [txtC_bad (by rw [hv]; exact hz)] at this
    exact this
  have ck := fun w => check_c s 1 a f x v hv w ba.1 ba.2
  have f0 := freeV_bad (n := 1) (d := 1) (s := s) (k := 1) (a := a) (f := f) (by rw [hv]; exact hz)
  rw [hv] at f0
  have fr := fun w => free_v s 1 a f 1 1 x 0 v f0 w ba.1 ba.2
  have ch := fun w => charge_v s 1 a f 5 1 1 x 0 v (chargeV_free f0 hz) w ba.1 ba.2
  clear f0 hv hz
  subst h8

  have K0 := kd_new w s 1 a f x D
  have C0 := fun w D => codes_any w D
  go_enter Tryd.func8, Tryd.ntmps8
  go_wp2_with (fail)
  refine (C0 _ K0.2.2).mono ?_
  rintro e w1 ⟨rfl, hb⟩
  have H := K0.step hb
  clear hb K0 C0
  obtain ⟨B, ⟨⟨d0, d1, d2, d3, d4⟩, dz⟩, T⟩ := id H
  go_wp2_with (fail)
  refine (tx _).mono ?_
  rintro e w2 ⟨rfl, hb⟩
  replace H := H.step hb
  clear hb
  clear B d0 d1 d2 d3 d4 dz T
  obtain ⟨B, ⟨⟨d0, d1, d2, d3, d4⟩, dz⟩, T⟩ := id H
  go_wp2_with (fail)
  refine (ck _).mono ?_
  rintro e w3 ⟨rfl, hb⟩
  replace H := H.step hb
  clear hb
  clear B d0 d1 d2 d3 d4 dz T
  obtain ⟨B, ⟨⟨d0, d1, d2, d3, d4⟩, dz⟩, T⟩ := id H
  go_wp2_with (fail)
  refine (fr _).mono ?_
  rintro e w4 ⟨rfl, hb⟩
  replace H := H.step hb
  clear hb
  clear B d0 d1 d2 d3 d4 dz T
  obtain ⟨B, ⟨⟨d0, d1, d2, d3, d4⟩, dz⟩, T⟩ := id H
  go_wp2_with (fail)
  refine (ch _).mono ?_
  rintro e w5 ⟨rfl, hb⟩
  replace H := H.step hb
  clear hb
  clear B d0 d1 d2 d3 d4 dz T
  obtain ⟨B, ⟨⟨d0, d1, d2, d3, d4⟩, dz⟩, T⟩ := id H
  go_wp2
  go_ret
  exact ⟨rfl, B⟩
set_option maxHeartbeats 2000000 in
set_option maxRecDepth 100000 in
theorem cchecks_1c (s a f : Int) (x : Bool) (w : World) (D : Tab w) (ba : -9223372036854775808 ≤ a ∧ a ≤ 9223372036854775807) (v : Int) (hv : chkC s 1 a f = v) (hz : v ≠ 0) (h8 : v = 80) (s0 : 0 ≤ s) (s7 : s ≤ 7) (a0 : 0 ≤ a) (a9 : a ≤ 999999000) (h1 : a % 1000 ≠ 0) :
    Calls Tryd.prog 8 #[.agg #[.int .i64 s, .int .i64 1, .int .i64 a, .int .i64 f, .bool x]] w fun e w' => e = .returned (.bool true) ∧ Below w.heap.size w w' := by
  have tx : ∀ w, Calls Tryd.prog 26 #[.agg #[.int .i64 s, .int .i64 1, .int .i64 a, .int .i64 f, .bool x]] w fun e w' => e = .returned (.string ⟨#[]⟩) ∧ Below w.heap.size w w' := fun w => by
    have := text_bad s 1 a f x w ba.1 ba.2 (by rw [hv]; exact hz)
    rw [txtC_bad (by rw [hv]; exact hz)] at this
    exact this
  have ck := fun w => check_c s 1 a f x v hv w ba.1 ba.2
  have f0 := freeV_bad (n := 1) (d := 1) (s := s) (k := 1) (a := a) (f := f) (by rw [hv]; exact hz)
  rw [hv] at f0
  have fr := fun w => free_v s 1 a f 1 1 x 0 v f0 w ba.1 ba.2
  have ch := fun w => charge_v s 1 a f 5 1 1 x 0 v (chargeV_free f0 hz) w ba.1 ba.2
  clear f0 hv hz
  subst h8
  have am : (a % 1000 != 0) = true := by simp; omega
  clear h1
  have K0 := kd_new w s 1 a f x D
  have C0 := fun w D => codes_any w D
  go_enter Tryd.func8, Tryd.ntmps8
  go_wp2_with (fail)
  refine (C0 _ K0.2.2).mono ?_
  rintro e w1 ⟨rfl, hb⟩
  have H := K0.step hb
  clear hb K0 C0
  obtain ⟨B, ⟨⟨d0, d1, d2, d3, d4⟩, dz⟩, T⟩ := id H
  go_wp2_with (fail)
  refine (tx _).mono ?_
  rintro e w2 ⟨rfl, hb⟩
  replace H := H.step hb
  clear hb
  clear B d0 d1 d2 d3 d4 dz T
  obtain ⟨B, ⟨⟨d0, d1, d2, d3, d4⟩, dz⟩, T⟩ := id H
  go_wp2_with (fail)
  refine (ck _).mono ?_
  rintro e w3 ⟨rfl, hb⟩
  replace H := H.step hb
  clear hb
  clear B d0 d1 d2 d3 d4 dz T
  obtain ⟨B, ⟨⟨d0, d1, d2, d3, d4⟩, dz⟩, T⟩ := id H
  go_wp2_with (fail)
  refine (fr _).mono ?_
  rintro e w4 ⟨rfl, hb⟩
  replace H := H.step hb
  clear hb
  clear B d0 d1 d2 d3 d4 dz T
  obtain ⟨B, ⟨⟨d0, d1, d2, d3, d4⟩, dz⟩, T⟩ := id H
  go_wp2_with (fail)
  refine (ch _).mono ?_
  rintro e w5 ⟨rfl, hb⟩
  replace H := H.step hb
  clear hb
  clear B d0 d1 d2 d3 d4 dz T
  obtain ⟨B, ⟨⟨d0, d1, d2, d3, d4⟩, dz⟩, T⟩ := id H
  go_wp2
  go_ret
  exact ⟨rfl, B⟩
set_option maxHeartbeats 2000000 in
set_option maxRecDepth 100000 in
theorem cchecks_1e (s a f : Int) (x : Bool) (w : World) (D : Tab w) (ba : -9223372036854775808 ≤ a ∧ a ≤ 9223372036854775807) (v : Int) (hv : chkC s 1 a f = v) (hz : v ≠ 0) (h8 : v = 80) (s0 : 0 ≤ s) (s7 : s ≤ 7) (a0 : 0 ≤ a) (a9 : a ≤ 999999000) (h1 : a % 1000 = 0) (hf : f ≠ 0) :
    Calls Tryd.prog 8 #[.agg #[.int .i64 s, .int .i64 1, .int .i64 a, .int .i64 f, .bool x]] w fun e w' => e = .returned (.bool true) ∧ Below w.heap.size w w' := by
  have tx : ∀ w, Calls Tryd.prog 26 #[.agg #[.int .i64 s, .int .i64 1, .int .i64 a, .int .i64 f, .bool x]] w fun e w' => e = .returned (.string ⟨#[]⟩) ∧ Below w.heap.size w w' := fun w => by
    have := text_bad s 1 a f x w ba.1 ba.2 (by rw [hv]; exact hz)
    rw [txtC_bad (by rw [hv]; exact hz)] at this
    exact this
  have ck := fun w => check_c s 1 a f x v hv w ba.1 ba.2
  have f0 := freeV_bad (n := 1) (d := 1) (s := s) (k := 1) (a := a) (f := f) (by rw [hv]; exact hz)
  rw [hv] at f0
  have fr := fun w => free_v s 1 a f 1 1 x 0 v f0 w ba.1 ba.2
  have ch := fun w => charge_v s 1 a f 5 1 1 x 0 v (chargeV_free f0 hz) w ba.1 ba.2
  clear f0 hv hz
  subst h8
  have am : (a % 1000 != 0) = false := by simp; omega
  clear h1
  have fz : (f != 0) = true := by simp; omega
  clear hf

  have K0 := kd_new w s 1 a f x D
  have C0 := fun w D => codes_any w D
  go_enter Tryd.func8, Tryd.ntmps8
  go_wp2_with (fail)
  refine (C0 _ K0.2.2).mono ?_
  rintro e w1 ⟨rfl, hb⟩
  have H := K0.step hb
  clear hb K0 C0
  obtain ⟨B, ⟨⟨d0, d1, d2, d3, d4⟩, dz⟩, T⟩ := id H
  go_wp2_with (fail)
  refine (tx _).mono ?_
  rintro e w2 ⟨rfl, hb⟩
  replace H := H.step hb
  clear hb
  clear B d0 d1 d2 d3 d4 dz T
  obtain ⟨B, ⟨⟨d0, d1, d2, d3, d4⟩, dz⟩, T⟩ := id H
  go_wp2_with (fail)
  refine (ck _).mono ?_
  rintro e w3 ⟨rfl, hb⟩
  replace H := H.step hb
  clear hb
  clear B d0 d1 d2 d3 d4 dz T
  obtain ⟨B, ⟨⟨d0, d1, d2, d3, d4⟩, dz⟩, T⟩ := id H
  go_wp2_with (fail)
  refine (fr _).mono ?_
  rintro e w4 ⟨rfl, hb⟩
  replace H := H.step hb
  clear hb
  clear B d0 d1 d2 d3 d4 dz T
  obtain ⟨B, ⟨⟨d0, d1, d2, d3, d4⟩, dz⟩, T⟩ := id H
  go_wp2_with (fail)
  refine (ch _).mono ?_
  rintro e w5 ⟨rfl, hb⟩
  replace H := H.step hb
  clear hb
  clear B d0 d1 d2 d3 d4 dz T
  obtain ⟨B, ⟨⟨d0, d1, d2, d3, d4⟩, dz⟩, T⟩ := id H
  go_wp2
  go_ret
  exact ⟨rfl, B⟩
set_option maxHeartbeats 2000000 in
set_option maxRecDepth 100000 in
theorem cchecks_1ok (s a f : Int) (x : Bool) (w : World) (D : Tab w) (ba : -9223372036854775808 ≤ a ∧ a ≤ 9223372036854775807) (hv : chkC s 1 a f = 0) (s0 : 0 ≤ s) (s7 : s ≤ 7) (a0 : 0 ≤ a) (a9 : a ≤ 999999000) (h1 : a % 1000 = 0) (hf : f = 0) :
    Calls Tryd.prog 8 #[.agg #[.int .i64 s, .int .i64 1, .int .i64 a, .int .i64 f, .bool x]] w fun e w' => e = .returned (.bool true) ∧ Below w.heap.size w w' := by
  obtain ⟨T0, hT, z1, z2, tx⟩ := text_t s 1 a f x hv
  have hp := par_txt (x := x) hv
  rw [← hT] at hp
  have te := toList_some T0 z1
  have ck := fun w => check_c s 1 a f x 0 hv w ba.1 ba.2
  have pa := fun w => parse_v T0 w (by omega) s 1 a f 0 x hp
  have eq1 := fun W => eqc_yes s 1 a f s 1 a f x x W ⟨rfl, rfl, rfl, rfl, rfl⟩
  clear hp hT hv
  have am : (a % 1000 != 0) = false := by simp; omega
  clear h1
  have z1f : (f != 0) = false := by simp; omega
  have z3f : 0 ≤ f := by omega
  have z4f : f ≤ 7 := by omega
  clear hf

  have K0 := kd_new w s 1 a f x D
  have C0 := fun w D => codes_any w D
  go_enter Tryd.func8, Tryd.ntmps8
  go_wp2_with (fail)
  refine (C0 _ K0.2.2).mono ?_
  rintro e w1 ⟨rfl, hb⟩
  have H := K0.step hb
  clear hb K0 C0
  obtain ⟨B, ⟨⟨d0, d1, d2, d3, d4⟩, dz⟩, T⟩ := id H
  go_wp2_with (fail)
  refine (tx _ T).mono ?_
  rintro e w2 ⟨rfl, hb⟩
  replace H := H.step hb
  clear hb
  clear B d0 d1 d2 d3 d4 dz T
  obtain ⟨B, ⟨⟨d0, d1, d2, d3, d4⟩, dz⟩, T⟩ := id H
  go_wp2_with (fail)
  refine (ck _).mono ?_
  rintro e w3 ⟨rfl, hb⟩
  replace H := H.step hb
  clear hb
  clear B d0 d1 d2 d3 d4 dz T
  obtain ⟨B, ⟨⟨d0, d1, d2, d3, d4⟩, dz⟩, T⟩ := id H
  go_wp2_with (fail)
  refine (pa _).mono ?_
  rintro e w4 ⟨rfl, hb⟩
  replace H := H.step hb
  have C9 := cb_new w4 s 1 a f x 41
  have hn := below_new w4 (.cells #[.int .i64 s, .int .i64 1, .int .i64 a, .int .i64 f, .bool x] 41)
  replace H := H.step hn
  clear hb hn
  clear B d0 d1 d2 d3 d4 dz T
  obtain ⟨B, ⟨⟨d0, d1, d2, d3, d4⟩, dz⟩, T⟩ := id H
  obtain ⟨⟨e0, e1, e2, e3, e4⟩, ez⟩ := C9
  go_wp2
  go_ret
  exact ⟨rfl, B⟩
set_option maxHeartbeats 2000000 in
set_option maxRecDepth 100000 in
theorem cchecks_2a (s a f : Int) (x : Bool) (w : World) (D : Tab w) (ba : -9223372036854775808 ≤ a ∧ a ≤ 9223372036854775807) (v : Int) (hv : chkC s 2 a f = v) (hz : v ≠ 0) (h8 : v = 80) (s0 : 0 ≤ s) (s7 : s ≤ 7) (h : a < 0) :
    Calls Tryd.prog 8 #[.agg #[.int .i64 s, .int .i64 2, .int .i64 a, .int .i64 f, .bool x]] w fun e w' => e = .returned (.bool true) ∧ Below w.heap.size w w' := by
  have tx : ∀ w, Calls Tryd.prog 26 #[.agg #[.int .i64 s, .int .i64 2, .int .i64 a, .int .i64 f, .bool x]] w fun e w' => e = .returned (.string ⟨#[]⟩) ∧ Below w.heap.size w w' := fun w => by
    have := text_bad s 2 a f x w ba.1 ba.2 (by rw [hv]; exact hz)
    rw [txtC_bad (by rw [hv]; exact hz)] at this
    exact this
  have ck := fun w => check_c s 2 a f x v hv w ba.1 ba.2
  have f0 := freeV_bad (n := 1) (d := 1) (s := s) (k := 2) (a := a) (f := f) (by rw [hv]; exact hz)
  rw [hv] at f0
  have fr := fun w => free_v s 2 a f 1 1 x 0 v f0 w ba.1 ba.2
  have ch := fun w => charge_v s 2 a f 5 1 1 x 0 v (chargeV_free f0 hz) w ba.1 ba.2
  clear f0 hv hz
  subst h8

  have K0 := kd_new w s 2 a f x D
  have C0 := fun w D => codes_any w D
  go_enter Tryd.func8, Tryd.ntmps8
  go_wp2_with (fail)
  refine (C0 _ K0.2.2).mono ?_
  rintro e w1 ⟨rfl, hb⟩
  have H := K0.step hb
  clear hb K0 C0
  obtain ⟨B, ⟨⟨d0, d1, d2, d3, d4⟩, dz⟩, T⟩ := id H
  go_wp2_with (fail)
  refine (tx _).mono ?_
  rintro e w2 ⟨rfl, hb⟩
  replace H := H.step hb
  clear hb
  clear B d0 d1 d2 d3 d4 dz T
  obtain ⟨B, ⟨⟨d0, d1, d2, d3, d4⟩, dz⟩, T⟩ := id H
  go_wp2_with (fail)
  refine (ck _).mono ?_
  rintro e w3 ⟨rfl, hb⟩
  replace H := H.step hb
  clear hb
  clear B d0 d1 d2 d3 d4 dz T
  obtain ⟨B, ⟨⟨d0, d1, d2, d3, d4⟩, dz⟩, T⟩ := id H
  go_wp2_with (fail)
  refine (fr _).mono ?_
  rintro e w4 ⟨rfl, hb⟩
  replace H := H.step hb
  clear hb
  clear B d0 d1 d2 d3 d4 dz T
  obtain ⟨B, ⟨⟨d0, d1, d2, d3, d4⟩, dz⟩, T⟩ := id H
  go_wp2_with (fail)
  refine (ch _).mono ?_
  rintro e w5 ⟨rfl, hb⟩
  replace H := H.step hb
  clear hb
  clear B d0 d1 d2 d3 d4 dz T
  obtain ⟨B, ⟨⟨d0, d1, d2, d3, d4⟩, dz⟩, T⟩ := id H
  go_wp2
  go_ret
  exact ⟨rfl, B⟩
set_option maxHeartbeats 2000000 in
set_option maxRecDepth 100000 in
theorem cchecks_2b (s a f : Int) (x : Bool) (w : World) (D : Tab w) (ba : -9223372036854775808 ≤ a ∧ a ≤ 9223372036854775807) (v : Int) (hv : chkC s 2 a f = v) (hz : v ≠ 0) (h8 : v = 80) (s0 : 0 ≤ s) (s7 : s ≤ 7) (h : 999999000 < a) :
    Calls Tryd.prog 8 #[.agg #[.int .i64 s, .int .i64 2, .int .i64 a, .int .i64 f, .bool x]] w fun e w' => e = .returned (.bool true) ∧ Below w.heap.size w w' := by
  have tx : ∀ w, Calls Tryd.prog 26 #[.agg #[.int .i64 s, .int .i64 2, .int .i64 a, .int .i64 f, .bool x]] w fun e w' => e = .returned (.string ⟨#[]⟩) ∧ Below w.heap.size w w' := fun w => by
    have := text_bad s 2 a f x w ba.1 ba.2 (by rw [hv]; exact hz)
    rw [txtC_bad (by rw [hv]; exact hz)] at this
    exact this
  have ck := fun w => check_c s 2 a f x v hv w ba.1 ba.2
  have f0 := freeV_bad (n := 1) (d := 1) (s := s) (k := 2) (a := a) (f := f) (by rw [hv]; exact hz)
  rw [hv] at f0
  have fr := fun w => free_v s 2 a f 1 1 x 0 v f0 w ba.1 ba.2
  have ch := fun w => charge_v s 2 a f 5 1 1 x 0 v (chargeV_free f0 hz) w ba.1 ba.2
  clear f0 hv hz
  subst h8

  have K0 := kd_new w s 2 a f x D
  have C0 := fun w D => codes_any w D
  go_enter Tryd.func8, Tryd.ntmps8
  go_wp2_with (fail)
  refine (C0 _ K0.2.2).mono ?_
  rintro e w1 ⟨rfl, hb⟩
  have H := K0.step hb
  clear hb K0 C0
  obtain ⟨B, ⟨⟨d0, d1, d2, d3, d4⟩, dz⟩, T⟩ := id H
  go_wp2_with (fail)
  refine (tx _).mono ?_
  rintro e w2 ⟨rfl, hb⟩
  replace H := H.step hb
  clear hb
  clear B d0 d1 d2 d3 d4 dz T
  obtain ⟨B, ⟨⟨d0, d1, d2, d3, d4⟩, dz⟩, T⟩ := id H
  go_wp2_with (fail)
  refine (ck _).mono ?_
  rintro e w3 ⟨rfl, hb⟩
  replace H := H.step hb
  clear hb
  clear B d0 d1 d2 d3 d4 dz T
  obtain ⟨B, ⟨⟨d0, d1, d2, d3, d4⟩, dz⟩, T⟩ := id H
  go_wp2_with (fail)
  refine (fr _).mono ?_
  rintro e w4 ⟨rfl, hb⟩
  replace H := H.step hb
  clear hb
  clear B d0 d1 d2 d3 d4 dz T
  obtain ⟨B, ⟨⟨d0, d1, d2, d3, d4⟩, dz⟩, T⟩ := id H
  go_wp2_with (fail)
  refine (ch _).mono ?_
  rintro e w5 ⟨rfl, hb⟩
  replace H := H.step hb
  clear hb
  clear B d0 d1 d2 d3 d4 dz T
  obtain ⟨B, ⟨⟨d0, d1, d2, d3, d4⟩, dz⟩, T⟩ := id H
  go_wp2
  go_ret
  exact ⟨rfl, B⟩
set_option maxHeartbeats 2000000 in
set_option maxRecDepth 100000 in
theorem cchecks_2c (s a f : Int) (x : Bool) (w : World) (D : Tab w) (ba : -9223372036854775808 ≤ a ∧ a ≤ 9223372036854775807) (v : Int) (hv : chkC s 2 a f = v) (hz : v ≠ 0) (h8 : v = 80) (s0 : 0 ≤ s) (s7 : s ≤ 7) (a0 : 0 ≤ a) (a9 : a ≤ 999999000) (h1 : a % 1000 ≠ 0) :
    Calls Tryd.prog 8 #[.agg #[.int .i64 s, .int .i64 2, .int .i64 a, .int .i64 f, .bool x]] w fun e w' => e = .returned (.bool true) ∧ Below w.heap.size w w' := by
  have tx : ∀ w, Calls Tryd.prog 26 #[.agg #[.int .i64 s, .int .i64 2, .int .i64 a, .int .i64 f, .bool x]] w fun e w' => e = .returned (.string ⟨#[]⟩) ∧ Below w.heap.size w w' := fun w => by
    have := text_bad s 2 a f x w ba.1 ba.2 (by rw [hv]; exact hz)
    rw [txtC_bad (by rw [hv]; exact hz)] at this
    exact this
  have ck := fun w => check_c s 2 a f x v hv w ba.1 ba.2
  have f0 := freeV_bad (n := 1) (d := 1) (s := s) (k := 2) (a := a) (f := f) (by rw [hv]; exact hz)
  rw [hv] at f0
  have fr := fun w => free_v s 2 a f 1 1 x 0 v f0 w ba.1 ba.2
  have ch := fun w => charge_v s 2 a f 5 1 1 x 0 v (chargeV_free f0 hz) w ba.1 ba.2
  clear f0 hv hz
  subst h8
  have am : (a % 1000 != 0) = true := by simp; omega
  clear h1
  have K0 := kd_new w s 2 a f x D
  have C0 := fun w D => codes_any w D
  go_enter Tryd.func8, Tryd.ntmps8
  go_wp2_with (fail)
  refine (C0 _ K0.2.2).mono ?_
  rintro e w1 ⟨rfl, hb⟩
  have H := K0.step hb
  clear hb K0 C0
  obtain ⟨B, ⟨⟨d0, d1, d2, d3, d4⟩, dz⟩, T⟩ := id H
  go_wp2_with (fail)
  refine (tx _).mono ?_
  rintro e w2 ⟨rfl, hb⟩
  replace H := H.step hb
  clear hb
  clear B d0 d1 d2 d3 d4 dz T
  obtain ⟨B, ⟨⟨d0, d1, d2, d3, d4⟩, dz⟩, T⟩ := id H
  go_wp2_with (fail)
  refine (ck _).mono ?_
  rintro e w3 ⟨rfl, hb⟩
  replace H := H.step hb
  clear hb
  clear B d0 d1 d2 d3 d4 dz T
  obtain ⟨B, ⟨⟨d0, d1, d2, d3, d4⟩, dz⟩, T⟩ := id H
  go_wp2_with (fail)
  refine (fr _).mono ?_
  rintro e w4 ⟨rfl, hb⟩
  replace H := H.step hb
  clear hb
  clear B d0 d1 d2 d3 d4 dz T
  obtain ⟨B, ⟨⟨d0, d1, d2, d3, d4⟩, dz⟩, T⟩ := id H
  go_wp2_with (fail)
  refine (ch _).mono ?_
  rintro e w5 ⟨rfl, hb⟩
  replace H := H.step hb
  clear hb
  clear B d0 d1 d2 d3 d4 dz T
  obtain ⟨B, ⟨⟨d0, d1, d2, d3, d4⟩, dz⟩, T⟩ := id H
  go_wp2
  go_ret
  exact ⟨rfl, B⟩
set_option maxHeartbeats 2000000 in
set_option maxRecDepth 100000 in
theorem cchecks_2d (s a f : Int) (x : Bool) (w : World) (D : Tab w) (ba : -9223372036854775808 ≤ a ∧ a ≤ 9223372036854775807) (v : Int) (hv : chkC s 2 a f = v) (hz : v ≠ 0) (h8 : v = 80) (s0 : 0 ≤ s) (s7 : s ≤ 7) (h : a = 0) :
    Calls Tryd.prog 8 #[.agg #[.int .i64 s, .int .i64 2, .int .i64 a, .int .i64 f, .bool x]] w fun e w' => e = .returned (.bool true) ∧ Below w.heap.size w w' := by
  have tx : ∀ w, Calls Tryd.prog 26 #[.agg #[.int .i64 s, .int .i64 2, .int .i64 a, .int .i64 f, .bool x]] w fun e w' => e = .returned (.string ⟨#[]⟩) ∧ Below w.heap.size w w' := fun w => by
    have := text_bad s 2 a f x w ba.1 ba.2 (by rw [hv]; exact hz)
    rw [txtC_bad (by rw [hv]; exact hz)] at this
    exact this
  have ck := fun w => check_c s 2 a f x v hv w ba.1 ba.2
  have f0 := freeV_bad (n := 1) (d := 1) (s := s) (k := 2) (a := a) (f := f) (by rw [hv]; exact hz)
  rw [hv] at f0
  have fr := fun w => free_v s 2 a f 1 1 x 0 v f0 w ba.1 ba.2
  have ch := fun w => charge_v s 2 a f 5 1 1 x 0 v (chargeV_free f0 hz) w ba.1 ba.2
  clear f0 hv hz
  subst h8
  have z1a : (a != 0) = false := by simp; omega
  have z2a : (a == 0) = true := by simp; omega
  have z3a : 0 ≤ a := by omega
  have z4a : a ≤ 999999000 := by omega
  have z5a : (a % 1000 != 0) = false := by simp; omega
  clear h
  have K0 := kd_new w s 2 a f x D
  have C0 := fun w D => codes_any w D
  go_enter Tryd.func8, Tryd.ntmps8
  go_wp2_with (fail)
  refine (C0 _ K0.2.2).mono ?_
  rintro e w1 ⟨rfl, hb⟩
  have H := K0.step hb
  clear hb K0 C0
  obtain ⟨B, ⟨⟨d0, d1, d2, d3, d4⟩, dz⟩, T⟩ := id H
  go_wp2_with (fail)
  refine (tx _).mono ?_
  rintro e w2 ⟨rfl, hb⟩
  replace H := H.step hb
  clear hb
  clear B d0 d1 d2 d3 d4 dz T
  obtain ⟨B, ⟨⟨d0, d1, d2, d3, d4⟩, dz⟩, T⟩ := id H
  go_wp2_with (fail)
  refine (ck _).mono ?_
  rintro e w3 ⟨rfl, hb⟩
  replace H := H.step hb
  clear hb
  clear B d0 d1 d2 d3 d4 dz T
  obtain ⟨B, ⟨⟨d0, d1, d2, d3, d4⟩, dz⟩, T⟩ := id H
  go_wp2_with (fail)
  refine (fr _).mono ?_
  rintro e w4 ⟨rfl, hb⟩
  replace H := H.step hb
  clear hb
  clear B d0 d1 d2 d3 d4 dz T
  obtain ⟨B, ⟨⟨d0, d1, d2, d3, d4⟩, dz⟩, T⟩ := id H
  go_wp2_with (fail)
  refine (ch _).mono ?_
  rintro e w5 ⟨rfl, hb⟩
  replace H := H.step hb
  clear hb
  clear B d0 d1 d2 d3 d4 dz T
  obtain ⟨B, ⟨⟨d0, d1, d2, d3, d4⟩, dz⟩, T⟩ := id H
  go_wp2
  go_ret
  exact ⟨rfl, B⟩
set_option maxHeartbeats 2000000 in
set_option maxRecDepth 100000 in
theorem cchecks_2e (s a f : Int) (x : Bool) (w : World) (D : Tab w) (ba : -9223372036854775808 ≤ a ∧ a ≤ 9223372036854775807) (v : Int) (hv : chkC s 2 a f = v) (hz : v ≠ 0) (h8 : v = 80) (s0 : 0 ≤ s) (s7 : s ≤ 7) (a0 : 0 ≤ a) (a9 : a ≤ 999999000) (ap : 0 < a) (h1 : a % 1000 = 0) (hf : f ≠ 0) :
    Calls Tryd.prog 8 #[.agg #[.int .i64 s, .int .i64 2, .int .i64 a, .int .i64 f, .bool x]] w fun e w' => e = .returned (.bool true) ∧ Below w.heap.size w w' := by
  have tx : ∀ w, Calls Tryd.prog 26 #[.agg #[.int .i64 s, .int .i64 2, .int .i64 a, .int .i64 f, .bool x]] w fun e w' => e = .returned (.string ⟨#[]⟩) ∧ Below w.heap.size w w' := fun w => by
    have := text_bad s 2 a f x w ba.1 ba.2 (by rw [hv]; exact hz)
    rw [txtC_bad (by rw [hv]; exact hz)] at this
    exact this
  have ck := fun w => check_c s 2 a f x v hv w ba.1 ba.2
  have f0 := freeV_bad (n := 1) (d := 1) (s := s) (k := 2) (a := a) (f := f) (by rw [hv]; exact hz)
  rw [hv] at f0
  have fr := fun w => free_v s 2 a f 1 1 x 0 v f0 w ba.1 ba.2
  have ch := fun w => charge_v s 2 a f 5 1 1 x 0 v (chargeV_free f0 hz) w ba.1 ba.2
  clear f0 hv hz
  subst h8
  have am : (a % 1000 != 0) = false := by simp; omega
  clear h1
  have fz : (f != 0) = true := by simp; omega
  clear hf
  have az : (a == 0) = false := by simp; omega

  have K0 := kd_new w s 2 a f x D
  have C0 := fun w D => codes_any w D
  go_enter Tryd.func8, Tryd.ntmps8
  go_wp2_with (fail)
  refine (C0 _ K0.2.2).mono ?_
  rintro e w1 ⟨rfl, hb⟩
  have H := K0.step hb
  clear hb K0 C0
  obtain ⟨B, ⟨⟨d0, d1, d2, d3, d4⟩, dz⟩, T⟩ := id H
  go_wp2_with (fail)
  refine (tx _).mono ?_
  rintro e w2 ⟨rfl, hb⟩
  replace H := H.step hb
  clear hb
  clear B d0 d1 d2 d3 d4 dz T
  obtain ⟨B, ⟨⟨d0, d1, d2, d3, d4⟩, dz⟩, T⟩ := id H
  go_wp2_with (fail)
  refine (ck _).mono ?_
  rintro e w3 ⟨rfl, hb⟩
  replace H := H.step hb
  clear hb
  clear B d0 d1 d2 d3 d4 dz T
  obtain ⟨B, ⟨⟨d0, d1, d2, d3, d4⟩, dz⟩, T⟩ := id H
  go_wp2_with (fail)
  refine (fr _).mono ?_
  rintro e w4 ⟨rfl, hb⟩
  replace H := H.step hb
  clear hb
  clear B d0 d1 d2 d3 d4 dz T
  obtain ⟨B, ⟨⟨d0, d1, d2, d3, d4⟩, dz⟩, T⟩ := id H
  go_wp2_with (fail)
  refine (ch _).mono ?_
  rintro e w5 ⟨rfl, hb⟩
  replace H := H.step hb
  clear hb
  clear B d0 d1 d2 d3 d4 dz T
  obtain ⟨B, ⟨⟨d0, d1, d2, d3, d4⟩, dz⟩, T⟩ := id H
  go_wp2
  go_ret
  exact ⟨rfl, B⟩
set_option maxHeartbeats 2000000 in
set_option maxRecDepth 100000 in
theorem cchecks_2ok (s a f : Int) (x : Bool) (w : World) (D : Tab w) (ba : -9223372036854775808 ≤ a ∧ a ≤ 9223372036854775807) (hv : chkC s 2 a f = 0) (s0 : 0 ≤ s) (s7 : s ≤ 7) (a0 : 0 ≤ a) (a9 : a ≤ 999999000) (ap : 0 < a) (h1 : a % 1000 = 0) (hf : f = 0) :
    Calls Tryd.prog 8 #[.agg #[.int .i64 s, .int .i64 2, .int .i64 a, .int .i64 f, .bool x]] w fun e w' => e = .returned (.bool true) ∧ Below w.heap.size w w' := by
  obtain ⟨T0, hT, z1, z2, tx⟩ := text_t s 2 a f x hv
  have hp := par_txt (x := x) hv
  rw [← hT] at hp
  have te := toList_some T0 z1
  have ck := fun w => check_c s 2 a f x 0 hv w ba.1 ba.2
  have pa := fun w => parse_v T0 w (by omega) s 2 a f 0 x hp
  have eq1 := fun W => eqc_yes s 2 a f s 2 a f x x W ⟨rfl, rfl, rfl, rfl, rfl⟩
  clear hp hT hv
  have am : (a % 1000 != 0) = false := by simp; omega
  clear h1
  have z1f : (f != 0) = false := by simp; omega
  have z3f : 0 ≤ f := by omega
  have z4f : f ≤ 7 := by omega
  clear hf
  have az : (a == 0) = false := by simp; omega

  have K0 := kd_new w s 2 a f x D
  have C0 := fun w D => codes_any w D
  go_enter Tryd.func8, Tryd.ntmps8
  go_wp2_with (fail)
  refine (C0 _ K0.2.2).mono ?_
  rintro e w1 ⟨rfl, hb⟩
  have H := K0.step hb
  clear hb K0 C0
  obtain ⟨B, ⟨⟨d0, d1, d2, d3, d4⟩, dz⟩, T⟩ := id H
  go_wp2_with (fail)
  refine (tx _ T).mono ?_
  rintro e w2 ⟨rfl, hb⟩
  replace H := H.step hb
  clear hb
  clear B d0 d1 d2 d3 d4 dz T
  obtain ⟨B, ⟨⟨d0, d1, d2, d3, d4⟩, dz⟩, T⟩ := id H
  go_wp2_with (fail)
  refine (ck _).mono ?_
  rintro e w3 ⟨rfl, hb⟩
  replace H := H.step hb
  clear hb
  clear B d0 d1 d2 d3 d4 dz T
  obtain ⟨B, ⟨⟨d0, d1, d2, d3, d4⟩, dz⟩, T⟩ := id H
  go_wp2_with (fail)
  refine (pa _).mono ?_
  rintro e w4 ⟨rfl, hb⟩
  replace H := H.step hb
  have C9 := cb_new w4 s 2 a f x 41
  have hn := below_new w4 (.cells #[.int .i64 s, .int .i64 2, .int .i64 a, .int .i64 f, .bool x] 41)
  replace H := H.step hn
  clear hb hn
  clear B d0 d1 d2 d3 d4 dz T
  obtain ⟨B, ⟨⟨d0, d1, d2, d3, d4⟩, dz⟩, T⟩ := id H
  obtain ⟨⟨e0, e1, e2, e3, e4⟩, ez⟩ := C9
  go_wp2
  go_ret
  exact ⟨rfl, B⟩
set_option maxHeartbeats 2000000 in
set_option maxRecDepth 100000 in
theorem cchecks_3a (s a f : Int) (x : Bool) (w : World) (D : Tab w) (ba : -9223372036854775808 ≤ a ∧ a ≤ 9223372036854775807) (v : Int) (hv : chkC s 3 a f = v) (hz : v ≠ 0) (h8 : v = 80) (s0 : 0 ≤ s) (s7 : s ≤ 7) (h : a ≠ 0) :
    Calls Tryd.prog 8 #[.agg #[.int .i64 s, .int .i64 3, .int .i64 a, .int .i64 f, .bool x]] w fun e w' => e = .returned (.bool true) ∧ Below w.heap.size w w' := by
  have tx : ∀ w, Calls Tryd.prog 26 #[.agg #[.int .i64 s, .int .i64 3, .int .i64 a, .int .i64 f, .bool x]] w fun e w' => e = .returned (.string ⟨#[]⟩) ∧ Below w.heap.size w w' := fun w => by
    have := text_bad s 3 a f x w ba.1 ba.2 (by rw [hv]; exact hz)
    rw [txtC_bad (by rw [hv]; exact hz)] at this
    exact this
  have ck := fun w => check_c s 3 a f x v hv w ba.1 ba.2
  have f0 := freeV_bad (n := 1) (d := 1) (s := s) (k := 3) (a := a) (f := f) (by rw [hv]; exact hz)
  rw [hv] at f0
  have fr := fun w => free_v s 3 a f 1 1 x 0 v f0 w ba.1 ba.2
  have ch := fun w => charge_v s 3 a f 5 1 1 x 0 v (chargeV_free f0 hz) w ba.1 ba.2
  clear f0 hv hz
  subst h8
  have az : (a != 0) = true := by simp; omega
  clear h
  have K0 := kd_new w s 3 a f x D
  have C0 := fun w D => codes_any w D
  go_enter Tryd.func8, Tryd.ntmps8
  go_wp2_with (fail)
  refine (C0 _ K0.2.2).mono ?_
  rintro e w1 ⟨rfl, hb⟩
  have H := K0.step hb
  clear hb K0 C0
  obtain ⟨B, ⟨⟨d0, d1, d2, d3, d4⟩, dz⟩, T⟩ := id H
  go_wp2_with (fail)
  refine (tx _).mono ?_
  rintro e w2 ⟨rfl, hb⟩
  replace H := H.step hb
  clear hb
  clear B d0 d1 d2 d3 d4 dz T
  obtain ⟨B, ⟨⟨d0, d1, d2, d3, d4⟩, dz⟩, T⟩ := id H
  go_wp2_with (fail)
  refine (ck _).mono ?_
  rintro e w3 ⟨rfl, hb⟩
  replace H := H.step hb
  clear hb
  clear B d0 d1 d2 d3 d4 dz T
  obtain ⟨B, ⟨⟨d0, d1, d2, d3, d4⟩, dz⟩, T⟩ := id H
  go_wp2_with (fail)
  refine (fr _).mono ?_
  rintro e w4 ⟨rfl, hb⟩
  replace H := H.step hb
  clear hb
  clear B d0 d1 d2 d3 d4 dz T
  obtain ⟨B, ⟨⟨d0, d1, d2, d3, d4⟩, dz⟩, T⟩ := id H
  go_wp2_with (fail)
  refine (ch _).mono ?_
  rintro e w5 ⟨rfl, hb⟩
  replace H := H.step hb
  clear hb
  clear B d0 d1 d2 d3 d4 dz T
  obtain ⟨B, ⟨⟨d0, d1, d2, d3, d4⟩, dz⟩, T⟩ := id H
  go_wp2
  go_ret
  exact ⟨rfl, B⟩
set_option maxHeartbeats 2000000 in
set_option maxRecDepth 100000 in
theorem cchecks_4a (s a f : Int) (x : Bool) (w : World) (D : Tab w) (ba : -9223372036854775808 ≤ a ∧ a ≤ 9223372036854775807) (v : Int) (hv : chkC s 4 a f = v) (hz : v ≠ 0) (h8 : v = 80) (s0 : 0 ≤ s) (s7 : s ≤ 7) (h : a ≠ 0) :
    Calls Tryd.prog 8 #[.agg #[.int .i64 s, .int .i64 4, .int .i64 a, .int .i64 f, .bool x]] w fun e w' => e = .returned (.bool true) ∧ Below w.heap.size w w' := by
  have tx : ∀ w, Calls Tryd.prog 26 #[.agg #[.int .i64 s, .int .i64 4, .int .i64 a, .int .i64 f, .bool x]] w fun e w' => e = .returned (.string ⟨#[]⟩) ∧ Below w.heap.size w w' := fun w => by
    have := text_bad s 4 a f x w ba.1 ba.2 (by rw [hv]; exact hz)
    rw [txtC_bad (by rw [hv]; exact hz)] at this
    exact this
  have ck := fun w => check_c s 4 a f x v hv w ba.1 ba.2
  have f0 := freeV_bad (n := 1) (d := 1) (s := s) (k := 4) (a := a) (f := f) (by rw [hv]; exact hz)
  rw [hv] at f0
  have fr := fun w => free_v s 4 a f 1 1 x 0 v f0 w ba.1 ba.2
  have ch := fun w => charge_v s 4 a f 5 1 1 x 0 v (chargeV_free f0 hz) w ba.1 ba.2
  clear f0 hv hz
  subst h8
  have az : (a != 0) = true := by simp; omega
  clear h
  have K0 := kd_new w s 4 a f x D
  have C0 := fun w D => codes_any w D
  go_enter Tryd.func8, Tryd.ntmps8
  go_wp2_with (fail)
  refine (C0 _ K0.2.2).mono ?_
  rintro e w1 ⟨rfl, hb⟩
  have H := K0.step hb
  clear hb K0 C0
  obtain ⟨B, ⟨⟨d0, d1, d2, d3, d4⟩, dz⟩, T⟩ := id H
  go_wp2_with (fail)
  refine (tx _).mono ?_
  rintro e w2 ⟨rfl, hb⟩
  replace H := H.step hb
  clear hb
  clear B d0 d1 d2 d3 d4 dz T
  obtain ⟨B, ⟨⟨d0, d1, d2, d3, d4⟩, dz⟩, T⟩ := id H
  go_wp2_with (fail)
  refine (ck _).mono ?_
  rintro e w3 ⟨rfl, hb⟩
  replace H := H.step hb
  clear hb
  clear B d0 d1 d2 d3 d4 dz T
  obtain ⟨B, ⟨⟨d0, d1, d2, d3, d4⟩, dz⟩, T⟩ := id H
  go_wp2_with (fail)
  refine (fr _).mono ?_
  rintro e w4 ⟨rfl, hb⟩
  replace H := H.step hb
  clear hb
  clear B d0 d1 d2 d3 d4 dz T
  obtain ⟨B, ⟨⟨d0, d1, d2, d3, d4⟩, dz⟩, T⟩ := id H
  go_wp2_with (fail)
  refine (ch _).mono ?_
  rintro e w5 ⟨rfl, hb⟩
  replace H := H.step hb
  clear hb
  clear B d0 d1 d2 d3 d4 dz T
  obtain ⟨B, ⟨⟨d0, d1, d2, d3, d4⟩, dz⟩, T⟩ := id H
  go_wp2
  go_ret
  exact ⟨rfl, B⟩
set_option maxHeartbeats 2000000 in
set_option maxRecDepth 100000 in
theorem cchecks_3b (s a f : Int) (x : Bool) (w : World) (D : Tab w) (ba : -9223372036854775808 ≤ a ∧ a ≤ 9223372036854775807) (v : Int) (hv : chkC s 3 a f = v) (hz : v ≠ 0) (h8 : v = 80) (s0 : 0 ≤ s) (s7 : s ≤ 7) (h : a = 0) (hf : f < 0) :
    Calls Tryd.prog 8 #[.agg #[.int .i64 s, .int .i64 3, .int .i64 a, .int .i64 f, .bool x]] w fun e w' => e = .returned (.bool true) ∧ Below w.heap.size w w' := by
  have tx : ∀ w, Calls Tryd.prog 26 #[.agg #[.int .i64 s, .int .i64 3, .int .i64 a, .int .i64 f, .bool x]] w fun e w' => e = .returned (.string ⟨#[]⟩) ∧ Below w.heap.size w w' := fun w => by
    have := text_bad s 3 a f x w ba.1 ba.2 (by rw [hv]; exact hz)
    rw [txtC_bad (by rw [hv]; exact hz)] at this
    exact this
  have ck := fun w => check_c s 3 a f x v hv w ba.1 ba.2
  have f0 := freeV_bad (n := 1) (d := 1) (s := s) (k := 3) (a := a) (f := f) (by rw [hv]; exact hz)
  rw [hv] at f0
  have fr := fun w => free_v s 3 a f 1 1 x 0 v f0 w ba.1 ba.2
  have ch := fun w => charge_v s 3 a f 5 1 1 x 0 v (chargeV_free f0 hz) w ba.1 ba.2
  clear f0 hv hz
  subst h8
  have z1a : (a != 0) = false := by simp; omega
  have z2a : (a == 0) = true := by simp; omega
  have z3a : 0 ≤ a := by omega
  have z4a : a ≤ 999999000 := by omega
  have z5a : (a % 1000 != 0) = false := by simp; omega
  clear h
  have K0 := kd_new w s 3 a f x D
  have C0 := fun w D => codes_any w D
  go_enter Tryd.func8, Tryd.ntmps8
  go_wp2_with (fail)
  refine (C0 _ K0.2.2).mono ?_
  rintro e w1 ⟨rfl, hb⟩
  have H := K0.step hb
  clear hb K0 C0
  obtain ⟨B, ⟨⟨d0, d1, d2, d3, d4⟩, dz⟩, T⟩ := id H
  go_wp2_with (fail)
  refine (tx _).mono ?_
  rintro e w2 ⟨rfl, hb⟩
  replace H := H.step hb
  clear hb
  clear B d0 d1 d2 d3 d4 dz T
  obtain ⟨B, ⟨⟨d0, d1, d2, d3, d4⟩, dz⟩, T⟩ := id H
  go_wp2_with (fail)
  refine (ck _).mono ?_
  rintro e w3 ⟨rfl, hb⟩
  replace H := H.step hb
  clear hb
  clear B d0 d1 d2 d3 d4 dz T
  obtain ⟨B, ⟨⟨d0, d1, d2, d3, d4⟩, dz⟩, T⟩ := id H
  go_wp2_with (fail)
  refine (fr _).mono ?_
  rintro e w4 ⟨rfl, hb⟩
  replace H := H.step hb
  clear hb
  clear B d0 d1 d2 d3 d4 dz T
  obtain ⟨B, ⟨⟨d0, d1, d2, d3, d4⟩, dz⟩, T⟩ := id H
  go_wp2_with (fail)
  refine (ch _).mono ?_
  rintro e w5 ⟨rfl, hb⟩
  replace H := H.step hb
  clear hb
  clear B d0 d1 d2 d3 d4 dz T
  obtain ⟨B, ⟨⟨d0, d1, d2, d3, d4⟩, dz⟩, T⟩ := id H
  go_wp2
  go_ret
  exact ⟨rfl, B⟩
set_option maxHeartbeats 2000000 in
set_option maxRecDepth 100000 in
theorem cchecks_3c (s a f : Int) (x : Bool) (w : World) (D : Tab w) (ba : -9223372036854775808 ≤ a ∧ a ≤ 9223372036854775807) (v : Int) (hv : chkC s 3 a f = v) (hz : v ≠ 0) (h8 : v = 80) (s0 : 0 ≤ s) (s7 : s ≤ 7) (h : a = 0) (hf : 7 < f) :
    Calls Tryd.prog 8 #[.agg #[.int .i64 s, .int .i64 3, .int .i64 a, .int .i64 f, .bool x]] w fun e w' => e = .returned (.bool true) ∧ Below w.heap.size w w' := by
  have tx : ∀ w, Calls Tryd.prog 26 #[.agg #[.int .i64 s, .int .i64 3, .int .i64 a, .int .i64 f, .bool x]] w fun e w' => e = .returned (.string ⟨#[]⟩) ∧ Below w.heap.size w w' := fun w => by
    have := text_bad s 3 a f x w ba.1 ba.2 (by rw [hv]; exact hz)
    rw [txtC_bad (by rw [hv]; exact hz)] at this
    exact this
  have ck := fun w => check_c s 3 a f x v hv w ba.1 ba.2
  have f0 := freeV_bad (n := 1) (d := 1) (s := s) (k := 3) (a := a) (f := f) (by rw [hv]; exact hz)
  rw [hv] at f0
  have fr := fun w => free_v s 3 a f 1 1 x 0 v f0 w ba.1 ba.2
  have ch := fun w => charge_v s 3 a f 5 1 1 x 0 v (chargeV_free f0 hz) w ba.1 ba.2
  clear f0 hv hz
  subst h8
  have z1a : (a != 0) = false := by simp; omega
  have z2a : (a == 0) = true := by simp; omega
  have z3a : 0 ≤ a := by omega
  have z4a : a ≤ 999999000 := by omega
  have z5a : (a % 1000 != 0) = false := by simp; omega
  clear h
  have K0 := kd_new w s 3 a f x D
  have C0 := fun w D => codes_any w D
  go_enter Tryd.func8, Tryd.ntmps8
  go_wp2_with (fail)
  refine (C0 _ K0.2.2).mono ?_
  rintro e w1 ⟨rfl, hb⟩
  have H := K0.step hb
  clear hb K0 C0
  obtain ⟨B, ⟨⟨d0, d1, d2, d3, d4⟩, dz⟩, T⟩ := id H
  go_wp2_with (fail)
  refine (tx _).mono ?_
  rintro e w2 ⟨rfl, hb⟩
  replace H := H.step hb
  clear hb
  clear B d0 d1 d2 d3 d4 dz T
  obtain ⟨B, ⟨⟨d0, d1, d2, d3, d4⟩, dz⟩, T⟩ := id H
  go_wp2_with (fail)
  refine (ck _).mono ?_
  rintro e w3 ⟨rfl, hb⟩
  replace H := H.step hb
  clear hb
  clear B d0 d1 d2 d3 d4 dz T
  obtain ⟨B, ⟨⟨d0, d1, d2, d3, d4⟩, dz⟩, T⟩ := id H
  go_wp2_with (fail)
  refine (fr _).mono ?_
  rintro e w4 ⟨rfl, hb⟩
  replace H := H.step hb
  clear hb
  clear B d0 d1 d2 d3 d4 dz T
  obtain ⟨B, ⟨⟨d0, d1, d2, d3, d4⟩, dz⟩, T⟩ := id H
  go_wp2_with (fail)
  refine (ch _).mono ?_
  rintro e w5 ⟨rfl, hb⟩
  replace H := H.step hb
  clear hb
  clear B d0 d1 d2 d3 d4 dz T
  obtain ⟨B, ⟨⟨d0, d1, d2, d3, d4⟩, dz⟩, T⟩ := id H
  go_wp2
  go_ret
  exact ⟨rfl, B⟩
set_option maxHeartbeats 2000000 in
set_option maxRecDepth 100000 in
theorem cchecks_3ok (s a f : Int) (x : Bool) (w : World) (D : Tab w) (ba : -9223372036854775808 ≤ a ∧ a ≤ 9223372036854775807) (hv : chkC s 3 a f = 0) (s0 : 0 ≤ s) (s7 : s ≤ 7) (h : a = 0) (f0 : 0 ≤ f) (f7 : f ≤ 7) :
    Calls Tryd.prog 8 #[.agg #[.int .i64 s, .int .i64 3, .int .i64 a, .int .i64 f, .bool x]] w fun e w' => e = .returned (.bool true) ∧ Below w.heap.size w w' := by
  obtain ⟨T0, hT, z1, z2, tx⟩ := text_t s 3 a f x hv
  have hp := par_txt (x := x) hv
  rw [← hT] at hp
  have te := toList_some T0 z1
  have ck := fun w => check_c s 3 a f x 0 hv w ba.1 ba.2
  have pa := fun w => parse_v T0 w (by omega) s 3 a f 0 x hp
  have eq1 := fun W => eqc_yes s 3 a f s 3 a f x x W ⟨rfl, rfl, rfl, rfl, rfl⟩
  clear hp hT hv
  have z1a : (a != 0) = false := by simp; omega
  have z2a : (a == 0) = true := by simp; omega
  have z3a : 0 ≤ a := by omega
  have z4a : a ≤ 999999000 := by omega
  have z5a : (a % 1000 != 0) = false := by simp; omega
  clear h
  have K0 := kd_new w s 3 a f x D
  have C0 := fun w D => codes_any w D
  go_enter Tryd.func8, Tryd.ntmps8
  go_wp2_with (fail)
  refine (C0 _ K0.2.2).mono ?_
  rintro e w1 ⟨rfl, hb⟩
  have H := K0.step hb
  clear hb K0 C0
  obtain ⟨B, ⟨⟨d0, d1, d2, d3, d4⟩, dz⟩, T⟩ := id H
  go_wp2_with (fail)
  refine (tx _ T).mono ?_
  rintro e w2 ⟨rfl, hb⟩
  replace H := H.step hb
  clear hb
  clear B d0 d1 d2 d3 d4 dz T
  obtain ⟨B, ⟨⟨d0, d1, d2, d3, d4⟩, dz⟩, T⟩ := id H
  go_wp2_with (fail)
  refine (ck _).mono ?_
  rintro e w3 ⟨rfl, hb⟩
  replace H := H.step hb
  clear hb
  clear B d0 d1 d2 d3 d4 dz T
  obtain ⟨B, ⟨⟨d0, d1, d2, d3, d4⟩, dz⟩, T⟩ := id H
  go_wp2_with (fail)
  refine (pa _).mono ?_
  rintro e w4 ⟨rfl, hb⟩
  replace H := H.step hb
  have C9 := cb_new w4 s 3 a f x 41
  have hn := below_new w4 (.cells #[.int .i64 s, .int .i64 3, .int .i64 a, .int .i64 f, .bool x] 41)
  replace H := H.step hn
  clear hb hn
  clear B d0 d1 d2 d3 d4 dz T
  obtain ⟨B, ⟨⟨d0, d1, d2, d3, d4⟩, dz⟩, T⟩ := id H
  obtain ⟨⟨e0, e1, e2, e3, e4⟩, ez⟩ := C9
  go_wp2
  go_ret
  exact ⟨rfl, B⟩
set_option maxHeartbeats 2000000 in
set_option maxRecDepth 100000 in
theorem cchecks_4b (s a f : Int) (x : Bool) (w : World) (D : Tab w) (ba : -9223372036854775808 ≤ a ∧ a ≤ 9223372036854775807) (v : Int) (hv : chkC s 4 a f = v) (hz : v ≠ 0) (h8 : v = 80) (s0 : 0 ≤ s) (s7 : s ≤ 7) (h : a = 0) (hf : f ≠ 0) :
    Calls Tryd.prog 8 #[.agg #[.int .i64 s, .int .i64 4, .int .i64 a, .int .i64 f, .bool x]] w fun e w' => e = .returned (.bool true) ∧ Below w.heap.size w w' := by
  have tx : ∀ w, Calls Tryd.prog 26 #[.agg #[.int .i64 s, .int .i64 4, .int .i64 a, .int .i64 f, .bool x]] w fun e w' => e = .returned (.string ⟨#[]⟩) ∧ Below w.heap.size w w' := fun w => by
    have := text_bad s 4 a f x w ba.1 ba.2 (by rw [hv]; exact hz)
    rw [txtC_bad (by rw [hv]; exact hz)] at this
    exact this
  have ck := fun w => check_c s 4 a f x v hv w ba.1 ba.2
  have f0 := freeV_bad (n := 1) (d := 1) (s := s) (k := 4) (a := a) (f := f) (by rw [hv]; exact hz)
  rw [hv] at f0
  have fr := fun w => free_v s 4 a f 1 1 x 0 v f0 w ba.1 ba.2
  have ch := fun w => charge_v s 4 a f 5 1 1 x 0 v (chargeV_free f0 hz) w ba.1 ba.2
  clear f0 hv hz
  subst h8
  have z1a : (a != 0) = false := by simp; omega
  have z2a : (a == 0) = true := by simp; omega
  have z3a : 0 ≤ a := by omega
  have z4a : a ≤ 999999000 := by omega
  have z5a : (a % 1000 != 0) = false := by simp; omega
  clear h
  have fz : (f != 0) = true := by simp; omega
  clear hf
  have K0 := kd_new w s 4 a f x D
  have C0 := fun w D => codes_any w D
  go_enter Tryd.func8, Tryd.ntmps8
  go_wp2_with (fail)
  refine (C0 _ K0.2.2).mono ?_
  rintro e w1 ⟨rfl, hb⟩
  have H := K0.step hb
  clear hb K0 C0
  obtain ⟨B, ⟨⟨d0, d1, d2, d3, d4⟩, dz⟩, T⟩ := id H
  go_wp2_with (fail)
  refine (tx _).mono ?_
  rintro e w2 ⟨rfl, hb⟩
  replace H := H.step hb
  clear hb
  clear B d0 d1 d2 d3 d4 dz T
  obtain ⟨B, ⟨⟨d0, d1, d2, d3, d4⟩, dz⟩, T⟩ := id H
  go_wp2_with (fail)
  refine (ck _).mono ?_
  rintro e w3 ⟨rfl, hb⟩
  replace H := H.step hb
  clear hb
  clear B d0 d1 d2 d3 d4 dz T
  obtain ⟨B, ⟨⟨d0, d1, d2, d3, d4⟩, dz⟩, T⟩ := id H
  go_wp2_with (fail)
  refine (fr _).mono ?_
  rintro e w4 ⟨rfl, hb⟩
  replace H := H.step hb
  clear hb
  clear B d0 d1 d2 d3 d4 dz T
  obtain ⟨B, ⟨⟨d0, d1, d2, d3, d4⟩, dz⟩, T⟩ := id H
  go_wp2_with (fail)
  refine (ch _).mono ?_
  rintro e w5 ⟨rfl, hb⟩
  replace H := H.step hb
  clear hb
  clear B d0 d1 d2 d3 d4 dz T
  obtain ⟨B, ⟨⟨d0, d1, d2, d3, d4⟩, dz⟩, T⟩ := id H
  go_wp2
  go_ret
  exact ⟨rfl, B⟩
set_option maxHeartbeats 2000000 in
set_option maxRecDepth 100000 in
theorem cchecks_4ok (s a f : Int) (x : Bool) (w : World) (D : Tab w) (ba : -9223372036854775808 ≤ a ∧ a ≤ 9223372036854775807) (hv : chkC s 4 a f = 0) (s0 : 0 ≤ s) (s7 : s ≤ 7) (h : a = 0) (hf : f = 0) :
    Calls Tryd.prog 8 #[.agg #[.int .i64 s, .int .i64 4, .int .i64 a, .int .i64 f, .bool x]] w fun e w' => e = .returned (.bool true) ∧ Below w.heap.size w w' := by
  obtain ⟨T0, hT, z1, z2, tx⟩ := text_t s 4 a f x hv
  have hp := par_txt (x := x) hv
  rw [← hT] at hp
  have te := toList_some T0 z1
  have ck := fun w => check_c s 4 a f x 0 hv w ba.1 ba.2
  have pa := fun w => parse_v T0 w (by omega) s 4 a f 0 x hp
  have eq1 := fun W => eqc_yes s 4 a f s 4 a f x x W ⟨rfl, rfl, rfl, rfl, rfl⟩
  clear hp hT hv
  have z1a : (a != 0) = false := by simp; omega
  have z2a : (a == 0) = true := by simp; omega
  have z3a : 0 ≤ a := by omega
  have z4a : a ≤ 999999000 := by omega
  have z5a : (a % 1000 != 0) = false := by simp; omega
  clear h
  have z1f : (f != 0) = false := by simp; omega
  have z3f : 0 ≤ f := by omega
  have z4f : f ≤ 7 := by omega
  clear hf
  have K0 := kd_new w s 4 a f x D
  have C0 := fun w D => codes_any w D
  go_enter Tryd.func8, Tryd.ntmps8
  go_wp2_with (fail)
  refine (C0 _ K0.2.2).mono ?_
  rintro e w1 ⟨rfl, hb⟩
  have H := K0.step hb
  clear hb K0 C0
  obtain ⟨B, ⟨⟨d0, d1, d2, d3, d4⟩, dz⟩, T⟩ := id H
  go_wp2_with (fail)
  refine (tx _ T).mono ?_
  rintro e w2 ⟨rfl, hb⟩
  replace H := H.step hb
  clear hb
  clear B d0 d1 d2 d3 d4 dz T
  obtain ⟨B, ⟨⟨d0, d1, d2, d3, d4⟩, dz⟩, T⟩ := id H
  go_wp2_with (fail)
  refine (ck _).mono ?_
  rintro e w3 ⟨rfl, hb⟩
  replace H := H.step hb
  clear hb
  clear B d0 d1 d2 d3 d4 dz T
  obtain ⟨B, ⟨⟨d0, d1, d2, d3, d4⟩, dz⟩, T⟩ := id H
  go_wp2_with (fail)
  refine (pa _).mono ?_
  rintro e w4 ⟨rfl, hb⟩
  replace H := H.step hb
  have C9 := cb_new w4 s 4 a f x 41
  have hn := below_new w4 (.cells #[.int .i64 s, .int .i64 4, .int .i64 a, .int .i64 f, .bool x] 41)
  replace H := H.step hn
  clear hb hn
  clear B d0 d1 d2 d3 d4 dz T
  obtain ⟨B, ⟨⟨d0, d1, d2, d3, d4⟩, dz⟩, T⟩ := id H
  obtain ⟨⟨e0, e1, e2, e3, e4⟩, ez⟩ := C9
  go_wp2
  go_ret
  exact ⟨rfl, B⟩
theorem wCodeChecks (s k a f : Int) (x : Bool) (w : World) (D : Tab w) (bs : -9223372036854775808 ≤ s ∧ s ≤ 9223372036854775807) (bk : -9223372036854775808 ≤ k ∧ k ≤ 9223372036854775807) (ba : -9223372036854775808 ≤ a ∧ a ≤ 9223372036854775807) (bf : -9223372036854775808 ≤ f ∧ f ≤ 9223372036854775807) :
    Calls Tryd.prog 8 #[.agg #[.int .i64 s, .int .i64 k, .int .i64 a, .int .i64 f, .bool x]] w fun e w' => e = .returned (.bool true) ∧ Below w.heap.size w w' := by
  by_cases s0 : s < 0
  · exact cchecks_s0 s k a f x w D ba _ rfl (by unfold chkC; rw [if_pos (.inl s0)]; omega) (by unfold chkC; rw [if_pos (.inl s0)]) s0
  by_cases s7 : 7 < s
  · exact cchecks_s7 s k a f x w D ba _ rfl (by unfold chkC; rw [if_pos (.inr s7)]; omega) (by unfold chkC; rw [if_pos (.inr s7)]) s7
  have hc : chkC s k a f = if fitB k a f = true then 0 else 80 := by unfold chkC; rw [if_neg (by omega)]
  have hbad : fitB k a f = false → chkC s k a f = 80 := fun e => by rw [hc, e]; rfl
  have S0 : 0 ≤ s := by omega
  have S7 : s ≤ 7 := by omega
  by_cases k0 : k < 1
  · have h8 := hbad (by unfold fitB; rw [if_neg (by omega), if_neg (by omega), if_neg (by omega), if_neg (by omega)])
    exact cchecks_k0 s k a f x w D ba _ rfl (by omega) h8 S0 S7 k0
  by_cases k5 : 4 < k
  · have h8 := hbad (by unfold fitB; rw [if_neg (by omega), if_neg (by omega), if_neg (by omega), if_neg (by omega)])
    exact cchecks_k5 s k a f x w D ba _ rfl (by omega) h8 S0 S7 k5
  have hfit : ∀ {P : Prop}, ¬ P → (fitB k a f = true → P) → fitB k a f = false := fun hn hp => by
    cases hb : fitB k a f
    · rfl
    · exact absurd (hp hb) hn
  rcases (show k = 1 ∨ k = 2 ∨ k = 3 ∨ k = 4 by omega) with rfl | rfl | rfl | rfl
  · by_cases h1 : a < 0
    · have h8 := hbad (hfit (P := 0 ≤ a) (by omega) (fun e => by have := fitB_yes e; omega))
      exact cchecks_1a s a f x w D ba _ rfl (by omega) h8 S0 S7 h1
    by_cases h2 : 999999000 < a
    · have h8 := hbad (hfit (P := a ≤ 999999000) (by omega) (fun e => by have := fitB_yes e; omega))
      exact cchecks_1b s a f x w D ba _ rfl (by omega) h8 S0 S7 h2
    by_cases h3 : a % 1000 = 0
    rotate_left
    · have h8 := hbad (hfit (P := a % 1000 = 0) (by omega) (fun e => by have := fitB_yes e; omega))
      exact cchecks_1c s a f x w D ba _ rfl (by omega) h8 S0 S7 (by omega) (by omega) h3
    by_cases h5 : f = 0
    rotate_left
    · have h8 := hbad (hfit (P := f = 0) (by omega) (fun e => by have := fitB_yes e; omega))
      exact cchecks_1e s a f x w D ba _ rfl (by omega) h8 S0 S7 (by omega) (by omega) h3 h5
    exact cchecks_1ok s a f x w D ba (chkC_ok S0 S7 (by subst h5; unfold fitB; simp [cntB]; omega)) S0 S7 (by omega) (by omega) h3 h5
  · by_cases h1 : a < 0
    · have h8 := hbad (hfit (P := 0 ≤ a) (by omega) (fun e => by have := fitB_yes e; omega))
      exact cchecks_2a s a f x w D ba _ rfl (by omega) h8 S0 S7 h1
    by_cases h2 : 999999000 < a
    · have h8 := hbad (hfit (P := a ≤ 999999000) (by omega) (fun e => by have := fitB_yes e; omega))
      exact cchecks_2b s a f x w D ba _ rfl (by omega) h8 S0 S7 h2
    by_cases h3 : a % 1000 = 0
    rotate_left
    · have h8 := hbad (hfit (P := a % 1000 = 0) (by omega) (fun e => by have := fitB_yes e; omega))
      exact cchecks_2c s a f x w D ba _ rfl (by omega) h8 S0 S7 (by omega) (by omega) h3
    by_cases h4 : a = 0
    · have h8 := hbad (hfit (P := 0 < a) (by omega) (fun e => by have := fitB_yes e; omega))
      exact cchecks_2d s a f x w D ba _ rfl (by omega) h8 S0 S7 h4
    by_cases h5 : f = 0
    rotate_left
    · have h8 := hbad (hfit (P := f = 0) (by omega) (fun e => by have := fitB_yes e; omega))
      exact cchecks_2e s a f x w D ba _ rfl (by omega) h8 S0 S7 (by omega) (by omega) (by omega) h3 h5
    exact cchecks_2ok s a f x w D ba (chkC_ok S0 S7 (by subst h5; unfold fitB; simp [cntB]; omega)) S0 S7 (by omega) (by omega) (by omega) h3 h5
  · by_cases h1 : a = 0
    rotate_left
    · have h8 := hbad (hfit (P := a = 0) (by omega) (fun e => by have := fitB_yes e; omega))
      exact cchecks_3a s a f x w D ba _ rfl (by omega) h8 S0 S7 h1
    by_cases h2 : f < 0
    · have h8 := hbad (hfit (P := 0 ≤ f) (by omega) (fun e => by have := fitB_yes e; omega))
      exact cchecks_3b s a f x w D ba _ rfl (by omega) h8 S0 S7 h1 h2
    by_cases h3 : 7 < f
    · have h8 := hbad (hfit (P := f ≤ 7) (by omega) (fun e => by have := fitB_yes e; omega))
      exact cchecks_3c s a f x w D ba _ rfl (by omega) h8 S0 S7 h1 h3
    exact cchecks_3ok s a f x w D ba (chkC_ok S0 S7 (by subst h1; unfold fitB; simp; omega)) S0 S7 h1 (by omega) (by omega)
  · by_cases h1 : a = 0
    rotate_left
    · have h8 := hbad (hfit (P := a = 0) (by omega) (fun e => by have := fitB_yes e; omega))
      exact cchecks_4a s a f x w D ba _ rfl (by omega) h8 S0 S7 h1
    by_cases h2 : f = 0
    rotate_left
    · have h8 := hbad (hfit (P := f = 0) (by omega) (fun e => by have := fitB_yes e; omega))
      exact cchecks_4b s a f x w D ba _ rfl (by omega) h8 S0 S7 h1 h2
    exact cchecks_4ok s a f x w D ba (chkC_ok S0 S7 (by subst h1 h2; rfl)) S0 S7 h1 h2
end Go.Proofs.YthndkplmhpbgdaaDoor
