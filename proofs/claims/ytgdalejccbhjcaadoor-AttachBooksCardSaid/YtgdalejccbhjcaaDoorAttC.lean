/- What attach.Line answers. -/
import Derived.Test.YtgdalejccbhjcaaDoorAttB
import Derived.Test.YtgdalejccbhjcaaDoorText
import Derived.Deep.RegionHeld3
namespace Go.Proofs.YtgdalejccbhjcaaDoor
open Go.RowKit Go.Sort
set_option linter.unusedVariables false
set_option linter.unusedSimpArgs false

def tx (x : Int) : Value := .string ⟨(txt x).toArray⟩
/-- the four words of what an order took -/
def LineP (x : Tkn) (w : World) (e : Ending) (w' : World) : Prop := ∃ b, e = .returned (.slice (some ⟨b, 0, none⟩) 4 4) ∧ Bx w' b 9 [tx x.b, tx x.r, tx x.t, tx x.c] ∧ w.heap.size ≤ b ∧ Below w.heap.size w w'
set_option maxRecDepth 100000 in
set_option maxHeartbeats 4000000 in
theorem line_any (x : Tkn) (w : World) (hT : Tab w) (hf : x.F) : Calls Tryd.prog 18 #[x.v] w (LineP x w) := by
  obtain ⟨_, ⟨b1, b2⟩, ⟨r1, r2⟩, _, ⟨t1, t2⟩, c1, c2⟩ := hf
  have cB := fun w h => text_any x.b w b1 b2 h
  have cR := fun w h => text_any x.r w r1 r2 h
  have cT := fun w h => text_any x.t w t1 t2 h
  have cC := fun w h => text_any x.c w c1 c2 h
  have K := bx_new w [.int .i64 x.o, .int .i64 x.b, .int .i64 x.r, .int .i64 x.d, .int .i64 x.t, .int .i64 x.c] 36
  have B1 := below_new w (.cells #[.int .i64 x.o, .int .i64 x.b, .int .i64 x.r, .int .i64 x.d, .int .i64 x.t, .int .i64 x.c] 36)
  have hT1 := hT.below B1
  have k1 := K.cell (i := 1) rfl
  have k2 := K.cell (i := 2) rfl
  have k4 := K.cell (i := 4) rfl
  have k5 := K.cell (i := 5) rfl
  have HX : Hid (tx x.b = .string ⟨(txt x.b).toArray⟩ ∧ tx x.r = .string ⟨(txt x.r).toArray⟩ ∧ tx x.t = .string ⟨(txt x.t).toArray⟩ ∧ tx x.c = .string ⟨(txt x.c).toArray⟩) := Lib.hid ⟨rfl, rfl, rfl, rfl⟩
  unfold Tkn.v LineP
  clear b1 b2 r1 r2 t1 t2 c1 c2 hT
  generalize (⟨(txt x.b).toArray⟩ : ByteArray) = sb at *
  generalize (⟨(txt x.r).toArray⟩ : ByteArray) = sr at *
  generalize (⟨(txt x.t).toArray⟩ : ByteArray) = st at *
  generalize (⟨(txt x.c).toArray⟩ : ByteArray) = sc at *
  generalize tx x.b = vb at *
  generalize tx x.r = vr at *
  generalize tx x.t = vt at *
  generalize tx x.c = vc at *
  generalize x.o = x0 at *
  generalize x.b = x1 at *
  generalize x.r = x2 at *
  generalize x.d = x3 at *
  generalize x.t = x4 at *
  generalize x.c = x5 at *
  go_enter Tryd.func18, Tryd.ntmps18
  go_wp2_with (fail)
  generalize w.alloc (.cells #[.int .i64 x0, .int .i64 x1, .int .i64 x2, .int .i64 x3, .int .i64 x4, .int .i64 x5] 36) = W at *
  have hpw := K.lt

  generalize hpe : w.heap.size = p at *
  have HPE := Lib.hid hpe
  clear hpe
  have S1 : W.drew.cell? ⟨p, 1, none⟩ = some (.int .i64 x1) ∧ W.drew.cell? ⟨p, 2, none⟩ = some (.int .i64 x2) ∧ W.drew.cell? ⟨p, 4, none⟩ = some (.int .i64 x4) ∧ W.drew.cell? ⟨p, 5, none⟩ = some (.int .i64 x5) := ⟨k1, k2, k4, k5⟩
  have mk : ∀ V : World, Below W.heap.size W V → (V.cell? ⟨p, 1, none⟩ = some (.int .i64 x1) ∧ V.cell? ⟨p, 2, none⟩ = some (.int .i64 x2) ∧ V.cell? ⟨p, 4, none⟩ = some (.int .i64 x4) ∧ V.cell? ⟨p, 5, none⟩ = some (.int .i64 x5)) := fun V hb => ⟨cell_later hb k1, cell_later hb k2, cell_later hb k4, cell_later hb k5⟩
  have hTb : ∀ V, Below W.heap.size W V → Tab V := fun V h => hT1.below h
  have hT4 : Tab W.drew := hTb _ (Below.refl _ _).drew
  have hw : Below W.heap.size W W.drew := (Below.refl _ _).drew
  go_region_held3 (fun X => X.cell? ⟨p, 1, none⟩ = some (.int .i64 x1) ∧ X.cell? ⟨p, 2, none⟩ = some (.int .i64 x2) ∧ X.cell? ⟨p, 4, none⟩ = some (.int .i64 x4) ∧ X.cell? ⟨p, 5, none⟩ = some (.int .i64 x5))
    ((first | exact S1 | assumption | exact mk _ hw | exact mk _ (hw.alloc hw.size _)))
    (first
      | (go_at_call 36; with_reducible refine (cB _ (hTb _ hw)).mono ?_; rintro e w6 ⟨rfl, hb⟩; replace hw := below_step hw hb hw.size)
      | (go_at_call 36; with_reducible refine (cR _ (hTb _ hw)).mono ?_; rintro e w6 ⟨rfl, hb⟩; replace hw := below_step hw hb hw.size)
      | (go_at_call 36; with_reducible refine (cT _ (hTb _ hw)).mono ?_; rintro e w6 ⟨rfl, hb⟩; replace hw := below_step hw hb hw.size)
      | (go_at_call 36; with_reducible refine (cC _ (hTb _ hw)).mono ?_; rintro e w6 ⟨rfl, hb⟩; replace hw := below_step hw hb hw.size))
  all_goals
    have hz := hw.size
    have B9 := below_step B1 hw (by omega)
    clear S1 mk hTb hT4 k1 k2 k4 k5 K cB cR cT cC
    go_wp2
    go_ret
    refine ⟨_, rfl, ?_, ?_, ?_⟩
    · rw [HX.out.1, HX.out.2.1, HX.out.2.2.1, HX.out.2.2.2]
      exact bx_new _ [_, _, _, _] _
    · have := HPE.out
      omega
    · rw [HPE.out]
      exact B9.alloc (by omega) _
end Go.Proofs.YtgdalejccbhjcaaDoor
