/- The chapter's examples. -/
import Derived.Test.YtclinogamfpooaaLa
namespace Go.Proofs.Ytclinogamfpooaa
open Go.RowKit

set_option maxHeartbeats 3200000 in
theorem awake04 (w : World) : Calls Try.prog 12 #[] w fun e w' => e = .returned (.bool true) ∧ Below w.heap.size w w' := by
  have h22 := eq22
  go_enter Try.func12, Try.ntmps12
  go_wp2_with fail
  refine (fbits_ok f1 _ f1_may f1_wf).mono ?_
  rintro e w1 ⟨v1, rfl, ho1, hb1⟩
  rw [f1_bts] at ho1
  obtain ⟨A1, cap1, rfl, hi1, hc1⟩ := ho1.il2
  rw [show lone.length = 19 from rfl] at hi1 hc1 ⊢
  have HI1 := Lib.hid hi1
  have HB1 := Lib.hid hb1
  clear hb1 hi1 ho1
  go_wp2_with fail
  refine (next_any_row A1 19 cap1 lone _ HI1.out (by omega) hc1 (by decide)).mono ?_
  rintro e w2 ⟨rfl, hb2⟩
  rw [f1_next]
  have HI2 := Lib.hid (HI1.out.below hb2)
  have HB2 := Lib.hid (nxt HB1.out hb2)
  clear hb2 HI1 HB1
  go_wp2_with fail
  refine (ahead_any A1 19 cap1 lone _ HI2.out (by omega) hc1 (by decide)).mono ?_
  rintro e w3 ⟨rfl, hb3⟩
  rw [f1_ahead]
  have HI3 := Lib.hid (HI2.out.below hb3)
  have HB3 := Lib.hid (nxt HB2.out hb3)
  clear hb3 HI2 HB2
  go_wp2_with fail
  refine (frame_any A1 19 cap1 lone _ HI3.out (by omega) hc1 (by decide)).mono ?_
  rintro e w4 ⟨rfl, hb4⟩
  rw [f1_frame]
  have HI4 := Lib.hid (HI3.out.below hb4)
  have HB4 := Lib.hid (nxt HB3.out hb4)
  clear hb4 HI3 HB3
  go_wp2_with fail
  refine (fall_ok f1 _ f1_may f1_wf).mono ?_
  rintro e w5 ⟨v5, rfl, ho5, hb5⟩
  obtain ⟨A5, cap5, rfl, hi5, _⟩ := ho5.il2
  rw [f1_alls]
  have HF5 := Lib.hid (bx_past (f := f1) hb5)
  have hb5' := nxt ((Below.refl w4.heap.size w4).alloc (Nat.le_refl _) (.cells f1.cells 24)) hb5
  have HI5 := Lib.hid (HI4.out.below hb5')
  have HB5 := Lib.hid (nxt HB4.out hb5')
  have hlt : w4.heap.size < w5.heap.size := by have := hb5.size; simp at this; omega
  clear hb5 hb5' ho5 hi5 HI4 HB4
  have HL := Lib.hid (show Il (w5.alloc (.cells (lone.map (Value.int .i64)).toArray 3)) (some ⟨w5.heap.size, 0, none⟩) 19 lone from (Arr.new w5 .i64 3 lone).il)
  have HBL := Lib.hid ((Below.refl w5.heap.size w5).alloc (Nat.le_refl _) (.cells (lone.map (Value.int .i64)).toArray 3))
  go_wp2_with fail
  refine (ints_b A1 (some ⟨w5.heap.size, 0, none⟩) 19 19 cap1 19 lone lone _ (HI5.out.below HBL.out) HL.out (by omega)).mono ?_
  rintro e w6 ⟨rfl, hb6⟩
  rw [show (lone == lone) = true from by decide]
  have hb6' := nxt HBL.out hb6
  obtain ⟨c0, c1, c2, c3, c4, c5, c6, c7, c8, c9, c10, c11⟩ := HF5.out.below hb6' hlt
  have HB6 := Lib.hid (nxt HB5.out hb6')
  clear hb6 hb6' HL HBL HI5 HF5
  go_wp2
  go_ret
  exact ⟨rfl, HB6.out⟩
end Go.Proofs.Ytclinogamfpooaa
