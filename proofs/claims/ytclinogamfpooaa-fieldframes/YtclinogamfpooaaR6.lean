/- The reference of layer 4: Widths. -/
import Derived.Test.YtclinogamfpooaaR5
namespace Go.Proofs.Ytclinogamfpooaa
open Go.RowKit

/-- The reference's widths: as far as they are known. -/
def rW (zs : List Int) : List Nat := if zs.length < 14 then [1] else if zs.length < hEnd (hEx zs) then [1, aW (hEx zs), cW (hEx zs)] else hW zs
def nats (l : List Nat) : List Int := l.map fun n : Nat => (n : Int)
theorem nats_len (l : List Nat) : (nats l).length = l.length := by unfold nats; simp
def RowOf (zs : List Int) (w : World) (e : Ending) (w' : World) : Prop := ∃ A c, e = .returned (.slice A zs.length c) ∧ Il w' A zs.length zs ∧ Below w.heap.size w w'
theorem rowOf_lit {w0 w : World} {zs l : List Int} (he : zs = l) (hb : Below w0.heap.size w0 w) : RowOf zs w0 (.returned (.slice (some ⟨w.heap.size, 0, none⟩) (l.length : Nat) (l.length : Nat))) (w.alloc (.cells (l.map (Value.int .i64)).toArray 3)) := by
  subst he
  exact ⟨_, _, rfl, (Arr.new w .i64 3 zs).il, hb.alloc (hb.size) _⟩

set_option maxHeartbeats 800000 in
theorem rwid_ok (A : Option Addr) (n cap : Nat) (zs : List Int) (w : World) (hr : Il w A n zs) (hn : n ≤ 100000) (hcap : n ≤ cap) (hl : ∀ z ∈ zs, lvl z = true) :
    Calls Try.prog 39 #[.slice A n cap] w (RowOf (nats (rW zs)) w) := by
  have HZ := Lib.hid hr.1
  have HL := Lib.hid hl
  have HR := Lib.hid hr
  by_cases h14 : n < 14
  · have HE := Lib.hid (show nats (rW zs) = [1] by unfold rW; rw [HZ.out, if_pos h14]; rfl)
    clear hr hl
    go_enter Try.func39, Try.ntmps39
    go_wp2
    go_ret
    exact rowOf_lit HE.out (Below.refl _ _)
  · obtain ⟨ad, z13, rfl, hz13, hc13⟩ := hr.at_ (show 13 < n by omega)
    obtain ⟨ad', z12, e, hz12, hc12⟩ := hr.at_ (show 12 < n by omega)
    injection e with e
    subst e
    have hx13 := one_at hz13
    have hx12 := one_at hz12
    rw [add_pos ad (by omega)] at hc13 hc12
    cases hx : (z13 == 1)
    · have HX := Lib.hid (show hEx zs = false from hx13.trans hx)
      by_cases hE : n < 19
      · have HE := Lib.hid (show nats (rW zs) = [1, 13, 5] by unfold rW; rw [HZ.out, if_neg h14, HX.out, show hEnd false = 19 from rfl, if_pos hE]; rfl)
        clear hr hl hz13 hz12 hc12 hx12 hx13
        go_enter Try.func39, Try.ntmps39
        go_wp2
        go_ret
        exact rowOf_lit HE.out (Below.refl _ _)
      · have HS := Lib.hid (hLn_far (zs := zs) (by rw [HX.out, HZ.out]; simp [hEnd]; omega))
        rw [HX.out, show hEnd false - 4 = 15 from rfl] at HS
        have hv := val_4 (all_cut HL.out 15 4) (cutL_len (by rw [HZ.out]; omega))
        have HRT := Lib.hid (show hRt zs = (z12 == 1) by unfold hRt; rw [HX.out]; exact hx12)
        have HE := Lib.hid (show ∀ d : Nat, hDat zs = d → nats (rW zs) = [1, 13, 5, (d : Int), 15, 1, 1, 1, 7] by intro d hd; unfold rW; rw [HZ.out, if_neg h14, HX.out, show hEnd false = 19 from rfl, if_neg hE]; unfold hW; rw [HX.out, hd]; rfl)
        have HI := Lib.hid (hr.cut 15 4 (by omega))
        obtain ⟨v, hv0⟩ : ∃ v, val (cutL zs 15 4) = v := ⟨_, rfl⟩
        rw [hv0] at hv HS
        have HV := Lib.hid hv0
        have i1 : (v : Int) < 16 := by omega
        have i2 : (19 : Int) ≤ (cap : Int) := by omega
        clear hr hl hz13 hz12 hx12 hx13 hv0 hv
        go_enter Try.func39, Try.ntmps39
        go_wp2_with fail
        refine (rv4_ok _ 4 _ _ _ HI.out (by omega) (all_cut HL.out _ _)).mono ?_
        rintro e w' ⟨rfl, rfl⟩
        rw [HV.out]
        cases hr1 : (z12 == 1)
        · by_cases h8 : v > 8
          · have HD := Lib.hid (HE.out 64 (by unfold hDat; rw [HRT.out, hr1, HS.out, show min v 8 = 8 by omega]; rfl))
            go_wp2
            go_ret
            exact rowOf_lit HD.out (Below.refl _ _)
          · have HD := Lib.hid (HE.out (8 * v) (by unfold hDat; rw [HRT.out, hr1, HS.out, show min v 8 = v by omega]; simp; omega))
            rw [show ((8 * v : Nat) : Int) = 8 * (v : Int) by omega] at HD
            go_wp2
            go_ret
            exact rowOf_lit HD.out (Below.refl _ _)
        · have HD := Lib.hid (HE.out 0 (by unfold hDat; rw [HRT.out, hr1]; rfl))
          by_cases h8 : v > 8
          · go_wp2
            go_ret
            exact rowOf_lit HD.out (Below.refl _ _)
          · go_wp2
            go_ret
            exact rowOf_lit HD.out (Below.refl _ _)
    · have HX := Lib.hid (show hEx zs = true from hx13.trans hx)
      by_cases hE : n < 39
      · have HE := Lib.hid (show nats (rW zs) = [1, 32, 6] by unfold rW; rw [HZ.out, if_neg h14, HX.out, show hEnd true = 39 from rfl, if_pos hE]; rfl)
        clear hr hl hz13 hz12 hc12 hx12 hx13
        go_enter Try.func39, Try.ntmps39
        go_wp2
        go_ret
        exact rowOf_lit HE.out (Below.refl _ _)
      · obtain ⟨ad', z32, e, hz32, hc32⟩ := hr.at_ (show 32 < n by omega)
        injection e with e
        subst e
        have hx32 := one_at hz32
        rw [add_pos ad (by omega)] at hc32
        have HS := Lib.hid (hLn_far (zs := zs) (by rw [HX.out, HZ.out]; simp [hEnd]; omega))
        rw [HX.out, show hEnd true - 4 = 35 from rfl] at HS
        have hv := val_4 (all_cut HL.out 35 4) (cutL_len (by rw [HZ.out]; omega))
        have HRT := Lib.hid (show hRt zs = (z32 == 1) by unfold hRt; rw [HX.out]; exact hx32)
        have HE := Lib.hid (show ∀ d : Nat, hDat zs = d → nats (rW zs) = [1, 32, 6, (d : Int), 15, 1, 1, 1, 7] by intro d hd; unfold rW; rw [HZ.out, if_neg h14, HX.out, show hEnd true = 39 from rfl, if_neg hE]; unfold hW; rw [HX.out, hd]; rfl)
        have HI := Lib.hid (hr.cut 35 4 (by omega))
        obtain ⟨v, hv0⟩ : ∃ v, val (cutL zs 35 4) = v := ⟨_, rfl⟩
        rw [hv0] at hv HS
        have HV := Lib.hid hv0
        have i1 : (v : Int) < 16 := by omega
        have i2 : (39 : Int) ≤ (cap : Int) := by omega
        clear hr hl hz13 hz12 hz32 hx12 hx13 hx32 hv0 hv
        go_enter Try.func39, Try.ntmps39
        go_wp2_with fail
        refine (rv4_ok _ 4 _ _ _ HI.out (by omega) (all_cut HL.out _ _)).mono ?_
        rintro e w' ⟨rfl, rfl⟩
        rw [HV.out]
        cases hr1 : (z32 == 1)
        · by_cases h8 : v > 8
          · have HD := Lib.hid (HE.out 64 (by unfold hDat; rw [HRT.out, hr1, HS.out, show min v 8 = 8 by omega]; rfl))
            go_wp2
            go_ret
            exact rowOf_lit HD.out (Below.refl _ _)
          · have HD := Lib.hid (HE.out (8 * v) (by unfold hDat; rw [HRT.out, hr1, HS.out, show min v 8 = v by omega]; simp; omega))
            rw [show ((8 * v : Nat) : Int) = 8 * (v : Int) by omega] at HD
            go_wp2
            go_ret
            exact rowOf_lit HD.out (Below.refl _ _)
        · have HD := Lib.hid (HE.out 0 (by unfold hDat; rw [HRT.out, hr1]; rfl))
          by_cases h8 : v > 8
          · go_wp2
            go_ret
            exact rowOf_lit HD.out (Below.refl _ _)
          · go_wp2
            go_ret
            exact rowOf_lit HD.out (Below.refl _ _)
end Go.Proofs.Ytclinogamfpooaa
