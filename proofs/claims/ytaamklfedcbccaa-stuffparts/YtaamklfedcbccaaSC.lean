/- The contract of stuff.Take. -/
import Derived.Test.YtaamklfedcbccaaSB
import Derived.Test.YtaamklfedcbccaaSN
import Derived.WalkMore
namespace Go.Proofs.Ytaamklfedcbccaa
open Go.RowKit

/-- What Take answers. -/
def TkOut (zs : List Int) (w : World) (e : Ending) (w' : World) : Prop :=
  ∃ A cap, e = .returned (.tuple #[.slice A (tkR zs).length cap, .int .i64 (tkAt zs), .int .i64 (tkE zs)]) ∧ Il w' A (tkR zs).length (tkR zs) ∧ (tkR zs).length ≤ cap ∧ Below w.heap.size w w'
theorem TkOut.nil {zs : List Int} {w w' : World} {at_ er : Int} (h : tkE zs = er ∧ tkAt zs = at_ ∧ tkR zs = []) (hb : Below w.heap.size w w') : TkOut zs w (.returned (.tuple #[.slice none 0 0, .int .i64 at_, .int .i64 er])) w' := by
  obtain ⟨h1, h2, h3⟩ := h
  refine ⟨none, 0, ?_, ?_, ?_, hb⟩
  · rw [h1, h2, h3]; rfl
  · rw [h3]; exact ⟨rfl, fun h => by simp at h⟩
  · rw [h3]; exact Nat.le_refl _

set_option maxHeartbeats 800000 in
theorem take_any (A : Option Addr) (n cap : Nat) (zs : List Int) (w : World) (hr : Il w A n zs) (hn : n ≤ 10000) :
    Calls Try.prog 16 #[.slice A n cap] w (TkOut zs w) := by
  have HR := Lib.hid hr
  have hmk := make1 n (by omega)
  rcases Int.lt_or_le (chk zs) 0 with hck | hck
  · have hl := fst_neg lvl zs hck
    have HL := Lib.hid (show chk zs = -1 from fst_of_all lvl zs hl)
    have HK := Lib.hid (show chk zs < 0 by omega)
    have HLN := Lib.hid hr.1
    clear hl hr hck
    go_enter Try.func16, Try.ntmps16
    go_wp2_with fail
    go_step3
    go_wp2_with fail
    refine (check_any _ _ _ _ _ HR.out (by omega)).mono ?_
    rintro e w' ⟨rfl, rfl⟩
    rw [HL.out]
    go_wp2_with fail
    have HO := Lib.hid (Own.room w w.heap.size n (Nat.le_refl _) (by omega))
    have HB := Lib.hid ((Below.refl w.heap.size w).alloc (Nat.le_refl _) (.cells (Array.replicate n (Value.int .i64 0)) 3))
    have HS := Lib.hid (show (w.alloc (.cells (Array.replicate n (Value.int .i64 0)) 3)).heap.size = w.heap.size + 1 by simp)
    generalize w.alloc (.cells (Array.replicate n (Value.int .i64 0)) 3) = w1 at *
    refine (teller_any _).mono ?_
    rintro e w2 ⟨rfl, ht, hb2⟩
    have HT := Lib.hid ht
    have HO2 := Lib.hid (HO.out.below hb2)
    have HB2 := Lib.hid (nxt HB.out hb2)
    rw [HS.out] at HT ⊢
    clear ht hb2 hmk HO HB HS
    have HA := Lib.hid (show Apart (.slice (some ⟨w.heap.size, 0, none⟩) 0 n) (w.heap.size + 1) from ⟨by simp [Value.ownBlock], by simp [Value.ownBlock]; omega⟩)
    go_wp2
    go_step3
    go_wp2
    go_loopw [6, 8, 9] (fun v i a wr => ∃ k : Nat, k ≤ n ∧ k ≤ sx zs ∧ i = .int .i64 k ∧ a = .int .i64 (alk (zs.take k) : Nat) ∧ Own wr w.heap.size v (stk (zs.take k)) ∧ Two wr (w.heap.size + 1) (endr (zs.take k)) ∧ Apart v (w.heap.size + 1) ∧ Below w.heap.size w wr) (fun _ i _ _ => n - (intOf i).toNat)
    case atStart => exact ⟨0, Nat.zero_le _, Nat.zero_le _, rfl, rfl, HO2.out, HT.out, HA.out, HB2.out⟩
    case round =>
      obtain ⟨k, hk, hksx, rfl, rfl, ho, ht, ha, hbel⟩ := hrel
      have HSX := Lib.hid hksx
      clear hksx
      by_cases hlt : k < n
      · obtain ⟨ad, z, rfl, hz, hc⟩ := (HR.out.below hbel).at_ hlt
        have HZ := Lib.hid hz
        have hol : (stk (zs.take k)).length ≤ k := by have := stk_len (zs.take k); rw [List.length_take] at this; omega
        have hsz := hbel.size
        have HAL := Lib.hid (show alk (zs.take k) ≤ k by have := (alk_spec (zs.take k)).1; rw [List.length_take] at this; omega)
        have HO := Lib.hid ho; have HT := Lib.hid ht; have HA := Lib.hid ha
        have HE := Lib.hid (take_endr hz)
        have HKL := Lib.hid (show k < zs.length by rw [HLN.out]; exact hlt)
        clear hz ho ht ha HO2 HB2
        go_wp2_with fail
        refine (tell_any (endr (zs.take k)) z _ _ (by show alk (zs.take k) ≤ 100000; have := HAL.out; omega) HT.out).mono ?_
        rintro e w3 ⟨rfl, ht3, hs3⟩
        rw [← HE.out] at ht3 ⊢
        have HT3 := Lib.hid ht3
        have HO3 := Lib.hid (HO.out.still hs3 HA.out)
        have HB3 := Lib.hid (hbel.trans (hs3.bel.mono (Nat.le_succ _)))
        have hc3 : w3.cell? (ad.add k) = some (.int .i64 z) := by
          obtain ⟨ad', z', e1, e2, e3⟩ := (HR.out.below HB3.out).at_ hlt
          injection e1 with e1
          rw [HZ.out] at e2
          injection e2 with e2
          rw [e1, e2]; exact e3
        clear ht3 hs3 HO HT HE
        rw [show (endr (zs.take (k + 1))).2 = alk (zs.take (k + 1)) from rfl]
        by_cases h6 : alk (zs.take (k + 1)) ≤ 5
        · have HSX1 := Lib.hid (sx_succ HSX.out HKL.out h6)
          by_cases h5 : 5 ≤ alk (zs.take k)
          · have HK5 := Lib.hid (stk_step_five HZ.out h5)
            have hq1 : decide ((5 : Int) < ((alk (zs.take (k + 1)) : Nat) : Int)) = false := by simp; omega
            have hq2 : decide (((alk (zs.take k) : Nat) : Int) < 5) = false := by simp; omega
            generalize hx : alk (zs.take (k + 1)) = x at *
            generalize hy : alk (zs.take k) = y at *
            have HX := Lib.hid hx
            clear h5 h6 hx hy
            go_wp2
            go_roundw
            case rel => exact ⟨k + 1, by omega, HSX1.out, by go_num, by rw [HX.out], by rw [HK5.out]; exact HO3.out, HT3.out, HA.out, HB3.out⟩
            case measure => simp [intOf]; omega
          · have HK5 := Lib.hid (stk_step_else HZ.out h5)
            have hq1 : decide ((5 : Int) < ((alk (zs.take (k + 1)) : Nat) : Int)) = false := by simp; omega
            have hq2 : decide (((alk (zs.take k) : Nat) : Int) < 5) = true := by simp; omega
            have hsz3 := HB3.out.size
            generalize hx : alk (zs.take (k + 1)) = x at *
            generalize hy : alk (zs.take k) = y at *
            generalize stk (zs.take k) = o at *
            have HX := Lib.hid hx
            clear h5 h6 hx hy hsz
            go_wp2_with (first | (at_builtin; (refine append_ints2 _ rfl (.tmp 37) (.tmp 42) rfl w.heap.size u6 o rfl (HO3.out.alloc _) _ 1 1 [z] rfl (Arr.new w3 .i64 3 [z]).il (by omega) (by simp; omega) ?_); intro v1 w1 ho1 hg1 hl1; have HO1 := Lib.hid ho1; have HT1 := Lib.hid (HT3.out.pushed hg1 HA.out); have HA1 := Lib.hid (HA.out.lies hl1 HT3.out); have HB1 := Lib.hid (push_lit HB3.out hsz3 HO3.out hg1); clear ho1 hg1 hl1) | fail)
            go_roundw
            case rel => exact ⟨k + 1, by omega, HSX1.out, by go_num, by rw [HX.out], by rw [HK5.out]; exact HO1.out, HT1.out, HA1.out, HB1.out⟩
            case measure => simp [intOf]; omega
        · have HE6 := Lib.hid (sx_stop HSX.out HKL.out h6)
          have hq1 : decide ((5 : Int) < ((alk (zs.take (k + 1)) : Nat) : Int)) = true := by simp; omega
          generalize alk (zs.take (k + 1)) = x at *
          generalize alk (zs.take k) = y at *
          clear h6
          go_wp2
          try rw [Exit.noGoto_ret]
          go_ret3
          have h := tk_six (Int.not_le.2 HK.out) (by rw [HE6.out]; exact HKL.out)
          rw [HE6.out] at h
          exact TkOut.nil h HB3.out
      · have HTK := Lib.hid (show zs.take k = zs from List.take_of_length_le (by rw [HLN.out]; omega))
        have hkn : k = n := by omega
        have H6 := Lib.hid (show ¬ sx zs < zs.length by have := HSX.out; rw [HLN.out]; omega)
        rw [HTK.out] at ho ⊢
        subst hkn
        by_cases h5 : alk zs = 5
        · have HF := Lib.hid (tk_short (Int.not_le.2 HK.out) H6.out h5)
          rw [h5]
          go_wp2
          try rw [Exit.noGoto_ret]
          go_ret3
          have h := HF.out
          rw [HLN.out] at h
          exact TkOut.nil h hbel
        · have HF := Lib.hid (tk_ok (Int.not_le.2 HK.out) H6.out h5)
          obtain ⟨A', cap', rfl, hil, hcap⟩ := ho.il2
          have HI := Lib.hid hil
          have hq : (((alk zs : Nat) : Int) == 5) = false := by simp; omega
          generalize alk zs = x at *
          clear h5 ht ha hil
          go_wp2
          try rw [Exit.noGoto_ret]
          go_ret3
          obtain ⟨f1, f2, f3⟩ := HF.out
          exact ⟨A', cap', by rw [f1, f2, f3]; rfl, by rw [f3]; exact HI.out, by rw [f3]; exact hcap, hbel⟩
  · have HF := Lib.hid (tk_bad hck)
    go_enter Try.func16, Try.ntmps16
    go_wp2_with fail
    go_step3
    go_wp2_with (go_at_call 20; (with_reducible refine (check_any _ _ _ _ _ hr (by omega)).mono ?_); rintro e w' ⟨rfl, rfl⟩)
    try rw [Exit.noGoto_ret]
    go_ret3
    exact TkOut.nil HF.out (Below.refl _ _)
end Go.Proofs.Ytaamklfedcbccaa
