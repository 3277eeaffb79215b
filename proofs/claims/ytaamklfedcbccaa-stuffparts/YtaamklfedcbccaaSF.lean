/- The contract of the reference's Take. -/
import Derived.Test.YtaamklfedcbccaaSE
namespace Go.Proofs.Ytaamklfedcbccaa
open Go.RowKit

theorem lst_take {t : List Int} {k : Nat} (h : k + 1 ≤ t.length) : lst (t.take (k + 1)) = t.getD k 0 := by
  rw [take_snoc t k _ (getD_some t k (by omega)), lst_snoc]

set_option maxHeartbeats 800000 in
theorem rtake_any (A : Option Addr) (n cap : Nat) (zs : List Int) (w : World) (hr : Il w A n zs) (hn : n ≤ 10000) (hcap : n ≤ cap) :
    Calls Try.prog 17 #[.slice A n cap] w (TkOut zs w) := by
  have HR := Lib.hid hr
  rcases Int.lt_or_le (chk zs) 0 with hck | hck
  · have hl := fst_neg lvl zs hck
    have HC := Lib.hid (show chk zs = -1 from fst_of_all lvl zs hl)
    have HK := Lib.hid hck
    have HLN := Lib.hid hr.1
    have HO := Lib.hid (Own.lit w w.heap.size [] (Nat.le_refl _) (by simp))
    clear hl hr hck
    go_enter Try.func17, Try.ntmps17
    go_wp2_with fail
    refine (rcheck_any _ _ _ _ _ HR.out (by omega)).mono ?_
    rintro e w' ⟨rfl, rfl⟩
    rw [HC.out]
    go_wp2
    go_loopw [6, 7] (fun v i wr => ∃ k : Nat, k ≤ n ∧ k ≤ sx zs ∧ alk (zs.take k) ≤ 5 ∧ i = .int .i64 k ∧ Own wr w.heap.size v (stk (zs.take k)) ∧ Below w.heap.size w wr) (fun _ i _ => n - (intOf i).toNat)
    case atStart => exact ⟨0, Nat.zero_le _, Nat.zero_le _, by simp [alk_nil], rfl, HO.out, (Below.refl _ _).alloc (Nat.le_refl _) _⟩
    case round =>
      obtain ⟨k, hk, hksx, ha5, rfl, ho, hbel⟩ := hrel
      have HSX := Lib.hid hksx
      have HA5 := Lib.hid ha5
      clear hksx ha5
      by_cases hlt : k < n
      · obtain ⟨ad, z, rfl, hz, hc⟩ := (HR.out.below hbel).at_ hlt
        have HZ := Lib.hid hz
        have hol : (stk (zs.take k)).length ≤ k := by have := stk_len (zs.take k); rw [List.length_take] at this; omega
        have HO := Lib.hid ho
        have HKL := Lib.hid (show k < zs.length by rw [HLN.out]; exact hlt)
        have HIK := Lib.hid ((HR.out.below hbel).take k hk)
        have j1 : (0 : Int) ≤ (k : Int) := by omega
        have j2 : (k : Int) ≤ (cap : Int) := by omega
        have j3 : k ≤ cap := by omega
        clear hz ho hc
        go_wp2_with fail
        refine (five_b _ _ _ _ _ HIK.out (by omega)).mono ?_
        rintro e w2 ⟨rfl, hb2⟩
        have HO2 := Lib.hid (HO.out.below hb2)
        have HB2 := Lib.hid (nxt hbel hb2)
        have hsz2 := HB2.out.size
        have hc2 : w2.cell? (ad.add k) = some (.int .i64 z) := by
          obtain ⟨ad', z', e1, e2, e3⟩ := (HR.out.below HB2.out).at_ hlt
          injection e1 with e1
          rw [HZ.out] at e2
          injection e2 with e2
          rw [e1, e2]; exact e3
        clear hb2 hbel HIK HO
        by_cases h5 : 5 ≤ alk (zs.take k)
        · have HK5 := Lib.hid (stk_step_five HZ.out h5)
          rw [show decide (5 ≤ alk (zs.take k)) = true from by simpa using h5]
          have h5' : alk (zs.take k) = 5 := by have := HA5.out; omega
          obtain ⟨j, rfl⟩ : ∃ j, k = j + 1 := ⟨k - 1, by have := (alk_spec (zs.take k)).1; rw [List.length_take] at this; omega⟩
          have HLS := Lib.hid (lst_take (t := zs) (k := j) (by rw [HLN.out]; omega))
          have hcj : w2.cell? (ad.add j) = some (.int .i64 (zs.getD j 0)) := il_getD (HR.out.below HB2.out) (by omega)
          have HTS := Lib.hid (take_snoc zs (j + 1) z HZ.out)
          rw [add_pos ad (Nat.succ_pos j)] at hc2
          have i1 : (0 : Int) ≤ (j : Int) + 1 := by omega
          have i2 : (j : Int) + 1 < (n : Int) := by omega
          have i3 : (0 : Int) ≤ (j : Int) := by omega
          have i4 : (j : Int) < (n : Int) := by omega
          have i5 : j < n := by omega
          cases hxy : (z == zs.getD j 0)
          · have hne : ¬ z = lst (zs.take (j + 1)) := by rw [HLS.out]; simpa using hxy
            have HA1 := Lib.hid (show alk (zs.take (j + 1 + 1)) = 1 from by rw [HTS.out, alk_other hne])
            have HSX1 := Lib.hid (sx_succ HSX.out HKL.out (by rw [HA1.out]; omega))
            clear h5 h5' hne
            generalize zs.getD j 0 = y at *
            generalize stk (zs.take (j + 1)) = o at *
            go_wp2
            go_quiet (fail)
            go_wp2
            go_roundw
            case rel => exact ⟨j + 1 + 1, by omega, HSX1.out, by rw [HA1.out]; omega, by go_num, by rw [HK5.out]; exact HO2.out, belowN HB2.out _⟩
            case measure => simp [intOf]; omega
          · have heq : z = lst (zs.take (j + 1)) := by rw [HLS.out]; simpa using hxy
            have HA1 := Lib.hid (show alk (zs.take (j + 1 + 1)) = 6 from by rw [HTS.out, alk_same heq, h5'])
            have HE6 := Lib.hid (sx_stop HSX.out HKL.out (by rw [HA1.out]; omega))
            clear h5 h5' heq
            generalize zs.getD j 0 = y at *
            go_wp2
            go_quiet (fail)
            go_wp2
            go_ret3
            have h := tk_six (Int.not_le.2 HK.out) (by rw [HE6.out]; exact HKL.out)
            rw [HE6.out] at h
            exact TkOut.nil h (belowN HB2.out _)
        · have HK5 := Lib.hid (stk_step_else HZ.out h5)
          rw [show decide (5 ≤ alk (zs.take k)) = false from by simpa using h5]
          have HA1 := Lib.hid (show alk (zs.take (k + 1)) ≤ 5 from by rw [take_snoc zs k z HZ.out]; have := alk_up (zs.take k) z; omega)
          have HSX1 := Lib.hid (sx_succ HSX.out HKL.out HA1.out)
          clear h5
          generalize stk (zs.take k) = o at *
          go_wp2_with (first | (at_builtin; (refine append_ints2 _ rfl (.tmp 35) (.tmp 40) rfl w.heap.size u6 o rfl (HO2.out.alloc _) _ 1 1 [z] rfl (Arr.new w2 .i64 3 [z]).il (by omega) (by simp; omega) ?_); intro v1 w1 ho1 hg1 hl1; have HO1 := Lib.hid ho1; have HB1 := Lib.hid (push_lit HB2.out hsz2 HO2.out hg1); clear ho1 hg1 hl1) | fail)
          go_roundw
          case rel => exact ⟨k + 1, by omega, HSX1.out, HA1.out, by go_num, by rw [HK5.out]; exact HO1.out, HB1.out⟩
          case measure => simp [intOf]; omega
      · have HTK := Lib.hid (show zs.take k = zs from List.take_of_length_le (by rw [HLN.out]; omega))
        have hkn : k = n := by omega
        have H6 := Lib.hid (show ¬ sx zs < zs.length by have := HSX.out; rw [HLN.out]; omega)
        rw [HTK.out] at ho HA5
        subst hkn
        obtain ⟨A', cap', rfl, hil, hcap'⟩ := ho.il2
        have HI := Lib.hid hil
        clear hil ho
        go_wp2_with fail
        refine (five_b _ _ _ _ _ (HR.out.below hbel) (by omega)).mono ?_
        rintro e w2 ⟨rfl, hb2⟩
        by_cases h5 : alk zs = 5
        · have HF := Lib.hid (tk_short (Int.not_le.2 HK.out) H6.out h5)
          rw [show decide (5 ≤ alk zs) = true from by simp; omega]
          clear h5
          go_wp2
          go_ret3
          have h := HF.out
          rw [HLN.out] at h
          exact TkOut.nil h (nxt hbel hb2)
        · have HF := Lib.hid (tk_ok (Int.not_le.2 HK.out) H6.out h5)
          rw [show decide (5 ≤ alk zs) = false from by have := HA5.out; simp; omega]
          have HI2 := Lib.hid (HI.out.below hb2)
          have HB2 := Lib.hid (nxt hbel hb2)
          clear h5 hb2
          go_wp2
          go_ret3
          obtain ⟨f1, f2, f3⟩ := HF.out
          exact ⟨A', cap', by rw [f1, f2, f3]; rfl, by rw [f3]; exact HI2.out, by rw [f3]; exact hcap', HB2.out⟩
  · have HF := Lib.hid (tk_bad hck)
    go_enter Try.func17, Try.ntmps17
    go_wp2_with (go_at_call 11; (with_reducible refine (rcheck_any _ _ _ _ _ hr (by omega)).mono ?_); rintro e w' ⟨rfl, rfl⟩)
    go_ret3
    exact TkOut.nil HF.out (Below.refl _ _)
end Go.Proofs.Ytaamklfedcbccaa
