/- The contract of stuff.Add. -/
import Derived.Test.YtaamklfedcbccaaSA
namespace Go.Proofs.Ytaamklfedcbccaa
open Go.RowKit

set_option maxHeartbeats 400000 in
theorem add_bad (A : Option Addr) (n cap : Nat) (zs : List Int) (w : World) (hr : Il w A n zs) (hn : n ≤ 10000) (hl : 0 ≤ chk zs) :
    Calls Try.prog 13 #[.slice A n cap] w fun e w' => e = .returned (.slice none 0 0) ∧ w = w' := by
  go_enter Try.func13, Try.ntmps13
  go_wp2_with (go_at_call 20; (with_reducible refine (check_any _ _ _ _ _ hr (by omega)).mono ?_); rintro e w' ⟨rfl, rfl⟩)
  go_ret
  exact ⟨rfl, rfl⟩

set_option maxHeartbeats 800000 in
theorem add_ok (A : Option Addr) (n cap : Nat) (zs : List Int) (w : World) (hr : Il w A n zs) (hn : n ≤ 10000) (hl : ∀ z ∈ zs, lvl z = true) :
    Calls Try.prog 13 #[.slice A n cap] w (SlIn (stf zs) w) := by
  have HL := Lib.hid (show chk zs = -1 from fst_of_all lvl zs hl)
  have HV := Lib.hid hl
  have HR := Lib.hid hr
  obtain ⟨m, hm, hmn⟩ : ∃ m, (n - 1) / 4 = m ∧ m ≤ n := ⟨_, rfl, by omega⟩
  have HM := Lib.hid hm
  have hmk := make0 n m (by omega)
  clear hl hr hm
  go_enter Try.func13, Try.ntmps13
  go_wp2_with fail
  refine (check_any _ _ _ _ _ HR.out (by omega)).mono ?_
  rintro e w' ⟨rfl, rfl⟩
  rw [HL.out]
  go_wp2_with fail
  refine (most_ok n _ (by omega)).mono ?_
  rintro e w' ⟨rfl, rfl⟩
  rw [HM.out]
  go_wp2_with fail
  have HO := Lib.hid (Own.room w w.heap.size (n + m) (Nat.le_refl _) (by omega))
  have HB := Lib.hid ((Below.refl w.heap.size w).alloc (Nat.le_refl _) (.cells (Array.replicate (n + m) (Value.int .i64 0)) 3))
  have HS := Lib.hid (show (w.alloc (.cells (Array.replicate (n + m) (Value.int .i64 0)) 3)).heap.size = w.heap.size + 1 by simp)
  generalize w.alloc (.cells (Array.replicate (n + m) (Value.int .i64 0)) 3) = w1 at *
  refine (teller_any _).mono ?_
  rintro e w2 ⟨rfl, ht, hb2⟩
  have HT := Lib.hid ht
  have HO2 := Lib.hid (HO.out.below hb2)
  have HB2 := Lib.hid (nxt HB.out hb2)
  rw [HS.out] at HT ⊢
  clear ht hb2 hmk HO HB HS
  have HA := Lib.hid (show Apart (.slice (some ⟨w.heap.size, 0, none⟩) 0 (n + m)) (w.heap.size + 1) from ⟨by simp [Value.ownBlock], by simp [Value.ownBlock]; omega⟩)
  go_wp2
  go_loopw [5, 26] (fun v i wr => ∃ k : Nat, k ≤ n ∧ i = .int .i64 k ∧ Own wr w.heap.size v (stf (zs.take k)) ∧ Two wr (w.heap.size + 1) (endr (stf (zs.take k))) ∧ Apart v (w.heap.size + 1) ∧ Below w.heap.size w wr) (fun _ i _ => n - (intOf i).toNat)
  case atStart => exact ⟨0, Nat.zero_le _, rfl, HO2.out, HT.out, HA.out, HB2.out⟩
  case round =>
    obtain ⟨k, hk, rfl, ho, ht, ha, hbel⟩ := hrel
    by_cases hlt : k < n
    · obtain ⟨ad, z, rfl, hz, hc⟩ := (HR.out.below hbel).at_ hlt
      have HZ := Lib.hid (lvl_01 (HV.out z (List.mem_of_getElem? hz)))
      have HS := Lib.hid (stf_step hz)
      have hol : (stf (zs.take k)).length ≤ 2 * k := by have := (stf_len (zs.take k)).2; rw [List.length_take] at this; omega
      have HAK := Lib.hid (alk_stf (zs.take k))
      have hsz := hbel.size
      have HO := Lib.hid ho; have HT := Lib.hid ht; have HA := Lib.hid ha
      clear hz ho ht ha HO2 HB2
      generalize stf (zs.take k) = o at *
      go_wp2_with (first | (at_builtin; (refine append_ints2 _ rfl (.tmp 30) (.tmp 32) rfl w.heap.size u5 o rfl (HO.out.alloc _) _ 1 1 [z] rfl (Arr.new wr .i64 3 [z]).il (by omega) (by simp; omega) ?_); intro v1 w1 ho1 hg1 hl1) | fail)
      have HO1 := Lib.hid ho1
      have HT1 := Lib.hid (HT.out.pushed hg1 HA.out)
      have HA1 := Lib.hid (HA.out.lies hl1 HT.out)
      have HB1 := Lib.hid (push_lit hbel hsz HO.out hg1)
      clear ho1 hg1 hl1 HO HT HA
      have HAU := Lib.hid (alk_up o z)
      refine (tell_any (endr o) z _ _ (by show alk o ≤ 100000; have := HAK.out; omega) HT1.out).mono ?_
      rintro e w3 ⟨rfl, ht3, hs3⟩
      rw [← endr_snoc] at ht3 ⊢
      have HT3 := Lib.hid ht3
      have HO3 := Lib.hid (HO1.out.still hs3 HA1.out)
      have HB3 := Lib.hid (HB1.out.trans (hs3.bel.mono (Nat.le_succ _)))
      clear ht3 hs3 HO1 HT1 HB1
      by_cases h5 : alk (o ++ [z]) = 5
      · have HS5 := Lib.hid (sput_five h5)
        rw [show (endr (o ++ [z])).2 = 5 from h5]
        have hsz3 := HB3.out.size
        clear h5
        go_wp2_with fail
        refine (other_any z _ HZ.out).mono ?_
        rintro e w4 ⟨rfl, rfl⟩
        go_wp2_with (first | (at_builtin; (refine append_ints2 _ rfl (.tmp 38) (.tmp 41) rfl w.heap.size v1 (o ++ [z]) rfl (HO3.out.alloc _) _ 1 1 [1 - z] rfl (Arr.new w3 .i64 3 [1 - z]).il (by simp; omega) (by simp; omega) ?_); intro v4 w4 ho4 hg4 hl4) | fail)
        have HO4 := Lib.hid ho4
        have HT4 := Lib.hid (HT3.out.pushed hg4 HA1.out)
        have HA4 := Lib.hid (HA1.out.lies hl4 HT3.out)
        have HB4 := Lib.hid (push_lit HB3.out hsz3 HO3.out hg4)
        clear ho4 hg4 hl4 HO3 HT3
        refine (other_any z _ HZ.out).mono ?_
        rintro e w5 ⟨rfl, rfl⟩
        go_wp2_with fail
        refine (tell_any (endr (o ++ [z])) (1 - z) _ _ (by show alk (o ++ [z]) ≤ 100000; have := HAK.out; have := HAU.out; omega) HT4.out).mono ?_
        rintro e w6 ⟨rfl, ht6, hs6⟩
        rw [← endr_snoc] at ht6 ⊢
        have HT6 := Lib.hid ht6
        have HO6 := Lib.hid (HO4.out.still hs6 HA4.out)
        have HB6 := Lib.hid (HB4.out.trans (hs6.bel.mono (Nat.le_succ _)))
        clear ht6 hs6
        go_wp2
        go_roundw
        case rel => exact ⟨k + 1, by omega, by go_num, by rw [HS.out, HS5.out]; exact HO6.out, by rw [HS.out, HS5.out]; exact HT6.out, HA4.out, HB6.out⟩
        case measure => simp [intOf]; omega
      · have HS5 := Lib.hid (sput_else h5)
        have hq : ((((endr (o ++ [z])).2 : Nat) : Int) == 5) = false := by
          have : ¬ (endr (o ++ [z])).2 = 5 := h5
          simp; omega
        generalize hx : (((endr (o ++ [z])).2 : Nat) : Int) = x at *
        clear h5 hx
        go_wp2
        go_roundw
        case rel => exact ⟨k + 1, by omega, by go_num, by rw [HS.out, HS5.out]; exact HO3.out, by rw [HS.out, HS5.out]; exact HT3.out, HA1.out, HB3.out⟩
        case measure => simp [intOf]; omega
    · have HS := Lib.hid (show zs.take k = zs from List.take_of_length_le (by rw [HR.out.1]; omega))
      rw [HS.out] at ho
      obtain ⟨A', cap', rfl, hil, hcap⟩ := ho.il2
      go_wp2
      go_ret
      exact ⟨A', cap', rfl, hil, hcap, hbel⟩
end Go.Proofs.Ytaamklfedcbccaa
