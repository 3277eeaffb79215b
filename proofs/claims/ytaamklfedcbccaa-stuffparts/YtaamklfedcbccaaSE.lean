/- The contracts of the reference's Five and Add. -/
import Derived.Test.YtaamklfedcbccaaSD
namespace Go.Proofs.Ytaamklfedcbccaa
open Go.RowKit

theorem il_getD {w : World} {ad : Addr} {n k : Nat} {zs : List Int} (h : Il w (some ad) n zs) (hk : k < n) : w.cell? (ad.add k) = some (.int .i64 (zs.getD k 0)) := by
  obtain ⟨ad', e, _, hc⟩ := h.2 (by omega)
  injection e with e
  subst e
  exact hc k hk

set_option maxHeartbeats 800000 in
theorem five_any (A : Option Addr) (n cap : Nat) (zs : List Int) (w : World) (hr : Il w A n zs) (hn : n ≤ 100000) :
    Calls Try.prog 19 #[.slice A n cap] w (QuietBool (decide (5 ≤ alk zs)) w) := by
  by_cases h5 : n < 5
  · have e : decide (5 ≤ alk zs) = false := by have := (alk_spec zs).1; rw [hr.1] at this; simp; omega
    rw [e]
    go_enter Try.func19, Try.ntmps19
    go_wp2
    go_ret
    exact ⟨rfl, 0, rfl⟩
  · obtain ⟨m, rfl⟩ : ∃ m, n = m + 5 := ⟨n - 5, by omega⟩
    obtain ⟨ad, rfl, -, -⟩ := hr.2 (by omega)
    have HL := Lib.hid hr.1
    have HR := Lib.hid hr
    have hb := il_getD hr (k := m) (by omega)
    clear hr h5
    go_enter Try.func19, Try.ntmps19
    go_wp2
    go_loopw [4] (fun i wr => ∃ k q : Nat, m + 1 ≤ k ∧ k ≤ m + 5 ∧ i = .int .i64 k ∧ (∀ j, m + 1 ≤ j → j < k → zs.getD j 0 = zs.getD m 0) ∧ wr = w.drewN q) (fun i _ => m + 5 - (intOf i).toNat)
    case atStart => exact ⟨m + 1, 0, Nat.le_refl _, by omega, by go_num, fun j h1 h2 => by omega, rfl⟩
    case round =>
      obtain ⟨k, q, hk1, hk2, rfl, hall, rfl⟩ := hrel
      have HA := Lib.hid hall
      clear hall
      by_cases hlt : k < m + 5
      · have hc := il_getD HR.out hlt
        cases hxy : (zs.getD k 0 != zs.getD m 0)
        · generalize hx : zs.getD k 0 = x at *
          generalize hy : zs.getD m 0 = y at *
          have HX := Lib.hid hx; have HY := Lib.hid hy
          clear hx hy
          go_wp2
          go_quiet (fail)
          go_wp2
          go_roundw
          case rel =>
            refine ⟨k + 1, _, by omega, by omega, by go_num, fun j h1 h2 => ?_, rfl⟩
            rcases Nat.lt_or_ge j k with hj | hj
            · rw [HA.out j h1 hj]
            · rw [show j = k by omega, HX.out]; try simpa using hxy
          case measure => simp [intOf]; omega
        · have HF := Lib.hid (show decide (5 ≤ alk zs) = false from by
            simp
            rcases Nat.lt_or_ge (alk zs) 5 with h | h
            · exact h
            · obtain ⟨_, hf⟩ := five_yes h
              rw [hf k (by rw [HL.out]; omega) (by rw [HL.out]; omega), hf m (by rw [HL.out]; omega) (by rw [HL.out]; omega)] at hxy
              simp at hxy)
          generalize zs.getD k 0 = x at *
          generalize zs.getD m 0 = y at *
          go_wp2
          go_quiet (fail)
          go_wp2
          go_ret
          exact ⟨ret_bool HF.out.symm, _, World.drewN_drewN _ _ _⟩
      · have HF := Lib.hid (show decide (5 ≤ alk zs) = true from by
          simp
          rcases Nat.lt_or_ge (alk zs) 5 with h | h
          · obtain ⟨i, i1, i2, i3⟩ := five_no h (by rw [HL.out]; omega)
            rw [HL.out] at i1 i2 i3
            rw [Nat.add_sub_cancel] at i3
            exact absurd (HA.out i (by omega) (by omega)) i3
          · exact h)
        go_wp2
        go_ret
        exact ⟨ret_bool HF.out.symm, _, rfl⟩
theorem five_b (A : Option Addr) (n cap : Nat) (zs : List Int) (w : World) (hr : Il w A n zs) (hn : n ≤ 100000) :
    Calls Try.prog 19 #[.slice A n cap] w fun e w' => e = .returned (.bool (decide (5 ≤ alk zs))) ∧ Below w.heap.size w w' :=
  (five_any A n cap zs w hr hn).mono fun _ _ ⟨he, q, hq⟩ => ⟨he, by rw [hq]; exact belowN (Below.refl _ _) q⟩

set_option maxHeartbeats 400000 in
theorem radd_bad (A : Option Addr) (n cap : Nat) (zs : List Int) (w : World) (hr : Il w A n zs) (hn : n ≤ 10000) (hl : 0 ≤ chk zs) :
    Calls Try.prog 10 #[.slice A n cap] w (SlIn [] w) := by
  have HR := Lib.hid (hr.below ((Below.refl w.heap.size w).alloc (Nat.le_refl _) (.cells #[] 3)))
  clear hr
  go_enter Try.func10, Try.ntmps10
  go_wp2_with fail
  refine (rcheck_any _ _ _ _ _ HR.out (by omega)).mono ?_
  rintro e w' ⟨rfl, rfl⟩
  go_wp2
  go_ret
  exact ⟨_, _, rfl, ⟨rfl, fun h => by simp at h⟩, Nat.le_refl _, (Below.refl _ _).alloc (Nat.le_refl _) _⟩

set_option maxHeartbeats 800000 in
theorem radd_ok (A : Option Addr) (n cap : Nat) (zs : List Int) (w : World) (hr : Il w A n zs) (hn : n ≤ 10000) (hl : ∀ z ∈ zs, lvl z = true) :
    Calls Try.prog 10 #[.slice A n cap] w (SlIn (stf zs) w) := by
  have HC := Lib.hid (show chk zs = -1 from fst_of_all lvl zs hl)
  have HV := Lib.hid hl
  have HR := Lib.hid hr
  have HR1 := Lib.hid (hr.below ((Below.refl w.heap.size w).alloc (Nat.le_refl _) (.cells #[] 3)))
  have HO := Lib.hid (Own.lit w w.heap.size [] (Nat.le_refl _) (by simp))
  clear hl hr
  go_enter Try.func10, Try.ntmps10
  go_wp2_with fail
  refine (rcheck_any _ _ _ _ _ HR1.out (by omega)).mono ?_
  rintro e w' ⟨rfl, rfl⟩
  rw [HC.out]
  go_wp2
  go_loopw [3, 4] (fun v i wr => ∃ k : Nat, k ≤ n ∧ i = .int .i64 k ∧ Own wr w.heap.size v (stf (zs.take k)) ∧ Below w.heap.size w wr) (fun _ i _ => n - (intOf i).toNat)
  case atStart => exact ⟨0, Nat.zero_le _, rfl, HO.out, (Below.refl _ _).alloc (Nat.le_refl _) _⟩
  case round =>
    obtain ⟨k, hk, rfl, ho, hbel⟩ := hrel
    by_cases hlt : k < n
    · obtain ⟨ad, z, rfl, hz, hc⟩ := (HR.out.below hbel).at_ hlt
      have hz01 := lvl_01 (HV.out z (List.mem_of_getElem? hz))
      have HZ := Lib.hid hz
      have HS := Lib.hid (stf_step hz)
      have hol : (stf (zs.take k)).length ≤ 2 * k := by have := (stf_len (zs.take k)).2; rw [List.length_take] at this; omega
      have HAK := Lib.hid (alk_stf (zs.take k))
      have hsz := hbel.size
      have HO := Lib.hid ho
      have z1 : 0 ≤ z := by omega
      have z2 : z ≤ 1 := by omega
      clear hz ho hz01
      generalize stf (zs.take k) = o at *
      have HLEN := Lib.hid (show (o ++ [z]).length = o.length + 1 by simp)
      go_wp2_with (first | (at_builtin; (refine append_ints2 _ rfl (.tmp 16) (.tmp 21) rfl w.heap.size u3 o rfl (HO.out.alloc _) _ 1 1 [z] rfl (Arr.new wr .i64 3 [z]).il (by omega) (by simp; omega) ?_); intro v1 w1 ho1 hg1 hl1; have HO1 := Lib.hid ho1; have HB1 := Lib.hid (push_lit hbel hsz HO.out hg1); obtain ⟨A1, cap1, rfl, hi1⟩ := ho1.il; have HI1 := Lib.hid hi1; rw [HLEN.out] at HI1 HO1 ⊢; clear ho1 hg1 hl1 hi1) | fail)
      refine (five_b _ _ _ _ _ HI1.out (by omega)).mono ?_
      rintro e w2 ⟨rfl, hb2⟩
      have HO2 := Lib.hid (HO1.out.below hb2)
      have HB2 := Lib.hid (nxt HB1.out hb2)
      have hsz2 := HB2.out.size
      have HAU := Lib.hid (alk_up o z)
      have hc2 : w2.cell? (ad.add k) = some (.int .i64 z) := by
        obtain ⟨ad', z', e1, e2, e3⟩ := (HR.out.below HB2.out).at_ hlt
        injection e1 with e1
        rw [HZ.out] at e2
        injection e2 with e2
        rw [e1, e2]; exact e3
      clear hb2 hbel HI1 HO1 HB1 hc
      by_cases h5 : alk (o ++ [z]) = 5
      · have HS5 := Lib.hid (sput_five h5)
        rw [show decide (5 ≤ alk (o ++ [z])) = true from by simp; omega]
        clear h5
        go_wp2_with (first | (at_builtin; (refine append_ints2 _ rfl (.tmp 25) (.tmp 31) rfl w.heap.size (.slice A1 (o.length + 1) cap1) (o ++ [z]) rfl (HO2.out.alloc _) _ 1 1 [1 - z] rfl (Arr.new w2 .i64 3 [1 - z]).il (by simp; omega) (by simp; omega) ?_); intro v4 w4 ho4 hg4 hl4; have HO4 := Lib.hid ho4; have HB4 := Lib.hid (push_lit HB2.out hsz2 HO2.out hg4); clear ho4 hg4 hl4) | fail)
        go_roundw
        case rel => exact ⟨k + 1, by omega, by go_num, by rw [HS.out, HS5.out]; exact HO4.out, HB4.out⟩
        case measure => simp [intOf]; omega
      · have HS5 := Lib.hid (sput_else h5)
        rw [show decide (5 ≤ alk (o ++ [z])) = false from by have := HAK.out; have := HAU.out; simp; omega]
        clear h5
        go_wp2
        go_roundw
        case rel => exact ⟨k + 1, by omega, by go_num, by rw [HS.out, HS5.out]; exact HO2.out, HB2.out⟩
        case measure => simp [intOf]; omega
    · have HS := Lib.hid (show zs.take k = zs from List.take_of_length_le (by rw [HR.out.1]; omega))
      rw [HS.out] at ho
      obtain ⟨A', cap', rfl, hil, hcap⟩ := ho.il2
      go_wp2
      go_ret
      exact ⟨A', cap', rfl, hil, hcap, hbel⟩
end Go.Proofs.Ytaamklfedcbccaa
