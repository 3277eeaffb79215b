/- The walk of the law BitsTexts. -/
import Derived.Test.YtiaecljigldmhaaL5
namespace Go.Proofs.Ytiaecljigldmhaa
open Go.RowKit

theorem lvs_all {bs : List UInt8} (h : ∀ c ∈ bs, lvb c = true) : ∀ z ∈ lvs bs, lvl z = true := by
  intro z hz
  obtain ⟨c, hc, rfl⟩ := List.mem_map.1 hz
  rcases lvb_01 (h c hc) with rfl | rfl <;> rfl
theorem txt_lvs (s : ByteArray) (h : ∀ c ∈ s.data.toList, lvb c = true) : txt (lvs s.data.toList) = s := by
  apply ByteArray.ext
  apply Array.toList_inj.1
  unfold txt lvs
  rw [strOfNums_data, List.map_map, List.map_map]
  conv => rhs; rw [← List.map_id s.data.toList]
  apply List.map_congr_left
  intro c hc
  rcases lvb_01 (h c hc) with rfl | rfl <;> rfl

set_option maxHeartbeats 1600000 in
theorem law3 (s : ByteArray) (A : Option Addr) (n cap : Nat) (zs : List Int) (w : World) (hr : Il w A n zs) :
    Calls Try.prog 3 #[.string s, .slice A n cap] w fun e w' => e = .returned (.bool true) ∧ Below w.heap.size w w' := by
  have HR := Lib.hid hr
  clear hr
  by_cases hs : 300 < s.size
  · have g0 : decide ((300 : Int) < (s.size : Int)) = true := by simp; omega
    go_enter Try.func3, Try.ntmps3
    go_wp2_with (go_at_call 9; (refine (awake_ok _).mono ?_); rintro e w1 ⟨rfl, hb1⟩)
    go_ret
    exact ⟨rfl, hb1⟩
  have g0 : decide ((300 : Int) < (s.size : Int)) = false := by simp; omega
  by_cases hn : 300 < n
  · have g1 : decide ((300 : Int) < (n : Int)) = true := by simp; omega
    go_enter Try.func3, Try.ntmps3
    go_wp2_with (go_at_call 9; (refine (awake_ok _).mono ?_); rintro e w1 ⟨rfl, hb1⟩)
    go_ret
    exact ⟨rfl, hb1⟩
  have g1 : decide ((300 : Int) < (n : Int)) = false := by simp; omega
  rcases (show 0 ≤ chk zs ∨ chk zs < 0 from by omega) with hc | hc
  · go_enter Try.func3, Try.ntmps3
    go_wp2_with fail
    refine (rcheck_any _ _ _ _ _ HR.out (by omega)).mono ?_
    rintro e w' ⟨rfl, rfl⟩
    go_wp2_with fail
    refine (text_bad _ _ _ _ _ HR.out (by omega) hc).mono ?_
    rintro e w' ⟨rfl, rfl⟩
    go_wp2_with fail
    refine (check_any _ _ _ _ _ HR.out (by omega)).mono ?_
    rintro e w' ⟨rfl, rfl⟩
    have HB : Below w.heap.size w w := Below.refl _ _
    rcases (show 0 ≤ mis s.data.toList ∨ mis s.data.toList < 0 from by omega) with hm | hm
    · go_wp2_with fail
      refine (parse_bad _ _ (by omega) hm).mono ?_
      rintro e w' ⟨rfl, rfl⟩
      generalize hq : mis s.data.toList = q at *
      have HQ := Lib.hid hq
      clear hq
      go_wp2
      go_loop [12] (fun i => ∃ k : Nat, k ≤ s.size ∧ i = .int .i64 k ∧ k ≤ led lvb s.data.toList) (fun i => s.size - (intOf i).toNat)
      case atStart => exact ⟨0, Nat.zero_le _, rfl, Nat.zero_le _⟩
      case round =>
        obtain ⟨k, hk, rfl, hld⟩ := hrel
        by_cases hlt : k < s.size
        · have HZ := Lib.hid (byte_some s k hlt)
          cases h0 : ((s[k].toNat : Int) == 48)
          · cases h1 : ((s[k].toNat : Int) == 49)
            · have n0 : ((s[k].toNat : Int) != 48) = true := by simp [bne, h0]
              have n1 : ((s[k].toNat : Int) != 49) = true := by simp [bne, h1]
              have he : q = (k : Int) := by rw [← HQ.out]; exact fst_stop lvb _ k _ hld HZ.out (lvb_false h0 h1)
              have hqk : (q == (k : Int)) = true := by simp [he]
              have HE := Lib.hid he
              clear he
              go_wp2_with (go_at_call 9; (refine (awake_ok _).mono ?_); rintro e w9 ⟨rfl, hb9⟩)
              go_ret
              exact ⟨rfl, nxt HB hb9⟩
            · have n0 : ((s[k].toNat : Int) != 48) = true := by simp [bne, h0]
              have n1 : ((s[k].toNat : Int) != 49) = false := by simp [bne, h1]
              go_wp2_with fail
              go_round
              case rel => exact ⟨k + 1, by omega, by go_num, led_succ lvb _ k _ hld HZ.out (lvb_true (.inr h1))⟩
              case measure => simp [intOf]; omega
          · have n0 : ((s[k].toNat : Int) != 48) = false := by simp [bne, h0]
            go_wp2_with fail
            go_round
            case rel => exact ⟨k + 1, by omega, by go_num, led_succ lvb _ k _ hld HZ.out (lvb_true (.inl h0))⟩
            case measure => simp [intOf]; omega
        · exfalso
          have := fst_end lvb s.data.toList (by simp; omega)
          have h2 := HQ.out
          unfold mis at h2
          omega
    · have HA := Lib.hid (fst_neg lvb _ hm)
      go_wp2_with fail
      refine (parse_ok _ _ (by omega) HA.out).mono ?_
      rintro e w4 ⟨A4, cap4, rfl, hi4, hb4⟩
      have HI4 := Lib.hid hi4
      have HB2 := nxt HB hb4
      have HV := Lib.hid (lvs_all HA.out); have HT := Lib.hid (txt_lvs s HA.out); have HN := Lib.hid (lvs_len s.data.toList)
      have hvl : (lvs s.data.toList).length ≤ 300 := by rw [HN.out]; simp; omega
      clear hi4 hb4 HB
      generalize lvs s.data.toList = vs at *
      go_wp2
      go_loop [12] (fun i => ∃ k : Nat, k ≤ s.size ∧ i = .int .i64 k) (fun i => s.size - (intOf i).toNat)
      case atStart => exact ⟨0, Nat.zero_le _, rfl⟩
      case round =>
        obtain ⟨k, hk, rfl⟩ := hrel
        by_cases hlt : k < s.size
        · have h01 := lvb_01 (HA.out _ (List.mem_of_getElem? (byte_some s k hlt)))
          cases h0 : ((s[k].toNat : Int) == 48)
          · have h1 : ((s[k].toNat : Int) == 49) = true := by
              rcases h01 with h | h
              · rw [h] at h0; simp at h0
              · rw [h]; rfl
            have n0 : ((s[k].toNat : Int) != 48) = true := by simp [bne, h0]
            have n1 : ((s[k].toNat : Int) != 49) = false := by simp [bne, h1]
            clear h01
            go_wp2_with fail
            go_round
            case rel => exact ⟨k + 1, by omega, by go_num⟩
            case measure => simp [intOf]; omega
          · have n0 : ((s[k].toNat : Int) != 48) = false := by simp [bne, h0]
            clear h01
            go_wp2_with fail
            go_round
            case rel => exact ⟨k + 1, by omega, by go_num⟩
            case measure => simp [intOf]; omega
        · go_wp2_with fail
          refine (rcheck_any _ _ _ _ _ HI4.out (by omega)).mono ?_
          rintro e w' ⟨rfl, rfl⟩
          rw [chk, fst_of_all lvl _ HV.out]
          go_wp2_with fail
          refine (rtext_ok _ _ _ _ _ HI4.out (by omega) HV.out).mono ?_
          rintro e w' ⟨rfl, rfl⟩
          rw [HT.out]
          go_wp2_with fail
          refine (awake_ok _).mono ?_
          rintro e w9 ⟨rfl, hb9⟩
          go_wp2
          go_ret
          exact ⟨rfl, nxt HB2 hb9⟩
  · have HL := Lib.hid (fst_neg lvl zs hc)
    go_enter Try.func3, Try.ntmps3
    go_wp2_with fail
    refine (rcheck_any _ _ _ _ _ HR.out (by omega)).mono ?_
    rintro e w' ⟨rfl, rfl⟩
    go_wp2_with fail
    refine (text_ok _ _ _ _ _ HR.out (by omega) HL.out).mono ?_
    rintro e w1 ⟨rfl, hb1⟩
    have HR1 := Lib.hid (HR.out.below hb1)
    go_wp2_with fail
    refine (check_any _ _ _ _ _ HR1.out (by omega)).mono ?_
    rintro e w' ⟨rfl, rfl⟩
    go_wp2_with fail
    refine (rtext_ok _ _ _ _ _ HR1.out (by omega) HL.out).mono ?_
    rintro e w' ⟨rfl, rfl⟩
    have HB := hb1
    clear hb1
    rcases (show 0 ≤ mis s.data.toList ∨ mis s.data.toList < 0 from by omega) with hm | hm
    · go_wp2_with fail
      refine (parse_bad _ _ (by omega) hm).mono ?_
      rintro e w' ⟨rfl, rfl⟩
      generalize hq : mis s.data.toList = q at *
      have HQ := Lib.hid hq
      clear hq
      go_wp2
      go_loop [12] (fun i => ∃ k : Nat, k ≤ s.size ∧ i = .int .i64 k ∧ k ≤ led lvb s.data.toList) (fun i => s.size - (intOf i).toNat)
      case atStart => exact ⟨0, Nat.zero_le _, rfl, Nat.zero_le _⟩
      case round =>
        obtain ⟨k, hk, rfl, hld⟩ := hrel
        by_cases hlt : k < s.size
        · have HZ := Lib.hid (byte_some s k hlt)
          cases h0 : ((s[k].toNat : Int) == 48)
          · cases h1 : ((s[k].toNat : Int) == 49)
            · have n0 : ((s[k].toNat : Int) != 48) = true := by simp [bne, h0]
              have n1 : ((s[k].toNat : Int) != 49) = true := by simp [bne, h1]
              have he : q = (k : Int) := by rw [← HQ.out]; exact fst_stop lvb _ k _ hld HZ.out (lvb_false h0 h1)
              have hqk : (q == (k : Int)) = true := by simp [he]
              have HE := Lib.hid he
              clear he
              go_wp2_with (go_at_call 9; (refine (awake_ok _).mono ?_); rintro e w9 ⟨rfl, hb9⟩)
              go_ret
              exact ⟨rfl, nxt HB hb9⟩
            · have n0 : ((s[k].toNat : Int) != 48) = true := by simp [bne, h0]
              have n1 : ((s[k].toNat : Int) != 49) = false := by simp [bne, h1]
              go_wp2_with fail
              go_round
              case rel => exact ⟨k + 1, by omega, by go_num, led_succ lvb _ k _ hld HZ.out (lvb_true (.inr h1))⟩
              case measure => simp [intOf]; omega
          · have n0 : ((s[k].toNat : Int) != 48) = false := by simp [bne, h0]
            go_wp2_with fail
            go_round
            case rel => exact ⟨k + 1, by omega, by go_num, led_succ lvb _ k _ hld HZ.out (lvb_true (.inl h0))⟩
            case measure => simp [intOf]; omega
        · exfalso
          have := fst_end lvb s.data.toList (by simp; omega)
          have h2 := HQ.out
          unfold mis at h2
          omega
    · have HA := Lib.hid (fst_neg lvb _ hm)
      go_wp2_with fail
      refine (parse_ok _ _ (by omega) HA.out).mono ?_
      rintro e w4 ⟨A4, cap4, rfl, hi4, hb4⟩
      have HI4 := Lib.hid hi4
      have HB2 := nxt HB hb4
      have HV := Lib.hid (lvs_all HA.out); have HT := Lib.hid (txt_lvs s HA.out); have HN := Lib.hid (lvs_len s.data.toList)
      have hvl : (lvs s.data.toList).length ≤ 300 := by rw [HN.out]; simp; omega
      clear hi4 hb4 HB
      generalize lvs s.data.toList = vs at *
      go_wp2
      go_loop [12] (fun i => ∃ k : Nat, k ≤ s.size ∧ i = .int .i64 k) (fun i => s.size - (intOf i).toNat)
      case atStart => exact ⟨0, Nat.zero_le _, rfl⟩
      case round =>
        obtain ⟨k, hk, rfl⟩ := hrel
        by_cases hlt : k < s.size
        · have h01 := lvb_01 (HA.out _ (List.mem_of_getElem? (byte_some s k hlt)))
          cases h0 : ((s[k].toNat : Int) == 48)
          · have h1 : ((s[k].toNat : Int) == 49) = true := by
              rcases h01 with h | h
              · rw [h] at h0; simp at h0
              · rw [h]; rfl
            have n0 : ((s[k].toNat : Int) != 48) = true := by simp [bne, h0]
            have n1 : ((s[k].toNat : Int) != 49) = false := by simp [bne, h1]
            clear h01
            go_wp2_with fail
            go_round
            case rel => exact ⟨k + 1, by omega, by go_num⟩
            case measure => simp [intOf]; omega
          · have n0 : ((s[k].toNat : Int) != 48) = false := by simp [bne, h0]
            clear h01
            go_wp2_with fail
            go_round
            case rel => exact ⟨k + 1, by omega, by go_num⟩
            case measure => simp [intOf]; omega
        · go_wp2_with fail
          refine (rcheck_any _ _ _ _ _ HI4.out (by omega)).mono ?_
          rintro e w' ⟨rfl, rfl⟩
          rw [chk, fst_of_all lvl _ HV.out]
          go_wp2_with fail
          refine (rtext_ok _ _ _ _ _ HI4.out (by omega) HV.out).mono ?_
          rintro e w' ⟨rfl, rfl⟩
          rw [HT.out]
          go_wp2_with fail
          refine (awake_ok _).mono ?_
          rintro e w9 ⟨rfl, hb9⟩
          go_wp2
          go_ret
          exact ⟨rfl, nxt HB2 hb9⟩
end Go.Proofs.Ytiaecljigldmhaa
