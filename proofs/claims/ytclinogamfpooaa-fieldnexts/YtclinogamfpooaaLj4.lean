/- The walk of the law FieldNexts. -/
import Derived.Test.YtclinogamfpooaaR7
namespace Go.Proofs.Ytclinogamfpooaa
open Go.RowKit

set_option maxHeartbeats 800000 in
theorem nexts_far (A : Option Addr) (n cap : Nat) (w : World) (hn : 200 < n) :
    Calls Try.prog 4 #[.slice A n cap] w fun e w' => e = .returned (.bool true) ∧ Below w.heap.size w w' := by
  go_enter Try.func4, Try.ntmps4
  go_wp2_with fail
  refine (awake04 _).mono ?_
  rintro e wa ⟨rfl, hba⟩
  go_wp2
  go_ret
  exact ⟨rfl, hba⟩

set_option maxHeartbeats 1600000 in
theorem nexts_bad (A : Option Addr) (n cap : Nat) (zs : List Int) (w : World) (hr : Il w A n zs) (hn : n ≤ 200) (hl : 0 ≤ chk zs) :
    Calls Try.prog 4 #[.slice A n cap] w fun e w' => e = .returned (.bool true) ∧ Below w.heap.size w w' := by
  have HR := Lib.hid hr; have HL := Lib.hid hl
  clear hr hl
  go_enter Try.func4, Try.ntmps4
  go_wp2_with fail
  refine (next_bad A n cap zs _ HR.out (by omega) HL.out).mono ?_
  rintro e w' ⟨rfl, rfl⟩
  go_wp2_with fail
  refine (ahead_bad A n cap zs _ HR.out (by omega) HL.out).mono ?_
  rintro e w' ⟨rfl, rfl⟩
  go_wp2_with fail
  refine (levels04 A n cap zs _ HR.out (by omega)).mono ?_
  rintro e w' ⟨rfl, rfl⟩
  rw [show decide (chk zs < 0) = false from by have := HL.out; simp; omega]
  go_wp2_with fail
  refine (awake04 _).mono ?_
  rintro e wa ⟨rfl, hba⟩
  go_wp2
  go_ret
  exact ⟨rfl, hba⟩

set_option maxRecDepth 100000 in
set_option maxHeartbeats 1600000 in
theorem nexts_ok (A : Option Addr) (n cap : Nat) (zs : List Int) (w : World) (hr : Il w A n zs) (hcap : n ≤ cap) (hn : n ≤ 200) (hl : ∀ z ∈ zs, lvl z = true) :
    Calls Try.prog 4 #[.slice A n cap] w fun e w' => e = .returned (.bool true) ∧ Below w.heap.size w w' := by
  have HR := Lib.hid hr; have HL := Lib.hid hl
  have HK := Lib.hid (show decide (chk zs < 0) = true by rw [show chk zs = -1 from fst_of_all lvl zs hl]; rfl)
  have HLK := Lib.hid (rn_link zs)
  rw [hr.1] at HLK
  have HA := Lib.hid (show (aout zs = .tuple #[.int .i64 0, .int .i64 13] ∧ raout zs = -1) ∨ (∃ a : Nat, a ≤ 103 ∧ aout zs = .tuple #[.int .i64 (a : Int), .int .i64 0] ∧ raout zs = (a : Int)) by
    by_cases hs : zs.length < hEnd (hEx zs)
    · left; unfold aout raout; rw [if_pos hs, if_pos hs]; exact ⟨rfl, rfl⟩
    · right; unfold aout raout; rw [if_neg hs, if_neg hs]; exact ⟨_, ahead_le zs, rfl, rfl⟩)
  clear hr hl
  go_enter Try.func4, Try.ntmps4
  go_wp2_with fail
  refine (next_any_row A n cap zs _ HR.out (by omega) hcap HL.out).mono ?_
  rintro e w1 ⟨rfl, hb1⟩
  have HR1 := Lib.hid (HR.out.below hb1)
  have HB1 := Lib.hid hb1
  clear hb1
  rcases HLK.out with ⟨j, m, hj, e1, e2⟩ | ⟨e1, e2⟩
  · have HE2 := Lib.hid e2
    rw [e1]
    clear e1 e2 HLK HR
    go_wp2_with fail
    refine (ahead_any A n cap zs _ HR1.out (by omega) hcap HL.out).mono ?_
    rintro e w2 ⟨rfl, hb2⟩
    have HR2 := Lib.hid (HR1.out.below hb2)
    have HB2 := Lib.hid (nxt HB1.out hb2)
    clear hb2 HR1 HB1
    rcases HA.out with ⟨e3, e4⟩ | ⟨a, ha, e3, e4⟩
    · have HE4 := Lib.hid e4
      rw [e3]
      clear e3 e4 HA
      go_wp2_with fail
      refine (levels04 A n cap zs _ HR2.out (by omega)).mono ?_
      rintro e w' ⟨rfl, rfl⟩
      rw [HK.out]
      go_wp2_with fail
      refine (rahead_ok A n cap zs _ HR2.out (by omega) hcap HL.out).mono ?_
      rintro e w3 ⟨rfl, hb3⟩
      rw [HE4.out]
      have HR3 := Lib.hid (HR2.out.below hb3)
      have HB3 := Lib.hid (nxt HB2.out hb3)
      clear hb3 HR2 HB2
      go_wp2_with fail
      refine (rnext_ok A n cap zs _ HR3.out (by omega) hcap HL.out).mono ?_
      rintro e w4 ⟨rfl, hb4⟩
      rw [HE2.out]
      have HB4 := Lib.hid (nxt HB3.out hb4)
      clear hb4
      go_wp2_with fail
      refine (kind_ok j _ hj).mono ?_
      rintro e w5 ⟨rfl, hb5⟩
      have HB5 := Lib.hid (nxt HB4.out hb5)
      clear hb5
      go_wp2_with fail
      refine (awake04 _).mono ?_
      rintro e wa ⟨rfl, hba⟩
      go_wp2
      go_ret
      exact ⟨rfl, nxt HB5.out hba⟩
    · have HE4 := Lib.hid e4
      have hq : ((a : Int) != (a : Int)) = false := by simp
      rw [e3]
      clear e3 e4 HA
      go_wp2_with fail
      refine (levels04 A n cap zs _ HR2.out (by omega)).mono ?_
      rintro e w' ⟨rfl, rfl⟩
      rw [HK.out]
      go_wp2_with fail
      refine (rahead_ok A n cap zs _ HR2.out (by omega) hcap HL.out).mono ?_
      rintro e w3 ⟨rfl, hb3⟩
      rw [HE4.out]
      have HR3 := Lib.hid (HR2.out.below hb3)
      have HB3 := Lib.hid (nxt HB2.out hb3)
      clear hb3 HR2 HB2
      go_wp2_with fail
      refine (rnext_ok A n cap zs _ HR3.out (by omega) hcap HL.out).mono ?_
      rintro e w4 ⟨rfl, hb4⟩
      rw [HE2.out]
      have HB4 := Lib.hid (nxt HB3.out hb4)
      clear hb4
      go_wp2_with fail
      refine (kind_ok j _ hj).mono ?_
      rintro e w5 ⟨rfl, hb5⟩
      have HB5 := Lib.hid (nxt HB4.out hb5)
      clear hb5
      go_wp2_with fail
      refine (awake04 _).mono ?_
      rintro e wa ⟨rfl, hba⟩
      go_wp2
      go_ret
      exact ⟨rfl, nxt HB5.out hba⟩
  · have HE2 := Lib.hid e2
    rw [e1]
    clear e1 e2 HLK HR
    go_wp2_with fail
    refine (ahead_any A n cap zs _ HR1.out (by omega) hcap HL.out).mono ?_
    rintro e w2 ⟨rfl, hb2⟩
    have HR2 := Lib.hid (HR1.out.below hb2)
    have HB2 := Lib.hid (nxt HB1.out hb2)
    clear hb2 HR1 HB1
    rcases HA.out with ⟨e3, e4⟩ | ⟨a, ha, e3, e4⟩
    · have HE4 := Lib.hid e4
      rw [e3]
      clear e3 e4 HA
      go_wp2_with fail
      refine (levels04 A n cap zs _ HR2.out (by omega)).mono ?_
      rintro e w' ⟨rfl, rfl⟩
      rw [HK.out]
      go_wp2_with fail
      refine (rahead_ok A n cap zs _ HR2.out (by omega) hcap HL.out).mono ?_
      rintro e w3 ⟨rfl, hb3⟩
      rw [HE4.out]
      have HR3 := Lib.hid (HR2.out.below hb3)
      have HB3 := Lib.hid (nxt HB2.out hb3)
      clear hb3 HR2 HB2
      go_wp2_with fail
      refine (rnext_ok A n cap zs _ HR3.out (by omega) hcap HL.out).mono ?_
      rintro e w4 ⟨rfl, hb4⟩
      rw [HE2.out]
      have HB4 := Lib.hid (nxt HB3.out hb4)
      clear hb4
      go_wp2_with fail
      refine (awake04 _).mono ?_
      rintro e wa ⟨rfl, hba⟩
      go_wp2
      go_ret
      exact ⟨rfl, nxt HB4.out hba⟩
    · have HE4 := Lib.hid e4
      have hq : ((a : Int) != (a : Int)) = false := by simp
      rw [e3]
      clear e3 e4 HA
      go_wp2_with fail
      refine (levels04 A n cap zs _ HR2.out (by omega)).mono ?_
      rintro e w' ⟨rfl, rfl⟩
      rw [HK.out]
      go_wp2_with fail
      refine (rahead_ok A n cap zs _ HR2.out (by omega) hcap HL.out).mono ?_
      rintro e w3 ⟨rfl, hb3⟩
      rw [HE4.out]
      have HR3 := Lib.hid (HR2.out.below hb3)
      have HB3 := Lib.hid (nxt HB2.out hb3)
      clear hb3 HR2 HB2
      go_wp2_with fail
      refine (rnext_ok A n cap zs _ HR3.out (by omega) hcap HL.out).mono ?_
      rintro e w4 ⟨rfl, hb4⟩
      rw [HE2.out]
      have HB4 := Lib.hid (nxt HB3.out hb4)
      clear hb4
      go_wp2_with fail
      refine (awake04 _).mono ?_
      rintro e wa ⟨rfl, hba⟩
      go_wp2
      go_ret
      exact ⟨rfl, nxt HB4.out hba⟩

theorem law_nexts (A : Option Addr) (n cap : Nat) (zs : List Int) (w : World) (hr : Il w A n zs) (hcap : n ≤ cap) :
    Calls Try.prog 4 #[.slice A n cap] w fun e w' => e = .returned (.bool true) ∧ Below w.heap.size w w' := by
  by_cases hn : n ≤ 200
  · by_cases hl : chk zs < 0
    · exact nexts_ok A n cap zs w hr hcap hn (all_chk hl)
    · exact nexts_bad A n cap zs w hr hn (by omega)
  · exact nexts_far A n cap w (by omega)
end Go.Proofs.Ytclinogamfpooaa
