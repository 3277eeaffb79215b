/- The walk of the law FrameBack. -/
import Derived.Test.YtjjfkakjkkpgaaaTm
import Derived.Test.YtjjfkakjkkpgaaaAw
namespace Go.Proofs.Ytjjfkakjkkpgaaa
open Go.RowKit

set_option maxHeartbeats 3200000 in
theorem law_back (f : Fr) (s : ByteArray) (w : World) (hwf : f.wf) :
    Calls Try.prog 7 #[f.val, .string s] w fun e w' => e = .returned (.bool true) ∧ Below w.heap.size w w' := by
  have HB := Lib.hid (boxed f w)
  by_cases hn : 100 < s.size
  · have hn' : (100 : Int) < (s.size : Int) := by omega
    go_enter Try.func7, Try.ntmps7
    go_wp2_with fail
    refine (awake_ok _).mono ?_
    rintro e wa ⟨rfl, hba⟩
    go_wp2
    go_ret
    exact ⟨rfl, nxt HB.out hba⟩
  have hn' : decide ((100 : Int) < (s.size : Int)) = false := by simp; omega
  obtain ⟨l, hl⟩ : ∃ l, s = str l := ⟨_, str_of s⟩
  have HSL := Lib.hid hl
  have HLL := Lib.hid (show l.length ≤ 100 by have := str_size l; rw [← hl] at this; omega)
  have hss : (s.toList == s.toList) = true := by simp
  have h22 := eq22
  clear hl hn
  cases hm : f.may
  · have HM := Lib.hid hm
    clear hm
    go_enter Try.func7, Try.ntmps7
    go_wp2_with fail
    refine (text_bad f _ HM.out).mono ?_
    rintro e w1 ⟨rfl, hb1⟩
    obtain ⟨c0, c1, c2, c3, c4, c5, c6, c7, c8, c9, c10, c11⟩ := bx_past hb1
    have HB1 := Lib.hid (nxt HB.out hb1)
    clear HB hb1
    go_wp2_with fail
    refine (check_any f _).mono ?_
    rintro e w2 ⟨rfl, hb2⟩
    rw [err_no HM.out]
    have HB := Lib.hid (nxt HB1.out hb2)
    clear c0 c1 c2 c3 c4 c5 c6 c7 c8 c9 c10 c11
    clear hb2 HB1
    go_wp2_with fail
    rw [HSL.out]
    refine (parse_any l _ HLL.out).mono ?_
    rintro e wp ⟨rfl, hbp⟩
    have HBP := Lib.hid (nxt HB.out hbp)
    clear hbp HB
    by_cases hp : perr l = 0
    · obtain ⟨p1, p2, p3⟩ := parsed_text hp
      have HT := Lib.hid (text_ok (pout l) · p1 p2)
      rw [p3] at HT
      have HP1 := Lib.hid p1
      rw [hp]
      clear p1 p2 p3 hp
      obtain ⟨g, hg⟩ : ∃ g, pout l = g := ⟨_, rfl⟩
      rw [hg] at HT HP1 ⊢
      clear hg
      have HA := Lib.hid (boxed g wp)
      go_wp2_with fail
      refine (HT.out _).mono ?_
      rintro e wt ⟨rfl, hbt⟩
      have HBT := Lib.hid (nxt (nxt HBP.out HA.out) hbt)
      obtain ⟨c0, c1, c2, c3, c4, c5, c6, c7, c8, c9, c10, c11⟩ := bx_past hbt
      clear hbt HBP HA
      go_wp2_with fail
      refine (check_any g _).mono ?_
      rintro e wc ⟨rfl, hbc⟩
      rw [err_ok HP1.out, ← HSL.out]
      go_wp2_with fail
      refine (awake_ok _).mono ?_
      rintro e wa ⟨rfl, hba⟩
      go_wp2
      go_ret
      exact ⟨rfl, nxt (nxt HBT.out hbc) hba⟩
    · have hz : pout l = Fr.zero := by unfold pout; rw [if_neg hp]
      rw [hz]
      have hpb : (perr l != 0) = true := by simpa [bne] using hp
      generalize perr l = er at *
      clear hz hp
      have HA := Lib.hid (boxed Fr.zero wp)
      go_wp2_with fail
      refine (awake_ok _).mono ?_
      rintro e wa ⟨rfl, hba⟩
      go_wp2
      go_ret
      exact ⟨rfl, nxt (nxt HBP.out HA.out) hba⟩
  · have HM := Lib.hid hm
    obtain ⟨q1, q2, q3⟩ := text_parsed hm hwf
    have Q1 := Lib.hid q1; have Q2 := Lib.hid q2; have Q3 := Lib.hid q3
    have HW := Lib.hid hwf
    clear hm hwf q1 q2 q3
    go_enter Try.func7, Try.ntmps7
    go_wp2_with fail
    refine (text_ok f _ HM.out HW.out).mono ?_
    rintro e w1 ⟨rfl, hb1⟩
    have HX1 := Lib.hid (bx_past hb1)
    have HB1 := Lib.hid (nxt HB.out hb1)
    obtain ⟨c0, c1, c2, c3, c4, c5, c6, c7, c8, c9, c10, c11⟩ := HX1.out
    have ht25 : ((str f.text).size : Int) ≤ 25 := by rw [str_size]; have := Q3.out; omega
    have ht : decide ((25 : Int) < ((str f.text).size : Int)) = false := by simp; omega
    clear HB hb1
    go_wp2_with fail
    refine (check_any f _).mono ?_
    rintro e w2 ⟨rfl, hb2⟩
    rw [err_ok HM.out]
    have HB2 := Lib.hid (nxt HB1.out hb2)
    have HX2 := Lib.hid (HX1.out.below hb2 HX1.out.lt)
    clear c0 c1 c2 c3 c4 c5 c6 c7 c8 c9 c10 c11
    clear hb2 HB1 HX1
    go_wp2_with fail
    refine (parse_any f.text _ (by have := Q3.out; omega)).mono ?_
    rintro e w3 ⟨rfl, hb3⟩
    rw [Q1.out, Q2.out]
    have HX3 := Lib.hid (HX2.out.below hb3 HX2.out.lt)
    have hlt := HX3.out.lt
    have HB := Lib.hid (nxt (nxt HB2.out hb3) (boxed f w3))
    obtain ⟨c0, c1, c2, c3, c4, c5, c6, c7, c8, c9, c10, c11⟩ := HX3.out
    generalize str f.text = t at *
    clear HB2 HX2 hb3
    go_wp2_with fail
    rw [HSL.out]
    refine (parse_any l _ HLL.out).mono ?_
    rintro e wp ⟨rfl, hbp⟩
    have HBP := Lib.hid (nxt HB.out hbp)
    clear hbp HB
    by_cases hp : perr l = 0
    · obtain ⟨p1, p2, p3⟩ := parsed_text hp
      have HT := Lib.hid (text_ok (pout l) · p1 p2)
      rw [p3] at HT
      have HP1 := Lib.hid p1
      rw [hp]
      clear p1 p2 p3 hp
      obtain ⟨g, hg⟩ : ∃ g, pout l = g := ⟨_, rfl⟩
      rw [hg] at HT HP1 ⊢
      clear hg
      have HA := Lib.hid (boxed g wp)
      go_wp2_with fail
      refine (HT.out _).mono ?_
      rintro e wt ⟨rfl, hbt⟩
      have HBT := Lib.hid (nxt (nxt HBP.out HA.out) hbt)
      obtain ⟨c0, c1, c2, c3, c4, c5, c6, c7, c8, c9, c10, c11⟩ := bx_past hbt
      clear hbt HBP HA
      go_wp2_with fail
      refine (check_any g _).mono ?_
      rintro e wc ⟨rfl, hbc⟩
      rw [err_ok HP1.out, ← HSL.out]
      go_wp2_with fail
      refine (awake_ok _).mono ?_
      rintro e wa ⟨rfl, hba⟩
      go_wp2
      go_ret
      exact ⟨rfl, nxt (nxt HBT.out hbc) hba⟩
    · have hz : pout l = Fr.zero := by unfold pout; rw [if_neg hp]
      rw [hz]
      have hpb : (perr l != 0) = true := by simpa [bne] using hp
      generalize perr l = er at *
      clear hz hp
      have HA := Lib.hid (boxed Fr.zero wp)
      go_wp2_with fail
      refine (awake_ok _).mono ?_
      rintro e wa ⟨rfl, hba⟩
      go_wp2
      go_ret
      exact ⟨rfl, nxt (nxt HBP.out HA.out) hba⟩
end Go.Proofs.Ytjjfkakjkkpgaaa
