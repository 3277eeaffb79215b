/- The walk of the law FrameTexts. -/
import Derived.Test.YtjjfkakjkkpgaaaRq
import Derived.Test.YtjjfkakjkkpgaaaRx
import Derived.Test.YtjjfkakjkkpgaaaAw
namespace Go.Proofs.Ytjjfkakjkkpgaaa
open Go.RowKit

set_option maxHeartbeats 3200000 in
theorem law_texts (f : Fr) (s : ByteArray) (w : World) (hwf : f.wf) :
    Calls Try.prog 5 #[f.val, .string s] w fun e w' => e = .returned (.bool true) ∧ Below w.heap.size w w' := by
  have HB := Lib.hid (boxed f w)
  by_cases hn : 100 < s.size
  · have hn' : (100 : Int) < (s.size : Int) := by omega
    go_enter Try.func5, Try.ntmps5
    go_wp2_with fail
    refine (awake_ok _).mono ?_
    rintro e wa ⟨rfl, hba⟩
    go_wp2
    go_ret
    exact ⟨rfl, nxt HB.out hba⟩
  have hn' : decide ((100 : Int) < (s.size : Int)) = false := by simp; omega
  obtain ⟨l, hl⟩ : ∃ l, s = str l := ⟨_, str_of s⟩
  have HSL := Lib.hid hl
  have HLL := Lib.hid (show l.length ≤ 100 by have := str_size l; rw [← hl] at this; omega)
  have h22 := eq22
  clear hl hn
  cases hm : f.may
  · have HM := Lib.hid hm
    clear hm
    go_enter Try.func5, Try.ntmps5
    go_wp2_with fail
    refine (text_bad f _ HM.out).mono ?_
    rintro e w1 ⟨rfl, hb1⟩
    obtain ⟨c0, c1, c2, c3, c4, c5, c6, c7, c8, c9, c10, c11⟩ := bx_past hb1
    have HB1 := Lib.hid (nxt HB.out hb1)
    clear HB hb1
    go_wp2_with fail
    refine (rcheck_any f _).mono ?_
    rintro e w2 ⟨rfl, hb2⟩
    rw [err_no HM.out]
    have HB := Lib.hid (nxt HB1.out hb2)
    clear c0 c1 c2 c3 c4 c5 c6 c7 c8 c9 c10 c11
    clear hb2 HB1
    go_wp2_with fail
    rw [HSL.out]
    refine (parse_any l _ HLL.out).mono ?_
    rintro e wp ⟨rfl, hbp⟩
    rw [← HSL.out]
    have HBP := Lib.hid (nxt HB.out hbp)
    obtain ⟨G, hG⟩ : ∃ G, pout l = G := ⟨_, rfl⟩
    obtain ⟨er, her⟩ : ∃ er, perr l = er := ⟨_, rfl⟩
    have HZ := Lib.hid (show er = 0 ∨ (er != 0) = true ∧ G = Fr.zero by
      by_cases h : perr l = 0
      · exact .inl (by rw [← her]; exact h)
      · refine .inr ⟨by rw [← her]; simpa [bne] using h, ?_⟩
        rw [← hG]; unfold pout; rw [if_neg h])
    have HRP := Lib.hid (rparse_any l · HLL.out)
    rw [hG, her] at HRP
    have HGE := Lib.hid hG; have HER := Lib.hid her
    rw [hG, her]
    clear hG her hbp HB
    have HA := Lib.hid (boxed G wp)
    go_wp2_with fail
    rw [HSL.out]
    refine (HRP.out _).mono ?_
    rintro e wq ⟨rfl, hbq⟩
    have HX := Lib.hid ((bx_new wp G).below hbq (by simp))
    have HBQ := Lib.hid (nxt (nxt (nxt HBP.out HA.out) hbq) (boxed G wq))
    have hlt := HX.out.lt
    rw [← HSL.out]
    clear HBP HA hbq
    rcases HZ.out with h0 | ⟨h0, h1⟩
    · subst h0
      obtain ⟨c0, c1, c2, c3, c4, c5, c6, c7, c8, c9, c10, c11⟩ := HX.out
      go_wp2_with fail
      refine (awake_ok _).mono ?_
      rintro e wa ⟨rfl, hba⟩
      go_wp2
      go_ret
      exact ⟨rfl, nxt HBQ.out hba⟩
    · rw [h1] at HX HBQ
      have hz := HX.out
      simp [Bx, Fr.zero] at hz
      obtain ⟨c0, c1, c2, c3, c4, c5, c6, c7, c8, c9, c10, c11⟩ := hz
      have H1 := Lib.hid h1
      have hee : (er == er) = true := by simp
      clear h1
      go_wp2_with fail
      refine (awake_ok _).mono ?_
      rintro e wa ⟨rfl, hba⟩
      go_wp2
      go_ret
      exact ⟨rfl, nxt (by have := HBQ.out; rw [← H1.out] at this; exact this) hba⟩
  · have HM := Lib.hid hm
    have HW := Lib.hid hwf
    clear hm hwf
    obtain ⟨t, ht⟩ : ∃ t, str f.text = t := ⟨_, rfl⟩
    have HT := Lib.hid (text_ok f · HM.out HW.out)
    have HRT := Lib.hid (rtext3_ok f · HM.out HW.out)
    rw [ht] at HT HRT
    have htt : (t.toList == t.toList) = true := by simp
    have htn : (t.toList != t.toList) = false := by simp
    clear ht
    go_enter Try.func5, Try.ntmps5
    go_wp2_with fail
    refine (HT.out _).mono ?_
    rintro e w1 ⟨rfl, hb1⟩
    have HX1 := Lib.hid (bx_past hb1)
    have HB1 := Lib.hid (nxt HB.out hb1)
    obtain ⟨c0, c1, c2, c3, c4, c5, c6, c7, c8, c9, c10, c11⟩ := HX1.out
    clear HB hb1
    go_wp2_with fail
    refine (rcheck_any f _).mono ?_
    rintro e w2 ⟨rfl, hb2⟩
    rw [err_ok HM.out]
    have HB2 := Lib.hid (nxt HB1.out hb2)
    have HX2 := Lib.hid (HX1.out.below hb2 HX1.out.lt)
    clear c0 c1 c2 c3 c4 c5 c6 c7 c8 c9 c10 c11
    clear hb2 HB1 HX1
    obtain ⟨c0, c1, c2, c3, c4, c5, c6, c7, c8, c9, c10, c11⟩ := HX2.out
    go_wp2_with fail
    refine (HRT.out _).mono ?_
    rintro e w3 ⟨rfl, hb3⟩
    have HB := Lib.hid (nxt HB2.out hb3)
    clear c0 c1 c2 c3 c4 c5 c6 c7 c8 c9 c10 c11
    clear hb3 HB2 HX2
    go_wp2_with fail
    rw [HSL.out]
    refine (parse_any l _ HLL.out).mono ?_
    rintro e wp ⟨rfl, hbp⟩
    rw [← HSL.out]
    have HBP := Lib.hid (nxt HB.out hbp)
    obtain ⟨G, hG⟩ : ∃ G, pout l = G := ⟨_, rfl⟩
    obtain ⟨er, her⟩ : ∃ er, perr l = er := ⟨_, rfl⟩
    have HZ := Lib.hid (show er = 0 ∨ (er != 0) = true ∧ G = Fr.zero by
      by_cases h : perr l = 0
      · exact .inl (by rw [← her]; exact h)
      · refine .inr ⟨by rw [← her]; simpa [bne] using h, ?_⟩
        rw [← hG]; unfold pout; rw [if_neg h])
    have HRP := Lib.hid (rparse_any l · HLL.out)
    rw [hG, her] at HRP
    have HGE := Lib.hid hG; have HER := Lib.hid her
    rw [hG, her]
    clear hG her hbp HB
    have HA := Lib.hid (boxed G wp)
    go_wp2_with fail
    rw [HSL.out]
    refine (HRP.out _).mono ?_
    rintro e wq ⟨rfl, hbq⟩
    have HX := Lib.hid ((bx_new wp G).below hbq (by simp))
    have HBQ := Lib.hid (nxt (nxt (nxt HBP.out HA.out) hbq) (boxed G wq))
    have hlt := HX.out.lt
    rw [← HSL.out]
    clear HBP HA hbq
    rcases HZ.out with h0 | ⟨h0, h1⟩
    · subst h0
      obtain ⟨c0, c1, c2, c3, c4, c5, c6, c7, c8, c9, c10, c11⟩ := HX.out
      go_wp2_with fail
      refine (awake_ok _).mono ?_
      rintro e wa ⟨rfl, hba⟩
      go_wp2
      go_ret
      exact ⟨rfl, nxt HBQ.out hba⟩
    · rw [h1] at HX HBQ
      have hz := HX.out
      simp [Bx, Fr.zero] at hz
      obtain ⟨c0, c1, c2, c3, c4, c5, c6, c7, c8, c9, c10, c11⟩ := hz
      have H1 := Lib.hid h1
      have hee : (er == er) = true := by simp
      clear h1
      go_wp2_with fail
      refine (awake_ok _).mono ?_
      rintro e wa ⟨rfl, hba⟩
      go_wp2
      go_ret
      exact ⟨rfl, nxt (by have := HBQ.out; rw [← H1.out] at this; exact this) hba⟩
end Go.Proofs.Ytjjfkakjkkpgaaa
