/- The walk of the law ArbOrders. -/
import Derived.Test.YtjbbneagikogbaaAT
import Derived.Test.YtjbbneagikogbaaAW7
import Derived.Test.YtjbbneagikogbaaAZ
namespace Go.Proofs.Ytjbbneagikogbaa
open Go.RowKit

set_option maxRecDepth 100000 in
set_option maxHeartbeats 3200000 in
theorem aorders_any (A : Option Addr) (n cap : Nat) (fs : Nat → Fr) (w : World) (hr : Fl w A n fs) :
    Calls Try.prog 5 #[.slice A n cap] w fun e w' => e = .returned (.bool true) ∧ Below w.heap.size w w' := by
  have HR := Lib.hid hr
  clear hr
  rcases Nat.lt_or_ge 12 n with hn | hn
  · have g0 : decide ((12 : Int) < (n : Int)) = true := by simp; omega
    go_enter Try.func5, Try.ntmps5
    go_wp2_with (go_at_call 9; (refine (awake7 _).mono ?_); rintro e w1 ⟨rfl, hb1⟩)
    go_ret
    exact ⟨rfl, hb1⟩
  have g0 : decide ((12 : Int) < (n : Int)) = false := by simp; omega
  rcases may_or fs n with hbad | hmay
  · have HBAD := Lib.hid hbad
    clear hbad
    go_enter Try.func5, Try.ntmps5
    go_wp2_with fail
    refine (winner_bad fs A n cap _ HR.out hn HBAD.out).mono ?_
    rintro e w1 ⟨rfl, hb1⟩
    have HB1 := Lib.hid hb1
    clear hb1
    go_wp2_with fail
    refine (order_bad fs A n cap _ (HR.out.below HB1.out) hn HBAD.out).mono ?_
    rintro e w2 ⟨rfl, hb2⟩
    have HB2 := Lib.hid (nxt HB1.out hb2)
    clear hb2
    go_wp2_with fail
    refine (rwrong_bad fs A n cap _ (HR.out.below HB2.out) hn HBAD.out).mono ?_
    rintro e w3 ⟨rfl, hb3⟩
    have HB3 := Lib.hid (nxt HB2.out hb3)
    clear hb3
    go_wp2_with fail
    refine (awake7 _).mono ?_
    rintro e w4 ⟨rfl, hb4⟩
    go_wp2
    go_ret
    exact ⟨rfl, nxt HB3.out hb4⟩
  have HM := Lib.hid hmay
  clear hmay
  rcases Nat.eq_zero_or_pos n with h0 | h0
  · subst h0
    have HNS := Lib.hid (show ¬ Same fs 0 from by rintro ⟨a, b, _, h, _⟩; omega)
    go_enter Try.func5, Try.ntmps5
    go_wp2_with fail
    refine (winner_none A cap _).mono ?_
    rintro e w1 ⟨rfl, rfl⟩
    go_wp2_with fail
    refine (order_ok fs A 0 cap _ HR.out hn HM.out HNS.out).mono ?_
    rintro e w2 ⟨g, c, ps, rfl, hs, ho, hb2⟩
    have HS := Lib.hid hs; have HO := Lib.hid ho; have HB2 := Lib.hid hb2
    clear hs ho hb2
    go_wp2_with fail
    refine (rwrong_ok fs A 0 cap _ (HR.out.below HB2.out) hn HM.out HNS.out).mono ?_
    rintro e w3 ⟨rfl, hb3⟩
    have HB3 := Lib.hid (nxt HB2.out hb3); have HO3 := Lib.hid (HO.out.below hb3)
    clear hb3
    go_wp2_with fail
    refine (rorder_any fs A 0 cap _ (HR.out.below HB3.out) (by omega) HM.out ps HS.out).mono ?_
    rintro e w4 ⟨v, rfl, ho4, hb4⟩
    obtain ⟨A4, c4, rfl, hi4, -⟩ := ho4.il2
    have HB4 := Lib.hid (nxt HB3.out hb4); have HO4 := Lib.hid (HO3.out.below hb4); have HI4 := Lib.hid hi4
    have HLE := Lib.hid (show (asI ps).length = 0 by rw [asI_len, HS.out.len])
    rw [HLE.out] at HI4 ⊢
    clear hi4 ho4 hb4
    go_wp2_with fail
    refine (ints_b _ _ 0 0 _ _ (asI ps) (asI ps) _ HO4.out.il_at HI4.out (by omega)).mono ?_
    rintro e w5 ⟨rfl, hb5⟩
    rw [beq_self_eq_true]
    have HB5 := Lib.hid (nxt HB4.out hb5)
    clear hb5
    go_wp2_with fail
    refine (awake7 _).mono ?_
    rintro e w6 ⟨rfl, hb6⟩
    go_wp2
    go_ret
    exact ⟨rfl, nxt HB5.out hb6⟩
  have g1 : ((n : Int) == 0) = false := by simp; omega
  have g2 : ¬ n = 0 := by omega
  rcases Classical.em (Same fs n) with hsame | hsame
  · have HSM := Lib.hid hsame
    clear hsame
    go_enter Try.func5, Try.ntmps5
    go_wp2_with fail
    refine (winner_same fs A n cap _ HR.out hn HM.out h0 HSM.out).mono ?_
    rintro e w1 ⟨rfl, hb1⟩
    have HB1 := Lib.hid hb1
    clear hb1
    go_wp2_with fail
    refine (order_same fs A n cap _ (HR.out.below HB1.out) hn HM.out HSM.out).mono ?_
    rintro e w2 ⟨rfl, hb2⟩
    have HB2 := Lib.hid (nxt HB1.out hb2)
    clear hb2
    go_wp2_with fail
    refine (rwrong_same fs A n cap _ (HR.out.below HB2.out) hn HM.out HSM.out).mono ?_
    rintro e w3 ⟨rfl, hb3⟩
    have HB3 := Lib.hid (nxt HB2.out hb3)
    clear hb3
    go_wp2_with fail
    refine (awake7 _).mono ?_
    rintro e w4 ⟨rfl, hb4⟩
    go_wp2
    go_ret
    exact ⟨rfl, nxt HB3.out hb4⟩
  · have HNS := Lib.hid hsame
    clear hsame
    go_enter Try.func5, Try.ntmps5
    go_wp2_with fail
    refine (winner_ok fs A n cap _ HR.out hn HM.out h0 HNS.out).mono ?_
    rintro e w1 ⟨ps, rfl, hs1, hb1⟩
    have HS1 := Lib.hid hs1; have HB1 := Lib.hid hb1
    obtain ⟨m, hm⟩ : ∃ m, ps.getD 0 0 = m := ⟨_, rfl⟩
    have HW := Lib.hid (wns_of (m := m) HM.out (by rw [← hm]; exact hs1.lt h0) (fun i hi hne => by have := hs1.first hi (by rw [hm]; exact hne); rw [hm] at this; exact this))
    rw [hm]
    clear hs1 hb1 hm
    go_wp2_with fail
    refine (order_ok fs A n cap _ (HR.out.below HB1.out) hn HM.out HNS.out).mono ?_
    rintro e w2 ⟨g, c, qs, rfl, hs, ho, hb2⟩
    obtain rfl : qs = ps := hs.uniq HS1.out
    have HO := Lib.hid ho; have HB2 := Lib.hid (nxt HB1.out hb2)
    clear hs ho hb2
    go_wp2_with fail
    refine (rwrong_ok fs A n cap _ (HR.out.below HB2.out) hn HM.out HNS.out).mono ?_
    rintro e w3 ⟨rfl, hb3⟩
    have HB3 := Lib.hid (nxt HB2.out hb3); have HO3 := Lib.hid (HO.out.below hb3)
    clear hb3
    go_wp2_with fail
    refine (rorder_any fs A n cap _ (HR.out.below HB3.out) (by omega) HM.out qs HS1.out).mono ?_
    rintro e w4 ⟨v, rfl, ho4, hb4⟩
    obtain ⟨A4, c4, rfl, hi4, -⟩ := ho4.il2
    have HB4 := Lib.hid (nxt HB3.out hb4); have HO4 := Lib.hid (HO3.out.below hb4); have HI4 := Lib.hid hi4
    have HLE := Lib.hid (show (asI qs).length = n by rw [asI_len, HS1.out.len])
    rw [HLE.out] at HI4 ⊢
    clear hi4 ho4 hb4
    go_wp2_with fail
    refine (ints_b _ _ n n _ _ (asI qs) (asI qs) _ HO4.out.il_at HI4.out (by omega)).mono ?_
    rintro e w5 ⟨rfl, hb5⟩
    rw [beq_self_eq_true]
    have HB5 := Lib.hid (nxt HB4.out hb5)
    clear hb5
    have hmm : ((m : Int) == (m : Int)) = true := by simp
    go_wp2_with fail
    refine (rwins_any fs A n cap _ (HR.out.below HB5.out) (by omega) HM.out m HW.out).mono ?_
    rintro e w6 ⟨rfl, hb6⟩
    have HB6 := Lib.hid (nxt HB5.out hb6)
    clear hb6
    go_wp2_with fail
    refine (awake7 _).mono ?_
    rintro e w7 ⟨rfl, hb7⟩
    go_wp2
    go_ret
    exact ⟨rfl, nxt HB6.out hb7⟩
end Go.Proofs.Ytjbbneagikogbaa
