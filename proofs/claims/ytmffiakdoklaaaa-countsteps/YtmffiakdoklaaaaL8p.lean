/- The walk of the law CountSteps. -/
import Derived.Test.YtmffiakdoklaaaaKV
import Derived.Test.YtmffiakdoklaaaaKO
namespace Go.Proofs.Ytmffiakdoklaaaa
open Go.RowKit

/-- The two blocks of the law. -/
def Duo (w wr : World) (c d : Ct) : Prop := Below w.heap.size w wr ∧ Cb wr w.heap.size c ∧ Cb wr (w.heap.size + 1) d
theorem Duo.drew {w wr : World} {c d : Ct} (h : Duo w wr c d) : Duo w wr.drew c d := ⟨h.1.drew, h.2.1, h.2.2⟩
theorem Duo.next {w wr w' : World} {c d : Ct} (h : Duo w wr c d) (hb : Below wr.heap.size wr w') : Duo w w' c d := ⟨nxt h.1 hb, h.2.1.next hb, h.2.2.next hb⟩
theorem Duo.putA {w wr : World} {c d : Ct} (h : Duo w wr c d) (u : Ct) : Duo w (((wr.setCell ⟨w.heap.size, 0, none⟩ (.int .i64 u.t)).setCell ⟨w.heap.size, 1, none⟩ (.int .i64 u.r)).setCell ⟨w.heap.size, 2, none⟩ (.bool u.o)) u d :=
  ⟨set3 h.1 (Nat.le_refl _) _ _ _, h.2.1.put u, h.2.2.away (by omega) _ _ _⟩
theorem Duo.putB {w wr : World} {c d : Ct} (h : Duo w wr c d) (u : Ct) : Duo w (((wr.setCell ⟨w.heap.size + 1, 0, none⟩ (.int .i64 u.t)).setCell ⟨w.heap.size + 1, 1, none⟩ (.int .i64 u.r)).setCell ⟨w.heap.size + 1, 2, none⟩ (.bool u.o)) c u :=
  ⟨set3 h.1 (Nat.le_succ _) _ _ _, h.2.1.away (by omega) _ _ _, h.2.2.put u⟩

theorem duo_new (w : World) : Duo w ((w.alloc (.cells Ct.zero.cells 23)).alloc (.cells Ct.zero.cells 23)) Ct.zero Ct.zero :=
  ⟨below2 w _ _, cb_first w _ _, cb_next w _ _⟩

set_option maxRecDepth 100000 in
set_option maxHeartbeats 3200000 in
theorem csteps_long (A : Option Addr) (n n' : Nat) (w : World) (h : 300 < n) :
    Calls Try.prog 6 #[.slice A n n'] w fun e w' => e = .returned (.bool true) ∧ Below w.heap.size w w' := by
  have g0 : (300 : Int) < (n : Int) := by omega
  go_enter Try.func6, Try.ntmps6
  go_wp2_with fail
  refine (awake8 _).mono ?_
  rintro e w1 ⟨rfl, hb1⟩
  have HF := Lib.hid hb1
  clear hb1
  go_wp2
  go_ret
  exact ⟨rfl, HF.out⟩

set_option maxRecDepth 100000 in
set_option maxHeartbeats 6400000 in
theorem csteps_short (bs : Nat → Bool) (A : Option Addr) (n n' : Nat) (w : World) (hn : n ≤ 300) (hA : Bl w A n bs) :
    Calls Try.prog 6 #[.slice A n n'] w fun e w' => e = .returned (.bool true) ∧ Below w.heap.size w w' := by
  have HA := Lib.hid hA
  have HT := Lib.hid (duo_new w)
  have g0 : decide ((300 : Int) < (n : Int)) = false := by simp; omega
  clear hA
  go_enter Try.func6, Try.ntmps6
  go_wp2
  go_loopw [5, 6] (fun vo vi wr => ∃ (k : Nat) (c : Ct) (q : Int), k ≤ n ∧ rcd k = ⟨0, q, false⟩ ∧ vo = .bool c.o ∧ vi = .int .i64 k ∧ Stp c k ∧ Duo w wr c ⟨0, q, false⟩) (fun _ vi _ => n - (intOf vi).toNat)
  case atStart => exact ⟨0, Ct.zero, 0, Nat.zero_le _, rfl, rfl, rfl, stp_zero, HT.out⟩
  case round =>
    clear HT
    obtain ⟨k, c, q, hk, hq, hvo, rfl, hp, ht⟩ := hrel
    obtain ⟨t, r, o⟩ := c
    simp only at hvo
    subst hvo
    have HT1 := Lib.hid ht
    clear ht
    by_cases hlt : k < n
    · have hlt' : (k : Int) < (n : Int) := by omega
      have HA1 := Lib.hid (HA.out.below HT1.out.1)
      obtain ⟨bk, hbk⟩ : ∃ bk, bs k = bk := ⟨_, rfl⟩
      have HBK := Lib.hid hbk
      obtain ⟨q1, hq1⟩ : ∃ q1, rcd (k + 1) = ⟨0, q1, false⟩ := ⟨_, rfl⟩
      have HQE := Lib.hid hq1
      have HQ := Lib.hid (show Ct.rxx ⟨0, q, false⟩ 8 = ⟨0, q1, false⟩ by rw [← hq, rcd_next, hq1])
      have hp1 := stp_tx hp
      have hp2 := stp_snt hp1
      obtain ⟨u, hu⟩ : ∃ u, Ct.txx ⟨t, r, o⟩ = u := ⟨_, rfl⟩
      obtain ⟨v, hv⟩ : ∃ v, u.snt = v := ⟨_, rfl⟩
      rw [hu] at hp1 hp2
      rw [hv] at hp2
      have HP := Lib.hid hp; have HP1 := Lib.hid hp1; have HP2 := Lib.hid hp2
      obtain ⟨t1, r1, o1⟩ := u
      obtain ⟨t2, r2, o2⟩ := v
      obtain rfl : o2 = o1 := by
        have h := stp_snt_o (c := ⟨t1, r1, o1⟩)
        rw [hv] at h
        exact h
      have HU := Lib.hid hu; have HSN := Lib.hid hv
      obtain ⟨a0, a1, a2⟩ := HT1.out.2.1.cx
      obtain ⟨b0, b1, b2⟩ := HT1.out.2.2.cx
      simp only at a0 a1 a2 b0 b1 b2
      have hlo := fun h => stp_early hp1 (k := k) h
      have hhi := fun h => stp_late hp1 h
      have hso := fun h => (stp_off (c := ⟨t, r, o⟩) h).1
      have hs2 := fun h => (stp_off (c := ⟨t1, r1, o2⟩) h).2.2.2.2
      have hl0 : k < 15 → Ct.st ⟨0, q1, false⟩ = 0 := fun h => by rw [← hq1]; exact rcd_lo h
      have hl1 : 15 ≤ k → Ct.st ⟨0, q1, false⟩ = 1 := fun h => by rw [← hq1]; exact rcd_hi h
      clear hp hp1 hp2 hq hq1 hv hbk
      cases o
      · clear hso
        cases o2
        · by_cases k15 : k < 15
          · have HS := Lib.hid (hlo k15).2
            have HSD := Lib.hid (hl0 k15)
            have z15 : (k : Int) < 15 := by omega
            have z31 : (k : Int) < 31 := by omega
            have y15 : decide ((15 : Int) ≤ (k : Int)) = false := by simp; omega
            clear hlo hhi hs2 hl0 hl1 hu
            cases bk
            · go_wp2_with fail
              refine (tx_any ⟨t, r, false⟩ _).mono ?_
              rintro e w2 ⟨rfl, hb2⟩
              rw [HU.out]
              have HT2 := Lib.hid (HT1.out.next hb2)
              clear hb2 a0 a1 a2 b0 b1 b2 HT1
              obtain ⟨a0, a1, a2⟩ := HT2.out.2.1.cx
              obtain ⟨b0, b1, b2⟩ := HT2.out.2.2.cx
              have f0 := HT2.out.2.1.frozen 0
              have f1 := HT2.out.2.1.frozen 1
              have f2 := HT2.out.2.1.frozen 2
              simp only at a0 a1 a2 b0 b1 b2
              obtain ⟨wx, hwx⟩ : ∃ wx, ((w2.setCell ⟨w.heap.size, 0, none⟩ (.int .i64 t1)).setCell ⟨w.heap.size, 1, none⟩ (.int .i64 r1)).setCell ⟨w.heap.size, 2, none⟩ (.bool false) = wx := ⟨_, rfl⟩
              have HT3 := Lib.hid (show Duo w wx ⟨t1, r1, false⟩ ⟨0, q, false⟩ by rw [← hwx]; exact HT2.out.putA ⟨t1, r1, false⟩)
              clear HT2
              obtain ⟨d0, d1, d2⟩ := HT3.out.2.2.cx
              simp only at d0 d1 d2
              go_wp2_with fail
              refine (rx_any ⟨0, q, false⟩ 8 _).mono ?_
              rintro e w3 ⟨rfl, hb3⟩
              rw [HQ.out]
              have HT4 := Lib.hid (HT3.out.next hb3)
              clear hb3 hwx a0 a1 a2 b0 b1 b2 d0 d1 d2 f0 f1 f2 HT3
              obtain ⟨b0, b1, b2⟩ := HT4.out.2.2.cx
              have f0 := HT4.out.2.2.frozen 0
              have f1 := HT4.out.2.2.frozen 1
              have f2 := HT4.out.2.2.frozen 2
              simp only at b0 b1 b2
              obtain ⟨wy, hwy⟩ : ∃ wy, ((w3.setCell ⟨w.heap.size + 1, 0, none⟩ (.int .i64 0)).setCell ⟨w.heap.size + 1, 1, none⟩ (.int .i64 q1)).setCell ⟨w.heap.size + 1, 2, none⟩ (.bool false) = wy := ⟨_, rfl⟩
              have HT5 := Lib.hid (show Duo w wy ⟨t1, r1, false⟩ ⟨0, q1, false⟩ by rw [← hwy]; exact HT4.out.putB ⟨0, q1, false⟩)
              clear HT4
              obtain ⟨a0, a1, a2⟩ := HT5.out.2.1.cx
              obtain ⟨x0, hA', hl', hx0⟩ := (HA.out.below HT5.out.1).at_ hlt
              subst hA'
              rw [HBK.out] at hx0
              obtain ⟨c0, c1, c2⟩ := HT5.out.2.2.cx
              simp only at a0 a1 a2 c0 c1 c2
              go_wp2_with fail
              refine (state_any ⟨t1, r1, false⟩ _).mono ?_
              rintro e v0 ⟨rfl, hc0⟩
              rw [HS.out]
              have HV0 := Lib.hid (HT5.out.next hc0)
              clear hc0 hwy b0 b1 b2 f0 f1 f2 c0 c1 c2 a0 a1 a2 hl' hx0 HT5
              obtain ⟨a0, a1, a2⟩ := HV0.out.2.1.cx
              obtain ⟨x0', hA', hl', hx0⟩ := (HA.out.below HV0.out.1).at_ hlt
              injection hA' with hA'
              subst hA'
              rw [HBK.out] at hx0
              simp only at a0 a1 a2
              obtain ⟨b0, b1, b2⟩ := HV0.out.2.2.cx
              simp only at b0 b1 b2
              have HT5 := HV0
              clear HV0
              go_wp2_with fail
              refine (state_any ⟨0, q1, false⟩ _).mono ?_
              rintro e w8 ⟨rfl, hb8⟩
              rw [HSD.out]
              have HT8 := Lib.hid (HT5.out.next hb8)
              clear hb8 a0 a1 a2 b0 b1 b2 hl' hx0 HT5
              try clear hwy
              try clear c0 c1 c2
              try clear f0 f1 f2
              obtain ⟨d0, d1, d2⟩ := HT8.out.2.2.cx
              simp only at d0 d1 d2
              have HT9 := HT8
              go_wp2
              go_roundw
              case rel => exact ⟨k + 1, ⟨t1, r1, false⟩, q1, by omega, HQE.out, rfl, by go_num, HP1.out, HT9.out⟩
              case measure => simp [intOf]; omega
            · go_wp2_with fail
              refine (tx_any ⟨t, r, false⟩ _).mono ?_
              rintro e w2 ⟨rfl, hb2⟩
              rw [HU.out]
              have HT2 := Lib.hid (HT1.out.next hb2)
              clear hb2 a0 a1 a2 b0 b1 b2 HT1
              obtain ⟨a0, a1, a2⟩ := HT2.out.2.1.cx
              obtain ⟨b0, b1, b2⟩ := HT2.out.2.2.cx
              have f0 := HT2.out.2.1.frozen 0
              have f1 := HT2.out.2.1.frozen 1
              have f2 := HT2.out.2.1.frozen 2
              simp only at a0 a1 a2 b0 b1 b2
              obtain ⟨wx, hwx⟩ : ∃ wx, ((w2.setCell ⟨w.heap.size, 0, none⟩ (.int .i64 t1)).setCell ⟨w.heap.size, 1, none⟩ (.int .i64 r1)).setCell ⟨w.heap.size, 2, none⟩ (.bool false) = wx := ⟨_, rfl⟩
              have HT3 := Lib.hid (show Duo w wx ⟨t1, r1, false⟩ ⟨0, q, false⟩ by rw [← hwx]; exact HT2.out.putA ⟨t1, r1, false⟩)
              clear HT2
              obtain ⟨d0, d1, d2⟩ := HT3.out.2.2.cx
              simp only at d0 d1 d2
              go_wp2_with fail
              refine (rx_any ⟨0, q, false⟩ 8 _).mono ?_
              rintro e w3 ⟨rfl, hb3⟩
              rw [HQ.out]
              have HT4 := Lib.hid (HT3.out.next hb3)
              clear hb3 hwx a0 a1 a2 b0 b1 b2 d0 d1 d2 f0 f1 f2 HT3
              obtain ⟨b0, b1, b2⟩ := HT4.out.2.2.cx
              have f0 := HT4.out.2.2.frozen 0
              have f1 := HT4.out.2.2.frozen 1
              have f2 := HT4.out.2.2.frozen 2
              simp only at b0 b1 b2
              obtain ⟨wy, hwy⟩ : ∃ wy, ((w3.setCell ⟨w.heap.size + 1, 0, none⟩ (.int .i64 0)).setCell ⟨w.heap.size + 1, 1, none⟩ (.int .i64 q1)).setCell ⟨w.heap.size + 1, 2, none⟩ (.bool false) = wy := ⟨_, rfl⟩
              have HT5 := Lib.hid (show Duo w wy ⟨t1, r1, false⟩ ⟨0, q1, false⟩ by rw [← hwy]; exact HT4.out.putB ⟨0, q1, false⟩)
              clear HT4
              obtain ⟨a0, a1, a2⟩ := HT5.out.2.1.cx
              obtain ⟨x0, hA', hl', hx0⟩ := (HA.out.below HT5.out.1).at_ hlt
              subst hA'
              rw [HBK.out] at hx0
              obtain ⟨c0, c1, c2⟩ := HT5.out.2.2.cx
              simp only at a0 a1 a2 c0 c1 c2
              go_wp2_with fail
              refine (state_any ⟨t1, r1, false⟩ _).mono ?_
              rintro e v0 ⟨rfl, hc0⟩
              rw [HS.out]
              have HV0 := Lib.hid (HT5.out.next hc0)
              clear hc0 hwy b0 b1 b2 f0 f1 f2 c0 c1 c2 a0 a1 a2 hl' hx0 HT5
              obtain ⟨a0, a1, a2⟩ := HV0.out.2.1.cx
              obtain ⟨x0', hA', hl', hx0⟩ := (HA.out.below HV0.out.1).at_ hlt
              injection hA' with hA'
              subst hA'
              rw [HBK.out] at hx0
              simp only at a0 a1 a2
              obtain ⟨b0, b1, b2⟩ := HV0.out.2.2.cx
              simp only at b0 b1 b2
              have HT5 := HV0
              clear HV0
              go_wp2_with fail
              refine (sent_any ⟨t1, r1, false⟩ _).mono ?_
              rintro e w6 ⟨rfl, hb6⟩
              rw [HSN.out]
              have HT6 := Lib.hid (HT5.out.next hb6)
              clear hb6 a0 a1 a2 b0 b1 b2 hl' hx0 HT5
              try clear hwy
              try clear c0 c1 c2
              try clear f0 f1 f2
              obtain ⟨a0, a1, a2⟩ := HT6.out.2.1.cx
              have f0 := HT6.out.2.1.frozen 0
              have f1 := HT6.out.2.1.frozen 1
              have f2 := HT6.out.2.1.frozen 2
              simp only at a0 a1 a2
              obtain ⟨wz, hwz⟩ : ∃ wz, ((w6.setCell ⟨w.heap.size, 0, none⟩ (.int .i64 t2)).setCell ⟨w.heap.size, 1, none⟩ (.int .i64 r2)).setCell ⟨w.heap.size, 2, none⟩ (.bool false) = wz := ⟨_, rfl⟩
              have HT7 := Lib.hid (show Duo w wz ⟨t2, r2, false⟩ ⟨0, q1, false⟩ by rw [← hwz]; exact HT6.out.putA ⟨t2, r2, false⟩)
              clear HT6
              obtain ⟨d0, d1, d2⟩ := HT7.out.2.2.cx
              simp only at d0 d1 d2
              go_wp2_with fail
              refine (state_any ⟨0, q1, false⟩ _).mono ?_
              rintro e w8 ⟨rfl, hb8⟩
              rw [HSD.out]
              have HT8 := Lib.hid (HT7.out.next hb8)
              clear hb8 hwz a0 a1 a2 d0 d1 d2 f0 f1 f2 HT7
              obtain ⟨d0, d1, d2⟩ := HT8.out.2.2.cx
              simp only at d0 d1 d2
              have HT9 := HT8
              go_wp2
              go_roundw
              case rel => exact ⟨k + 1, ⟨t2, r2, false⟩, q1, by omega, HQE.out, rfl, by go_num, HP2.out, HT9.out⟩
              case measure => simp [intOf]; omega
          · by_cases k31 : k < 31
            · have HSD := Lib.hid (hl1 (by omega))
              have z15 : decide ((k : Int) < 15) = false := by simp; omega
              have z31 : (k : Int) < 31 := by omega
              have y15 : (15 : Int) ≤ (k : Int) := by omega
              clear hlo hhi hs2 hl0 hl1 hu
              cases bk
              · go_wp2_with fail
                refine (tx_any ⟨t, r, false⟩ _).mono ?_
                rintro e w2 ⟨rfl, hb2⟩
                rw [HU.out]
                have HT2 := Lib.hid (HT1.out.next hb2)
                clear hb2 a0 a1 a2 b0 b1 b2 HT1
                obtain ⟨a0, a1, a2⟩ := HT2.out.2.1.cx
                obtain ⟨b0, b1, b2⟩ := HT2.out.2.2.cx
                have f0 := HT2.out.2.1.frozen 0
                have f1 := HT2.out.2.1.frozen 1
                have f2 := HT2.out.2.1.frozen 2
                simp only at a0 a1 a2 b0 b1 b2
                obtain ⟨wx, hwx⟩ : ∃ wx, ((w2.setCell ⟨w.heap.size, 0, none⟩ (.int .i64 t1)).setCell ⟨w.heap.size, 1, none⟩ (.int .i64 r1)).setCell ⟨w.heap.size, 2, none⟩ (.bool false) = wx := ⟨_, rfl⟩
                have HT3 := Lib.hid (show Duo w wx ⟨t1, r1, false⟩ ⟨0, q, false⟩ by rw [← hwx]; exact HT2.out.putA ⟨t1, r1, false⟩)
                clear HT2
                obtain ⟨d0, d1, d2⟩ := HT3.out.2.2.cx
                simp only at d0 d1 d2
                go_wp2_with fail
                refine (rx_any ⟨0, q, false⟩ 8 _).mono ?_
                rintro e w3 ⟨rfl, hb3⟩
                rw [HQ.out]
                have HT4 := Lib.hid (HT3.out.next hb3)
                clear hb3 hwx a0 a1 a2 b0 b1 b2 d0 d1 d2 f0 f1 f2 HT3
                obtain ⟨b0, b1, b2⟩ := HT4.out.2.2.cx
                have f0 := HT4.out.2.2.frozen 0
                have f1 := HT4.out.2.2.frozen 1
                have f2 := HT4.out.2.2.frozen 2
                simp only at b0 b1 b2
                obtain ⟨wy, hwy⟩ : ∃ wy, ((w3.setCell ⟨w.heap.size + 1, 0, none⟩ (.int .i64 0)).setCell ⟨w.heap.size + 1, 1, none⟩ (.int .i64 q1)).setCell ⟨w.heap.size + 1, 2, none⟩ (.bool false) = wy := ⟨_, rfl⟩
                have HT5 := Lib.hid (show Duo w wy ⟨t1, r1, false⟩ ⟨0, q1, false⟩ by rw [← hwy]; exact HT4.out.putB ⟨0, q1, false⟩)
                clear HT4
                obtain ⟨a0, a1, a2⟩ := HT5.out.2.1.cx
                obtain ⟨x0, hA', hl', hx0⟩ := (HA.out.below HT5.out.1).at_ hlt
                subst hA'
                rw [HBK.out] at hx0
                obtain ⟨c0, c1, c2⟩ := HT5.out.2.2.cx
                simp only at a0 a1 a2 c0 c1 c2
                go_wp2_with fail
                refine (state_any ⟨0, q1, false⟩ _).mono ?_
                rintro e w8 ⟨rfl, hb8⟩
                rw [HSD.out]
                have HT8 := Lib.hid (HT5.out.next hb8)
                clear hb8 a0 a1 a2 b0 b1 b2 hl' hx0 HT5
                try clear hwy
                try clear c0 c1 c2
                try clear f0 f1 f2
                obtain ⟨d0, d1, d2⟩ := HT8.out.2.2.cx
                simp only at d0 d1 d2
                go_wp2_with fail
                refine (state_any ⟨0, q1, false⟩ _).mono ?_
                rintro e w9 ⟨rfl, hb9⟩
                rw [HSD.out]
                have HT9 := Lib.hid (HT8.out.next hb9)
                clear hb9 d0 d1 d2 HT8
                go_wp2
                go_roundw
                case rel => exact ⟨k + 1, ⟨t1, r1, false⟩, q1, by omega, HQE.out, rfl, by go_num, HP1.out, HT9.out⟩
                case measure => simp [intOf]; omega
              · go_wp2_with fail
                refine (tx_any ⟨t, r, false⟩ _).mono ?_
                rintro e w2 ⟨rfl, hb2⟩
                rw [HU.out]
                have HT2 := Lib.hid (HT1.out.next hb2)
                clear hb2 a0 a1 a2 b0 b1 b2 HT1
                obtain ⟨a0, a1, a2⟩ := HT2.out.2.1.cx
                obtain ⟨b0, b1, b2⟩ := HT2.out.2.2.cx
                have f0 := HT2.out.2.1.frozen 0
                have f1 := HT2.out.2.1.frozen 1
                have f2 := HT2.out.2.1.frozen 2
                simp only at a0 a1 a2 b0 b1 b2
                obtain ⟨wx, hwx⟩ : ∃ wx, ((w2.setCell ⟨w.heap.size, 0, none⟩ (.int .i64 t1)).setCell ⟨w.heap.size, 1, none⟩ (.int .i64 r1)).setCell ⟨w.heap.size, 2, none⟩ (.bool false) = wx := ⟨_, rfl⟩
                have HT3 := Lib.hid (show Duo w wx ⟨t1, r1, false⟩ ⟨0, q, false⟩ by rw [← hwx]; exact HT2.out.putA ⟨t1, r1, false⟩)
                clear HT2
                obtain ⟨d0, d1, d2⟩ := HT3.out.2.2.cx
                simp only at d0 d1 d2
                go_wp2_with fail
                refine (rx_any ⟨0, q, false⟩ 8 _).mono ?_
                rintro e w3 ⟨rfl, hb3⟩
                rw [HQ.out]
                have HT4 := Lib.hid (HT3.out.next hb3)
                clear hb3 hwx a0 a1 a2 b0 b1 b2 d0 d1 d2 f0 f1 f2 HT3
                obtain ⟨b0, b1, b2⟩ := HT4.out.2.2.cx
                have f0 := HT4.out.2.2.frozen 0
                have f1 := HT4.out.2.2.frozen 1
                have f2 := HT4.out.2.2.frozen 2
                simp only at b0 b1 b2
                obtain ⟨wy, hwy⟩ : ∃ wy, ((w3.setCell ⟨w.heap.size + 1, 0, none⟩ (.int .i64 0)).setCell ⟨w.heap.size + 1, 1, none⟩ (.int .i64 q1)).setCell ⟨w.heap.size + 1, 2, none⟩ (.bool false) = wy := ⟨_, rfl⟩
                have HT5 := Lib.hid (show Duo w wy ⟨t1, r1, false⟩ ⟨0, q1, false⟩ by rw [← hwy]; exact HT4.out.putB ⟨0, q1, false⟩)
                clear HT4
                obtain ⟨a0, a1, a2⟩ := HT5.out.2.1.cx
                obtain ⟨x0, hA', hl', hx0⟩ := (HA.out.below HT5.out.1).at_ hlt
                subst hA'
                rw [HBK.out] at hx0
                obtain ⟨c0, c1, c2⟩ := HT5.out.2.2.cx
                simp only at a0 a1 a2 c0 c1 c2
                go_wp2_with fail
                refine (sent_any ⟨t1, r1, false⟩ _).mono ?_
                rintro e w6 ⟨rfl, hb6⟩
                rw [HSN.out]
                have HT6 := Lib.hid (HT5.out.next hb6)
                clear hb6 a0 a1 a2 b0 b1 b2 hl' hx0 HT5
                try clear hwy
                try clear c0 c1 c2
                try clear f0 f1 f2
                obtain ⟨a0, a1, a2⟩ := HT6.out.2.1.cx
                have f0 := HT6.out.2.1.frozen 0
                have f1 := HT6.out.2.1.frozen 1
                have f2 := HT6.out.2.1.frozen 2
                simp only at a0 a1 a2
                obtain ⟨wz, hwz⟩ : ∃ wz, ((w6.setCell ⟨w.heap.size, 0, none⟩ (.int .i64 t2)).setCell ⟨w.heap.size, 1, none⟩ (.int .i64 r2)).setCell ⟨w.heap.size, 2, none⟩ (.bool false) = wz := ⟨_, rfl⟩
                have HT7 := Lib.hid (show Duo w wz ⟨t2, r2, false⟩ ⟨0, q1, false⟩ by rw [← hwz]; exact HT6.out.putA ⟨t2, r2, false⟩)
                clear HT6
                obtain ⟨d0, d1, d2⟩ := HT7.out.2.2.cx
                simp only at d0 d1 d2
                go_wp2_with fail
                refine (state_any ⟨0, q1, false⟩ _).mono ?_
                rintro e w8 ⟨rfl, hb8⟩
                rw [HSD.out]
                have HT8 := Lib.hid (HT7.out.next hb8)
                clear hb8 hwz a0 a1 a2 d0 d1 d2 f0 f1 f2 HT7
                obtain ⟨d0, d1, d2⟩ := HT8.out.2.2.cx
                simp only at d0 d1 d2
                go_wp2_with fail
                refine (state_any ⟨0, q1, false⟩ _).mono ?_
                rintro e w9 ⟨rfl, hb9⟩
                rw [HSD.out]
                have HT9 := Lib.hid (HT8.out.next hb9)
                clear hb9 d0 d1 d2 HT8
                go_wp2
                go_roundw
                case rel => exact ⟨k + 1, ⟨t2, r2, false⟩, q1, by omega, HQE.out, rfl, by go_num, HP2.out, HT9.out⟩
                case measure => simp [intOf]; omega
            · have HSD := Lib.hid (hl1 (by omega))
              have z15 : decide ((k : Int) < 15) = false := by simp; omega
              have z31 : decide ((k : Int) < 31) = false := by simp; omega
              have y15 : (15 : Int) ≤ (k : Int) := by omega
              clear hlo hhi hs2 hl0 hl1 hu
              cases bk
              · go_wp2_with fail
                refine (tx_any ⟨t, r, false⟩ _).mono ?_
                rintro e w2 ⟨rfl, hb2⟩
                rw [HU.out]
                have HT2 := Lib.hid (HT1.out.next hb2)
                clear hb2 a0 a1 a2 b0 b1 b2 HT1
                obtain ⟨a0, a1, a2⟩ := HT2.out.2.1.cx
                obtain ⟨b0, b1, b2⟩ := HT2.out.2.2.cx
                have f0 := HT2.out.2.1.frozen 0
                have f1 := HT2.out.2.1.frozen 1
                have f2 := HT2.out.2.1.frozen 2
                simp only at a0 a1 a2 b0 b1 b2
                obtain ⟨wx, hwx⟩ : ∃ wx, ((w2.setCell ⟨w.heap.size, 0, none⟩ (.int .i64 t1)).setCell ⟨w.heap.size, 1, none⟩ (.int .i64 r1)).setCell ⟨w.heap.size, 2, none⟩ (.bool false) = wx := ⟨_, rfl⟩
                have HT3 := Lib.hid (show Duo w wx ⟨t1, r1, false⟩ ⟨0, q, false⟩ by rw [← hwx]; exact HT2.out.putA ⟨t1, r1, false⟩)
                clear HT2
                obtain ⟨d0, d1, d2⟩ := HT3.out.2.2.cx
                simp only at d0 d1 d2
                go_wp2_with fail
                refine (rx_any ⟨0, q, false⟩ 8 _).mono ?_
                rintro e w3 ⟨rfl, hb3⟩
                rw [HQ.out]
                have HT4 := Lib.hid (HT3.out.next hb3)
                clear hb3 hwx a0 a1 a2 b0 b1 b2 d0 d1 d2 f0 f1 f2 HT3
                obtain ⟨b0, b1, b2⟩ := HT4.out.2.2.cx
                have f0 := HT4.out.2.2.frozen 0
                have f1 := HT4.out.2.2.frozen 1
                have f2 := HT4.out.2.2.frozen 2
                simp only at b0 b1 b2
                obtain ⟨wy, hwy⟩ : ∃ wy, ((w3.setCell ⟨w.heap.size + 1, 0, none⟩ (.int .i64 0)).setCell ⟨w.heap.size + 1, 1, none⟩ (.int .i64 q1)).setCell ⟨w.heap.size + 1, 2, none⟩ (.bool false) = wy := ⟨_, rfl⟩
                have HT5 := Lib.hid (show Duo w wy ⟨t1, r1, false⟩ ⟨0, q1, false⟩ by rw [← hwy]; exact HT4.out.putB ⟨0, q1, false⟩)
                clear HT4
                obtain ⟨a0, a1, a2⟩ := HT5.out.2.1.cx
                obtain ⟨x0, hA', hl', hx0⟩ := (HA.out.below HT5.out.1).at_ hlt
                subst hA'
                rw [HBK.out] at hx0
                obtain ⟨c0, c1, c2⟩ := HT5.out.2.2.cx
                simp only at a0 a1 a2 c0 c1 c2
                go_wp2_with fail
                refine (state_any ⟨0, q1, false⟩ _).mono ?_
                rintro e w8 ⟨rfl, hb8⟩
                rw [HSD.out]
                have HT8 := Lib.hid (HT5.out.next hb8)
                clear hb8 a0 a1 a2 b0 b1 b2 hl' hx0 HT5
                try clear hwy
                try clear c0 c1 c2
                try clear f0 f1 f2
                obtain ⟨d0, d1, d2⟩ := HT8.out.2.2.cx
                simp only at d0 d1 d2
                go_wp2_with fail
                refine (state_any ⟨0, q1, false⟩ _).mono ?_
                rintro e w9 ⟨rfl, hb9⟩
                rw [HSD.out]
                have HT9 := Lib.hid (HT8.out.next hb9)
                clear hb9 d0 d1 d2 HT8
                go_wp2
                go_roundw
                case rel => exact ⟨k + 1, ⟨t1, r1, false⟩, q1, by omega, HQE.out, rfl, by go_num, HP1.out, HT9.out⟩
                case measure => simp [intOf]; omega
              · go_wp2_with fail
                refine (tx_any ⟨t, r, false⟩ _).mono ?_
                rintro e w2 ⟨rfl, hb2⟩
                rw [HU.out]
                have HT2 := Lib.hid (HT1.out.next hb2)
                clear hb2 a0 a1 a2 b0 b1 b2 HT1
                obtain ⟨a0, a1, a2⟩ := HT2.out.2.1.cx
                obtain ⟨b0, b1, b2⟩ := HT2.out.2.2.cx
                have f0 := HT2.out.2.1.frozen 0
                have f1 := HT2.out.2.1.frozen 1
                have f2 := HT2.out.2.1.frozen 2
                simp only at a0 a1 a2 b0 b1 b2
                obtain ⟨wx, hwx⟩ : ∃ wx, ((w2.setCell ⟨w.heap.size, 0, none⟩ (.int .i64 t1)).setCell ⟨w.heap.size, 1, none⟩ (.int .i64 r1)).setCell ⟨w.heap.size, 2, none⟩ (.bool false) = wx := ⟨_, rfl⟩
                have HT3 := Lib.hid (show Duo w wx ⟨t1, r1, false⟩ ⟨0, q, false⟩ by rw [← hwx]; exact HT2.out.putA ⟨t1, r1, false⟩)
                clear HT2
                obtain ⟨d0, d1, d2⟩ := HT3.out.2.2.cx
                simp only at d0 d1 d2
                go_wp2_with fail
                refine (rx_any ⟨0, q, false⟩ 8 _).mono ?_
                rintro e w3 ⟨rfl, hb3⟩
                rw [HQ.out]
                have HT4 := Lib.hid (HT3.out.next hb3)
                clear hb3 hwx a0 a1 a2 b0 b1 b2 d0 d1 d2 f0 f1 f2 HT3
                obtain ⟨b0, b1, b2⟩ := HT4.out.2.2.cx
                have f0 := HT4.out.2.2.frozen 0
                have f1 := HT4.out.2.2.frozen 1
                have f2 := HT4.out.2.2.frozen 2
                simp only at b0 b1 b2
                obtain ⟨wy, hwy⟩ : ∃ wy, ((w3.setCell ⟨w.heap.size + 1, 0, none⟩ (.int .i64 0)).setCell ⟨w.heap.size + 1, 1, none⟩ (.int .i64 q1)).setCell ⟨w.heap.size + 1, 2, none⟩ (.bool false) = wy := ⟨_, rfl⟩
                have HT5 := Lib.hid (show Duo w wy ⟨t1, r1, false⟩ ⟨0, q1, false⟩ by rw [← hwy]; exact HT4.out.putB ⟨0, q1, false⟩)
                clear HT4
                obtain ⟨a0, a1, a2⟩ := HT5.out.2.1.cx
                obtain ⟨x0, hA', hl', hx0⟩ := (HA.out.below HT5.out.1).at_ hlt
                subst hA'
                rw [HBK.out] at hx0
                obtain ⟨c0, c1, c2⟩ := HT5.out.2.2.cx
                simp only at a0 a1 a2 c0 c1 c2
                go_wp2_with fail
                refine (sent_any ⟨t1, r1, false⟩ _).mono ?_
                rintro e w6 ⟨rfl, hb6⟩
                rw [HSN.out]
                have HT6 := Lib.hid (HT5.out.next hb6)
                clear hb6 a0 a1 a2 b0 b1 b2 hl' hx0 HT5
                try clear hwy
                try clear c0 c1 c2
                try clear f0 f1 f2
                obtain ⟨a0, a1, a2⟩ := HT6.out.2.1.cx
                have f0 := HT6.out.2.1.frozen 0
                have f1 := HT6.out.2.1.frozen 1
                have f2 := HT6.out.2.1.frozen 2
                simp only at a0 a1 a2
                obtain ⟨wz, hwz⟩ : ∃ wz, ((w6.setCell ⟨w.heap.size, 0, none⟩ (.int .i64 t2)).setCell ⟨w.heap.size, 1, none⟩ (.int .i64 r2)).setCell ⟨w.heap.size, 2, none⟩ (.bool false) = wz := ⟨_, rfl⟩
                have HT7 := Lib.hid (show Duo w wz ⟨t2, r2, false⟩ ⟨0, q1, false⟩ by rw [← hwz]; exact HT6.out.putA ⟨t2, r2, false⟩)
                clear HT6
                obtain ⟨d0, d1, d2⟩ := HT7.out.2.2.cx
                simp only at d0 d1 d2
                go_wp2_with fail
                refine (state_any ⟨0, q1, false⟩ _).mono ?_
                rintro e w8 ⟨rfl, hb8⟩
                rw [HSD.out]
                have HT8 := Lib.hid (HT7.out.next hb8)
                clear hb8 hwz a0 a1 a2 d0 d1 d2 f0 f1 f2 HT7
                obtain ⟨d0, d1, d2⟩ := HT8.out.2.2.cx
                simp only at d0 d1 d2
                go_wp2_with fail
                refine (state_any ⟨0, q1, false⟩ _).mono ?_
                rintro e w9 ⟨rfl, hb9⟩
                rw [HSD.out]
                have HT9 := Lib.hid (HT8.out.next hb9)
                clear hb9 d0 d1 d2 HT8
                go_wp2
                go_roundw
                case rel => exact ⟨k + 1, ⟨t2, r2, false⟩, q1, by omega, HQE.out, rfl, by go_num, HP2.out, HT9.out⟩
                case measure => simp [intOf]; omega
        · have hk32 := hhi rfl
          have HS := Lib.hid (hs2 rfl)
          have HSD := Lib.hid (hl1 (by omega))
          have z15 : decide ((k : Int) < 15) = false := by simp; omega
          have z31 : decide ((k : Int) < 31) = false := by simp; omega
          have y15 : (15 : Int) ≤ (k : Int) := by omega
          clear hlo hhi hs2 hl0 hl1 hu
          cases bk
          · go_wp2_with fail
            refine (tx_any ⟨t, r, false⟩ _).mono ?_
            rintro e w2 ⟨rfl, hb2⟩
            rw [HU.out]
            have HT2 := Lib.hid (HT1.out.next hb2)
            clear hb2 a0 a1 a2 b0 b1 b2 HT1
            obtain ⟨a0, a1, a2⟩ := HT2.out.2.1.cx
            obtain ⟨b0, b1, b2⟩ := HT2.out.2.2.cx
            have f0 := HT2.out.2.1.frozen 0
            have f1 := HT2.out.2.1.frozen 1
            have f2 := HT2.out.2.1.frozen 2
            simp only at a0 a1 a2 b0 b1 b2
            obtain ⟨wx, hwx⟩ : ∃ wx, ((w2.setCell ⟨w.heap.size, 0, none⟩ (.int .i64 t1)).setCell ⟨w.heap.size, 1, none⟩ (.int .i64 r1)).setCell ⟨w.heap.size, 2, none⟩ (.bool true) = wx := ⟨_, rfl⟩
            have HT3 := Lib.hid (show Duo w wx ⟨t1, r1, true⟩ ⟨0, q, false⟩ by rw [← hwx]; exact HT2.out.putA ⟨t1, r1, true⟩)
            clear HT2
            obtain ⟨d0, d1, d2⟩ := HT3.out.2.2.cx
            simp only at d0 d1 d2
            go_wp2_with fail
            refine (rx_any ⟨0, q, false⟩ 8 _).mono ?_
            rintro e w3 ⟨rfl, hb3⟩
            rw [HQ.out]
            have HT4 := Lib.hid (HT3.out.next hb3)
            clear hb3 hwx a0 a1 a2 b0 b1 b2 d0 d1 d2 f0 f1 f2 HT3
            obtain ⟨b0, b1, b2⟩ := HT4.out.2.2.cx
            have f0 := HT4.out.2.2.frozen 0
            have f1 := HT4.out.2.2.frozen 1
            have f2 := HT4.out.2.2.frozen 2
            simp only at b0 b1 b2
            obtain ⟨wy, hwy⟩ : ∃ wy, ((w3.setCell ⟨w.heap.size + 1, 0, none⟩ (.int .i64 0)).setCell ⟨w.heap.size + 1, 1, none⟩ (.int .i64 q1)).setCell ⟨w.heap.size + 1, 2, none⟩ (.bool false) = wy := ⟨_, rfl⟩
            have HT5 := Lib.hid (show Duo w wy ⟨t1, r1, true⟩ ⟨0, q1, false⟩ by rw [← hwy]; exact HT4.out.putB ⟨0, q1, false⟩)
            clear HT4
            obtain ⟨a0, a1, a2⟩ := HT5.out.2.1.cx
            obtain ⟨x0, hA', hl', hx0⟩ := (HA.out.below HT5.out.1).at_ hlt
            subst hA'
            rw [HBK.out] at hx0
            obtain ⟨c0, c1, c2⟩ := HT5.out.2.2.cx
            simp only at a0 a1 a2 c0 c1 c2
            go_wp2_with fail
            refine (state_any ⟨t1, r1, true⟩ _).mono ?_
            rintro e v0 ⟨rfl, hc0⟩
            rw [HS.out]
            have HV0 := Lib.hid (HT5.out.next hc0)
            clear hc0 hwy b0 b1 b2 f0 f1 f2 c0 c1 c2 a0 a1 a2 hl' hx0 HT5
            obtain ⟨a0, a1, a2⟩ := HV0.out.2.1.cx
            obtain ⟨x0', hA', hl', hx0⟩ := (HA.out.below HV0.out.1).at_ hlt
            injection hA' with hA'
            subst hA'
            rw [HBK.out] at hx0
            simp only at a0 a1 a2
            obtain ⟨b0, b1, b2⟩ := HV0.out.2.2.cx
            simp only at b0 b1 b2
            have HT5 := HV0
            clear HV0
            go_wp2_with fail
            refine (state_any ⟨0, q1, false⟩ _).mono ?_
            rintro e w8 ⟨rfl, hb8⟩
            rw [HSD.out]
            have HT8 := Lib.hid (HT5.out.next hb8)
            clear hb8 a0 a1 a2 b0 b1 b2 hl' hx0 HT5
            try clear hwy
            try clear c0 c1 c2
            try clear f0 f1 f2
            obtain ⟨d0, d1, d2⟩ := HT8.out.2.2.cx
            simp only at d0 d1 d2
            go_wp2_with fail
            refine (state_any ⟨0, q1, false⟩ _).mono ?_
            rintro e w9 ⟨rfl, hb9⟩
            rw [HSD.out]
            have HT9 := Lib.hid (HT8.out.next hb9)
            clear hb9 d0 d1 d2 HT8
            go_wp2
            go_roundw
            case rel => exact ⟨k + 1, ⟨t1, r1, true⟩, q1, by omega, HQE.out, rfl, by go_num, HP1.out, HT9.out⟩
            case measure => simp [intOf]; omega
          · go_wp2_with fail
            refine (tx_any ⟨t, r, false⟩ _).mono ?_
            rintro e w2 ⟨rfl, hb2⟩
            rw [HU.out]
            have HT2 := Lib.hid (HT1.out.next hb2)
            clear hb2 a0 a1 a2 b0 b1 b2 HT1
            obtain ⟨a0, a1, a2⟩ := HT2.out.2.1.cx
            obtain ⟨b0, b1, b2⟩ := HT2.out.2.2.cx
            have f0 := HT2.out.2.1.frozen 0
            have f1 := HT2.out.2.1.frozen 1
            have f2 := HT2.out.2.1.frozen 2
            simp only at a0 a1 a2 b0 b1 b2
            obtain ⟨wx, hwx⟩ : ∃ wx, ((w2.setCell ⟨w.heap.size, 0, none⟩ (.int .i64 t1)).setCell ⟨w.heap.size, 1, none⟩ (.int .i64 r1)).setCell ⟨w.heap.size, 2, none⟩ (.bool true) = wx := ⟨_, rfl⟩
            have HT3 := Lib.hid (show Duo w wx ⟨t1, r1, true⟩ ⟨0, q, false⟩ by rw [← hwx]; exact HT2.out.putA ⟨t1, r1, true⟩)
            clear HT2
            obtain ⟨d0, d1, d2⟩ := HT3.out.2.2.cx
            simp only at d0 d1 d2
            go_wp2_with fail
            refine (rx_any ⟨0, q, false⟩ 8 _).mono ?_
            rintro e w3 ⟨rfl, hb3⟩
            rw [HQ.out]
            have HT4 := Lib.hid (HT3.out.next hb3)
            clear hb3 hwx a0 a1 a2 b0 b1 b2 d0 d1 d2 f0 f1 f2 HT3
            obtain ⟨b0, b1, b2⟩ := HT4.out.2.2.cx
            have f0 := HT4.out.2.2.frozen 0
            have f1 := HT4.out.2.2.frozen 1
            have f2 := HT4.out.2.2.frozen 2
            simp only at b0 b1 b2
            obtain ⟨wy, hwy⟩ : ∃ wy, ((w3.setCell ⟨w.heap.size + 1, 0, none⟩ (.int .i64 0)).setCell ⟨w.heap.size + 1, 1, none⟩ (.int .i64 q1)).setCell ⟨w.heap.size + 1, 2, none⟩ (.bool false) = wy := ⟨_, rfl⟩
            have HT5 := Lib.hid (show Duo w wy ⟨t1, r1, true⟩ ⟨0, q1, false⟩ by rw [← hwy]; exact HT4.out.putB ⟨0, q1, false⟩)
            clear HT4
            obtain ⟨a0, a1, a2⟩ := HT5.out.2.1.cx
            obtain ⟨x0, hA', hl', hx0⟩ := (HA.out.below HT5.out.1).at_ hlt
            subst hA'
            rw [HBK.out] at hx0
            obtain ⟨c0, c1, c2⟩ := HT5.out.2.2.cx
            simp only at a0 a1 a2 c0 c1 c2
            go_wp2_with fail
            refine (state_any ⟨t1, r1, true⟩ _).mono ?_
            rintro e v0 ⟨rfl, hc0⟩
            rw [HS.out]
            have HV0 := Lib.hid (HT5.out.next hc0)
            clear hc0 hwy b0 b1 b2 f0 f1 f2 c0 c1 c2 a0 a1 a2 hl' hx0 HT5
            obtain ⟨a0, a1, a2⟩ := HV0.out.2.1.cx
            obtain ⟨x0', hA', hl', hx0⟩ := (HA.out.below HV0.out.1).at_ hlt
            injection hA' with hA'
            subst hA'
            rw [HBK.out] at hx0
            simp only at a0 a1 a2
            obtain ⟨b0, b1, b2⟩ := HV0.out.2.2.cx
            simp only at b0 b1 b2
            have HT5 := HV0
            clear HV0
            go_wp2_with fail
            refine (sent_any ⟨t1, r1, true⟩ _).mono ?_
            rintro e w6 ⟨rfl, hb6⟩
            rw [HSN.out]
            have HT6 := Lib.hid (HT5.out.next hb6)
            clear hb6 a0 a1 a2 b0 b1 b2 hl' hx0 HT5
            try clear hwy
            try clear c0 c1 c2
            try clear f0 f1 f2
            obtain ⟨a0, a1, a2⟩ := HT6.out.2.1.cx
            have f0 := HT6.out.2.1.frozen 0
            have f1 := HT6.out.2.1.frozen 1
            have f2 := HT6.out.2.1.frozen 2
            simp only at a0 a1 a2
            obtain ⟨wz, hwz⟩ : ∃ wz, ((w6.setCell ⟨w.heap.size, 0, none⟩ (.int .i64 t2)).setCell ⟨w.heap.size, 1, none⟩ (.int .i64 r2)).setCell ⟨w.heap.size, 2, none⟩ (.bool true) = wz := ⟨_, rfl⟩
            have HT7 := Lib.hid (show Duo w wz ⟨t2, r2, true⟩ ⟨0, q1, false⟩ by rw [← hwz]; exact HT6.out.putA ⟨t2, r2, true⟩)
            clear HT6
            obtain ⟨d0, d1, d2⟩ := HT7.out.2.2.cx
            simp only at d0 d1 d2
            go_wp2_with fail
            refine (state_any ⟨0, q1, false⟩ _).mono ?_
            rintro e w8 ⟨rfl, hb8⟩
            rw [HSD.out]
            have HT8 := Lib.hid (HT7.out.next hb8)
            clear hb8 hwz a0 a1 a2 d0 d1 d2 f0 f1 f2 HT7
            obtain ⟨d0, d1, d2⟩ := HT8.out.2.2.cx
            simp only at d0 d1 d2
            go_wp2_with fail
            refine (state_any ⟨0, q1, false⟩ _).mono ?_
            rintro e w9 ⟨rfl, hb9⟩
            rw [HSD.out]
            have HT9 := Lib.hid (HT8.out.next hb9)
            clear hb9 d0 d1 d2 HT8
            go_wp2
            go_roundw
            case rel => exact ⟨k + 1, ⟨t2, r2, true⟩, q1, by omega, HQE.out, rfl, by go_num, HP2.out, HT9.out⟩
            case measure => simp [intOf]; omega
      · obtain ⟨rfl, rfl, rfl⟩ : t = t1 ∧ r = r1 ∧ true = o2 := by have h := hso rfl; rw [hu] at h; injection h with h1 h2 h3; exact ⟨h1.symm, h2.symm, h3.symm⟩
        have hk32 := hhi rfl
        have HS := Lib.hid (hs2 rfl)
        have HSD := Lib.hid (hl1 (by omega))
        have z15 : decide ((k : Int) < 15) = false := by simp; omega
        have z31 : decide ((k : Int) < 31) = false := by simp; omega
        have y15 : (15 : Int) ≤ (k : Int) := by omega
        clear hso hlo hhi hs2 hl0 hl1 hu
        cases bk
        · go_wp2_with fail
          refine (tx_any ⟨t, r, true⟩ _).mono ?_
          rintro e w2 ⟨rfl, hb2⟩
          rw [HU.out]
          have HT2 := Lib.hid (HT1.out.next hb2)
          clear hb2 a0 a1 a2 b0 b1 b2 HT1
          obtain ⟨a0, a1, a2⟩ := HT2.out.2.1.cx
          obtain ⟨b0, b1, b2⟩ := HT2.out.2.2.cx
          have f0 := HT2.out.2.1.frozen 0
          have f1 := HT2.out.2.1.frozen 1
          have f2 := HT2.out.2.1.frozen 2
          simp only at a0 a1 a2 b0 b1 b2
          obtain ⟨wx, hwx⟩ : ∃ wx, ((w2.setCell ⟨w.heap.size, 0, none⟩ (.int .i64 t)).setCell ⟨w.heap.size, 1, none⟩ (.int .i64 r)).setCell ⟨w.heap.size, 2, none⟩ (.bool true) = wx := ⟨_, rfl⟩
          have HT3 := Lib.hid (show Duo w wx ⟨t, r, true⟩ ⟨0, q, false⟩ by rw [← hwx]; exact HT2.out.putA ⟨t, r, true⟩)
          clear HT2
          obtain ⟨d0, d1, d2⟩ := HT3.out.2.2.cx
          simp only at d0 d1 d2
          go_wp2_with fail
          refine (rx_any ⟨0, q, false⟩ 8 _).mono ?_
          rintro e w3 ⟨rfl, hb3⟩
          rw [HQ.out]
          have HT4 := Lib.hid (HT3.out.next hb3)
          clear hb3 hwx a0 a1 a2 b0 b1 b2 d0 d1 d2 f0 f1 f2 HT3
          obtain ⟨b0, b1, b2⟩ := HT4.out.2.2.cx
          have f0 := HT4.out.2.2.frozen 0
          have f1 := HT4.out.2.2.frozen 1
          have f2 := HT4.out.2.2.frozen 2
          simp only at b0 b1 b2
          obtain ⟨wy, hwy⟩ : ∃ wy, ((w3.setCell ⟨w.heap.size + 1, 0, none⟩ (.int .i64 0)).setCell ⟨w.heap.size + 1, 1, none⟩ (.int .i64 q1)).setCell ⟨w.heap.size + 1, 2, none⟩ (.bool false) = wy := ⟨_, rfl⟩
          have HT5 := Lib.hid (show Duo w wy ⟨t, r, true⟩ ⟨0, q1, false⟩ by rw [← hwy]; exact HT4.out.putB ⟨0, q1, false⟩)
          clear HT4
          obtain ⟨a0, a1, a2⟩ := HT5.out.2.1.cx
          obtain ⟨x0, hA', hl', hx0⟩ := (HA.out.below HT5.out.1).at_ hlt
          subst hA'
          rw [HBK.out] at hx0
          obtain ⟨c0, c1, c2⟩ := HT5.out.2.2.cx
          simp only at a0 a1 a2 c0 c1 c2
          go_wp2_with fail
          refine (state_any ⟨t, r, true⟩ _).mono ?_
          rintro e v0 ⟨rfl, hc0⟩
          rw [HS.out]
          have HV0 := Lib.hid (HT5.out.next hc0)
          clear hc0 hwy b0 b1 b2 f0 f1 f2 c0 c1 c2 a0 a1 a2 hl' hx0 HT5
          obtain ⟨a0, a1, a2⟩ := HV0.out.2.1.cx
          obtain ⟨x0', hA', hl', hx0⟩ := (HA.out.below HV0.out.1).at_ hlt
          injection hA' with hA'
          subst hA'
          rw [HBK.out] at hx0
          simp only at a0 a1 a2
          obtain ⟨b0, b1, b2⟩ := HV0.out.2.2.cx
          simp only at b0 b1 b2
          have HT5 := HV0
          clear HV0
          go_wp2_with fail
          refine (state_any ⟨0, q1, false⟩ _).mono ?_
          rintro e w8 ⟨rfl, hb8⟩
          rw [HSD.out]
          have HT8 := Lib.hid (HT5.out.next hb8)
          clear hb8 a0 a1 a2 b0 b1 b2 hl' hx0 HT5
          try clear hwy
          try clear c0 c1 c2
          try clear f0 f1 f2
          obtain ⟨d0, d1, d2⟩ := HT8.out.2.2.cx
          simp only at d0 d1 d2
          go_wp2_with fail
          refine (state_any ⟨0, q1, false⟩ _).mono ?_
          rintro e w9 ⟨rfl, hb9⟩
          rw [HSD.out]
          have HT9 := Lib.hid (HT8.out.next hb9)
          clear hb9 d0 d1 d2 HT8
          go_wp2
          go_roundw
          case rel => exact ⟨k + 1, ⟨t, r, true⟩, q1, by omega, HQE.out, rfl, by go_num, HP1.out, HT9.out⟩
          case measure => simp [intOf]; omega
        · go_wp2_with fail
          refine (tx_any ⟨t, r, true⟩ _).mono ?_
          rintro e w2 ⟨rfl, hb2⟩
          rw [HU.out]
          have HT2 := Lib.hid (HT1.out.next hb2)
          clear hb2 a0 a1 a2 b0 b1 b2 HT1
          obtain ⟨a0, a1, a2⟩ := HT2.out.2.1.cx
          obtain ⟨b0, b1, b2⟩ := HT2.out.2.2.cx
          have f0 := HT2.out.2.1.frozen 0
          have f1 := HT2.out.2.1.frozen 1
          have f2 := HT2.out.2.1.frozen 2
          simp only at a0 a1 a2 b0 b1 b2
          obtain ⟨wx, hwx⟩ : ∃ wx, ((w2.setCell ⟨w.heap.size, 0, none⟩ (.int .i64 t)).setCell ⟨w.heap.size, 1, none⟩ (.int .i64 r)).setCell ⟨w.heap.size, 2, none⟩ (.bool true) = wx := ⟨_, rfl⟩
          have HT3 := Lib.hid (show Duo w wx ⟨t, r, true⟩ ⟨0, q, false⟩ by rw [← hwx]; exact HT2.out.putA ⟨t, r, true⟩)
          clear HT2
          obtain ⟨d0, d1, d2⟩ := HT3.out.2.2.cx
          simp only at d0 d1 d2
          go_wp2_with fail
          refine (rx_any ⟨0, q, false⟩ 8 _).mono ?_
          rintro e w3 ⟨rfl, hb3⟩
          rw [HQ.out]
          have HT4 := Lib.hid (HT3.out.next hb3)
          clear hb3 hwx a0 a1 a2 b0 b1 b2 d0 d1 d2 f0 f1 f2 HT3
          obtain ⟨b0, b1, b2⟩ := HT4.out.2.2.cx
          have f0 := HT4.out.2.2.frozen 0
          have f1 := HT4.out.2.2.frozen 1
          have f2 := HT4.out.2.2.frozen 2
          simp only at b0 b1 b2
          obtain ⟨wy, hwy⟩ : ∃ wy, ((w3.setCell ⟨w.heap.size + 1, 0, none⟩ (.int .i64 0)).setCell ⟨w.heap.size + 1, 1, none⟩ (.int .i64 q1)).setCell ⟨w.heap.size + 1, 2, none⟩ (.bool false) = wy := ⟨_, rfl⟩
          have HT5 := Lib.hid (show Duo w wy ⟨t, r, true⟩ ⟨0, q1, false⟩ by rw [← hwy]; exact HT4.out.putB ⟨0, q1, false⟩)
          clear HT4
          obtain ⟨a0, a1, a2⟩ := HT5.out.2.1.cx
          obtain ⟨x0, hA', hl', hx0⟩ := (HA.out.below HT5.out.1).at_ hlt
          subst hA'
          rw [HBK.out] at hx0
          obtain ⟨c0, c1, c2⟩ := HT5.out.2.2.cx
          simp only at a0 a1 a2 c0 c1 c2
          go_wp2_with fail
          refine (state_any ⟨t, r, true⟩ _).mono ?_
          rintro e v0 ⟨rfl, hc0⟩
          rw [HS.out]
          have HV0 := Lib.hid (HT5.out.next hc0)
          clear hc0 hwy b0 b1 b2 f0 f1 f2 c0 c1 c2 a0 a1 a2 hl' hx0 HT5
          obtain ⟨a0, a1, a2⟩ := HV0.out.2.1.cx
          obtain ⟨x0', hA', hl', hx0⟩ := (HA.out.below HV0.out.1).at_ hlt
          injection hA' with hA'
          subst hA'
          rw [HBK.out] at hx0
          simp only at a0 a1 a2
          obtain ⟨b0, b1, b2⟩ := HV0.out.2.2.cx
          simp only at b0 b1 b2
          have HT5 := HV0
          clear HV0
          go_wp2_with fail
          refine (sent_any ⟨t, r, true⟩ _).mono ?_
          rintro e w6 ⟨rfl, hb6⟩
          rw [HSN.out]
          have HT6 := Lib.hid (HT5.out.next hb6)
          clear hb6 a0 a1 a2 b0 b1 b2 hl' hx0 HT5
          try clear hwy
          try clear c0 c1 c2
          try clear f0 f1 f2
          obtain ⟨a0, a1, a2⟩ := HT6.out.2.1.cx
          have f0 := HT6.out.2.1.frozen 0
          have f1 := HT6.out.2.1.frozen 1
          have f2 := HT6.out.2.1.frozen 2
          simp only at a0 a1 a2
          obtain ⟨wz, hwz⟩ : ∃ wz, ((w6.setCell ⟨w.heap.size, 0, none⟩ (.int .i64 t2)).setCell ⟨w.heap.size, 1, none⟩ (.int .i64 r2)).setCell ⟨w.heap.size, 2, none⟩ (.bool true) = wz := ⟨_, rfl⟩
          have HT7 := Lib.hid (show Duo w wz ⟨t2, r2, true⟩ ⟨0, q1, false⟩ by rw [← hwz]; exact HT6.out.putA ⟨t2, r2, true⟩)
          clear HT6
          obtain ⟨d0, d1, d2⟩ := HT7.out.2.2.cx
          simp only at d0 d1 d2
          go_wp2_with fail
          refine (state_any ⟨0, q1, false⟩ _).mono ?_
          rintro e w8 ⟨rfl, hb8⟩
          rw [HSD.out]
          have HT8 := Lib.hid (HT7.out.next hb8)
          clear hb8 hwz a0 a1 a2 d0 d1 d2 f0 f1 f2 HT7
          obtain ⟨d0, d1, d2⟩ := HT8.out.2.2.cx
          simp only at d0 d1 d2
          go_wp2_with fail
          refine (state_any ⟨0, q1, false⟩ _).mono ?_
          rintro e w9 ⟨rfl, hb9⟩
          rw [HSD.out]
          have HT9 := Lib.hid (HT8.out.next hb9)
          clear hb9 d0 d1 d2 HT8
          go_wp2
          go_roundw
          case rel => exact ⟨k + 1, ⟨t2, r2, true⟩, q1, by omega, HQE.out, rfl, by go_num, HP2.out, HT9.out⟩
          case measure => simp [intOf]; omega
    · clear hq hk hp
      cases o
      · have HB5 := Lib.hid HT1.out.1; have HC5 := Lib.hid HT1.out.2.1
        obtain ⟨a0, a1, a2⟩ := HT1.out.2.1.cx
        simp only at a0 a1 a2
        clear HT1
        go_wp2
        go_quiet (fail)
        go_wp2_with fail
        refine (back_any ⟨t, r, false⟩ _).mono ?_
        rintro e w6 ⟨rfl, hb6⟩
        have HB6 := Lib.hid (nxt (belowN HB5.out nq) hb6)
        clear hb6 a0 a1 a2 HB5 HC5
        go_wp2_with fail
        refine (awake8 _).mono ?_
        rintro e w7 ⟨rfl, hb7⟩
        have HF := Lib.hid (nxt HB6.out hb7)
        clear hb7
        go_wp2
        go_ret
        exact ⟨rfl, HF.out⟩
      · obtain ⟨e1, e2, e3, e4, -⟩ := stp_off (c := ⟨t, r, true⟩) rfl
        have E1 := Lib.hid e1; have E2 := Lib.hid e2; have E3 := Lib.hid e3; have E4 := Lib.hid e4
        clear e1 e2 e3 e4
        go_wp2_with fail
        refine wp_region_held_drew (S := fun w' => Below w.heap.size w w' ∧ Cb w' w.heap.size ⟨t, r, true⟩) (by kernel_rfl) (⟨HT1.out.drew.1, HT1.out.2.1⟩) (fun hHeld => ?_)
        refine takeH (i := 0) (v := .bool true) rfl (by kernel_rfl) (by kernel_rfl) (by kernel_rfl) (fun _ _ _ h => h) (Or.inl ⟨by rfl, fun w hSw => ?_⟩) hHeld ?_
        · (clear hSw; go_simp)
        simp only [Act.put, List.setIfInBounds_toArray, List.set_cons_zero, List.set_cons_succ]
        refine takeH (i := 1) (v := .bool true) rfl (by kernel_rfl) (by kernel_rfl) (by kernel_rfl) (fun _ _ _ h => h) (Or.inl ⟨by rfl, fun w hSw => ?_⟩) hHeld ?_
        · (clear hSw; go_simp)
        simp only [Act.put, List.setIfInBounds_toArray, List.set_cons_zero, List.set_cons_succ]
        refine takeH (i := 2) (v := .agg #[.int .i64 t, .int .i64 r, .bool true]) rfl (by kernel_rfl) (by kernel_rfl) (by kernel_rfl) (fun _ _ _ h => h) (Or.inl ⟨by rfl, fun w hSw => ?_⟩) hHeld ?_
        · (obtain ⟨a0, a1, a2⟩ := hSw.2.cx; simp only at a0 a1 a2; clear hSw; go_simp)
        simp only [Act.put, List.setIfInBounds_toArray, List.set_cons_zero, List.set_cons_succ]
        refine takeH (i := 4) (v := .agg #[.int .i64 t, .int .i64 r, .bool true]) rfl (by kernel_rfl) (by kernel_rfl) (by kernel_rfl) (fun _ _ _ h => h) (Or.inl ⟨by rfl, fun w hSw => ?_⟩) hHeld ?_
        · (obtain ⟨a0, a1, a2⟩ := hSw.2.cx; simp only at a0 a1 a2; clear hSw; go_simp)
        simp only [Act.put, List.setIfInBounds_toArray, List.set_cons_zero, List.set_cons_succ]
        refine wpAnyH_ready (rs := [3]) (by kernel_rfl) (by simp) ?_
        refine AllReadyH.cons rfl (fun K hK => ?_) AllReadyH.nil
        go_simp
        refine (sent_any ⟨t, r, true⟩ _).mono ?_
        rintro e wz0 ⟨rfl, hbz0⟩
        have hH := hHeld
        rw [E2.out]
        have HSK := Lib.hid (And.intro (nxt hH.1 hbz0) (hH.2.next hbz0))
        clear hbz0 hH
        clear hHeld
        dsimp only
        refine hK.out _ _ (HSK.out) (fun hHeld => ?_)
        clear hK K
        try simp only [Act.put, List.setIfInBounds_toArray, List.set_cons_zero, List.set_cons_succ]
        refine takeH (i := 5) (v := .bool false) rfl (by kernel_rfl) (by kernel_rfl) (by kernel_rfl) (fun _ _ _ h => h) (Or.inl ⟨by rfl, fun w hSw => ?_⟩) hHeld ?_
        · (clear hSw; go_simp)
        simp only [Act.put, List.setIfInBounds_toArray, List.set_cons_zero, List.set_cons_succ]
        refine takeH (i := 6) (v := .bool false) rfl (by kernel_rfl) (by kernel_rfl) (by kernel_rfl) (fun _ _ _ h => h) (Or.inl ⟨by rfl, fun w hSw => ?_⟩) hHeld ?_
        · (clear hSw; go_simp)
        simp only [Act.put, List.setIfInBounds_toArray, List.set_cons_zero, List.set_cons_succ]
        refine takeH (i := 7) (v := .agg #[.int .i64 t, .int .i64 r, .bool true]) rfl (by kernel_rfl) (by kernel_rfl) (by kernel_rfl) (fun _ _ _ h => h) (Or.inl ⟨by rfl, fun w hSw => ?_⟩) hHeld ?_
        · (obtain ⟨a0, a1, a2⟩ := hSw.2.cx; simp only at a0 a1 a2; clear hSw; go_simp)
        simp only [Act.put, List.setIfInBounds_toArray, List.set_cons_zero, List.set_cons_succ]
        refine takeH (i := 9) (v := .agg #[.int .i64 t, .int .i64 r, .bool true]) rfl (by kernel_rfl) (by kernel_rfl) (by kernel_rfl) (fun _ _ _ h => h) (Or.inl ⟨by rfl, fun w hSw => ?_⟩) hHeld ?_
        · (obtain ⟨a0, a1, a2⟩ := hSw.2.cx; simp only at a0 a1 a2; clear hSw; go_simp)
        simp only [Act.put, List.setIfInBounds_toArray, List.set_cons_zero, List.set_cons_succ]
        refine wpAnyH_ready (rs := [8]) (by kernel_rfl) (by simp) ?_
        refine AllReadyH.cons rfl (fun K hK => ?_) AllReadyH.nil
        go_simp
        refine (tx_any ⟨t, r, true⟩ _).mono ?_
        rintro e wz1 ⟨rfl, hbz1⟩
        have hH := hHeld
        rw [E1.out]
        have HSK := Lib.hid (And.intro (nxt hH.1 hbz1) (hH.2.next hbz1))
        clear hbz1 hH
        clear hHeld
        dsimp only
        refine hK.out _ _ (HSK.out) (fun hHeld => ?_)
        clear hK K
        try simp only [Act.put, List.setIfInBounds_toArray, List.set_cons_zero, List.set_cons_succ]
        refine takeH (i := 10) (v := .bool false) rfl (by kernel_rfl) (by kernel_rfl) (by kernel_rfl) (fun _ _ _ h => h) (Or.inl ⟨by rfl, fun w hSw => ?_⟩) hHeld ?_
        · (clear hSw; go_simp)
        simp only [Act.put, List.setIfInBounds_toArray, List.set_cons_zero, List.set_cons_succ]
        refine takeH (i := 11) (v := .bool false) rfl (by kernel_rfl) (by kernel_rfl) (by kernel_rfl) (fun _ _ _ h => h) (Or.inl ⟨by rfl, fun w hSw => ?_⟩) hHeld ?_
        · (clear hSw; go_simp)
        simp only [Act.put, List.setIfInBounds_toArray, List.set_cons_zero, List.set_cons_succ]
        refine takeH (i := 12) (v := .bool false) rfl (by kernel_rfl) (by kernel_rfl) (by kernel_rfl) (fun _ _ _ h => h) (Or.inl ⟨by rfl, fun w hSw => ?_⟩) hHeld ?_
        · (clear hSw; go_simp)
        simp only [Act.put, List.setIfInBounds_toArray, List.set_cons_zero, List.set_cons_succ]
        refine takeH (i := 13) (v := .agg #[.int .i64 t, .int .i64 r, .bool true]) rfl (by kernel_rfl) (by kernel_rfl) (by kernel_rfl) (fun _ _ _ h => h) (Or.inl ⟨by rfl, fun w hSw => ?_⟩) hHeld ?_
        · (obtain ⟨a0, a1, a2⟩ := hSw.2.cx; simp only at a0 a1 a2; clear hSw; go_simp)
        simp only [Act.put, List.setIfInBounds_toArray, List.set_cons_zero, List.set_cons_succ]
        refine takeH (i := 15) (v := .agg #[.int .i64 t, .int .i64 r, .bool true]) rfl (by kernel_rfl) (by kernel_rfl) (by kernel_rfl) (fun _ _ _ h => h) (Or.inl ⟨by rfl, fun w hSw => ?_⟩) hHeld ?_
        · (obtain ⟨a0, a1, a2⟩ := hSw.2.cx; simp only at a0 a1 a2; clear hSw; go_simp)
        simp only [Act.put, List.setIfInBounds_toArray, List.set_cons_zero, List.set_cons_succ]
        refine wpAnyH_ready (rs := [14]) (by kernel_rfl) (by simp) ?_
        refine AllReadyH.cons rfl (fun K hK => ?_) AllReadyH.nil
        go_simp
        refine (received_any ⟨t, r, true⟩ _).mono ?_
        rintro e wz2 ⟨rfl, hbz2⟩
        have hH := hHeld
        rw [E3.out]
        have HSK := Lib.hid (And.intro (nxt hH.1 hbz2) (hH.2.next hbz2))
        clear hbz2 hH
        clear hHeld
        dsimp only
        refine hK.out _ _ (HSK.out) (fun hHeld => ?_)
        clear hK K
        try simp only [Act.put, List.setIfInBounds_toArray, List.set_cons_zero, List.set_cons_succ]
        refine takeH (i := 16) (v := .bool false) rfl (by kernel_rfl) (by kernel_rfl) (by kernel_rfl) (fun _ _ _ h => h) (Or.inl ⟨by rfl, fun w hSw => ?_⟩) hHeld ?_
        · (clear hSw; go_simp)
        simp only [Act.put, List.setIfInBounds_toArray, List.set_cons_zero, List.set_cons_succ]
        refine takeH (i := 17) (v := .bool false) rfl (by kernel_rfl) (by kernel_rfl) (by kernel_rfl) (fun _ _ _ h => h) (Or.inl ⟨by rfl, fun w hSw => ?_⟩) hHeld ?_
        · (clear hSw; go_simp)
        simp only [Act.put, List.setIfInBounds_toArray, List.set_cons_zero, List.set_cons_succ]
        refine takeH (i := 18) (v := .bool false) rfl (by kernel_rfl) (by kernel_rfl) (by kernel_rfl) (fun _ _ _ h => h) (Or.inl ⟨by rfl, fun w hSw => ?_⟩) hHeld ?_
        · (clear hSw; go_simp)
        simp only [Act.put, List.setIfInBounds_toArray, List.set_cons_zero, List.set_cons_succ]
        refine takeH (i := 19) (v := .agg #[.int .i64 t, .int .i64 r, .bool true]) rfl (by kernel_rfl) (by kernel_rfl) (by kernel_rfl) (fun _ _ _ h => h) (Or.inl ⟨by rfl, fun w hSw => ?_⟩) hHeld ?_
        · (obtain ⟨a0, a1, a2⟩ := hSw.2.cx; simp only at a0 a1 a2; clear hSw; go_simp)
        simp only [Act.put, List.setIfInBounds_toArray, List.set_cons_zero, List.set_cons_succ]
        refine takeH (i := 21) (v := .agg #[.int .i64 t, .int .i64 r, .bool true]) rfl (by kernel_rfl) (by kernel_rfl) (by kernel_rfl) (fun _ _ _ h => h) (Or.inl ⟨by rfl, fun w hSw => ?_⟩) hHeld ?_
        · (obtain ⟨a0, a1, a2⟩ := hSw.2.cx; simp only at a0 a1 a2; clear hSw; go_simp)
        simp only [Act.put, List.setIfInBounds_toArray, List.set_cons_zero, List.set_cons_succ]
        refine wpAnyH_ready (rs := [20]) (by kernel_rfl) (by simp) ?_
        refine AllReadyH.cons rfl (fun K hK => ?_) AllReadyH.nil
        go_simp
        refine (rx_any ⟨t, r, true⟩ 1 _).mono ?_
        rintro e wz3 ⟨rfl, hbz3⟩
        have hH := hHeld
        rw [E4.out]
        have HSK := Lib.hid (And.intro (nxt hH.1 hbz3) (hH.2.next hbz3))
        clear hbz3 hH
        clear hHeld
        dsimp only
        refine hK.out _ _ (HSK.out) (fun hHeld => ?_)
        clear hK K
        try simp only [Act.put, List.setIfInBounds_toArray, List.set_cons_zero, List.set_cons_succ]
        refine takeH (i := 22) (v := .bool false) rfl (by kernel_rfl) (by kernel_rfl) (by kernel_rfl) (fun _ _ _ h => h) (Or.inl ⟨by rfl, fun w hSw => ?_⟩) hHeld ?_
        · (clear hSw; go_simp)
        simp only [Act.put, List.setIfInBounds_toArray, List.set_cons_zero, List.set_cons_succ]
        refine takeH (i := 23) (v := .bool false) rfl (by kernel_rfl) (by kernel_rfl) (by kernel_rfl) (fun _ _ _ h => h) (Or.inl ⟨by rfl, fun w hSw => ?_⟩) hHeld ?_
        · (clear hSw; go_simp)
        simp only [Act.put, List.setIfInBounds_toArray, List.set_cons_zero, List.set_cons_succ]
        refine takeH (i := 24) (v := .bool false) rfl (by kernel_rfl) (by kernel_rfl) (by kernel_rfl) (fun _ _ _ h => h) (Or.inl ⟨by rfl, fun w hSw => ?_⟩) hHeld ?_
        · (clear hSw; go_simp)
        simp only [Act.put, List.setIfInBounds_toArray, List.set_cons_zero, List.set_cons_succ]
        refine wpAnyH_done (by kernel_rfl) ?_ _
        clear hHeld
        have HB5 := Lib.hid HSK.out.1; have HC5 := Lib.hid HSK.out.2
        obtain ⟨a0, a1, a2⟩ := HC5.out.cx
        simp only at a0 a1 a2
        clear HSK HT1
        go_wp2_with fail
        refine (back_any ⟨t, r, true⟩ _).mono ?_
        rintro e w6 ⟨rfl, hb6⟩
        have HB6 := Lib.hid (nxt HB5.out hb6)
        clear hb6 a0 a1 a2 HB5 HC5
        go_wp2_with fail
        refine (awake8 _).mono ?_
        rintro e w7 ⟨rfl, hb7⟩
        have HF := Lib.hid (nxt HB6.out hb7)
        clear hb7
        go_wp2
        go_ret
        exact ⟨rfl, HF.out⟩
theorem csteps_any (bs : Nat → Bool) (A : Option Addr) (n n' : Nat) (w : World) (hA : Bl w A n bs) :
    Calls Try.prog 6 #[.slice A n n'] w fun e w' => e = .returned (.bool true) ∧ Below w.heap.size w w' := by
  by_cases h : n ≤ 300
  · exact csteps_short bs A n n' w h hA
  · exact csteps_long A n n' w (by omega)
end Go.Proofs.Ytmffiakdoklaaaa
