/- The walk of the law CodecRows. -/
import Derived.Test.YtffhhegpkejdgaaZCR
namespace Go.Proofs.Ytffhhegpkejdgaa
open Go.RowKit

set_option maxRecDepth 100000 in
set_option maxHeartbeats 3200000 in
theorem crows_far (A : Option Addr) (n cap : Nat) (b : Bool) (w : World) (hn : 6 < n) :
    Calls Try.prog 9 #[.slice A n cap, .bool b] w fun e w' => e = .returned (.bool true) ∧ Below w.heap.size w w' := by
  have g0 : decide ((6 : Int) < (n : Int)) = true := by simp; omega
  go_enter Try.func9, Try.ntmps9
  go_wp2_with (go_at_call 14; (refine (awake6 _).mono ?_); rintro e w1 ⟨rfl, hb1⟩)
  go_ret
  exact ⟨rfl, hb1⟩

set_option maxRecDepth 100000 in
set_option maxHeartbeats 6400000 in
theorem crows_in (A : Option Addr) (n cap : Nat) (fs : Nat → Fr) (b : Bool) (w : World) (hn : n ≤ 6) (hr : Fl w A n fs) (hwf : ∀ i, i < n → (fs i).wf) :
    Calls Try.prog 9 #[.slice A n cap, .bool b] w fun e w' => e = .returned (.bool true) ∧ Below w.heap.size w w' := by
  have HR := Lib.hid hr; have HWF := Lib.hid hwf
  have h22 := eq22
  have g0 : decide ((6 : Int) < (n : Int)) = false := by simp; omega
  clear hr hwf
  go_enter Try.func9, Try.ntmps9
  go_wp2
  go_loopw [5, 6] (fun v i wr => ∃ k : Nat, k ≤ n ∧ i = .int .i64 k ∧ (∀ i, i < k → (fs i).may = true) ∧ Own wr w.heap.size v (encs fs b k) ∧ Below w.heap.size w wr) (fun _ i _ => n - (intOf i).toNat)
  case atStart => exact ⟨0, Nat.zero_le _, rfl, fun i hi => by omega, Own.nil _ _, Below.refl _ _⟩
  case round =>
    obtain ⟨k, hk, rfl, hmay, ho, hbel⟩ := hrel
    have HMAY := Lib.hid hmay; have HO := Lib.hid ho; have HBL := Lib.hid hbel
    by_cases hlt : k < n
    · obtain ⟨ad, rfl, hl, c0, c1, c2, c3, c4, c5, c6, c7, c8, c9, c10, c11⟩ := (HR.out.below hbel).at_ hlt
      clear hmay ho hbel hl
      cases hm : (fs k).may with
      | false =>
        have HM := Lib.hid hm
        have HE := Lib.hid (show (fs k).err = 14 by unfold Fr.err; rw [hm]; rfl)
        clear hm
        go_wp2_with fail
        refine (encode_bad (fs k) b _ HM.out).mono ?_
        rintro e w1 ⟨rfl, hb1⟩
        have HB1 := Lib.hid (nxt HBL.out hb1)
        clear hb1 c0 c1 c2 c3 c4 c5 c6 c7 c8 c9 c10 c11
        obtain ⟨ad', e', hl, c0, c1, c2, c3, c4, c5, c6, c7, c8, c9, c10, c11⟩ := (HR.out.below HB1.out).at_ hlt
        injection e' with e'
        subst e'
        clear hl
        go_wp2_with fail
        refine (fcheck_any (fs k) _).mono ?_
        rintro e w2 ⟨rfl, hb2⟩
        rw [HE.out]
        have HB2 := Lib.hid (nxt HB1.out hb2)
        clear hb2 c0 c1 c2 c3 c4 c5 c6 c7 c8 c9 c10 c11
        go_wp2_with fail
        refine (awake6 _).mono ?_
        rintro e w3 ⟨rfl, hb3⟩
        go_wp2
        go_ret
        exact ⟨rfl, nxt HB2.out hb3⟩
      | true =>
        have HM := Lib.hid hm
        have HMS := Lib.hid (show ∀ i, i < k + 1 → (fs i).may = true from fun i hi => by
          rcases Nat.lt_or_ge i k with h | h
          · exact HMAY.out i h
          · rw [show i = k by omega]; exact hm)
        have HEL := Lib.hid (show (enc (fs k) b).length ≤ 310 by rw [enc_len]; have := stf_raw_le hm; omega)
        have HXL := Lib.hid (encs_len fs b k HMAY.out)
        clear hm
        go_wp2_with fail
        refine (encode_ok (fs k) b _ HM.out (HWF.out k hlt)).mono ?_
        rintro e w1 ⟨v1, rfl, ho1, hb1⟩
        obtain ⟨A1, cap1, rfl, hi1, _⟩ := ho1.il2
        have HI1 := Lib.hid hi1
        have HB1 := Lib.hid (nxt HBL.out hb1)
        have HO1 := Lib.hid (HO.out.below hb1)
        have hs1 := HB1.out.size
        clear hi1 ho1 hb1 c0 c1 c2 c3 c4 c5 c6 c7 c8 c9 c10 c11
        go_wp2_with (first
          | (at_builtin; (refine append_ints2 _ rfl (.tmp 50) (.tmp 51) rfl w.heap.size u5 (encs fs b k) rfl HO1.out A1 _ cap1 (enc (fs k) b) rfl HI1.out (by have := HXL.out; have := HEL.out; omega) hs1 ?_); intro v2 w2 ho2 hg2 _; have HB2 := Lib.hid (HB1.out.grown hg2 hs1 HO1.out.row); have HO2 := Lib.hid ho2; clear ho2 hg2)
          | fail)
        go_roundw
        case rel => exact ⟨k + 1, by omega, by go_num, HMS.out, HO2.out, HB2.out⟩
        case measure => simp [intOf]; omega
    · have hkn : k = n := by omega
      subst hkn
      have HXL := Lib.hid (encs_len fs b k HMAY.out)
      obtain ⟨A1, cap1, rfl, hi1, hc1⟩ := HO.out.il2
      obtain ⟨T, hT⟩ : ∃ T, (encs fs b k).length = T := ⟨_, rfl⟩
      rw [hT] at hi1 hc1 HXL ⊢
      have hT2 : T ≤ 1860 := by have := HXL.out; omega
      have HTL := Lib.hid hT
      have HI1 := Lib.hid hi1
      clear hmay ho hbel hi1 hT HO
      rename World => wo
      go_wp2
      go_loopw [9, 10] (fun a i wr => ∃ j : Nat, j ≤ k ∧ i = .int .i64 j ∧ a = .int .i64 ((encs fs b j).length : Nat) ∧ Below wo.heap.size wo wr) (fun _ i _ => k - (intOf i).toNat)
      case atStart => exact ⟨0, Nat.zero_le _, rfl, rfl, Below.refl _ _⟩
      case round =>
        obtain ⟨j, hj, rfl, rfl, hb2⟩ := hrel
        have HB2 := Lib.hid hb2
        by_cases hlt2 : j < k
        · obtain ⟨s, hs⟩ := encs_from fs b hlt2
          obtain ⟨p, hp⟩ : ∃ p, (encs fs b j).length = p := ⟨_, rfl⟩
          obtain ⟨m, hm⟩ : ∃ m, (enc (fs j) b).length = m := ⟨_, rfl⟩
          have hpm : p + m ≤ T := by
            have := HTL.out
            rw [hs, List.length_append, List.length_append, hp, hm] at this
            omega
          have hm1 : 10 ≤ m := by rw [← hm, enc_len]; omega
          obtain ⟨X, hX, r1, r2⟩ := slice_lo A1 T cap1 p (by omega) hc1
          have HX := Lib.hid (show Il wr X (T - p) (enc (fs j) b ++ s) from by
            have h := hX wr _ (HI1.out.below hb2)
            rw [hs] at h
            rwa [← hp, List.drop_left, hp] at h)
          have HDV := Lib.hid (enc_dV (HMAY.out j hlt2) (HWF.out j hlt2) b s)
          have HLE := Lib.hid (show (stf (raw (fs j))).length + 10 = m by rw [← hm, enc_len])
          have HNX := Lib.hid (show (encs fs b (j + 1)).length = p + m by rw [encs, List.length_append, hp, hm])
          rw [hm] at HDV
          rw [hp]
          have p1 : (0 : Int) ≤ (p : Int) := by omega
          have p2 : (p : Int) ≤ (T : Int) := by omega
          have p3 : (p : Int) + (m : Int) ≤ (T : Int) := by omega
          have p4 : decide ((T : Int) - (p : Int) < (m : Int)) = false := by simp; omega
          have p5 : decide ((m : Int) < 1) = false := by simp; omega
          have p6 : (T : Int) ≤ 1860 := by omega
          clear hs hX hb2 hp hm
          go_wp2_with fail
          refine (decode_any X (T - p) _ _ _ HX.out (by omega)).mono ?_
          rintro e w3 ⟨rfl, hb3⟩
          rw [HDV.out]
          have HB3 := Lib.hid ((nxt HB2.out hb3).alloc (nxt HB2.out hb3).size (.cells (fs j).cells 24))
          have HF3 := Lib.hid (fb_new w3 (fs j))
          obtain ⟨ad, e', hl, c0, c1, c2, c3, c4, c5, c6, c7, c8, c9, c10, c11⟩ := (HR.out.below (nxt HBL.out HB3.out)).at_ hlt2
          subst e'
          clear hb3 hl
          go_wp2_with fail
          refine (length_ok (fs j) _ (HMAY.out j hlt2) (HWF.out j hlt2)).mono ?_
          rintro e w4 ⟨rfl, hb4⟩
          rw [HLE.out]
          have HB4 := Lib.hid (nxt HB3.out hb4)
          have F4 := HF3.out.below hb4 HF3.out.lt
          clear c0 c1 c2 c3 c4 c5 c6 c7 c8 c9 c10 c11
          obtain ⟨d0, d1, d2, d3, d4, d5, d6, d7, d8, d9, d10, d11⟩ := F4.bx
          obtain ⟨ad', e', hl, c0, c1, c2, c3, c4, c5, c6, c7, c8, c9, c10, c11⟩ := (HR.out.below (nxt HBL.out HB4.out)).at_ hlt2
          injection e' with e'
          subst e'
          have s1 := beq_self_eq_true [(fs j).d 0, (fs j).d 1, (fs j).d 2, (fs j).d 3, (fs j).d 4, (fs j).d 5, (fs j).d 6, (fs j).d 7]
          clear hb4 F4 hl
          go_wp2
          go_quiet (fail)
          go_wp2
          go_roundw
          case rel => exact ⟨j + 1, by omega, by go_num, by rw [HNX.out]; go_num, belowN HB4.out _⟩
          case measure => simp [intOf]; omega
        · have hjk : j = k := by omega
          subst hjk
          obtain ⟨X, hX, r1, r2⟩ := slice_lo A1 T cap1 T (Nat.le_refl _) hc1
          rw [Nat.sub_self] at r1 r2
          have HX := Lib.hid (show Il wr X 0 [] from by
            have h := hX wr _ (HI1.out.below hb2)
            rwa [List.drop_eq_nil_of_le (by rw [HTL.out]; omega), Nat.sub_self] at h)
          rw [HTL.out]
          have p1 : (0 : Int) ≤ (T : Int) := by omega
          clear hX hb2
          go_wp2_with fail
          refine (decode_any X 0 _ _ _ HX.out (by omega)).mono ?_
          rintro e w3 ⟨rfl, hb3⟩
          rw [dV_nil]
          have HB3 := Lib.hid ((nxt HB2.out hb3).alloc (nxt HB2.out hb3).size (.cells Fr.zero.cells 24))
          clear hb3
          go_wp2_with fail
          refine (awake6 _).mono ?_
          rintro e w4 ⟨rfl, hb4⟩
          go_wp2
          go_ret
          exact ⟨rfl, nxt (nxt HBL.out HB3.out) hb4⟩

theorem crows_any (A : Option Addr) (n cap : Nat) (fs : Nat → Fr) (b : Bool) (w : World) (hr : Fl w A n fs) (hwf : ∀ i, i < n → (fs i).wf) :
    Calls Try.prog 9 #[.slice A n cap, .bool b] w fun e w' => e = .returned (.bool true) ∧ Below w.heap.size w w' := by
  rcases Nat.lt_or_ge 6 n with hn | hn
  · exact crows_far A n cap b w hn
  · exact crows_in A n cap fs b w hn hr hwf
end Go.Proofs.Ytffhhegpkejdgaa
