/- The contracts of slices.Equal and crc15.Right. -/
import Derived.Test.YtalpbnfebcafgaaGreatK
import Derived.Test.YtalpbnfebcafgaaGreatSl
namespace Go.Proofs.YtalpbnfebcafgaaGreat
set_option maxRecDepth 20000
open Go.RowKit

set_option maxHeartbeats 400000 in
theorem equal_any (A B : Option Addr) (n m cap cap' : Nat) (xs ys : List Int) (w : World) (ha : Il w A n xs) (hb : Il w B m ys) (hn : n ≤ 100000) :
    Calls Tryz.prog 131 #[.slice A n cap, .slice B m cap'] w (QuietBool (xs == ys) w) := by
  by_cases hnm : n = m
  · obtain rfl := hnm
    have hne : ((n : Int) != (n : Int)) = false := by simp
    go_enter Tryz.func131, Tryz.ntmps131
    go_wp2
    go_loopw [13] (fun i wr => ∃ k q : Nat, k ≤ n ∧ i = .int .i64 k ∧ xs.take k = ys.take k ∧ wr = w.drewN q) (fun i _ => n - (intOf i).toNat)
    case atStart => exact ⟨0, 0, Nat.zero_le _, rfl, rfl, rfl⟩
    case round =>
      obtain ⟨k, q, hk, rfl, ht, rfl⟩ := hrel
      by_cases hlt : k < n
      · obtain ⟨ad, x, rfl, hx, hc⟩ := ha.at_ hlt
        obtain ⟨bd, y, rfl, hy, hd⟩ := hb.at_ hlt
        have HA := Lib.hid ha; have HB := Lib.hid hb; have HX := Lib.hid hx; have HY := Lib.hid hy; have HT := Lib.hid ht
        clear ha hb hx hy ht
        cases hxy : (x != y)
        · go_wp2
          go_quiet (fail)
          go_wp2
          go_roundw
          case rel => exact ⟨k + 1, _, by omega, by go_num, take_same HT.out HX.out HY.out (by simpa using hxy), rfl⟩
          case measure => simp [intOf]; omega
        · go_wp2
          go_quiet (fail)
          go_wp2
          go_ret
          exact ⟨ret_bool (beq_far HX.out HY.out hxy), _, World.drewN_drewN _ _ _⟩
      · go_wp2
        go_ret
        exact ⟨ret_bool (beq_all ht ha.1 hb.1 (by omega)), _, rfl⟩
  · have hne : ((n : Int) != (m : Int)) = true := by rw [bne_iff_ne]; omega
    go_enter Tryz.func131, Tryz.ntmps131
    go_wp2
    go_ret
    exact ⟨ret_bool (beq_len ha.1 hb.1 hnm), 0, rfl⟩
theorem equal_b (A B : Option Addr) (n m cap cap' : Nat) (xs ys : List Int) (w : World) (ha : Il w A n xs) (hb : Il w B m ys) (hn : n ≤ 100000) :
    Calls Tryz.prog 131 #[.slice A n cap, .slice B m cap'] w fun e w' => e = .returned (.bool (xs == ys)) ∧ Below w.heap.size w w' :=
  (equal_any A B n m cap cap' xs ys w ha hb hn).mono fun _ _ ⟨he, q, hq⟩ => ⟨he, by rw [hq]; exact belowN (Below.refl _ _) q⟩

theorem rgt_front {zs : List Int} {k : Nat} (hl : zs.length = k + 15) (h : ∀ z ∈ zs.take k, lvl z = true) : rgt zs = (zs.drop k == ofB (csum (zs.take k)) 15) := by
  unfold rgt
  rw [hl, Nat.add_sub_cancel, decide_eq_true (by omega : 15 ≤ k + 15), Bool.true_and]
  by_cases hb : zs.drop k = ofB (csum (zs.take k)) 15
  · have ha : ∀ z ∈ zs, lvl z = true := by
      rw [← List.take_append_drop k zs]
      exact all_append h (by rw [hb]; exact ofB_all _ _)
    rw [chk, fst_of_all lvl zs ha]; rfl
  · rw [beq_eq_false_iff_ne.2 hb, Bool.and_false]
theorem rgt_behind {zs : List Int} {k : Nat} (h : 0 ≤ chk (zs.take k)) : rgt zs = false := by
  obtain ⟨z, hz, hv⟩ := fst_nonneg lvl _ h
  refine rgt_bad ?_
  rcases Int.lt_or_le (chk zs) 0 with hn | hn
  · have := fst_neg lvl zs hn z (List.mem_of_mem_take hz)
    rw [hv] at this; cases this
  · exact hn

set_option maxHeartbeats 400000 in
theorem right_any (A : Option Addr) (n cap : Nat) (zs : List Int) (w : World) (hr : Il w A n zs) (hn : n ≤ 100000) (hc : n ≤ cap) :
    Calls Tryz.prog 118 #[.slice A n cap] w fun e w' => e = .returned (.bool (rgt zs)) ∧ Below w.heap.size w w' := by
  by_cases h15 : n < 15
  · go_enter Tryz.func118, Tryz.ntmps118
    go_wp2
    go_ret
    exact ⟨ret_bool (rgt_short (by rw [hr.1]; exact h15)).symm, Below.refl _ _⟩
  · obtain ⟨ad, rfl, hlt, hcl⟩ := hr.2 (by omega)
    obtain ⟨k, rfl⟩ : ∃ k, n = k + 15 := ⟨n - 15, by omega⟩
    have HR := Lib.hid hr
    clear hr hcl hlt
    go_enter Tryz.func118, Tryz.ntmps118
    go_wp2_with fail
    rcases Int.lt_or_le (chk (zs.take k)) 0 with hk | hk
    · have HK := Lib.hid (fst_neg lvl _ hk)
      have HF := Lib.hid (rgt_front HR.out.1 HK.out)
      clear hk
      refine (sum_ok _ _ _ _ _ (HR.out.take k (by omega)) (by omega) HK.out).mono ?_
      rintro e w1 ⟨rfl, hb1⟩
      have hs := csum_lt (zs.take k)
      generalize csum (zs.take k) = s at *
      go_wp2_with fail
      refine (bits_ok s _ hs).mono ?_
      rintro e w2 ⟨A2, cap2, rfl, hi2, hb2⟩
      have HB := Lib.hid (nxt hb1 hb2)
      have HI := Lib.hid hi2
      have HD := Lib.hid (show Il w2 (some (ad.add k)) 15 (zs.drop k) from by
        have h := (HR.out.below HB.out).drop k (by omega)
        rwa [Nat.add_sub_cancel_left] at h)
      clear hi2 hb1 hb2
      go_wp2_with fail
      refine (equal_b _ _ _ _ _ _ _ _ _ HD.out HI.out (by omega)).mono ?_
      rintro e w3 ⟨rfl, hb3⟩
      rw [← HF.out]
      go_wp2
      go_ret
      exact ⟨rfl, nxt HB.out hb3⟩
    · refine (sum_bad _ _ _ _ _ (HR.out.take k (by omega)) (by omega) hk).mono ?_
      rintro e w1 ⟨rfl, rfl⟩
      go_wp2
      go_ret
      exact ⟨ret_bool (rgt_behind hk).symm, Below.refl _ _⟩

theorem sum10 (A : Option Addr) (cap : Nat) (w : World) (hr : Il w A 2 [1, 0]) : Calls Tryz.prog 55 #[.slice A 2 cap] w fun e w' => e = .returned (.tuple #[.int .i64 20139, .int .i64 0]) ∧ Below w.heap.size w w' := by
  have h := sum_ok A 2 cap [1, 0] w hr (by omega) (by decide)
  rwa [show csum [1, 0] = 20139 by decide] at h

end Go.Proofs.YtalpbnfebcafgaaGreat
