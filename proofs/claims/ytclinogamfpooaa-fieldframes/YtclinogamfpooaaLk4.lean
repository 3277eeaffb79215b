/- The walk of the law FieldFrames. -/
import Derived.Test.YtclinogamfpooaaR10
namespace Go.Proofs.Ytclinogamfpooaa
open Go.RowKit

set_option maxHeartbeats 800000 in
theorem frames_far (A : Option Addr) (n cap : Nat) (w : World) (hn : 200 < n) :
    Calls Try.prog 5 #[.slice A n cap] w fun e w' => e = .returned (.bool true) ∧ Below w.heap.size w w' := by
  go_enter Try.func5, Try.ntmps5
  go_wp2_with fail
  refine (awake04 _).mono ?_
  rintro e wa ⟨rfl, hba⟩
  go_wp2
  go_ret
  exact ⟨rfl, hba⟩

set_option maxHeartbeats 1600000 in
theorem frames_bad (A : Option Addr) (n cap : Nat) (zs : List Int) (w : World) (hr : Il w A n zs) (hn : n ≤ 200) (hl : 0 ≤ chk zs) :
    Calls Try.prog 5 #[.slice A n cap] w fun e w' => e = .returned (.bool true) ∧ Below w.heap.size w w' := by
  have HR := Lib.hid hr; have HL := Lib.hid hl
  have h22 := eq22
  clear hr hl
  go_enter Try.func5, Try.ntmps5
  go_wp2_with fail
  refine (frame_bad A n cap zs _ HR.out (by omega) HL.out).mono ?_
  rintro e w1 ⟨rfl, hb1⟩
  have HR1 := Lib.hid ((HR.out.below hb1).below (boxed Fr.zero w1))
  have HB1 := Lib.hid (nxt hb1 (boxed Fr.zero w1))
  obtain ⟨c0, c1, c2, c3, c4, c5, c6, c7, c8, c9, c10, c11⟩ := (fb_new w1 Fr.zero).bx
  clear hb1
  go_wp2_with fail
  refine (fright_bad A n cap zs _ HR1.out (by omega) HL.out).mono ?_
  rintro e w' ⟨rfl, rfl⟩
  go_wp2_with fail
  refine (levels04 A n cap zs _ HR1.out (by omega)).mono ?_
  rintro e w' ⟨rfl, rfl⟩
  rw [show decide (chk zs < 0) = false from by have := HL.out; simp; omega]
  go_wp2_with fail
  refine (awake04 _).mono ?_
  rintro e wa ⟨rfl, hba⟩
  go_wp2
  go_ret
  exact ⟨rfl, nxt HB1.out hba⟩

theorem rgt_cut {zs : List Int} {q : Nat} (hl : ∀ z ∈ zs, lvl z = true) (h : q + 15 ≤ zs.length) : (ofB (csum (zs.take q)) 15 == cutL zs q 15) = rgt (zs.take (q + 15)) := by
  have hlen : (zs.take (q + 15)).length = q + 15 := by rw [List.length_take]; omega
  unfold rgt
  rw [hlen, show chk (zs.take (q + 15)) = -1 from fst_of_all lvl _ (all_take hl _), show q + 15 - 15 = q by omega, List.take_take, Nat.min_eq_left (by omega)]
  have e : decide (15 ≤ q + 15) = true := by simp
  rw [e]
  unfold cutL
  rw [Bool.eq_iff_iff]
  simp only [Bool.true_and, beq_iff_eq]
  constructor
  · intro h; rw [h]; simp
  · intro h; simp at h; rw [h]

set_option maxRecDepth 100000 in
set_option maxHeartbeats 3200000 in
theorem frames_short (A : Option Addr) (n cap : Nat) (zs : List Int) (w : World) (hr : Il w A n zs) (hcap : n ≤ cap) (hn : n ≤ 200) (hl : ∀ z ∈ zs, lvl z = true) (hs : zs.length < hEnd (hEx zs)) :
    Calls Try.prog 5 #[.slice A n cap] w fun e w' => e = .returned (.bool true) ∧ Below w.heap.size w w' := by
  have HR := Lib.hid hr; have HL := Lib.hid hl; have HZ := Lib.hid hr.1
  have h22 := eq22
  have HK := Lib.hid (show decide (chk zs < 0) = true by rw [show chk zs = -1 from fst_of_all lvl zs hl]; rfl)
  obtain ⟨F, ev, hfo⟩ : ∃ (F : Fr) (ev : Int), fout zs = .tuple #[F.val, .int .i64 ev] := by unfold fout; split; exact ⟨_, _, rfl⟩; split; exact ⟨_, _, rfl⟩; exact ⟨_, _, rfl⟩
  have HFO := Lib.hid hfo
  have ev1 : (ev != ev) = false := by simp
  have HRO := Lib.hid (show rout zs = .tuple #[.bool false, .int .i64 13] by unfold rout; rw [if_pos (.inl hs)])
  have HRA := Lib.hid (show raout zs = -1 by unfold raout; rw [if_pos hs])
  clear hs
  clear hr hl hfo
  go_enter Try.func5, Try.ntmps5
  go_wp2_with fail
  refine (frame_any A n cap zs _ HR.out (by omega) hcap HL.out).mono ?_
  rintro e w1 ⟨rfl, hb1⟩
  rw [HFO.out]
  have HR1 := Lib.hid ((HR.out.below hb1).below (boxed F w1))
  have HB1 := Lib.hid (nxt hb1 (boxed F w1))
  have HF1 := Lib.hid (fb_new w1 F)
  clear hb1
  go_wp2_with fail
  refine (fright_any A n cap zs _ HR1.out (by omega) hcap HL.out).mono ?_
  rintro e w2 ⟨rfl, hb2⟩
  rw [HRO.out]
  have HR2 := Lib.hid (HR1.out.below hb2)
  have HB2 := Lib.hid (nxt HB1.out hb2)
  have HF2 := Lib.hid (HF1.out.below hb2 HF1.out.lt)
  clear hb2 HR1 HB1 HF1
  go_wp2_with fail
  refine (levels04 A n cap zs _ HR2.out (by omega)).mono ?_
  rintro e w' ⟨rfl, rfl⟩
  rw [HK.out]
  go_wp2_with fail
  refine (rframe_any A n cap zs _ HR2.out (by omega) hcap HL.out).mono ?_
  rintro e w3 ⟨rfl, hb3⟩
  rw [HFO.out]
  have HR3 := Lib.hid ((HR2.out.below hb3).below (boxed F w3))
  have HB3 := Lib.hid (nxt (nxt HB2.out hb3) (boxed F w3))
  have HF3 := (HF2.out.below hb3 HF2.out.lt).below (boxed F w3) (HF2.out.below hb3 HF2.out.lt).lt
  have HG3 := fb_new w3 F
  obtain ⟨c0, c1, c2, c3, c4, c5, c6, c7, c8, c9, c10, c11⟩ := HF3.bx
  obtain ⟨b0, b1, b2, b3, b4, b5, b6, b7, b8, b9, b10, b11⟩ := HG3.bx
  clear hb3 HR2 HB2 HF2 HF3 HG3
  go_wp2_with fail
  refine (rahead_ok A n cap zs _ HR3.out (by omega) hcap HL.out).mono ?_
  rintro e w4 ⟨rfl, hb4⟩
  rw [HRA.out]
  have HR4 := Lib.hid (HR3.out.below hb4)
  have HB4 := Lib.hid (nxt HB3.out hb4)
  clear hb4 HR3 HB3 c0 c1 c2 c3 c4 c5 c6 c7 c8 c9 c10 c11 b0 b1 b2 b3 b4 b5 b6 b7 b8 b9 b10 b11
  go_wp2_with fail
  refine (awake04 _).mono ?_
  rintro e wa ⟨rfl, hba⟩
  go_wp2
  go_ret
  exact ⟨rfl, nxt HB4.out hba⟩

set_option maxRecDepth 100000 in
set_option maxHeartbeats 3200000 in
theorem frames_less (A : Option Addr) (n cap : Nat) (zs : List Int) (w : World) (hr : Il w A n zs) (hcap : n ≤ cap) (hn : n ≤ 200) (hl : ∀ z ∈ zs, lvl z = true) (hs : ¬ zs.length < hEnd (hEx zs)) (h2 : n < ahead zs + 15) :
    Calls Try.prog 5 #[.slice A n cap] w fun e w' => e = .returned (.bool true) ∧ Below w.heap.size w w' := by
  have HR := Lib.hid hr; have HL := Lib.hid hl; have HZ := Lib.hid hr.1
  have h22 := eq22
  have HK := Lib.hid (show decide (chk zs < 0) = true by rw [show chk zs = -1 from fst_of_all lvl zs hl]; rfl)
  obtain ⟨F, ev, hfo⟩ : ∃ (F : Fr) (ev : Int), fout zs = .tuple #[F.val, .int .i64 ev] := by unfold fout; split; exact ⟨_, _, rfl⟩; split; exact ⟨_, _, rfl⟩; exact ⟨_, _, rfl⟩
  have HFO := Lib.hid hfo
  have ev1 : (ev != ev) = false := by simp
  have HRO := Lib.hid (show rout zs = .tuple #[.bool false, .int .i64 13] by unfold rout; rw [if_pos (.inr (by rw [HZ.out]; exact h2))])
  have HRA := Lib.hid (show raout zs = (ahead zs : Nat) by unfold raout; rw [if_neg hs])
  have hle := ahead_le zs
  obtain ⟨q, hq⟩ : ∃ q, ahead zs = q := ⟨_, rfl⟩
  rw [hq] at HRA hle h2
  clear hs hq
  clear hr hl hfo
  go_enter Try.func5, Try.ntmps5
  go_wp2_with fail
  refine (frame_any A n cap zs _ HR.out (by omega) hcap HL.out).mono ?_
  rintro e w1 ⟨rfl, hb1⟩
  rw [HFO.out]
  have HR1 := Lib.hid ((HR.out.below hb1).below (boxed F w1))
  have HB1 := Lib.hid (nxt hb1 (boxed F w1))
  have HF1 := Lib.hid (fb_new w1 F)
  clear hb1
  go_wp2_with fail
  refine (fright_any A n cap zs _ HR1.out (by omega) hcap HL.out).mono ?_
  rintro e w2 ⟨rfl, hb2⟩
  rw [HRO.out]
  have HR2 := Lib.hid (HR1.out.below hb2)
  have HB2 := Lib.hid (nxt HB1.out hb2)
  have HF2 := Lib.hid (HF1.out.below hb2 HF1.out.lt)
  clear hb2 HR1 HB1 HF1
  go_wp2_with fail
  refine (levels04 A n cap zs _ HR2.out (by omega)).mono ?_
  rintro e w' ⟨rfl, rfl⟩
  rw [HK.out]
  go_wp2_with fail
  refine (rframe_any A n cap zs _ HR2.out (by omega) hcap HL.out).mono ?_
  rintro e w3 ⟨rfl, hb3⟩
  rw [HFO.out]
  have HR3 := Lib.hid ((HR2.out.below hb3).below (boxed F w3))
  have HB3 := Lib.hid (nxt (nxt HB2.out hb3) (boxed F w3))
  have HF3 := (HF2.out.below hb3 HF2.out.lt).below (boxed F w3) (HF2.out.below hb3 HF2.out.lt).lt
  have HG3 := fb_new w3 F
  obtain ⟨c0, c1, c2, c3, c4, c5, c6, c7, c8, c9, c10, c11⟩ := HF3.bx
  obtain ⟨b0, b1, b2, b3, b4, b5, b6, b7, b8, b9, b10, b11⟩ := HG3.bx
  clear hb3 HR2 HB2 HF2 HF3 HG3
  go_wp2_with fail
  refine (rahead_ok A n cap zs _ HR3.out (by omega) hcap HL.out).mono ?_
  rintro e w4 ⟨rfl, hb4⟩
  rw [HRA.out]
  have HR4 := Lib.hid (HR3.out.below hb4)
  have HB4 := Lib.hid (nxt HB3.out hb4)
  clear hb4 HR3 HB3 c0 c1 c2 c3 c4 c5 c6 c7 c8 c9 c10 c11 b0 b1 b2 b3 b4 b5 b6 b7 b8 b9 b10 b11
  go_wp2_with fail
  refine (awake04 _).mono ?_
  rintro e wa ⟨rfl, hba⟩
  go_wp2
  go_ret
  exact ⟨rfl, nxt HB4.out hba⟩

set_option maxRecDepth 100000 in
set_option maxHeartbeats 3200000 in
theorem frames_full (A : Option Addr) (n cap : Nat) (zs : List Int) (w : World) (hr : Il w A n zs) (hcap : n ≤ cap) (hn : n ≤ 200) (hl : ∀ z ∈ zs, lvl z = true) (hs : ¬ zs.length < hEnd (hEx zs)) (h2 : ahead zs + 15 ≤ n) :
    Calls Try.prog 5 #[.slice A n cap] w fun e w' => e = .returned (.bool true) ∧ Below w.heap.size w w' := by
  have HR := Lib.hid hr; have HL := Lib.hid hl; have HZ := Lib.hid hr.1
  have h22 := eq22
  have HK := Lib.hid (show decide (chk zs < 0) = true by rw [show chk zs = -1 from fst_of_all lvl zs hl]; rfl)
  obtain ⟨F, ev, hfo⟩ : ∃ (F : Fr) (ev : Int), fout zs = .tuple #[F.val, .int .i64 ev] := by unfold fout; split; exact ⟨_, _, rfl⟩; split; exact ⟨_, _, rfl⟩; exact ⟨_, _, rfl⟩
  have HFO := Lib.hid hfo
  have ev1 : (ev != ev) = false := by simp
  obtain ⟨bb, hbb⟩ : ∃ bb, rgt (zs.take (ahead zs + 15)) = bb := ⟨_, rfl⟩
  have HRO := Lib.hid (show rout zs = .tuple #[.bool bb, .int .i64 0] by unfold rout; rw [if_neg (by rw [HZ.out] at hs ⊢; omega), hbb])
  have HRA := Lib.hid (show raout zs = (ahead zs : Nat) by unfold raout; rw [if_neg hs])
  have HBB := Lib.hid (show (ofB (csum (zs.take (ahead zs))) 15 == cutL zs (ahead zs) 15) = bb by rw [rgt_cut hl (by rw [HZ.out]; exact h2), hbb])
  have hle := ahead_le zs
  obtain ⟨q, hq⟩ : ∃ q, ahead zs = q := ⟨_, rfl⟩
  rw [hq] at HRA hle h2 HBB
  clear hs hq hbb
  clear hr hl hfo
  go_enter Try.func5, Try.ntmps5
  go_wp2_with fail
  refine (frame_any A n cap zs _ HR.out (by omega) hcap HL.out).mono ?_
  rintro e w1 ⟨rfl, hb1⟩
  rw [HFO.out]
  have HR1 := Lib.hid ((HR.out.below hb1).below (boxed F w1))
  have HB1 := Lib.hid (nxt hb1 (boxed F w1))
  have HF1 := Lib.hid (fb_new w1 F)
  clear hb1
  go_wp2_with fail
  refine (fright_any A n cap zs _ HR1.out (by omega) hcap HL.out).mono ?_
  rintro e w2 ⟨rfl, hb2⟩
  rw [HRO.out]
  have HR2 := Lib.hid (HR1.out.below hb2)
  have HB2 := Lib.hid (nxt HB1.out hb2)
  have HF2 := Lib.hid (HF1.out.below hb2 HF1.out.lt)
  clear hb2 HR1 HB1 HF1
  go_wp2_with fail
  refine (levels04 A n cap zs _ HR2.out (by omega)).mono ?_
  rintro e w' ⟨rfl, rfl⟩
  rw [HK.out]
  go_wp2_with fail
  refine (rframe_any A n cap zs _ HR2.out (by omega) hcap HL.out).mono ?_
  rintro e w3 ⟨rfl, hb3⟩
  rw [HFO.out]
  have HR3 := Lib.hid ((HR2.out.below hb3).below (boxed F w3))
  have HB3 := Lib.hid (nxt (nxt HB2.out hb3) (boxed F w3))
  have HF3 := (HF2.out.below hb3 HF2.out.lt).below (boxed F w3) (HF2.out.below hb3 HF2.out.lt).lt
  have HG3 := fb_new w3 F
  obtain ⟨c0, c1, c2, c3, c4, c5, c6, c7, c8, c9, c10, c11⟩ := HF3.bx
  obtain ⟨b0, b1, b2, b3, b4, b5, b6, b7, b8, b9, b10, b11⟩ := HG3.bx
  clear hb3 HR2 HB2 HF2 HF3 HG3
  go_wp2_with fail
  refine (rahead_ok A n cap zs _ HR3.out (by omega) hcap HL.out).mono ?_
  rintro e w4 ⟨rfl, hb4⟩
  rw [HRA.out]
  have HR4 := Lib.hid (HR3.out.below hb4)
  have HB4 := Lib.hid (nxt HB3.out hb4)
  clear hb4 HR3 HB3 c0 c1 c2 c3 c4 c5 c6 c7 c8 c9 c10 c11 b0 b1 b2 b3 b4 b5 b6 b7 b8 b9 b10 b11
  obtain ⟨ad, rfl, -⟩ := HR4.out.2 (by omega)
  have i1 : (q : Int) ≤ (cap : Int) := by omega
  have i2 : (q : Int) + 15 ≤ (cap : Int) := by omega
  have i3 : ¬ cap = q := by omega
  have HT := Lib.hid ((HR4.out.below (below_drew (Below.refl _ _))).take q (by omega))
  have HC := Lib.hid ((HR4.out.below (below_drew (Below.refl _ _))).cut q 15 (by omega))
  go_wp2_with fail
  refine wp_region_held_drew (S := fun _ => True) (by kernel_rfl) trivial (fun hHeld => ?_)
  refine takeH (i := 0) (v := .bool bb) rfl (by kernel_rfl) (by kernel_rfl) (by kernel_rfl) (fun _ _ _ h => h) (Or.inl ⟨by rfl, fun w hSw => ?_⟩) hHeld ?_
  · (clear hSw; go_simp)
  simp only [Act.put, List.setIfInBounds_toArray, List.set_cons_zero, List.set_cons_succ]
  refine takeH (i := 1) (v := .slice (some ad) n cap) rfl (by kernel_rfl) (by kernel_rfl) (by kernel_rfl) (fun _ _ _ h => h) (Or.inl ⟨by rfl, fun w hSw => ?_⟩) hHeld ?_
  · (clear hSw; go_simp)
  simp only [Act.put, List.setIfInBounds_toArray, List.set_cons_zero, List.set_cons_succ]
  refine takeH (i := 2) (v := .int .i64 (q : Int)) rfl (by kernel_rfl) (by kernel_rfl) (by kernel_rfl) (fun _ _ _ h => h) (Or.inl ⟨by rfl, fun w hSw => ?_⟩) hHeld ?_
  · (clear hSw; go_simp)
  simp only [Act.put, List.setIfInBounds_toArray, List.set_cons_zero, List.set_cons_succ]
  refine takeH (i := 3) (v := .slice (some ad) q cap) rfl (by kernel_rfl) (by kernel_rfl) (by kernel_rfl) (fun _ _ _ h => h) (Or.inl ⟨by rfl, fun w hSw => ?_⟩) hHeld ?_
  · (clear hSw; go_simp)
  simp only [Act.put, List.setIfInBounds_toArray, List.set_cons_zero, List.set_cons_succ]
  refine takeH (i := 5) (v := .slice (some ad) n cap) rfl (by kernel_rfl) (by kernel_rfl) (by kernel_rfl) (fun _ _ _ h => h) (Or.inl ⟨by rfl, fun w hSw => ?_⟩) hHeld ?_
  · (clear hSw; go_simp)
  simp only [Act.put, List.setIfInBounds_toArray, List.set_cons_zero, List.set_cons_succ]
  refine takeH (i := 6) (v := .int .i64 (q : Int)) rfl (by kernel_rfl) (by kernel_rfl) (by kernel_rfl) (fun _ _ _ h => h) (Or.inl ⟨by rfl, fun w hSw => ?_⟩) hHeld ?_
  · (clear hSw; go_simp)
  simp only [Act.put, List.setIfInBounds_toArray, List.set_cons_zero, List.set_cons_succ]
  refine takeH (i := 7) (v := .int .i64 (q : Int)) rfl (by kernel_rfl) (by kernel_rfl) (by kernel_rfl) (fun _ _ _ h => h) (Or.inl ⟨by rfl, fun w hSw => ?_⟩) hHeld ?_
  · (clear hSw; go_simp)
  simp only [Act.put, List.setIfInBounds_toArray, List.set_cons_zero, List.set_cons_succ]
  refine takeH (i := 8) (v := .int .i64 ((q : Int) + 15)) rfl (by kernel_rfl) (by kernel_rfl) (by kernel_rfl) (fun _ _ _ h => h) (Or.inl ⟨by rfl, fun w hSw => ?_⟩) hHeld ?_
  · (clear hSw; go_simp; rw [IntKind.wrap_i64]; omega)
  simp only [Act.put, List.setIfInBounds_toArray, List.set_cons_zero, List.set_cons_succ]
  refine takeH (i := 9) (v := .slice (some (ad.add q)) 15 (cap - q)) rfl (by kernel_rfl) (by kernel_rfl) (by kernel_rfl) (fun _ _ _ h => h) (Or.inl ⟨by rfl, fun w hSw => ?_⟩) hHeld ?_
  · (clear hSw; go_simp; rw [if_pos (by omega), if_pos (by omega), show ((q : Int) + 15).toNat - q = 15 by omega])
  simp only [Act.put, List.setIfInBounds_toArray, List.set_cons_zero, List.set_cons_succ]
  refine wpAnyH_ready (rs := [4]) (by kernel_rfl) (by simp) ?_
  refine AllReadyH.cons rfl (fun K hK => ?_) AllReadyH.nil
  go_simp
  refine (rs4_ok _ _ _ _ _ HT.out (by omega) (all_take HL.out q)).mono ?_
  rintro e w5 ⟨A5, c5, rfl, hi5, hb5⟩
  have HI5 := Lib.hid hi5
  have HC5 := Lib.hid (HC.out.below hb5)
  have HB5 := Lib.hid (nxt (below_drew HB4.out) hb5)
  clear hi5 hb5 hHeld
  dsimp only
  refine hK.out _ _ trivial (fun hHeld => ?_)
  clear hK K
  try simp only [Act.put, List.setIfInBounds_toArray, List.set_cons_zero, List.set_cons_succ]
  refine wpAnyH_ready (rs := [10]) (by kernel_rfl) (by simp) ?_
  refine AllReadyH.cons rfl (fun K hK => ?_) AllReadyH.nil
  go_simp
  refine (ints_b _ _ 15 15 _ _ _ _ _ HI5.out HC5.out (by omega)).mono ?_
  rintro e w6 ⟨rfl, hb6⟩
  rw [HBB.out]
  have HB6 := Lib.hid (nxt HB5.out hb6)
  clear hb6 hHeld
  dsimp only
  refine hK.out _ _ trivial (fun hHeld => ?_)
  clear hK K
  try simp only [Act.put, List.setIfInBounds_toArray, List.set_cons_zero, List.set_cons_succ]
  refine takeH (i := 11) (v := .bool true) rfl (by kernel_rfl) (by kernel_rfl) (by kernel_rfl) (fun _ _ _ h => h) (Or.inl ⟨by rfl, fun w hSw => ?_⟩) hHeld ?_
  · (clear hSw; go_simp)
  simp only [Act.put, List.setIfInBounds_toArray, List.set_cons_zero, List.set_cons_succ]
  refine takeH (i := 12) (v := .bool true) rfl (by kernel_rfl) (by kernel_rfl) (by kernel_rfl) (fun _ _ _ h => h) (Or.inl ⟨by rfl, fun w hSw => ?_⟩) hHeld ?_
  · (clear hSw; go_simp)
  simp only [Act.put, List.setIfInBounds_toArray, List.set_cons_zero, List.set_cons_succ]
  refine takeH (i := 13) (v := .int .i64 0) rfl (by kernel_rfl) (by kernel_rfl) (by kernel_rfl) (fun _ _ _ h => h) (Or.inl ⟨by rfl, fun w hSw => ?_⟩) hHeld ?_
  · (clear hSw; go_simp)
  simp only [Act.put, List.setIfInBounds_toArray, List.set_cons_zero, List.set_cons_succ]
  refine takeH (i := 14) (v := .bool true) rfl (by kernel_rfl) (by kernel_rfl) (by kernel_rfl) (fun _ _ _ h => h) (Or.inl ⟨by rfl, fun w hSw => ?_⟩) hHeld ?_
  · (clear hSw; go_simp)
  simp only [Act.put, List.setIfInBounds_toArray, List.set_cons_zero, List.set_cons_succ]
  refine takeH (i := 15) (v := .bool true) rfl (by kernel_rfl) (by kernel_rfl) (by kernel_rfl) (fun _ _ _ h => h) (Or.inl ⟨by rfl, fun w hSw => ?_⟩) hHeld ?_
  · (clear hSw; go_simp)
  simp only [Act.put, List.setIfInBounds_toArray, List.set_cons_zero, List.set_cons_succ]
  refine takeH (i := 16) (v := .bool true) rfl (by kernel_rfl) (by kernel_rfl) (by kernel_rfl) (fun _ _ _ h => h) (Or.inl ⟨by rfl, fun w hSw => ?_⟩) hHeld ?_
  · (clear hSw; go_simp)
  simp only [Act.put, List.setIfInBounds_toArray, List.set_cons_zero, List.set_cons_succ]
  refine wpAnyH_ready (rs := [17]) (by kernel_rfl) (by simp) ?_
  refine AllReadyH.cons rfl (fun K hK => ?_) AllReadyH.nil
  go_simp
  refine (awake04 _).mono ?_
  rintro e wa ⟨rfl, hba⟩
  have HBA := Lib.hid (nxt HB6.out hba)
  clear hba hHeld
  dsimp only
  refine hK.out _ _ trivial (fun hHeld => ?_)
  clear hK K
  try simp only [Act.put, List.setIfInBounds_toArray, List.set_cons_zero, List.set_cons_succ]
  refine takeH (i := 18) (v := .bool true) rfl (by kernel_rfl) (by kernel_rfl) (by kernel_rfl) (fun _ _ _ h => h) (Or.inl ⟨by rfl, fun w hSw => ?_⟩) hHeld ?_
  · (clear hSw; go_simp)
  simp only [Act.put, List.setIfInBounds_toArray, List.set_cons_zero, List.set_cons_succ]
  refine takeH (i := 19) (v := .bool true) rfl (by kernel_rfl) (by kernel_rfl) (by kernel_rfl) (fun _ _ _ h => h) (Or.inl ⟨by rfl, fun w hSw => ?_⟩) hHeld ?_
  · (clear hSw; go_simp)
  simp only [Act.put, List.setIfInBounds_toArray, List.set_cons_zero, List.set_cons_succ]
  refine wpAnyH_done (by kernel_rfl) ?_ _
  clear hHeld
  go_wp2
  go_ret
  exact ⟨rfl, HBA.out⟩

theorem law_frames (A : Option Addr) (n cap : Nat) (zs : List Int) (w : World) (hr : Il w A n zs) (hcap : n ≤ cap) :
    Calls Try.prog 5 #[.slice A n cap] w fun e w' => e = .returned (.bool true) ∧ Below w.heap.size w w' := by
  by_cases hn : n ≤ 200
  · by_cases hl : chk zs < 0
    · by_cases hs : zs.length < hEnd (hEx zs)
      · exact frames_short A n cap zs w hr hcap hn (all_chk hl) hs
      · by_cases h2 : n < ahead zs + 15
        · exact frames_less A n cap zs w hr hcap hn (all_chk hl) hs h2
        · exact frames_full A n cap zs w hr hcap hn (all_chk hl) hs (by omega)
    · exact frames_bad A n cap zs w hr hn (by omega)
  · exact frames_far A n cap w (by omega)
end Go.Proofs.Ytclinogamfpooaa
