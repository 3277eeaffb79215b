/- The walk of the law CodecSound. -/
import Derived.Test.YtffhhegpkejdgaaX610
namespace Go.Proofs.Ytffhhegpkejdgaa
open Go.RowKit

set_option maxRecDepth 100000 in
set_option maxHeartbeats 3200000 in
theorem csound_far (A : Option Addr) (n cap : Nat) (w : World) (hn : 200 < n) :
    Calls Try.prog 7 #[.slice A n cap] w fun e w' => e = .returned (.bool true) ∧ Below w.heap.size w w' := by
  have g0 : decide ((200 : Int) < (n : Int)) = true := by simp; omega
  go_enter Try.func7, Try.ntmps7
  go_wp2_with (go_at_call 14; (refine (awake6 _).mono ?_); rintro e w1 ⟨rfl, hb1⟩)
  go_ret
  exact ⟨rfl, hb1⟩

set_option maxRecDepth 100000 in
set_option maxHeartbeats 3200000 in
theorem csound_err (A : Option Addr) (n cap : Nat) (zs : List Int) (w : World) (hr : Il w A n zs) (hn : n ≤ 200) (hcap : n ≤ cap) (he : dE zs ≠ 0) :
    Calls Try.prog 7 #[.slice A n cap] w fun e w' => e = .returned (.bool true) ∧ Below w.heap.size w w' := by
  have h22 := eq22
  have g0 : decide ((200 : Int) < (n : Int)) = false := by simp; omega
  obtain ⟨hk, _, h2⟩ := d_take (zs := zs)
  obtain ⟨hiff, hd⟩ := h2 he
  have HDV := Lib.hid (show dV zs = .tuple #[Fr.zero.val, .int .i64 (dN zs : Nat), .int .i64 (dE zs)] by unfold dV; rw [d_zero he])
  rw [hr.1] at hk hiff
  have hq : (dE zs != 0) = true := by simpa using he
  generalize dN zs = k at *
  generalize dE zs = er at *
  have HR := Lib.hid hr; have HD := Lib.hid hd
  have k0 : (0 : Int) ≤ (k : Int) := by omega
  have k1 : (k : Int) ≤ (n : Int) := by omega
  have k2 : (k : Int) ≤ (cap : Int) := by omega
  have k3 : k ≤ cap := by omega
  have hqq : (er == 13) = ((k : Int) == (n : Int)) := by
    by_cases h : er = 13
    · have := hiff.1 h; subst this; subst h; simp
    · have : ¬ k = n := fun x => h (hiff.2 x)
      have e1 : (er == 13) = false := by simpa using h
      have e2 : ((k : Int) == (n : Int)) = false := by simp; omega
      rw [e1, e2]
  clear hr hd hiff he h2
  go_enter Try.func7, Try.ntmps7
  go_wp2_with fail
  refine (decode_any _ n cap _ _ HR.out (by omega)).mono ?_
  rintro e w1 ⟨rfl, hb1⟩
  rw [HDV.out]
  have HB1 := Lib.hid (hb1.alloc hb1.size (.cells Fr.zero.cells 24))
  have HI := Lib.hid (((HR.out.below hb1).alloc (.cells Fr.zero.cells 24)).take k hk)
  clear hb1
  go_wp2_with fail
  refine (decode_any _ k cap _ _ HI.out (by omega)).mono ?_
  rintro e w2 ⟨rfl, hb2⟩
  rw [HD.out]
  have HB2 := Lib.hid (nxt HB1.out hb2)
  clear hb2
  go_wp2_with fail
  refine (awake6 _).mono ?_
  rintro e w3 ⟨rfl, hb3⟩
  go_wp2
  go_ret
  exact ⟨rfl, nxt (HB2.out.alloc HB2.out.size _) hb3⟩

set_option maxRecDepth 100000 in
set_option maxHeartbeats 3200000 in
theorem csound_ok (A : Option Addr) (n cap : Nat) (zs : List Int) (w : World) (hr : Il w A n zs) (hn : n ≤ 200) (hcap : n ≤ cap) (he : dE zs = 0) :
    Calls Try.prog 7 #[.slice A n cap] w fun e w' => e = .returned (.bool true) ∧ Below w.heap.size w w' := by
  have h22 := eq22
  have g0 : decide ((200 : Int) < (n : Int)) = false := by simp; omega
  obtain ⟨hk, h1, _⟩ := d_take (zs := zs)
  have hd := h1 he
  have h44 := d_44 he
  obtain ⟨hm, hwf⟩ := d_may he
  have HDV := Lib.hid (show dV zs = .tuple #[(dF zs).val, .int .i64 (dN zs : Nat), .int .i64 0] by unfold dV; rw [he])
  rw [HDV.out] at hd
  rw [hr.1] at hk
  obtain ⟨p, hp⟩ : ∃ p, dN zs = p + 9 := ⟨dN zs - 9, by omega⟩
  rw [hp] at hk hd h44 HDV
  generalize dF zs = f at *
  have HR := Lib.hid hr; have HD := Lib.hid hd; have HM := Lib.hid hm; have HWF := Lib.hid hwf
  have HE := Lib.hid (show f.err = 0 by unfold Fr.err; rw [hm]; rfl)
  obtain ⟨ad, z, rfl, hz, hc⟩ := hr.at_ (k := p) (by omega)
  obtain ⟨b, hb⟩ : ∃ b, (z == 0) = b := ⟨_, rfl⟩
  obtain ⟨L, hL⟩ : ∃ L, (enc f b).length = L := ⟨_, rfl⟩
  have hL2 : L ≤ 310 := by rw [← hL, enc_len]; have := stf_raw_le hm; omega
  have hL1 : 10 ≤ L := by rw [← hL, enc_len]; omega
  have HEL := Lib.hid hL
  have HDE := Lib.hid (enc_dV hm hwf b [])
  rw [List.append_nil, hL] at HDE
  have k0 : (0 : Int) ≤ (p : Int) := by omega
  have k1 : (p : Int) + 9 ≤ (n : Int) := by omega
  have k2 : (p : Int) + 9 ≤ (cap : Int) := by omega
  have k3 : p + 9 ≤ cap := by omega
  have k4 : (44 : Int) ≤ (p : Int) + 9 := by omega
  have HC := Lib.hid hc
  clear hr hd he hm hwf hL hp hz h1 hc
  go_enter Try.func7, Try.ntmps7
  go_wp2_with fail
  refine (decode_any _ n cap _ _ HR.out (by omega)).mono ?_
  rintro e w1 ⟨rfl, hb1⟩
  rw [HDV.out]
  have HB1 := Lib.hid (hb1.alloc hb1.size (.cells f.cells 24))
  have HF1 := Lib.hid (fb_new w1 f)
  have HG := Lib.hid hb1.size
  clear hb1
  go_wp2_with fail
  refine (fcheck_any f _).mono ?_
  rintro e w2 ⟨rfl, hb2⟩
  rw [HE.out]
  have HB2 := Lib.hid (nxt HB1.out hb2)
  have F2 := HF1.out.below hb2 HF1.out.lt
  have HF2 := Lib.hid F2
  have hc2 : w2.cell? (ad.add p) = some (.int .i64 z) := by
    obtain ⟨ad', e', hl, _⟩ := HR.out.2 (by omega)
    injection e' with e'
    subst e'
    rw [← HC.out]
    exact HB2.out.cell (by rw [block_of_add]; exact hl)
  obtain ⟨c0, c1, c2, c3, c4, c5, c6, c7, c8, c9, c10, c11⟩ := F2.bx
  clear hb2 F2
  go_wp2_with fail
  refine (encode_ok f b _ HM.out HWF.out).mono ?_
  rintro e w3 ⟨v, rfl, ho3, hb3⟩
  obtain ⟨q, cap3, rfl, hq, hcap3⟩ := ho3.shape (by rw [HEL.out]; omega)
  rw [HEL.out] at ho3 hcap3 ⊢
  have HB3 := Lib.hid (nxt HB2.out hb3)
  have HF3 := Lib.hid (HF2.out.below hb3 HF2.out.lt)
  have HI3 := Lib.hid (show Il w3 (some ⟨q, 0, none⟩) L (enc f b) from ho3.il_at)
  clear hb3 ho3 hq hc2 c0 c1 c2 c3 c4 c5 c6 c7 c8 c9 c10 c11
  go_wp2_with fail
  refine (decode_any _ L cap3 _ _ HI3.out (by omega)).mono ?_
  rintro e w4 ⟨rfl, hb4⟩
  rw [HDE.out]
  have HB4 := Lib.hid ((nxt HB3.out hb4).alloc (nxt HB3.out hb4).size (.cells f.cells 24))
  have HF4 := Lib.hid ((HF3.out.below hb4 HF3.out.lt).below ((Below.refl w4.heap.size w4).alloc (Nat.le_refl _) (.cells f.cells 24)) (Nat.lt_of_lt_of_le HF3.out.lt hb4.size))
  have HG4 := Lib.hid (fb_new w4 f)
  have HI4 := Lib.hid ((HR.out.below HB4.out).take (p + 9) hk)
  clear hb4
  go_wp2_with fail
  refine (decode_any _ (p + 9) cap _ _ HI4.out (by omega)).mono ?_
  rintro e w5 ⟨rfl, hb5⟩
  rw [HD.out]
  have HB5 := Lib.hid ((nxt HB4.out hb5).alloc (nxt HB4.out hb5).size (.cells f.cells 24))
  have F5 := HF4.out.below hb5 HF4.out.lt
  have G5 := HG4.out.below hb5 HG4.out.lt
  obtain ⟨c0, c1, c2, c3, c4, c5, c6, c7, c8, c9, c10, c11⟩ := F5.bx
  obtain ⟨d0, d1, d2, d3, d4, d5, d6, d7, d8, d9, d10, d11⟩ := G5.bx
  have hl5 := F5.lt
  have gl5 := G5.lt
  have hne : w5.heap.size ≠ w1.heap.size := by omega
  have hne4 : w5.heap.size ≠ w4.heap.size := by omega
  have s1 := beq_self_eq_true [f.d 0, f.d 1, f.d 2, f.d 3, f.d 4, f.d 5, f.d 6, f.d 7]
  clear hb5 F5 G5
  go_wp2_with fail
  refine (awake6 _).mono ?_
  rintro e w6 ⟨rfl, hb6⟩
  go_wp2
  go_ret
  exact ⟨rfl, nxt HB5.out hb6⟩

theorem csound_any (A : Option Addr) (n cap : Nat) (zs : List Int) (w : World) (hr : Il w A n zs) (hcap : n ≤ cap) :
    Calls Try.prog 7 #[.slice A n cap] w fun e w' => e = .returned (.bool true) ∧ Below w.heap.size w w' := by
  rcases Nat.lt_or_ge 200 n with hn | hn
  · exact csound_far A n cap w hn
  · by_cases he : dE zs = 0
    · exact csound_ok A n cap zs w hr hn hcap he
    · exact csound_err A n cap zs w hr hn hcap he
end Go.Proofs.Ytffhhegpkejdgaa
