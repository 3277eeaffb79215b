/- The contract of stuff.Add. -/
import Derived.Test.YtffhhegpkejdgaaX67
import Derived.WalkMore
import Derived.Test.YtffhhegpkejdgaaX60
import Derived.Test.YtffhhegpkejdgaaX66
import Derived.Deep.LoopGhost
import Derived.Test.YtffhhegpkejdgaaX62
namespace Go.Proofs.Ytffhhegpkejdgaa
open Go.RowKit

set_option maxHeartbeats 400000 in
theorem add_bad (A : Option Addr) (n cap : Nat) (zs : List Int) (w : World) (hr : Il w A n zs) (hn : n ≤ 10000) (hl : 0 ≤ chk zs) :
    Calls Try.prog 23 #[.slice A n cap] w fun e w' => e = .returned (.slice none 0 0) ∧ w = w' := by
  go_enter Try.func23, Try.ntmps23
  go_wp2_with (go_at_call 41; (with_reducible refine (check_any _ _ _ _ _ hr (by omega)).mono ?_); rintro e w' ⟨rfl, rfl⟩)
  go_ret
  exact ⟨rfl, rfl⟩

set_option maxHeartbeats 800000 in
theorem add_own (A : Option Addr) (n cap : Nat) (zs : List Int) (w : World) (hr : Il w A n zs) (hn : n ≤ 10000) (hl : ∀ z ∈ zs, lvl z = true) :
    Calls Try.prog 23 #[.slice A n cap] w fun e w' => ∃ v, e = .returned v ∧ Own w' w.heap.size v (stf zs) ∧ Below w.heap.size w w' := by
  have HL := Lib.hid (show chk zs = -1 from fst_of_all lvl zs hl)
  have HV := Lib.hid hl
  have HR := Lib.hid hr
  obtain ⟨m, hm, hmn⟩ : ∃ m, (n - 1) / 4 = m ∧ m ≤ n := ⟨_, rfl, by omega⟩
  have HM := Lib.hid hm
  have hmk := make0 n m (by omega)
  clear hl hr hm
  go_enter Try.func23, Try.ntmps23
  go_wp2_with fail
  refine (check_any _ _ _ _ _ HR.out (by omega)).mono ?_
  rintro e w' ⟨rfl, rfl⟩
  rw [HL.out]
  go_wp2_with fail
  refine (most_ok n _ (by omega)).mono ?_
  rintro e w' ⟨rfl, rfl⟩
  rw [HM.out]
  go_wp2_with fail
  have HO := Lib.hid (Own.room w w.heap.size (n + m) (Nat.le_refl _) (by omega))
  have HB := Lib.hid ((Below.refl w.heap.size w).alloc (Nat.le_refl _) (.cells (Array.replicate (n + m) (Value.int .i64 0)) 3))
  have HS := Lib.hid (show (w.alloc (.cells (Array.replicate (n + m) (Value.int .i64 0)) 3)).heap.size = w.heap.size + 1 by simp)
  generalize w.alloc (.cells (Array.replicate (n + m) (Value.int .i64 0)) 3) = w1 at *
  refine (teller_any _).mono ?_
  rintro e w2 ⟨rfl, ht, hb2⟩
  have HT := Lib.hid ht
  have HO2 := Lib.hid (HO.out.below hb2)
  have HB2 := Lib.hid (nxt HB.out hb2)
  rw [HS.out] at HT ⊢
  clear ht hb2 hmk HO HB HS
  have HA := Lib.hid (show Apart (.slice (some ⟨w.heap.size, 0, none⟩) 0 (n + m)) (w.heap.size + 1) from ⟨by simp [Value.ownBlock], by simp [Value.ownBlock]; omega⟩)
  go_wp2
  go_loopw [5, 26] (fun v i wr => ∃ k : Nat, k ≤ n ∧ i = .int .i64 k ∧ Own wr w.heap.size v (stf (zs.take k)) ∧ Two wr (w.heap.size + 1) (endr (stf (zs.take k))) ∧ Apart v (w.heap.size + 1) ∧ Below w.heap.size w wr) (fun _ i _ => n - (intOf i).toNat)
  case atStart => exact ⟨0, Nat.zero_le _, rfl, HO2.out, HT.out, HA.out, HB2.out⟩
  case round =>
    obtain ⟨k, hk, rfl, ho, ht, ha, hbel⟩ := hrel
    by_cases hlt : k < n
    · obtain ⟨ad, z, rfl, hz, hc⟩ := (HR.out.below hbel).at_ hlt
      have HZ := Lib.hid (lvl_01 (HV.out z (List.mem_of_getElem? hz)))
      have HS := Lib.hid (stf_step hz)
      have hol : (stf (zs.take k)).length ≤ 2 * k := by have := (stf_len (zs.take k)).2; rw [List.length_take] at this; omega
      have HAK := Lib.hid (alk_stf (zs.take k))
      have hsz := hbel.size
      have HO := Lib.hid ho; have HT := Lib.hid ht; have HA := Lib.hid ha
      clear hz ho ht ha HO2 HB2
      generalize stf (zs.take k) = o at *
      go_wp2_with (first | (at_builtin; (refine append_ints2 _ rfl (.tmp 30) (.tmp 32) rfl w.heap.size u5 o rfl (HO.out.alloc _) _ 1 1 [z] rfl (Arr.new wr .i64 3 [z]).il (by omega) (by simp; omega) ?_); intro v1 w1 ho1 hg1 hl1) | fail)
      have HO1 := Lib.hid ho1
      have HT1 := Lib.hid (HT.out.pushed hg1 HA.out)
      have HA1 := Lib.hid (HA.out.lies hl1 HT.out)
      have HB1 := Lib.hid (push_lit hbel hsz HO.out hg1)
      clear ho1 hg1 hl1 HO HT HA
      have HAU := Lib.hid (alk_up o z)
      refine (tell_any (endr o) z _ _ (by show alk o ≤ 100000; have := HAK.out; omega) HT1.out).mono ?_
      rintro e w3 ⟨rfl, ht3, hs3⟩
      rw [← endr_snoc] at ht3 ⊢
      have HT3 := Lib.hid ht3
      have HO3 := Lib.hid (HO1.out.still hs3 HA1.out)
      have HB3 := Lib.hid (HB1.out.trans (hs3.bel.mono (Nat.le_succ _)))
      clear ht3 hs3 HO1 HT1 HB1
      by_cases h5 : alk (o ++ [z]) = 5
      · have HS5 := Lib.hid (sput_five h5)
        rw [show (endr (o ++ [z])).2 = 5 from h5]
        have hsz3 := HB3.out.size
        clear h5
        go_wp2_with fail
        refine (other_any z _ HZ.out).mono ?_
        rintro e w4 ⟨rfl, rfl⟩
        go_wp2_with (first | (at_builtin; (refine append_ints2 _ rfl (.tmp 38) (.tmp 41) rfl w.heap.size v1 (o ++ [z]) rfl (HO3.out.alloc _) _ 1 1 [1 - z] rfl (Arr.new w3 .i64 3 [1 - z]).il (by simp; omega) (by simp; omega) ?_); intro v4 w4 ho4 hg4 hl4) | fail)
        have HO4 := Lib.hid ho4
        have HT4 := Lib.hid (HT3.out.pushed hg4 HA1.out)
        have HA4 := Lib.hid (HA1.out.lies hl4 HT3.out)
        have HB4 := Lib.hid (push_lit HB3.out hsz3 HO3.out hg4)
        clear ho4 hg4 hl4 HO3 HT3
        refine (other_any z _ HZ.out).mono ?_
        rintro e w5 ⟨rfl, rfl⟩
        go_wp2_with fail
        refine (tell_any (endr (o ++ [z])) (1 - z) _ _ (by show alk (o ++ [z]) ≤ 100000; have := HAK.out; have := HAU.out; omega) HT4.out).mono ?_
        rintro e w6 ⟨rfl, ht6, hs6⟩
        rw [← endr_snoc] at ht6 ⊢
        have HT6 := Lib.hid ht6
        have HO6 := Lib.hid (HO4.out.still hs6 HA4.out)
        have HB6 := Lib.hid (HB4.out.trans (hs6.bel.mono (Nat.le_succ _)))
        clear ht6 hs6
        go_wp2
        go_roundw
        case rel => exact ⟨k + 1, by omega, by go_num, by rw [HS.out, HS5.out]; exact HO6.out, by rw [HS.out, HS5.out]; exact HT6.out, HA4.out, HB6.out⟩
        case measure => simp [intOf]; omega
      · have HS5 := Lib.hid (sput_else h5)
        have hq : ((((endr (o ++ [z])).2 : Nat) : Int) == 5) = false := by
          have : ¬ (endr (o ++ [z])).2 = 5 := h5
          simp; omega
        generalize hx : (((endr (o ++ [z])).2 : Nat) : Int) = x at *
        clear h5 hx
        go_wp2
        go_roundw
        case rel => exact ⟨k + 1, by omega, by go_num, by rw [HS.out, HS5.out]; exact HO3.out, by rw [HS.out, HS5.out]; exact HT3.out, HA1.out, HB3.out⟩
        case measure => simp [intOf]; omega
    · have HS := Lib.hid (show zs.take k = zs from List.take_of_length_le (by rw [HR.out.1]; omega))
      rw [HS.out] at ho
      go_wp2
      go_ret
      exact ⟨_, rfl, ho, hbel⟩
theorem add_ok (A : Option Addr) (n cap : Nat) (zs : List Int) (w : World) (hr : Il w A n zs) (hn : n ≤ 10000) (hl : ∀ z ∈ zs, lvl z = true) :
    Calls Try.prog 23 #[.slice A n cap] w (SlIn (stf zs) w) := by
  refine (add_own A n cap zs w hr hn hl).mono ?_
  rintro e w' ⟨v, rfl, ho, hb⟩
  obtain ⟨A', cap', rfl, hil, hcap⟩ := ho.il2
  exact ⟨A', cap', rfl, hil, hcap, hb⟩
end Go.Proofs.Ytffhhegpkejdgaa

/- The contract of stuff.Take. -/
namespace Go.Proofs.Ytffhhegpkejdgaa
open Go.RowKit

/-- What Take answers. -/
def TkOut (zs : List Int) (w : World) (e : Ending) (w' : World) : Prop :=
  ∃ A cap, e = .returned (.tuple #[.slice A (tkR zs).length cap, .int .i64 (tkAt zs), .int .i64 (tkE zs)]) ∧ Il w' A (tkR zs).length (tkR zs) ∧ (tkR zs).length ≤ cap ∧ Below w.heap.size w w'
theorem TkOut.nil {zs : List Int} {w w' : World} {at_ er : Int} (h : tkE zs = er ∧ tkAt zs = at_ ∧ tkR zs = []) (hb : Below w.heap.size w w') : TkOut zs w (.returned (.tuple #[.slice none 0 0, .int .i64 at_, .int .i64 er])) w' := by
  obtain ⟨h1, h2, h3⟩ := h
  refine ⟨none, 0, ?_, ?_, ?_, hb⟩
  · rw [h1, h2, h3]; rfl
  · rw [h3]; exact ⟨rfl, fun h => by simp at h⟩
  · rw [h3]; exact Nat.le_refl _

set_option maxHeartbeats 800000 in
theorem take_any (A : Option Addr) (n cap : Nat) (zs : List Int) (w : World) (hr : Il w A n zs) (hn : n ≤ 10000) :
    Calls Try.prog 21 #[.slice A n cap] w (TkOut zs w) := by
  have HR := Lib.hid hr
  have hmk := make1 n (by omega)
  rcases Int.lt_or_le (chk zs) 0 with hck | hck
  · have hl := fst_neg lvl zs hck
    have HL := Lib.hid (show chk zs = -1 from fst_of_all lvl zs hl)
    have HK := Lib.hid (show chk zs < 0 by omega)
    have HLN := Lib.hid hr.1
    clear hl hr hck
    go_enter Try.func21, Try.ntmps21
    go_wp2_with fail
    go_step3
    go_wp2_with fail
    refine (check_any _ _ _ _ _ HR.out (by omega)).mono ?_
    rintro e w' ⟨rfl, rfl⟩
    rw [HL.out]
    go_wp2_with fail
    have HO := Lib.hid (Own.room w w.heap.size n (Nat.le_refl _) (by omega))
    have HB := Lib.hid ((Below.refl w.heap.size w).alloc (Nat.le_refl _) (.cells (Array.replicate n (Value.int .i64 0)) 3))
    have HS := Lib.hid (show (w.alloc (.cells (Array.replicate n (Value.int .i64 0)) 3)).heap.size = w.heap.size + 1 by simp)
    generalize w.alloc (.cells (Array.replicate n (Value.int .i64 0)) 3) = w1 at *
    refine (teller_any _).mono ?_
    rintro e w2 ⟨rfl, ht, hb2⟩
    have HT := Lib.hid ht
    have HO2 := Lib.hid (HO.out.below hb2)
    have HB2 := Lib.hid (nxt HB.out hb2)
    rw [HS.out] at HT ⊢
    clear ht hb2 hmk HO HB HS
    have HA := Lib.hid (show Apart (.slice (some ⟨w.heap.size, 0, none⟩) 0 n) (w.heap.size + 1) from ⟨by simp [Value.ownBlock], by simp [Value.ownBlock]; omega⟩)
    go_wp2
    go_step3
    go_wp2
    go_loopw [6, 8, 9] (fun v i a wr => ∃ k : Nat, k ≤ n ∧ k ≤ sx zs ∧ i = .int .i64 k ∧ a = .int .i64 (alk (zs.take k) : Nat) ∧ Own wr w.heap.size v (stk (zs.take k)) ∧ Two wr (w.heap.size + 1) (endr (zs.take k)) ∧ Apart v (w.heap.size + 1) ∧ Below w.heap.size w wr) (fun _ i _ _ => n - (intOf i).toNat)
    case atStart => exact ⟨0, Nat.zero_le _, Nat.zero_le _, rfl, rfl, HO2.out, HT.out, HA.out, HB2.out⟩
    case round =>
      obtain ⟨k, hk, hksx, rfl, rfl, ho, ht, ha, hbel⟩ := hrel
      have HSX := Lib.hid hksx
      clear hksx
      by_cases hlt : k < n
      · obtain ⟨ad, z, rfl, hz, hc⟩ := (HR.out.below hbel).at_ hlt
        have HZ := Lib.hid hz
        have hol : (stk (zs.take k)).length ≤ k := by have := stk_len (zs.take k); rw [List.length_take] at this; omega
        have hsz := hbel.size
        have HAL := Lib.hid (show alk (zs.take k) ≤ k by have := (alk_spec (zs.take k)).1; rw [List.length_take] at this; omega)
        have HO := Lib.hid ho; have HT := Lib.hid ht; have HA := Lib.hid ha
        have HE := Lib.hid (take_endr hz)
        have HKL := Lib.hid (show k < zs.length by rw [HLN.out]; exact hlt)
        clear hz ho ht ha HO2 HB2
        go_wp2_with fail
        refine (tell_any (endr (zs.take k)) z _ _ (by show alk (zs.take k) ≤ 100000; have := HAL.out; omega) HT.out).mono ?_
        rintro e w3 ⟨rfl, ht3, hs3⟩
        rw [← HE.out] at ht3 ⊢
        have HT3 := Lib.hid ht3
        have HO3 := Lib.hid (HO.out.still hs3 HA.out)
        have HB3 := Lib.hid (hbel.trans (hs3.bel.mono (Nat.le_succ _)))
        have hc3 : w3.cell? (ad.add k) = some (.int .i64 z) := by
          obtain ⟨ad', z', e1, e2, e3⟩ := (HR.out.below HB3.out).at_ hlt
          injection e1 with e1
          rw [HZ.out] at e2
          injection e2 with e2
          rw [e1, e2]; exact e3
        clear ht3 hs3 HO HT HE
        rw [show (endr (zs.take (k + 1))).2 = alk (zs.take (k + 1)) from rfl]
        by_cases h6 : alk (zs.take (k + 1)) ≤ 5
        · have HSX1 := Lib.hid (sx_succ HSX.out HKL.out h6)
          by_cases h5 : 5 ≤ alk (zs.take k)
          · have HK5 := Lib.hid (stk_step_five HZ.out h5)
            have hq1 : decide ((5 : Int) < ((alk (zs.take (k + 1)) : Nat) : Int)) = false := by simp; omega
            have hq2 : decide (((alk (zs.take k) : Nat) : Int) < 5) = false := by simp; omega
            generalize hx : alk (zs.take (k + 1)) = x at *
            generalize hy : alk (zs.take k) = y at *
            have HX := Lib.hid hx
            clear h5 h6 hx hy
            go_wp2
            go_roundw
            case rel => exact ⟨k + 1, by omega, HSX1.out, by go_num, by rw [HX.out], by rw [HK5.out]; exact HO3.out, HT3.out, HA.out, HB3.out⟩
            case measure => simp [intOf]; omega
          · have HK5 := Lib.hid (stk_step_else HZ.out h5)
            have hq1 : decide ((5 : Int) < ((alk (zs.take (k + 1)) : Nat) : Int)) = false := by simp; omega
            have hq2 : decide (((alk (zs.take k) : Nat) : Int) < 5) = true := by simp; omega
            have hsz3 := HB3.out.size
            generalize hx : alk (zs.take (k + 1)) = x at *
            generalize hy : alk (zs.take k) = y at *
            generalize stk (zs.take k) = o at *
            have HX := Lib.hid hx
            clear h5 h6 hx hy hsz
            go_wp2_with (first | (at_builtin; (refine append_ints2 _ rfl (.tmp 37) (.tmp 42) rfl w.heap.size u6 o rfl (HO3.out.alloc _) _ 1 1 [z] rfl (Arr.new w3 .i64 3 [z]).il (by omega) (by simp; omega) ?_); intro v1 w1 ho1 hg1 hl1; have HO1 := Lib.hid ho1; have HT1 := Lib.hid (HT3.out.pushed hg1 HA.out); have HA1 := Lib.hid (HA.out.lies hl1 HT3.out); have HB1 := Lib.hid (push_lit HB3.out hsz3 HO3.out hg1); clear ho1 hg1 hl1) | fail)
            go_roundw
            case rel => exact ⟨k + 1, by omega, HSX1.out, by go_num, by rw [HX.out], by rw [HK5.out]; exact HO1.out, HT1.out, HA1.out, HB1.out⟩
            case measure => simp [intOf]; omega
        · have HE6 := Lib.hid (sx_stop HSX.out HKL.out h6)
          have hq1 : decide ((5 : Int) < ((alk (zs.take (k + 1)) : Nat) : Int)) = true := by simp; omega
          generalize alk (zs.take (k + 1)) = x at *
          generalize alk (zs.take k) = y at *
          clear h6
          go_wp2
          try rw [Exit.noGoto_ret]
          go_ret3
          have h := tk_six (Int.not_le.2 HK.out) (by rw [HE6.out]; exact HKL.out)
          rw [HE6.out] at h
          exact TkOut.nil h HB3.out
      · have HTK := Lib.hid (show zs.take k = zs from List.take_of_length_le (by rw [HLN.out]; omega))
        have hkn : k = n := by omega
        have H6 := Lib.hid (show ¬ sx zs < zs.length by have := HSX.out; rw [HLN.out]; omega)
        rw [HTK.out] at ho ⊢
        subst hkn
        by_cases h5 : alk zs = 5
        · have HF := Lib.hid (tk_short (Int.not_le.2 HK.out) H6.out h5)
          rw [h5]
          go_wp2
          try rw [Exit.noGoto_ret]
          go_ret3
          have h := HF.out
          rw [HLN.out] at h
          exact TkOut.nil h hbel
        · have HF := Lib.hid (tk_ok (Int.not_le.2 HK.out) H6.out h5)
          obtain ⟨A', cap', rfl, hil, hcap⟩ := ho.il2
          have HI := Lib.hid hil
          have hq : (((alk zs : Nat) : Int) == 5) = false := by simp; omega
          generalize alk zs = x at *
          clear h5 ht ha hil
          go_wp2
          try rw [Exit.noGoto_ret]
          go_ret3
          obtain ⟨f1, f2, f3⟩ := HF.out
          exact ⟨A', cap', by rw [f1, f2, f3]; rfl, by rw [f3]; exact HI.out, by rw [f3]; exact hcap, hbel⟩
  · have HF := Lib.hid (tk_bad hck)
    go_enter Try.func21, Try.ntmps21
    go_wp2_with fail
    go_step3
    go_wp2_with (go_at_call 41; (with_reducible refine (check_any _ _ _ _ _ hr (by omega)).mono ?_); rintro e w' ⟨rfl, rfl⟩)
    try rw [Exit.noGoto_ret]
    go_ret3
    exact TkOut.nil HF.out (Below.refl _ _)
end Go.Proofs.Ytffhhegpkejdgaa

/- The contracts of the reference's Runs, of bits.Runs and bits.Longest. -/
namespace Go.Proofs.Ytffhhegpkejdgaa
open Go.RowKit

theorem rcut_at {zs rs : List Int} {i f : Nat} {x y : Int} (h1 : 1 ≤ i) (h : stt zs (i - 1) = (rs, f)) (hx : zs[i]? = some x) (hy : zs[f]? = some y) (he : (x != y) = true) : stt zs i = (rs ++ [(i : Int) - (f : Int)], i) := by
  have := stt_cut h (by rw [show i - 1 + 1 = i by omega]; simp only [List.getD, hx, hy]; simpa using he)
  rwa [show i - 1 + 1 = i by omega] at this
theorem stay_at {zs rs : List Int} {i f : Nat} {x y : Int} (h1 : 1 ≤ i) (h : stt zs (i - 1) = (rs, f)) (hi : i < zs.length) (hx : zs[i]? = some x) (hy : zs[f]? = some y) (he : (x != y) = false) : stt zs i = (rs, f) := by
  have := stt_stay h (by omega) (by rw [show i - 1 + 1 = i by omega]; simp only [List.getD, hx, hy]; simpa using he)
  rwa [show i - 1 + 1 = i by omega] at this
theorem last_at {zs rs : List Int} {i f : Nat} (h1 : 1 ≤ i) (h : stt zs (i - 1) = (rs, f)) (hi : i = zs.length) : stt zs i = (rs ++ [(i : Int) - (f : Int)], i) := by
  have := stt_last h (by omega)
  rwa [show i - 1 + 1 = i by omega] at this
theorem from_le {zs rs : List Int} {i f : Nat} (h : stt zs i = (rs, f)) (hi : i < zs.length) : f ≤ i := by
  have := (stt_inv zs i hi).1; rw [h] at this; exact this
theorem runs_small (zs : List Int) (i : Nat) (h : i < zs.length) : (stt zs i).1.length ≤ i := by
  induction i with
  | zero => simp [stt]
  | succ i ih =>
    have := ih (by omega)
    simp only [stt, rstp]
    split <;> simp <;> omega

end Go.Proofs.Ytffhhegpkejdgaa

/- The contracts of bits.Runs and bits.Longest. -/
namespace Go.Proofs.Ytffhhegpkejdgaa
open Go.RowKit

/-- Within a run that began at f: m of it are alike. -/
def Within (zs rs : List Int) (f m : Nat) : Prop := m = 0 ∨ stt zs (f + m - 1) = (rs, f)
theorem Within.stay {zs rs : List Int} {f m : Nat} {x y : Int} (h : Within zs rs f m) (h0 : stt zs f = (rs, f)) (hl : f + m < zs.length) (hx : zs[f + m]? = some x) (hy : zs[f]? = some y) (he : (x != y) = false) : Within zs rs f (m + 1) := by
  rcases Nat.eq_zero_or_pos m with rfl | hm
  · exact .inr h0
  · rcases h with h | h
    · omega
    · exact .inr (stay_at (i := f + m) (by omega) h hl hx hy he)
theorem Within.cut {zs rs : List Int} {f m : Nat} {x y : Int} (h : Within zs rs f m) (hx : zs[f + m]? = some x) (hy : zs[f]? = some y) (he : (x != y) = true) : 1 ≤ m ∧ stt zs (f + m) = (rs ++ [(m : Int)], f + m) := by
  rcases Nat.eq_zero_or_pos m with rfl | hm
  · rw [Nat.add_zero, hy] at hx; injection hx with hx; subst hx; simp at he
  · rcases h with h | h
    · omega
    · refine ⟨hm, ?_⟩
      have := rcut_at (i := f + m) (by omega) h hx hy he
      rw [this]; congr 3; omega
theorem Within.last {zs rs : List Int} {f m : Nat} (h : Within zs rs f m) (hm : 1 ≤ m) (he : f + m = zs.length) : stt zs (f + m) = (rs ++ [(m : Int)], f + m) := by
  rcases h with h | h
  · omega
  · rw [last_at (i := f + m) (by omega) h he]; congr 3; omega

set_option maxHeartbeats 1000000 in
theorem runs_ok (A : Option Addr) (n cap : Nat) (zs : List Int) (w : World) (hr : Il w A n zs) (hn : n ≤ 100000) :
    Calls Try.prog 80 #[.slice A n cap] w (SlOne (runs zs) w) := by
  go_enter Try.func80, Try.ntmps80
  go_wp2
  go_step3
  go_wp2
  go_step3
  go_wp2
  go_loopg [3, 4] n (fun g s3 s4 wx => ∃ (f : Nat) (rs : List Int), f + g = n ∧ s4 = .int .i64 f ∧ stt zs f = (rs, f) ∧ rs.length ≤ f ∧ Own wx w.heap.size s3 rs ∧ Below w.heap.size w wx)
  case atStart => exact ⟨0, [], by omega, rfl, rfl, Nat.le_refl _, Own.nil _ _, Below.refl _ _⟩
  case round =>
    obtain ⟨f, rs, hfg, rfl, hst, hrl, hown, hbel⟩ := hrel
    have HR := Lib.hid hr; have HS := Lib.hid hst
    clear hr hst
    cases gk with
    | zero =>
      have hz : ¬ ((f : Int) < (n : Int)) := by omega
      obtain ⟨A', cap', rfl, hil⟩ := hown.il
      have HI := Lib.hid hil; have HW := Lib.hid hown
      clear hil hown
      go_wp2
      go_ret
      have e : runs zs = rs := by unfold runs; rw [HR.out.1, show n = f by omega, HS.out]
      unfold SlOne
      rw [e]
      exact ⟨A', cap', rfl, HI.out, hbel⟩
    | succ g =>
      have HW := Lib.hid hown
      clear hown
      have hz : (f : Int) < (n : Int) := by omega
      have hsz := hbel.size
      go_wp2
      go_loopg [3, 4, 14] (g + 1) (fun g2 t3 t4 t14 wy => ∃ (m : Nat), m + g2 = g + 1 ∧ t4 = .int .i64 f ∧ t14 = .int .i64 m ∧ Within zs rs f m ∧ Own wy w.heap.size t3 rs ∧ Below w.heap.size w wy)
      case atStart => exact ⟨0, by omega, rfl, rfl, .inl rfl, HW.out, hbel⟩
      case round =>
        obtain ⟨m, hmg, rfl, rfl, hwi, hw2, hb2⟩ := hrel
        have HI := Lib.hid hwi; have HW2 := Lib.hid hw2
        clear hwi hw2 HW hbel hsz
        have hsz2 := hb2.size
        cases gk with
        | zero =>
          have hz2 : ¬ ((m : Int) < (n : Int) - (f : Int)) := by omega
          go_wp2_with (at_builtin; (refine append_ints _ rfl (.tmp 36) (.tmp 41) rfl w.heap.size _ rs rfl (HW2.out.alloc _) _ 1 1 [(n : Int) - (f : Int)] rfl (Arr.new wr .i64 3 [(n : Int) - (f : Int)]).il (by omega) (by simp; omega) ?_); intro v1 w1 ho hg1)
          obtain ⟨A', cap', rfl, hil⟩ := ho.il
          go_ret
          have e : runs zs = rs ++ [(n : Int) - (f : Int)] := by
            have h1 := HI.out.last (by omega) (by rw [HR.out.1]; omega)
            rw [show f + m = n by omega] at h1
            unfold runs
            rw [HR.out.1, h1, show (n : Int) - (f : Int) = (m : Int) by omega]
          unfold SlOne
          rw [e]
          exact ⟨A', cap', rfl, hil, (hb2.alloc hsz2 _).grown hg1 (by simp; omega) HW2.out.row⟩
        | succ g2 =>
          have hz2 : (m : Int) < (n : Int) - (f : Int) := by omega
          obtain ⟨ad, x, rfl, hx, hc⟩ := (HR.out.below hb2).at_ (show f + m < n by omega)
          obtain ⟨ad', y, e, hy, hd⟩ := (HR.out.below hb2).at_ (show f < n by omega)
          injection e with e; subst e
          have HX := Lib.hid hx; have HY := Lib.hid hy
          clear hx hy
          have e1 : IntKind.i64.wrap ((f : Int) + (m : Int)) = (f : Int) + (m : Int) := IntWalk.i64_in _ (by omega)
          have e2 : ((f : Int) + (m : Int)).toNat = f + m := by omega
          cases hxy : (x != y)
          · go_wp2
            go_quiet (fail)
            clear e1 e2
            go_wp2
            go_roundg g2
            case measure => omega
            case rel => exact ⟨m + 1, by omega, rfl, by go_num, HI.out.stay HS.out (by rw [HR.out.1]; omega) HX.out HY.out hxy, HW2.out, belowN hb2 _⟩
          · go_wp2
            go_quiet (fail)
            clear e1 e2
            have HW3 := Lib.hid (show Own (wr.drewN nq) w.heap.size _ rs from HW2.out)
            have hb3 : Below w.heap.size w (wr.drewN nq) := belowN hb2 nq
            clear HW2 hb2
            generalize wr.drewN nq = w3 at *
            have hsz3 := hb3.size
            go_wp2_with (at_builtin; (refine append_ints _ rfl (.tmp 28) (.tmp 30) rfl w.heap.size _ rs rfl (HW3.out.alloc _) _ 1 1 [(m : Int)] rfl (Arr.new w3 .i64 3 [(m : Int)]).il (by omega) (by simp; omega) ?_); intro v1 w1 ho hg1)
            have hq := HI.out.cut HX.out HY.out hxy
            go_roundg (g + 1 - m)
            case measure => omega
            case rel => exact ⟨f + m, _, by omega, by go_num, hq.2, by simp; omega, ho, (hb3.alloc hsz3 _).grown hg1 (by simp; omega) HW3.out.row⟩
end Go.Proofs.Ytffhhegpkejdgaa

/- The contract of bits.Longest. -/
namespace Go.Proofs.Ytffhhegpkejdgaa
open Go.RowKit

theorem most_step (rs : List Int) (k : Nat) (z : Int) (h : rs[k]? = some z) : most (rs.take (k + 1)) = max (most (rs.take k)) z := by
  rw [List.take_add_one, h]; exact most_snoc _ _
theorem runs_len (zs : List Int) : (runs zs).length ≤ zs.length := by
  rw [runs_cnt]
  suffices h : ∀ (l : List Int) (p : Option Int), rcnt p l ≤ l.length from h zs none
  intro l
  induction l with
  | nil => intro p; simp [rcnt]
  | cons x l ih => intro p; have := ih (some x); simp only [rcnt, List.length_cons]; split <;> omega

set_option maxHeartbeats 400000 in
theorem longest_ok (A : Option Addr) (n cap : Nat) (zs : List Int) (w : World) (hr : Il w A n zs) (hn : n ≤ 100000) :
    Calls Try.prog 78 #[.slice A n cap] w fun e w' => e = .returned (.int .i64 (most (runs zs))) ∧ Below w.heap.size w w' := by
  have hrl := runs_len zs
  rw [hr.1] at hrl
  go_enter Try.func78, Try.ntmps78
  go_wp2_with (go_at_call 80; (with_reducible refine (runs_ok _ _ _ _ _ hr (by omega)).mono ?_); rintro e w1 ⟨A1, cap1, rfl, hi1, hb1⟩)
  have HR := Lib.hid hr; have HI := Lib.hid hi1
  clear hr hi1
  generalize hrs : runs zs = rs at *
  have HQ := Lib.hid hrs
  clear hrs
  go_loop [3, 9] (fun v i => ∃ k : Nat, k ≤ rs.length ∧ i = .int .i64 k ∧ v = .int .i64 (most (rs.take k))) (fun _ i => rs.length - (intOf i).toNat)
  case atStart => exact ⟨0, Nat.zero_le _, rfl, rfl⟩
  case round =>
    obtain ⟨k, hk, rfl, rfl⟩ := hrel
    by_cases hlt : k < rs.length
    · obtain ⟨ad, z, rfl, hz, hc⟩ := HI.out.at_ hlt
      have HS := Lib.hid (most_step rs k z hz)
      have HZ := Lib.hid hz
      clear hz
      generalize most (rs.take k) = m at *
      go_wp2
      go_round
      case rel => exact ⟨k + 1, by omega, by go_num, val_int (by rw [HS.out]; split <;> omega)⟩
      case measure => simp [intOf]; omega
    · have HS := Lib.hid (show rs.take k = rs from List.take_of_length_le (by omega))
      go_wp2
      go_ret
      exact ⟨ret_int (by rw [HS.out, HQ.out]), hb1⟩
end Go.Proofs.Ytffhhegpkejdgaa

/- The contracts of stuff.Count and stuff.Next. -/
namespace Go.Proofs.Ytffhhegpkejdgaa
open Go.RowKit

set_option maxHeartbeats 400000 in
theorem count_bad (A : Option Addr) (n cap : Nat) (zs : List Int) (w : World) (hr : Il w A n zs) (hn : n ≤ 10000) (hl : 0 ≤ chk zs) :
    Calls Try.prog 22 #[.slice A n cap] w fun e w' => e = .returned (.int .i64 0) ∧ w = w' := by
  go_enter Try.func22, Try.ntmps22
  go_wp2_with (go_at_call 41; (with_reducible refine (check_any _ _ _ _ _ hr (by omega)).mono ?_); rintro e w' ⟨rfl, rfl⟩)
  go_ret
  exact ⟨rfl, rfl⟩
set_option maxHeartbeats 400000 in
theorem count_ok (A : Option Addr) (n cap : Nat) (zs : List Int) (w : World) (hr : Il w A n zs) (hn : n ≤ 10000) (hl : ∀ z ∈ zs, lvl z = true) :
    Calls Try.prog 22 #[.slice A n cap] w fun e w' => e = .returned (.int .i64 (((stf zs).length : Int) - (n : Int))) ∧ Below w.heap.size w w' := by
  have HL := Lib.hid (show chk zs = -1 from fst_of_all lvl zs hl)
  have HV := Lib.hid hl
  have HR := Lib.hid hr
  have hsl := stf_len zs
  rw [hr.1] at hsl
  clear hl hr
  go_enter Try.func22, Try.ntmps22
  go_wp2_with fail
  refine (check_any _ _ _ _ _ HR.out (by omega)).mono ?_
  rintro e w' ⟨rfl, rfl⟩
  rw [HL.out]
  go_wp2_with fail
  refine (add_ok _ _ _ _ _ HR.out hn HV.out).mono ?_
  rintro e w1 ⟨A1, cap1, rfl, hi1, hc1, hb1⟩
  clear hi1
  generalize hm : (stf zs).length = m at *
  have HM := Lib.hid hm
  clear hm
  go_wp2
  go_ret
  exact ⟨by rw [HM.out]; rfl, hb1⟩

/-- What Next tells. -/
def nxs (t : List Int) : Bool := decide (chk t < 0 ∧ 5 ≤ alk t)
def nxl (t : List Int) : Int := if nxs t then 1 - lst t else 0
theorem nxs_bad {t : List Int} (h : 0 ≤ chk t) : nxs t = false ∧ nxl t = 0 := by
  have e : nxs t = false := by unfold nxs; simp; omega
  exact ⟨e, by unfold nxl; rw [e]; rfl⟩
theorem nxs_few {t : List Int} (h : alk t < 5) : nxs t = false ∧ nxl t = 0 := by
  have e : nxs t = false := by unfold nxs; simp; omega
  exact ⟨e, by unfold nxl; rw [e]; rfl⟩
theorem nxs_yes {t : List Int} (h : chk t < 0) (h5 : 5 ≤ alk t) : nxs t = true ∧ nxl t = 1 - lst t := by
  have e : nxs t = true := by unfold nxs; simp; omega
  exact ⟨e, by unfold nxl; rw [e]; rfl⟩
theorem five_runs (a b c d e : Int) (ha : a = 0 ∨ a = 1) (hb : b = 0 ∨ b = 1) (hc : c = 0 ∨ c = 1) (hd : d = 0 ∨ d = 1) (he : e = 0 ∨ e = 1) :
    (b = a ∧ c = a ∧ d = a ∧ e = a ∧ most (runs [a, b, c, d, e]) = 5) ∨ (¬ (b = a ∧ c = a ∧ d = a ∧ e = a) ∧ most (runs [a, b, c, d, e]) < 5) := by
  rcases ha with rfl | rfl <;> rcases hb with rfl | rfl <;> rcases hc with rfl | rfl <;> rcases hd with rfl | rfl <;> rcases he with rfl | rfl <;> decide
theorem drop_five {t : List Int} (h : 5 ≤ t.length) : t.drop (t.length - 5) = [t.getD (t.length - 5) 0, t.getD (t.length - 4) 0, t.getD (t.length - 3) 0, t.getD (t.length - 2) 0, t.getD (t.length - 1) 0] := by
  apply List.ext_getElem
  · simp; omega
  · intro i h1 h2
    simp at h2
    rw [List.getElem_drop]
    match i, h2 with
    | 0, _ => simp [List.getD, show t.length - 5 < t.length by omega]
    | 1, _ => simp [List.getD, show t.length - 4 < t.length by omega]; congr 1; omega
    | 2, _ => simp [List.getD, show t.length - 3 < t.length by omega]; congr 1; omega
    | 3, _ => simp [List.getD, show t.length - 2 < t.length by omega]; congr 1; omega
    | 4, _ => simp [List.getD, show t.length - 1 < t.length by omega]; congr 1; omega
theorem getD_lvl {t : List Int} (h : ∀ z ∈ t, lvl z = true) {i : Nat} (hi : i < t.length) : t.getD i 0 = 0 ∨ t.getD i 0 = 1 := lvl_01 (h _ (List.mem_of_getElem? (getD_some t i hi)))
theorem five_most {t : List Int} (h : 5 ≤ t.length) (hl : ∀ z ∈ t, lvl z = true) : (5 ≤ alk t ∧ most (runs (t.drop (t.length - 5))) = 5) ∨ (alk t < 5 ∧ most (runs (t.drop (t.length - 5))) < 5) := by
  rw [drop_five h]
  rcases five_runs _ _ _ _ _ (getD_lvl hl (i := t.length - 5) (by omega)) (getD_lvl hl (i := t.length - 4) (by omega)) (getD_lvl hl (i := t.length - 3) (by omega)) (getD_lvl hl (i := t.length - 2) (by omega)) (getD_lvl hl (i := t.length - 1) (by omega)) with ⟨h1, h2, h3, h4, h5⟩ | ⟨h1, h5⟩
  · refine .inl ⟨?_, h5⟩
    rcases Nat.lt_or_ge (alk t) 5 with ha | ha
    · obtain ⟨i, i1, i2, i3⟩ := five_no ha h
      exfalso
      apply i3
      rcases (by omega : i = t.length - 4 ∨ i = t.length - 3 ∨ i = t.length - 2 ∨ i = t.length - 1) with rfl | rfl | rfl | rfl <;> assumption
    · exact ha
  · refine .inr ⟨?_, h5⟩
    rcases Nat.lt_or_ge (alk t) 5 with ha | ha
    · exact ha
    · obtain ⟨_, hf⟩ := five_yes ha
      exfalso
      apply h1
      rw [hf (t.length - 5) (by omega) (by omega), hf (t.length - 4) (by omega) (by omega), hf (t.length - 3) (by omega) (by omega), hf (t.length - 2) (by omega) (by omega), hf (t.length - 1) (by omega) (by omega)]
      exact ⟨rfl, rfl, rfl, rfl⟩

set_option maxHeartbeats 800000 in
theorem next_any5 (A : Option Addr) (n cap : Nat) (zs : List Int) (w : World) (hr : Il w A n zs) (hn : n ≤ 10000) (hcap : n ≤ cap) :
    Calls Try.prog 68 #[.slice A n cap] w fun e w' => e = .returned (.tuple #[.bool (nxs zs), .int .i64 (nxl zs)]) ∧ Below w.heap.size w w' := by
  by_cases h5 : n < 5
  · obtain ⟨e1, e2⟩ := nxs_few (show alk zs < 5 by have := (alk_spec zs).1; rw [hr.1] at this; omega)
    rw [e1, e2]
    go_enter Try.func68, Try.ntmps68
    go_wp2_with fail
    go_ret2
    exact ⟨rfl, Below.refl _ _⟩
  · obtain ⟨k, rfl⟩ : ∃ k, n = k + 5 := ⟨n - 5, by omega⟩
    obtain ⟨ad, rfl, hlt, hcl⟩ := hr.2 (by omega)
    have HR := Lib.hid hr
    have HLN := Lib.hid hr.1
    have hq0 : decide (((k : Int) + 5) - 5 < 0) = false := by simp
    rcases Int.lt_or_le (chk zs) 0 with hk | hk
    · have HV := Lib.hid (fst_neg lvl zs hk)
      have HK := Lib.hid hk
      have HC := Lib.hid (show chk zs = -1 from fst_of_all lvl zs HV.out)
      have HM := Lib.hid (five_most (t := zs) (by rw [HLN.out]; omega) HV.out)
      have HD := Lib.hid (show Il w (some (ad.add k)) 5 (zs.drop k) from by have h := HR.out.drop k (by omega); rwa [Nat.add_sub_cancel_left] at h)
      have hck := hcl k (by omega)
      have HZ := Lib.hid (getD_lvl HV.out (i := k) (by rw [HLN.out]; omega))
      rw [HLN.out, Nat.add_sub_cancel] at HM
      clear hr hcl hlt hk
      go_enter Try.func68, Try.ntmps68
      go_wp2_with fail
      refine (check_any _ _ _ _ _ HR.out (by omega)).mono ?_
      rintro e w' ⟨rfl, rfl⟩
      rw [HC.out]
      go_wp2_with fail
      refine (longest_ok _ _ _ _ _ HD.out (by omega)).mono ?_
      rintro e w1 ⟨rfl, hb1⟩
      rcases HM.out with ⟨h1, h2⟩ | ⟨h1, h2⟩
      · obtain ⟨e1, e2⟩ := nxs_yes HK.out h1
        have hls := (five_yes h1).2 k (by rw [HLN.out]; omega) (by rw [HLN.out]; omega)
        rw [h2]
        rw [← hls] at e2
        have HE := Lib.hid (And.intro e1 e2)
        have hc1 : w1.cell? (ad.add k) = some (.int .i64 (zs.getD k 0)) := by
          obtain ⟨ad', e3, _, hc⟩ := (HR.out.below hb1).2 (by omega)
          injection e3 with e3
          subst e3
          exact hc k (by omega)
        clear h1 h2 hls e1 e2 hck
        generalize zs.getD k 0 = z at *
        go_wp2_with fail
        refine (other_any z _ HZ.out).mono ?_
        rintro e w' ⟨rfl, rfl⟩
        go_wp2
        go_ret2
        exact ⟨by rw [HE.out.1, HE.out.2]; rfl, hb1⟩
      · obtain ⟨e1, e2⟩ := nxs_few h1
        have HE := Lib.hid (And.intro e1 e2)
        generalize most (runs (zs.drop k)) = m at *
        clear h1 e1 e2
        go_wp2
        go_ret2
        exact ⟨by rw [HE.out.1, HE.out.2]; rfl, hb1⟩
    · obtain ⟨e1, e2⟩ := nxs_bad hk
      rw [e1, e2]
      go_enter Try.func68, Try.ntmps68
      go_wp2_with fail
      refine (check_any _ _ _ _ _ HR.out (by omega)).mono ?_
      rintro e w' ⟨rfl, rfl⟩
      go_wp2
      go_ret2
      exact ⟨rfl, Below.refl _ _⟩
end Go.Proofs.Ytffhhegpkejdgaa

