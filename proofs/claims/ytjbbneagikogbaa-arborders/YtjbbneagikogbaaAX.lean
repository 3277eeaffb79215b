/- The contract of the reference's Wins. -/
import Derived.Test.YtjbbneagikogbaaAV
import Derived.Test.YtjbbneagikogbaaFw
import Derived.Test.YtjbbneagikogbaaRa
namespace Go.Proofs.Ytjbbneagikogbaa
open Go.RowKit

theorem asI_range (k : Nat) : asI (List.range k) ++ [(k : Int)] = asI (List.range (k + 1)) := by rw [List.range_succ, asI_app]; rfl
theorem own_empty (w : World) (base : Nat) (hb : base ≤ w.heap.size) : Own (w.alloc (.cells #[] 3)) base (.slice (some ⟨w.heap.size, 0, none⟩) 0 0) [] := by
  have := Own.lit w base [] hb (by simp)
  simpa using this
theorem getD_some' {l : List Nat} {t : Nat} (h : t < l.length) : l[t]? = some (l.getD t 0) := by simp [h]
theorem filt_step {l : List Nat} {t i : Nat} (c : Nat → Bool) (h : l[t]? = some i) : (c i = true → (l.take (t + 1)).filter c = (l.take t).filter c ++ [i]) ∧ (c i = false → (l.take (t + 1)).filter c = (l.take t).filter c) := by
  rw [List.take_add_one, h, Option.toList_some, List.filter_append]
  constructor <;> intro hc <;> simp [hc]
theorem sep_new {w : World} {base g n c n' c' : Nat} {zs : List Int} (h : Own w base (.slice (some ⟨g, 0, none⟩) n c) zs) : Sep (.slice (some ⟨g, 0, none⟩) n c) (.slice (some ⟨w.heap.size, 0, none⟩) n' c') := by
  have := (World.ownsRow.lt h g rfl).2
  refine .inr fun e => ?_
  injection e with e
  simp at e
  omega

set_option maxRecDepth 100000 in
set_option maxHeartbeats 6400000 in
theorem rwins_any (fs : Nat → Fr) (A : Option Addr) (n cap : Nat) (w : World) (hr : Fl w A n fs) (hn : n ≤ 100) (hmay : ∀ i, i < n → (fs i).may = true) (m : Nat) (hw : Wns (fun i => (fs i).lv) n m) :
    Calls Try.prog 19 #[.slice A n cap] w fun e w' => e = .returned (.int .i64 m) ∧ Below w.heap.size w w' := by
  have HR := Lib.hid hr; have HM := Lib.hid hmay; have HW := Lib.hid hw
  have HO0 := Lib.hid (own_empty w w.heap.size (Nat.le_refl _))
  have HB0 := Lib.hid ((Below.refl w.heap.size w).alloc (Nat.le_refl _) (.cells #[] 3))
  clear hr hmay hw
  go_enter Try.func19, Try.ntmps19
  go_wp2
  go_loopw [3, 4] (fun v vi wr => ∃ k : Nat, k ≤ n ∧ vi = .int .i64 k ∧ Own wr w.heap.size v (asI (List.range k)) ∧ Below w.heap.size w wr) (fun _ vi _ => n - (intOf vi).toNat)
  case atStart => exact ⟨0, Nat.zero_le _, rfl, HO0.out, HB0.out⟩
  case round =>
    obtain ⟨k, hk, rfl, ho, hb⟩ := hrel
    have HO := Lib.hid ho; have HB := Lib.hid hb
    clear ho hb
    by_cases hlt : k < n
    · have hlt' : (k : Int) < (n : Int) := by omega
      have HN := Lib.hid (Arr.new wr .i64 3 [(k : Int)]).il
      have hs := HB.out.size
      go_wp2_with (first
        | (at_builtin; (refine append_ints2 _ rfl (.tmp 19) (.tmp 21) rfl w.heap.size u3 (asI (List.range k)) rfl (HO.out.alloc _) _ 1 1 [(k : Int)] rfl HN.out (by rw [asI_len]; simp; omega) (by simp; omega) ?_); intro v2 w2 ho2 hg2 _; have HB2 := Lib.hid (push_lit HB.out hs HO.out hg2); rw [asI_range] at ho2; have HO2 := Lib.hid ho2; clear ho2 hg2)
        | fail)
      go_roundw
      case rel => exact ⟨k + 1, by omega, by go_num, HO2.out, HB2.out⟩
      case measure => simp [intOf]; omega
    · obtain rfl : n = k := by omega
      rename World => wo
      go_wp2
      go_loopw [3, 5] (fun vl vk wr => ∃ k : Nat, k ≤ 32 ∧ vk = .int .i64 k ∧ Own wr w.heap.size vl (asI (lf (fun i => (fs i).lv) n m k)) ∧ Below w.heap.size w wr) (fun _ vk _ => 32 - (intOf vk).toNat)
      case atStart => exact ⟨0, Nat.zero_le _, rfl, by rw [lf_zero]; exact HO.out, HB.out⟩
      case round =>
        obtain ⟨k, hk, rfl, ho, hb⟩ := hrel
        have HOL := Lib.hid ho; have HBL := Lib.hid hb
        clear ho hb
        obtain ⟨T, hT⟩ : ∃ T, (lf (fun i => (fs i).lv) n m k).length = T := ⟨_, rfl⟩
        by_cases hgo : k < 32 ∧ 1 < T
        · obtain ⟨hk32, hT1⟩ := hgo
          obtain ⟨g, c, rfl, hg, hc⟩ := HOL.out.shape (by rw [asI_len, hT]; omega)
          rw [asI_len, hT] at HOL ⊢
          have HT := Lib.hid hT
          have HLT := Lib.hid (fun i => @lf_lt (fun i => (fs i).lv) n m k i HW.out (by rw [hT]; exact hT1))
          have HLW := Lib.hid (fun x => @lf_wir (fun i => (fs i).lv) n m k HW.out (fun i => lv_all (fs i)) (by rw [hT]; exact hT1) x)
          have HST := Lib.hid (@lf_step (fun i => (fs i).lv) n m k)
          have HMEM := Lib.hid (fun i => @lf_mem (fun i => (fs i).lv) n m k i)
          have HLM := Lib.hid (@lf_m (fun i => (fs i).lv) n m k HW.out)
          have HTN := Lib.hid (show T ≤ n by rw [← hT]; exact lf_len)
          have hTT := HTN.out
          generalize lf (fun i => (fs i).lv) n m k = ls at *
          clear hT
          have hTn : T ≤ 100 := by omega
          have hT1' : (1 : Int) < (T : Int) := by omega
          have hk32' : (k : Int) < 32 := by omega
          obtain ⟨x, hx⟩ : ∃ x, (fs m).lv[k]? = some x := ⟨_, List.getElem?_eq_getElem (HLT.out m HLM.out).2⟩
          have HX := Lib.hid hx
          have HWX := Lib.hid (HLW.out x hx)
          clear hx hc
          rename World => wo2
          go_wp2
          go_loopw [6, 7] (fun vw vt wr => ∃ t : Nat, t ≤ T ∧ vt = .int .i64 t ∧ vw = .int .i64 (wir ((ls.map fun i => (fs i).lv.getD k 1).take t)) ∧ Own wr w.heap.size (.slice (some ⟨g, 0, none⟩) T c) (asI ls) ∧ Below w.heap.size w wr) (fun _ vt _ => T - (intOf vt).toNat)
          case atStart => exact ⟨0, Nat.zero_le _, rfl, rfl, HOL.out, HBL.out⟩
          case round =>
            obtain ⟨t, ht, rfl, rfl, ho, hb⟩ := hrel
            have HO3 := Lib.hid ho; have HB3 := Lib.hid hb
            clear ho hb
            by_cases htT : t < T
            · have htT' : (t : Int) < (T : Int) := by omega
              obtain ⟨i, hi⟩ : ∃ i, ls[t]? = some i := ⟨_, getD_some' (by rw [HT.out]; exact htT)⟩
              have hmem := List.mem_of_getElem? hi
              obtain ⟨hin, _⟩ := (HMEM.out i).1 hmem
              obtain ⟨hki, _⟩ := HLT.out i hmem
              obtain ⟨z, hz⟩ : ∃ z, (fs i).lv[k]? = some z := ⟨_, List.getElem?_eq_getElem hki⟩
              have HCL := Lib.hid (show ∀ w' : World, Own w' w.heap.size (.slice (some ⟨g, 0, none⟩) T c) (asI ls) → w'.cell? ⟨g, t, none⟩ = some (.int .i64 (i : Int)) from fun w' h => by
                have h2 := h.cell (j := t) (by rw [asI_len, HT.out]; exact htT)
                rw [asI_getD] at h2
                rw [h2]
                simp [List.getD, hi])
              have cl := HCL.out _ HO3.out
              obtain ⟨ad, rfl, hl, c0, c1, c2, c3, c4, c5, c6, c7, c8, c9, c10, c11⟩ := (HR.out.below HB3.out).at_ hin
              have hin' : (i : Int) < (n : Int) := by omega
              obtain ⟨s1, s2⟩ := wir_step (zs := ls.map fun i => (fs i).lv.getD k 1) (k := t) (z := z) (by simp [hi, List.getD, hz])
              have HKI := Lib.hid hki; have HZ := Lib.hid hz
              clear hi hmem hl hki hz
              generalize wir ((ls.map fun i => (fs i).lv.getD k 1).take t) = wv at *
              cases h0 : (z == 0)
              · have HS := Lib.hid (s2 (by simpa using h0))
                clear s1 s2
                go_wp2_with fail
                refine (rarb_ok (fs i) _ (HM.out i hin)).mono ?_
                rintro e w4 ⟨A4, cap4, rfl, hi4, hb4⟩
                obtain ⟨ad4, z4, rfl, hz4, hc4⟩ := hi4.at_ (k := k) (by have := HKI.out; rw [lv_len] at this; rw [ofB_len]; exact this)
                obtain rfl : z4 = z := by
                  have h := HZ.out
                  unfold Fr.lv at h
                  rw [h] at hz4
                  injection hz4 with hz4
                  exact hz4.symm
                have hkl : (k : Int) < ((ofB (fs i).num (fs i).wid).length : Int) := by have := HKI.out; unfold Fr.lv at this; omega
                have hkn : k < (ofB (fs i).num (fs i).wid).length := HKI.out
                have HB4 := Lib.hid (nxt HB3.out hb4)
                have HO4 := Lib.hid (HO3.out.below hb4)
                have HBB4 := Lib.hid hb4
                clear hz4 hi4 hb4 c0 c1 c2 c3 c4 c5 c6 c7 c8 c9 c10 c11 cl
                generalize (ofB (fs i).num (fs i).wid).length = nn at *
                go_wp2
                go_roundw
                case rel => exact ⟨t + 1, by omega, by go_num, by rw [HS.out], HO4.out, HB4.out⟩
                case measure => simp [intOf]; omega
              · have HS := Lib.hid (s1 (by simpa using h0))
                clear s1 s2
                go_wp2_with fail
                refine (rarb_ok (fs i) _ (HM.out i hin)).mono ?_
                rintro e w4 ⟨A4, cap4, rfl, hi4, hb4⟩
                obtain ⟨ad4, z4, rfl, hz4, hc4⟩ := hi4.at_ (k := k) (by have := HKI.out; rw [lv_len] at this; rw [ofB_len]; exact this)
                obtain rfl : z4 = z := by
                  have h := HZ.out
                  unfold Fr.lv at h
                  rw [h] at hz4
                  injection hz4 with hz4
                  exact hz4.symm
                have hkl : (k : Int) < ((ofB (fs i).num (fs i).wid).length : Int) := by have := HKI.out; unfold Fr.lv at this; omega
                have hkn : k < (ofB (fs i).num (fs i).wid).length := HKI.out
                have HB4 := Lib.hid (nxt HB3.out hb4)
                have HO4 := Lib.hid (HO3.out.below hb4)
                have HBB4 := Lib.hid hb4
                clear hz4 hi4 hb4 c0 c1 c2 c3 c4 c5 c6 c7 c8 c9 c10 c11 cl
                generalize (ofB (fs i).num (fs i).wid).length = nn at *
                go_wp2
                go_roundw
                case rel => exact ⟨t + 1, by omega, by go_num, by rw [HS.out], HO4.out, HB4.out⟩
                case measure => simp [intOf]; omega
            · obtain rfl : T = t := by omega
              have HWT := Lib.hid (show wir ((ls.map fun i => (fs i).lv.getD k 1).take T) = x by rw [List.take_of_length_le (by rw [List.length_map, HT.out]; exact Nat.le_refl _)]; exact HWX.out)
              rw [HWT.out]
              rename World => wo3
              have HE := Lib.hid (own_empty wo3 w.heap.size HB3.out.size)
              have HSEP := Lib.hid (sep_new (n' := 0) (c' := 0) HO3.out)
              go_wp2
              go_loopw [9, 10] (fun vs vt wr => ∃ t : Nat, t ≤ T ∧ vt = .int .i64 t ∧ Own wr w.heap.size vs (asI ((ls.take t).filter fun i => (fs i).lv[k]? == (fs m).lv[k]?)) ∧ Sep (.slice (some ⟨g, 0, none⟩) T c) vs ∧ Own wr w.heap.size (.slice (some ⟨g, 0, none⟩) T c) (asI ls) ∧ Below w.heap.size w wr) (fun _ vt _ => T - (intOf vt).toNat)
              case atStart => exact ⟨0, Nat.zero_le _, rfl, HE.out, HSEP.out, HO3.out.alloc _, HB3.out.alloc HB3.out.size _⟩
              case round =>
                clear HO3 HB3
                obtain ⟨t, ht, rfl, hos, hsep, ho, hb⟩ := hrel
                have HO3 := Lib.hid ho; have HB3 := Lib.hid hb; have HOS := Lib.hid hos; have HSP := Lib.hid hsep
                clear ho hb hos hsep
                by_cases htT : t < T
                · have htT' : (t : Int) < (T : Int) := by omega
                  obtain ⟨i, hi⟩ : ∃ i, ls[t]? = some i := ⟨_, getD_some' (by rw [HT.out]; exact htT)⟩
                  have hmem := List.mem_of_getElem? hi
                  obtain ⟨hin, _⟩ := (HMEM.out i).1 hmem
                  obtain ⟨hki, _⟩ := HLT.out i hmem
                  obtain ⟨z, hz⟩ : ∃ z, (fs i).lv[k]? = some z := ⟨_, List.getElem?_eq_getElem hki⟩
                  have HCL := Lib.hid (show ∀ w' : World, Own w' w.heap.size (.slice (some ⟨g, 0, none⟩) T c) (asI ls) → w'.cell? ⟨g, t, none⟩ = some (.int .i64 (i : Int)) from fun w' h => by
                    have h2 := h.cell (j := t) (by rw [asI_len, HT.out]; exact htT)
                    rw [asI_getD] at h2
                    rw [h2]
                    simp [List.getD, hi])
                  have cl := HCL.out _ HO3.out
                  obtain ⟨ad, rfl, hl, c0, c1, c2, c3, c4, c5, c6, c7, c8, c9, c10, c11⟩ := (HR.out.below HB3.out).at_ hin
                  have hin' : (i : Int) < (n : Int) := by omega
                  obtain ⟨s1, s2⟩ := filt_step (fun i => (fs i).lv[k]? == (fs m).lv[k]?) hi
                  have cz : ((fs i).lv[k]? == (fs m).lv[k]?) = (z == x) := by rw [hz, HX.out]; simp
                  have HKI := Lib.hid hki; have HZ := Lib.hid hz
                  clear hi hmem hl hki hz
                  cases h0 : (z == x)
                  · have HS := Lib.hid (s2 (cz.trans h0))
                    clear s1 s2 cz
                    go_wp2_with fail
                    refine (rarb_ok (fs i) _ (HM.out i hin)).mono ?_
                    rintro e w4 ⟨A4, cap4, rfl, hi4, hb4⟩
                    obtain ⟨ad4, z4, rfl, hz4, hc4⟩ := hi4.at_ (k := k) (by have := HKI.out; rw [lv_len] at this; rw [ofB_len]; exact this)
                    obtain rfl : z4 = z := by
                      have h := HZ.out
                      unfold Fr.lv at h
                      rw [h] at hz4
                      injection hz4 with hz4
                      exact hz4.symm
                    have hkl : (k : Int) < ((ofB (fs i).num (fs i).wid).length : Int) := by have := HKI.out; unfold Fr.lv at this; omega
                    have hkn : k < (ofB (fs i).num (fs i).wid).length := HKI.out
                    have HB4 := Lib.hid (nxt HB3.out hb4)
                    have HO4 := Lib.hid (HO3.out.below hb4)
                    have HBB4 := Lib.hid hb4
                    clear hz4 hi4 hb4 c0 c1 c2 c3 c4 c5 c6 c7 c8 c9 c10 c11 cl
                    generalize (ofB (fs i).num (fs i).wid).length = nn at *
                    go_wp2
                    go_roundw
                    case rel => exact ⟨t + 1, by omega, by go_num, by rw [HS.out]; exact HOS.out.below HBB4.out, HSP.out, HO4.out, HB4.out⟩
                    case measure => simp [intOf]; omega
                  · have HS := Lib.hid (s1 (cz.trans h0))
                    clear s1 s2 cz
                    go_wp2_with fail
                    refine (rarb_ok (fs i) _ (HM.out i hin)).mono ?_
                    rintro e w4 ⟨A4, cap4, rfl, hi4, hb4⟩
                    obtain ⟨ad4, z4, rfl, hz4, hc4⟩ := hi4.at_ (k := k) (by have := HKI.out; rw [lv_len] at this; rw [ofB_len]; exact this)
                    obtain rfl : z4 = z := by
                      have h := HZ.out
                      unfold Fr.lv at h
                      rw [h] at hz4
                      injection hz4 with hz4
                      exact hz4.symm
                    have hkl : (k : Int) < ((ofB (fs i).num (fs i).wid).length : Int) := by have := HKI.out; unfold Fr.lv at this; omega
                    have hkn : k < (ofB (fs i).num (fs i).wid).length := HKI.out
                    have HB4 := Lib.hid (nxt HB3.out hb4)
                    have HO4 := Lib.hid (HO3.out.below hb4)
                    have HBB4 := Lib.hid hb4
                    clear hz4 hi4 hb4 c0 c1 c2 c3 c4 c5 c6 c7 c8 c9 c10 c11 cl
                    generalize (ofB (fs i).num (fs i).wid).length = nn at *
                    have cl := HCL.out _ HO4.out
                    have HOS4 := Lib.hid (HOS.out.below HBB4.out)
                    have HN := Lib.hid (Arr.new w4 .i64 3 [(i : Int)]).il
                    have hs4 := HB4.out.size
                    have HFL := Lib.hid (show ((ls.take t).filter fun i => (fs i).lv[k]? == (fs m).lv[k]?).length ≤ 100 from Nat.le_trans (List.length_filter_le _ _) (by rw [List.length_take]; omega))
                    go_wp2_with (first
                      | (at_builtin; (refine append_ints2 _ rfl (.tmp 84) (.tmp 89) rfl w.heap.size u9 (asI ((ls.take t).filter fun i => (fs i).lv[k]? == (fs m).lv[k]?)) rfl (HOS4.out.alloc _) _ 1 1 [(i : Int)] rfl HN.out (by rw [asI_len]; have := HFL.out; omega) (by simp; omega) ?_); intro v5 w5 ho5 hg5 hl5; have HB5 := Lib.hid (push_lit HB4.out hs4 HOS4.out hg5); have HO5 := Lib.hid ho5; have HL5 := Lib.hid ((HO4.out.alloc _).kept hg5 HSP.out); have HS5 := Lib.hid (HSP.out.lies (HO4.out.alloc _) hl5); clear ho5 hg5 hl5)
                      | fail)
                    go_roundw
                    case rel => exact ⟨t + 1, by omega, by go_num, by rw [HS.out, asI_app]; exact HO5.out, HS5.out, HL5.out, HB5.out⟩
                    case measure => simp [intOf]; omega
                · obtain rfl : T = t := by omega
                  have HF := Lib.hid HOS.out
                  rw [List.take_of_length_le (by rw [HT.out]; exact Nat.le_refl _), HST.out] at HF
                  go_wp2
                  go_roundw
                  case rel => exact ⟨k + 1, by omega, by go_num, HF.out, HB3.out⟩
                  case measure => simp [intOf]; omega
        · have HE := Lib.hid (lf_end (k := k) HW.out (fun i => by show (fs i).lv.length ≤ 32; rw [lv_len]; exact wid_32 _) (by rw [hT]; omega))
          have hT2 : T = 1 := by rw [← hT, HE.out]; rfl
          have hgo' : ¬ ((k : Int) < 32 ∧ (1 : Int) < (T : Int)) := by omega
          obtain ⟨g, c, rfl, hg, hc⟩ := HOL.out.shape (by rw [asI_len, hT]; omega)
          have c0 := HOL.out.cell (j := 0) (by rw [asI_len, hT]; omega)
          rw [asI_getD, HE.out] at c0
          change wr.cell? ⟨g, 0, none⟩ = some (.int .i64 (m : Int)) at c0
          rw [asI_len, hT, hT2]
          clear hT hT2 hgo hgo' hc
          by_cases hk32 : k < 32
          · have hk' : (k : Int) < 32 := by omega
            go_wp2
            go_ret
            exact ⟨rfl, HBL.out⟩
          · have hk' : ¬ (k : Int) < 32 := by omega
            go_wp2
            go_ret
            exact ⟨rfl, HBL.out⟩
end Go.Proofs.Ytjbbneagikogbaa
