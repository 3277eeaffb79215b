/- The walk of the law ArbWire. -/
import Derived.Test.YtjbbneagikogbaaAB
import Derived.Test.YtjbbneagikogbaaAT
import Derived.Test.YtjbbneagikogbaaAW7
import Derived.Test.YtjbbneagikogbaaAX
namespace Go.Proofs.Ytjbbneagikogbaa
open Go.RowKit

set_option maxRecDepth 100000 in
set_option maxHeartbeats 3200000 in
theorem awire_not (A : Option Addr) (n cap : Nat) (w : World) (r : Int) (hr : r ≠ 0) (hn : n ≤ 12) (h : Calls Try.prog 15 #[.slice A n cap] w fun e w' => e = .returned (.tuple #[.int .i64 0, .int .i64 r]) ∧ Below w.heap.size w w') :
    Calls Try.prog 6 #[.slice A n cap] w fun e w' => e = .returned (.bool true) ∧ Below w.heap.size w w' := by
  have H := Lib.hid h
  have g0 : decide ((12 : Int) < (n : Int)) = false := by simp; omega
  have g1 : (r != 0) = true := by simpa using hr
  clear h
  go_enter Try.func6, Try.ntmps6
  go_wp2_with fail
  refine H.out.mono ?_
  rintro e w1 ⟨rfl, hb1⟩
  have HB1 := Lib.hid hb1
  clear hb1
  go_wp2_with fail
  refine (awake7 _).mono ?_
  rintro e w2 ⟨rfl, hb2⟩
  go_wp2
  go_ret
  exact ⟨rfl, nxt HB1.out hb2⟩

set_option maxRecDepth 100000 in
set_option maxHeartbeats 12800000 in
theorem awire_ok (fs : Nat → Fr) (A : Option Addr) (n cap : Nat) (w : World) (hr : Fl w A n fs) (hn : n ≤ 12) (h0 : 0 < n) (hmay : ∀ i, i < n → (fs i).may = true) (hs : ¬ Same fs n) :
    Calls Try.prog 6 #[.slice A n cap] w fun e w' => e = .returned (.bool true) ∧ Below w.heap.size w w' := by
  have HR := Lib.hid hr; have HM := Lib.hid hmay; have HNS := Lib.hid hs
  have hmk := make22 n (by omega)
  have g0 : decide ((12 : Int) < (n : Int)) = false := by simp; omega
  clear hr hmay hs
  go_enter Try.func6, Try.ntmps6
  go_wp2_with fail
  refine (winner_ok fs A n cap _ HR.out hn HM.out h0 HNS.out).mono ?_
  rintro e w1 ⟨ps, rfl, hs1, hb1⟩
  have HB1 := Lib.hid hb1
  obtain ⟨m, hm⟩ : ∃ m, ps.getD 0 0 = m := ⟨_, rfl⟩
  have hmn : m < n := by rw [← hm]; exact hs1.lt h0
  have HW := Lib.hid (wns_of (m := m) HM.out hmn (fun i hi hne => by have := hs1.first hi (by rw [hm]; exact hne); rw [hm] at this; exact this))
  rw [hm]
  clear hs1 hb1 hm ps
  have m1 : decide ((m : Int) < 0) = false := by simp
  have m2 : decide ((n : Int) ≤ (m : Int)) = false := by simp; omega
  have m3 : (m : Int) < (n : Int) := by omega
  have m4 : decide (n ≤ m) = false := by simp; omega
  have m5 : ¬ n ≤ m := by omega
  have HV0 := Lib.hid (Vown.nil w1 w1.heap.size (Nat.le_refl _))
  have HBV := Lib.hid ((Below.refl w1.heap.size w1).alloc (Nat.le_refl _) (.cells #[] 22))
  go_wp2
  go_loopw [5, 6] (fun vr vi wr => ∃ k : Nat, k ≤ n ∧ vi = .int .i64 k ∧ Below w1.heap.size w1 wr ∧ ∃ vs : List Value, vs.length = k ∧ Vown wr w1.heap.size vr vs ∧ Rs wr vr vs fs k) (fun _ vi _ => n - (intOf vi).toNat)
  case atStart => exact ⟨0, Nat.zero_le _, rfl, HBV.out, [], rfl, HV0.out, fun j hj => by omega⟩
  case round =>
    clear HV0 HBV
    obtain ⟨k, hk, rfl, hb, vs, hvl, hv, hrs⟩ := hrel
    have HBR := Lib.hid hb; have HV := Lib.hid hv; have HRS := Lib.hid hrs; have HVL := Lib.hid hvl
    clear hb hv hrs
    by_cases hlt : k < n
    · have hlt' : (k : Int) < (n : Int) := by omega
      obtain ⟨ad, rfl, hl, c0, c1, c2, c3, c4, c5, c6, c7, c8, c9, c10, c11⟩ := (HR.out.below (nxt HB1.out HBR.out)).at_ hlt
      have HUL := Lib.hid (show ∀ g', u5.ownBlock = some g' → g' < wr.heap.size from fun g' h => (World.ownsRow.lt HV.out g' h).2)
      clear hl hvl
      go_wp2_with fail
      refine (arb_own (fs k) _ (HM.out k hlt)).mono ?_
      rintro e w3 ⟨g3, c3', rfl, hg3, hi3, hb3⟩
      have HB3 := Lib.hid (nxt HBR.out hb3); have HV3 := Lib.hid (HV.out.below hb3); have HRS3 := Lib.hid (HRS.out.below hb3); have HI3 := Lib.hid hi3
      have HNE := Lib.hid (show u5.ownBlock ≠ some g3 from fun h => by have := HUL.out g3 h; omega)
      have HC3 := Lib.hid (show (w3.alloc (.cells #[.slice (some ⟨g3, 0, none⟩) (fs k).wid c3'] 22)).cell? ⟨w3.heap.size, 0, none⟩ = some (.slice (some ⟨g3, 0, none⟩) (fs k).wid c3') by simp)
      have hs3 := HB3.out.size
      clear hi3 hb3 c0 c1 c2 c3 c4 c5 c6 c7 c8 c9 c10 c11
      go_wp2_with (first
        | (at_builtin; (refine append_V _ rfl (.tmp 52) (.tmp 54) rfl w1.heap.size u5 vs rfl (HV3.out.alloc _) ⟨w3.heap.size, 0, none⟩ 1 (some ⟨g3, 0, none⟩) (fs k).wid c3' rfl HC3.out (by have := HVL.out; omega) (by simp; omega) ?_); intro v5 w5 ho5 hg5 hl5; have HB5 := Lib.hid ((HB3.out.alloc hs3 _).grown hg5 (by simp; omega) (fun _ hk => HV3.out.row _ hk)); have HV5 := Lib.hid ho5; have HRS5 := Lib.hid (HRS3.out.push (c := c3') HVL.out HI3.out HNE.out hg5 hl5); clear ho5 hg5 hl5)
        | fail)
      go_roundw
      case rel => exact ⟨k + 1, by omega, by go_num, HB5.out, _, by rw [List.length_append, HVL.out]; rfl, HV5.out, HRS5.out⟩
      case measure => simp [intOf]; omega
    · obtain rfl : n = k := by omega
      obtain ⟨g, c, rfl, hg, hcs⟩ := HV.out.shape (by rw [hvl]; exact h0)
      have HRW := Lib.hid (show Rws wr g n fs from ⟨(World.ownsRow.lt HV.out g rfl).2, fun j hj => by
        obtain ⟨g', c', h1, h2, _⟩ := HRS.out j hj
        exact ⟨g', c', hcs j _ h1, h2⟩⟩)
      rw [hvl]
      clear hcs hvl HV HRS HVL
      rename World => wo
      have HBO := Lib.hid (nxt HB1.out HBR.out)
      have HOI := Lib.hid (Own.lit wo wo.heap.size (List.replicate n 0) (Nat.le_refl _) (by simp; omega))
      rw [List.length_replicate, ro_zero, show ((ro n fun _ => 0).map (Value.int .i64)).toArray = Array.replicate n (Value.int .i64 0) by rw [← ro_zero]; simp] at HOI
      have HBI := Lib.hid ((Below.refl wo.heap.size wo).alloc (Nat.le_refl _) (.cells (Array.replicate n (Value.int .i64 0)) 3))
      go_wp2
      generalize wo.alloc (.cells (Array.replicate n (Value.int .i64 0)) 3) = wi at *
      go_loopw [10] (fun vi wr => ∃ t : Nat, t ≤ n ∧ vi = .int .i64 t ∧ Own wr wo.heap.size (.slice (some ⟨wo.heap.size, 0, none⟩) n n) (ro n fun i => if i < t then -1 else 0) ∧ Below wo.heap.size wo wr) (fun vi _ => n - (intOf vi).toNat)
      case atStart => exact ⟨0, Nat.zero_le _, rfl, by rw [ro_ext (g := fun _ => 0) (fun i _ => if_neg (by omega))]; exact HOI.out, HBI.out⟩
      case round =>
        clear HOI HBI
        obtain ⟨t, ht, rfl, ho, hb⟩ := hrel
        have HO2 := Lib.hid ho; have HB2 := Lib.hid hb
        clear ho hb
        by_cases htn : t < n
        · have htn' : (t : Int) < (n : Int) := by omega
          have co := HO2.out.cell (j := t) (by rw [ro_len]; exact htn)
          have fo := HO2.out.frozen t
          have HOP := Lib.hid (HO2.out.put t (-1))
          rw [ro_set, ro_ext (g := fun i => if i < t + 1 then -1 else 0) (fun i _ => by
            by_cases h' : i = t
            · subst h'; rw [if_pos rfl, if_pos (by omega)]
            · rw [if_neg h']
              by_cases h : i < t
              · rw [if_pos h, if_pos (by omega)]
              · rw [if_neg h, if_neg (by omega)])] at HOP
          have HBP := Lib.hid (HB2.out.setCell (p := ⟨wo.heap.size, t, none⟩) (Nat.le_refl _) (.int .i64 (-1)))
          go_wp2
          go_roundw
          case rel => exact ⟨t + 1, by omega, by go_num, HOP.out, HBP.out⟩
          case measure => simp [intOf]; omega
        · have HO2F := Lib.hid HO2.out
          rw [ro_ext (g := fun i => ov (fun i => (fs i).lv) m 0 i) (fun i hi => by rw [if_pos (by omega), ov_zero])] at HO2F
          rename World => wo2
          go_wp2
          go_loopw [11] (fun vk wr => ∃ k : Nat, k ≤ (fs m).wid ∧ vk = .int .i64 k ∧ Own wr wo.heap.size (.slice (some ⟨wo.heap.size, 0, none⟩) n n) (ro n fun i => ov (fun i => (fs i).lv) m k i) ∧ Below wo.heap.size wo wr) (fun vk _ => (fs m).wid - (intOf vk).toNat)
          case atStart => exact ⟨0, Nat.zero_le _, rfl, HO2F.out, HB2.out⟩
          case round =>
            clear HO2 HO2F HB2
            obtain ⟨k, hk, rfl, ho, hb⟩ := hrel
            have HO3 := Lib.hid ho; have HB3 := Lib.hid hb
            clear ho hb
            obtain ⟨gm, cm, rm1, -⟩ := (HRW.out.below HB3.out).2 m hmn
            have hk32 : k ≤ 32 := by have := wid_32 (fs m); omega
            by_cases hkw : k < (fs m).wid
            · have hkw' : (k : Int) < ((fs m).wid : Int) := by omega
              have hkm : k < (fs m).lv.length := by show k < (fs m).lv.length; rw [lv_len]; exact hkw
              obtain ⟨x, hx⟩ : ∃ x, (fs m).lv[k]? = some x := ⟨_, List.getElem?_eq_getElem hkm⟩
              have HX := Lib.hid hx
              have HWX := Lib.hid (lf_wir2 HW.out (fun i => lv_all (fs i)) hkm (show (fs m).lv[k]? = some x from hx))
              clear hx
              rename World => wo3
              have HE0 := Lib.hid (own_empty wo3 wo3.heap.size (Nat.le_refl _))
              have HBE := Lib.hid ((Below.refl wo3.heap.size wo3).alloc (Nat.le_refl _) (.cells #[] 3))
              go_wp2
              go_loopw [12, 13] (fun vl vi wr => ∃ t : Nat, t ≤ n ∧ vi = .int .i64 t ∧ Own wr wo3.heap.size vl (le4 (fun i => (fs i).lv) m k t) ∧ Below wo3.heap.size wo3 wr) (fun _ vi _ => n - (intOf vi).toNat)
              case atStart => exact ⟨0, Nat.zero_le _, rfl, HE0.out, HBE.out⟩
              case round =>
                clear HE0 HBE
                obtain ⟨t, ht, rfl, ho, hb⟩ := hrel
                have HO4 := Lib.hid ho; have HB4 := Lib.hid hb
                clear ho hb
                by_cases htn : t < n
                · have htn' : (t : Int) < (n : Int) := by omega
                  have co := (HO3.out.below HB4.out).cell (j := t) (by rw [ro_len]; exact htn)
                  rw [ro_get htn] at co
                  by_cases hte : (fs t).lv.take k = (fs m).lv.take k
                  · rw [ov_yes hte] at co
                    have hkt := lf_lt2 HW.out hkm htn hte
                    obtain ⟨z, hz⟩ : ∃ z, (fs t).lv[k]? = some z := ⟨_, List.getElem?_eq_getElem hkt⟩
                    obtain ⟨g', c', r1, r2⟩ := (HRW.out.below (nxt HB3.out HB4.out)).lev htn hz
                    have q1 : k < (fs t).wid := by rw [← lv_len]; exact hkt
                    have q3 : (k : Int) < ((fs t).wid : Int) := by omega
                    have HST := Lib.hid (le4_yes (L := fun i => (fs i).lv) (m := m) hte (show (fs t).lv[k]? = some z from hz))
                    have HLL := Lib.hid (le4_len (L := fun i => (fs i).lv) (m := m) (k := k) t)
                    have HN := Lib.hid (Arr.new wr .i64 3 [z]).il
                    have hs4 := HB4.out.size
                    clear hte hkt hz
                    go_wp2_with (first
                      | (at_builtin; (refine append_ints2 _ rfl (.tmp 106) (.tmp 114) rfl wo3.heap.size u12 (le4 (fun i => (fs i).lv) m k t) rfl (HO4.out.alloc _) _ 1 1 [z] rfl HN.out (by have := HLL.out; omega) (by simp; omega) ?_); intro v5 w5 ho5 hg5 _; have HB5 := Lib.hid (push_lit HB4.out hs4 HO4.out hg5); have HO5 := Lib.hid ho5; clear ho5 hg5)
                      | fail)
                    go_roundw
                    case rel => exact ⟨t + 1, by omega, by go_num, by rw [HST.out]; exact HO5.out, HB5.out⟩
                    case measure => simp [intOf]; omega
                  · obtain ⟨⟨d, hd⟩, -⟩ := ov_no HW.out htn hte
                    rw [hd] at co
                    have e3 : decide ((d : Int) < 0) = false := by simp
                    have HST := Lib.hid (le4_no (L := fun i => (fs i).lv) (m := m) hte)
                    clear hte hd
                    go_wp2
                    go_roundw
                    case rel => exact ⟨t + 1, by omega, by go_num, by rw [HST.out]; exact HO4.out, HB4.out⟩
                    case measure => simp [intOf]; omega
                · obtain rfl : n = t := by omega
                  obtain ⟨A5, c5, rfl, hi5, -⟩ := HO4.out.il2
                  have HI5 := Lib.hid hi5
                  have HLL := Lib.hid (le4_len (L := fun i => (fs i).lv) (m := m) (k := k) n)
                  clear hi5
                  go_wp2_with fail
                  refine (wired_any A5 _ c5 (le4 (fun i => (fs i).lv) m k n) _ HI5.out (by have := HLL.out; omega)).mono ?_
                  rintro e w6 ⟨rfl, rfl⟩
                  rw [show wir (le4 (fun i => (fs i).lv) m k n) = x from HWX.out]
                  rename World => wo4
                  go_wp2
                  go_loopw [15] (fun vi wr => ∃ t : Nat, t ≤ n ∧ vi = .int .i64 t ∧ Own wr wo.heap.size (.slice (some ⟨wo.heap.size, 0, none⟩) n n) (ro n fun i => if i < t then ov (fun i => (fs i).lv) m (k + 1) i else ov (fun i => (fs i).lv) m k i) ∧ Below wo.heap.size wo wr) (fun vi _ => n - (intOf vi).toNat)
                  case atStart => exact ⟨0, Nat.zero_le _, rfl, by rw [ro_ext (g := fun i => ov (fun i => (fs i).lv) m k i) (fun i _ => if_neg (by omega))]; exact HO3.out.below HB4.out, nxt HB3.out HB4.out⟩
                  case round =>
                    obtain ⟨t, ht, rfl, ho, hb⟩ := hrel
                    have HO5 := Lib.hid ho; have HB5 := Lib.hid hb
                    clear ho hb
                    by_cases htn : t < n
                    · have htn' : (t : Int) < (n : Int) := by omega
                      have co := HO5.out.cell (j := t) (by rw [ro_len]; exact htn)
                      rw [ro_get htn, if_neg (Nat.lt_irrefl _)] at co
                      have fo := HO5.out.frozen t
                      by_cases hte : (fs t).lv.take k = (fs m).lv.take k
                      · rw [ov_yes hte] at co
                        have hkt := lf_lt2 HW.out hkm htn hte
                        obtain ⟨z, hz⟩ : ∃ z, (fs t).lv[k]? = some z := ⟨_, List.getElem?_eq_getElem hkt⟩
                        obtain ⟨g', c', r1, r2⟩ := (HRW.out.below HB5.out).lev htn hz
                        have q1 : k < (fs t).wid := by rw [← lv_len]; exact hkt
                        have q2 : decide (((fs t).wid : Int) ≤ (k : Int)) = false := by simp; omega
                        have q3 : (k : Int) < ((fs t).wid : Int) := by omega
                        by_cases hzx : z = x
                        · have e1 : (z != x) = false := by simpa using hzx
                          have HE := Lib.hid (ov_stay (L := fun i => (fs i).lv) (m := m) hte (show (fs t).lv[k]? = some z from hz) (by show (fs m).lv[k]? = some z; rw [hzx]; exact HX.out))
                          have HRO := Lib.hid (show (ro n fun i => if i < t then ov (fun i => (fs i).lv) m (k + 1) i else ov (fun i => (fs i).lv) m k i) = ro n fun i => if i < t + 1 then ov (fun i => (fs i).lv) m (k + 1) i else ov (fun i => (fs i).lv) m k i from ro_ext fun i _ => by
                            by_cases h : i < t
                            · rw [if_pos h, if_pos (by omega)]
                            · by_cases h' : i = t
                              · subst h'; rw [if_neg h, if_pos (by omega), HE.out, ov_yes hte]
                              · rw [if_neg h, if_neg (by omega)])
                          clear hte hzx hkt hz
                          go_wp2
                          go_roundw
                          case rel => exact ⟨t + 1, by omega, by go_num, by rw [← HRO.out]; exact HO5.out, HB5.out⟩
                          case measure => simp [intOf]; omega
                        · have e1 : (z != x) = true := by simpa using hzx
                          have HE := Lib.hid (ov_drop (L := fun i => (fs i).lv) (m := m) hte (show (fs t).lv[k]? = some z from hz) (show (fs m).lv[k]? = some x from HX.out) hzx)
                          have HOP := Lib.hid (HO5.out.put t (k : Int))
                          rw [ro_set, ro_ext (g := fun i => if i < t + 1 then ov (fun i => (fs i).lv) m (k + 1) i else ov (fun i => (fs i).lv) m k i) (fun i _ => by
                            by_cases h' : i = t
                            · subst h'; rw [if_pos rfl, if_pos (by omega), HE.out]
                            · rw [if_neg h']
                              by_cases h : i < t
                              · rw [if_pos h, if_pos (by omega)]
                              · rw [if_neg h, if_neg (by omega)])] at HOP
                          have HBP := Lib.hid (HB5.out.setCell (p := ⟨wo.heap.size, t, none⟩) (Nat.le_refl _) (.int .i64 (k : Int)))
                          clear hte hzx hkt hz
                          go_wp2
                          go_roundw
                          case rel => exact ⟨t + 1, by omega, by go_num, HOP.out, HBP.out⟩
                          case measure => simp [intOf]; omega
                      · obtain ⟨⟨d, hd⟩, hsame⟩ := ov_no HW.out htn hte
                        rw [hd] at co
                        have e3 : decide ((d : Int) < 0) = false := by simp
                        have HRO := Lib.hid (show (ro n fun i => if i < t then ov (fun i => (fs i).lv) m (k + 1) i else ov (fun i => (fs i).lv) m k i) = ro n fun i => if i < t + 1 then ov (fun i => (fs i).lv) m (k + 1) i else ov (fun i => (fs i).lv) m k i from ro_ext fun i _ => by
                          by_cases h : i < t
                          · rw [if_pos h, if_pos (by omega)]
                          · by_cases h' : i = t
                            · subst h'; rw [if_neg h, if_pos (by omega), hsame]
                            · rw [if_neg h, if_neg (by omega)])
                        clear hte hsame hd
                        go_wp2
                        go_roundw
                        case rel => exact ⟨t + 1, by omega, by go_num, by rw [← HRO.out]; exact HO5.out, HB5.out⟩
                        case measure => simp [intOf]; omega
                    · have HRO := Lib.hid (show (ro n fun i => if i < t then ov (fun i => (fs i).lv) m (k + 1) i else ov (fun i => (fs i).lv) m k i) = ro n fun i => ov (fun i => (fs i).lv) m (k + 1) i from ro_ext fun i hi => if_pos (by omega))
                      go_wp2
                      go_roundw
                      case rel => exact ⟨k + 1, by omega, by go_num, by rw [← HRO.out]; exact HO5.out, HB5.out⟩
                      case measure => simp [intOf]; omega
            · have hkw' : ¬ (k : Int) < ((fs m).wid : Int) := by omega
              obtain rfl : k = (fs m).wid := by omega
              rename World => wo3
              go_wp2
              go_loopw [16] (fun vi wr => ∃ t : Nat, t ≤ n ∧ vi = .int .i64 t ∧ Own wr wo.heap.size (.slice (some ⟨wo.heap.size, 0, none⟩) n n) (ro n fun i => ov (fun i => (fs i).lv) m (fs m).wid i) ∧ Below wo.heap.size wo wr) (fun vi _ => n - (intOf vi).toNat)
              case atStart => exact ⟨0, Nat.zero_le _, rfl, HO3.out, HB3.out⟩
              case round =>
                clear HO3 HB3
                obtain ⟨t, ht, rfl, ho, hb⟩ := hrel
                have HO3 := Lib.hid ho; have HB3 := Lib.hid hb; have HBW := Lib.hid (nxt HBO.out hb)
                clear ho hb
                by_cases htn : t < n
                · have htn' : (t : Int) < (n : Int) := by omega
                  have co := HO3.out.cell (j := t) (by rw [ro_len]; exact htn)
                  rw [ro_get htn] at co
                  by_cases htm : t = m
                  · rw [htm, ov_m] at co
                    have e1 : ((t : Int) == (m : Int)) = true := by simp; omega
                    subst htm
                    go_wp2
                    go_roundw
                    case rel => exact ⟨t + 1, by omega, by go_num, HO3.out, HB3.out⟩
                    case measure => simp [intOf]; omega
                  · obtain ⟨d, hd, hat⟩ := ov_end HW.out htn htm (show (fs m).lv.length ≤ (fs m).wid by show (fs m).lv.length ≤ _; rw [lv_len]; exact Nat.le_refl _)
                    rw [hd] at co
                    have e1 : ((t : Int) == (m : Int)) = false := by simp; omega
                    have e2 : ¬ (t : Int) = (m : Int) := by omega
                    have e3 : decide ((d : Int) < 0) = false := by simp
                    have e4 : decide ((d : Int) < (d : Int)) = false := by simp
                    have hls := ls_at (f := fs t) (g := fs m) (HM.out t htn) (HM.out m hmn) (k := d) hat
                    have HLV := Lib.hid hls.1; have HLE := Lib.hid hls.2
                    have HCO := Lib.hid (show ∀ w' : World, Own w' wo.heap.size (.slice (some ⟨wo.heap.size, 0, none⟩) n n) (ro n fun i => ov (fun i => (fs i).lv) m (fs m).wid i) → w'.cell? ⟨wo.heap.size, t, none⟩ = some (.int .i64 (d : Int)) from fun w' h => by
                      have h2 := h.cell (j := t) (by rw [ro_len]; exact htn)
                      rw [ro_get htn, hd] at h2
                      exact h2)
                    obtain ⟨ad, rfl, _, _⟩ := (HR.out.below HBW.out) (by omega)
                    have HC := Lib.hid (show ∀ w' : World, Below w.heap.size w w' → ∀ j, j < n → Bxa w' (ad.add (j * 12)) (fs j) from fun w' hb j hj => by
                      obtain ⟨ad', e, _, hc⟩ := (HR.out.below hb).at_ hj
                      injection e with e
                      subst e
                      exact hc)
                    have ht := htn
                    clear hat hls hd
                    go_wp2_with fail
                    refine wp_region_held_drew (S := fun w' => Below w.heap.size w w') (by kernel_rfl) (belowN HBW.out 1) (fun hHeld => ?_)
                    refine takeH (i := 0) (v := .slice (some ad) n cap) rfl (by kernel_rfl) (by kernel_rfl) (by kernel_rfl) (fun _ _ _ h => h) (Or.inl ⟨by rfl, fun w hSw => ?_⟩) hHeld ?_
                    · (clear hSw; go_simp)
                    simp only [Act.put, List.setIfInBounds_toArray, List.set_cons_zero, List.set_cons_succ]
                    refine takeH (i := 1) (v := .int .i64 t) rfl (by kernel_rfl) (by kernel_rfl) (by kernel_rfl) (fun _ _ _ h => h) (Or.inl ⟨by rfl, fun w hSw => ?_⟩) hHeld ?_
                    · (clear hSw; go_simp)
                    simp only [Act.put, List.setIfInBounds_toArray, List.set_cons_zero, List.set_cons_succ]
                    refine takeH (i := 2) (v := .pointer (some (ad.add (t * 12)))) rfl (by kernel_rfl) (by kernel_rfl) (by kernel_rfl) (fun _ _ _ h => h) (Or.inl ⟨by rfl, fun w hSw => ?_⟩) hHeld ?_
                    · (clear hSw; go_simp)
                    simp only [Act.put, List.setIfInBounds_toArray, List.set_cons_zero, List.set_cons_succ]
                    refine takeH (i := 3) (v := (fs t).val) rfl (by kernel_rfl) (by kernel_rfl) (by kernel_rfl) (fun _ _ _ h => h) (Or.inl ⟨by rfl, fun w hSw => ?_⟩) hHeld ?_
                    · (obtain ⟨c0, c1, c2, c3, c4, c5, c6, c7, c8, c9, c10, c11⟩ := HC.out _ hSw t ht; clear hSw; go_simp)
                    simp only [Act.put, List.setIfInBounds_toArray, List.set_cons_zero, List.set_cons_succ]
                    refine takeH (i := 4) (v := .slice (some ad) n cap) rfl (by kernel_rfl) (by kernel_rfl) (by kernel_rfl) (fun _ _ _ h => h) (Or.inl ⟨by rfl, fun w hSw => ?_⟩) hHeld ?_
                    · (clear hSw; go_simp)
                    simp only [Act.put, List.setIfInBounds_toArray, List.set_cons_zero, List.set_cons_succ]
                    refine takeH (i := 5) (v := .int .i64 m) rfl (by kernel_rfl) (by kernel_rfl) (by kernel_rfl) (fun _ _ _ h => h) (Or.inl ⟨by rfl, fun w hSw => ?_⟩) hHeld ?_
                    · (clear hSw; go_simp)
                    simp only [Act.put, List.setIfInBounds_toArray, List.set_cons_zero, List.set_cons_succ]
                    refine takeH (i := 6) (v := .pointer (some (ad.add (m * 12)))) rfl (by kernel_rfl) (by kernel_rfl) (by kernel_rfl) (fun _ _ _ h => h) (Or.inl ⟨by rfl, fun w hSw => ?_⟩) hHeld ?_
                    · (clear hSw; go_simp)
                    simp only [Act.put, List.setIfInBounds_toArray, List.set_cons_zero, List.set_cons_succ]
                    refine takeH (i := 7) (v := (fs m).val) rfl (by kernel_rfl) (by kernel_rfl) (by kernel_rfl) (fun _ _ _ h => h) (Or.inl ⟨by rfl, fun w hSw => ?_⟩) hHeld ?_
                    · (obtain ⟨c0, c1, c2, c3, c4, c5, c6, c7, c8, c9, c10, c11⟩ := HC.out _ hSw m hmn; clear hSw; go_simp)
                    simp only [Act.put, List.setIfInBounds_toArray, List.set_cons_zero, List.set_cons_succ]
                    refine wpAnyH_ready (rs := [8]) (by kernel_rfl) (by simp) ?_
                    refine AllReadyH.cons rfl (fun K hK => ?_) AllReadyH.nil
                    go_simp
                    refine (loses_any (fs t) (fs m) _).mono ?_
                    rintro e w9 ⟨rfl, hb9⟩
                    rw [HLV.out, HLE.out]
                    clear hHeld
                    dsimp only
                    refine hK.out _ _ (nxt (belowN HBW.out 1) hb9) (fun hHeld => ?_)
                    clear hK K
                    try simp only [Act.put, List.setIfInBounds_toArray, List.set_cons_zero, List.set_cons_succ]
                    refine takeH (i := 9) (v := .tuple #[.int .i64 d, .int .i64 0]) rfl (by kernel_rfl) (by kernel_rfl) (by kernel_rfl) (fun _ _ _ h => h) (Or.inl ⟨by rfl, fun w hSw => ?_⟩) hHeld ?_
                    · (clear hSw; go_simp)
                    simp only [Act.put, List.setIfInBounds_toArray, List.set_cons_zero, List.set_cons_succ]
                    refine takeH (i := 10) (v := .int .i64 d) rfl (by kernel_rfl) (by kernel_rfl) (by kernel_rfl) (fun _ _ _ h => h) (Or.inl ⟨by rfl, fun w hSw => ?_⟩) hHeld ?_
                    · (clear hSw; go_simp)
                    simp only [Act.put, List.setIfInBounds_toArray, List.set_cons_zero, List.set_cons_succ]
                    refine takeH (i := 11) (v := .int .i64 0) rfl (by kernel_rfl) (by kernel_rfl) (by kernel_rfl) (fun _ _ _ h => h) (Or.inl ⟨by rfl, fun w hSw => ?_⟩) hHeld ?_
                    · (clear hSw; go_simp)
                    simp only [Act.put, List.setIfInBounds_toArray, List.set_cons_zero, List.set_cons_succ]
                    refine takeH (i := 12) (v := .int .i64 d) rfl (by kernel_rfl) (by kernel_rfl) (by kernel_rfl) (fun _ _ _ h => h) (Or.inl ⟨by rfl, fun w hSw => ?_⟩) hHeld ?_
                    · (clear hSw; go_simp)
                    simp only [Act.put, List.setIfInBounds_toArray, List.set_cons_zero, List.set_cons_succ]
                    refine takeH (i := 13) (v := .int .i64 0) rfl (by kernel_rfl) (by kernel_rfl) (by kernel_rfl) (fun _ _ _ h => h) (Or.inl ⟨by rfl, fun w hSw => ?_⟩) hHeld ?_
                    · (clear hSw; go_simp)
                    simp only [Act.put, List.setIfInBounds_toArray, List.set_cons_zero, List.set_cons_succ]
                    refine wpAnyH_done (by kernel_rfl) ?_ _
                    clear hHeld
                    have co2 := HCO.out _ (HO3.out.below (nxt (belowN (Below.refl _ _) 1) hb9))
                    go_wp2
                    go_roundw
                    case rel => exact ⟨t + 1, by omega, by go_num, HO3.out.below (nxt (belowN (Below.refl _ _) 1) hb9), nxt (belowN HB3.out 1) hb9⟩
                    case measure => simp [intOf]; omega
                · go_wp2_with fail
                  refine (awake7 _).mono ?_
                  rintro e w9 ⟨rfl, hb9⟩
                  go_wp2
                  go_ret
                  exact ⟨rfl, nxt HBW.out hb9⟩

set_option maxRecDepth 100000 in
theorem awire_any (A : Option Addr) (n cap : Nat) (fs : Nat → Fr) (w : World) (hr : Fl w A n fs) :
    Calls Try.prog 6 #[.slice A n cap] w fun e w' => e = .returned (.bool true) ∧ Below w.heap.size w w' := by
  rcases Nat.lt_or_ge 12 n with hn | hn
  · have g0 : decide ((12 : Int) < (n : Int)) = true := by simp; omega
    clear hr
    go_enter Try.func6, Try.ntmps6
    go_wp2_with (go_at_call 9; (refine (awake7 _).mono ?_); rintro e w1 ⟨rfl, hb1⟩)
    go_ret
    exact ⟨rfl, hb1⟩
  rcases may_or fs n with hbad | hmay
  · exact awire_not A n cap w 14 (by omega) hn (winner_bad fs A n cap w hr hn hbad)
  rcases Nat.eq_zero_or_pos n with h0 | h0
  · subst h0
    exact awire_not A 0 cap w 16 (by omega) hn ((winner_none A cap w).mono fun e w' ⟨h1, h2⟩ => ⟨h1, h2 ▸ Below.refl _ _⟩)
  rcases Classical.em (Same fs n) with hs | hs
  · exact awire_not A n cap w 23 (by omega) hn (winner_same fs A n cap w hr hn hmay h0 hs)
  · exact awire_ok fs A n cap w hr hn h0 hmay hs
end Go.Proofs.Ytjbbneagikogbaa
