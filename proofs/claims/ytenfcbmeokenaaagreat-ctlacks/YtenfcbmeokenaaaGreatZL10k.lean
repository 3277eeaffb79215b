/- The walk of the law CtlAcks. -/
import Derived.Test.YtenfcbmeokenaaaGreatZL10v
import Derived.Test.YtenfcbmeokenaaaGreatZMG
import Derived.Test.YtenfcbmeokenaaaGreatX01
namespace Go.Proofs.YtenfcbmeokenaaaGreat
set_option maxRecDepth 20000
open Go.RowKit
set_option linter.unusedSimpArgs false

theorem lkeqIn (m : Int) (t : Int) (w : World) : (Op.equalIn 10000 43 (.agg #[.int .i64 m, .bool true, .int .i64 t, .int .i64 0, .bool false, .int .i64 1]) (.agg #[.int .i64 m, .bool true, .int .i64 t, .int .i64 0, .bool false, .int .i64 1])).run Tryz.prog w = .ok true w := by
  go_simp
theorem lkneq (m : Int) (t : Int) (w : World) : (binOp .neq 43 (.agg #[.int .i64 m, .bool true, .int .i64 t, .int .i64 0, .bool false, .int .i64 1]) (.agg #[.int .i64 m, .bool true, .int .i64 t, .int .i64 0, .bool false, .int .i64 1])).run Tryz.prog w = .ok (.bool false) w := by
  rw [run_neq_struct, lkeqIn]; rfl
theorem enc_ge (f : Fr) (b : Bool) : 44 ≤ (enc f b).length := by
  rw [enc_len]
  have h1 := (stf_len (raw f)).1
  rw [raw_len, bts_len] at h1
  have h2 : 19 ≤ hEnd f.ext := by cases f.ext <;> decide
  omega
/-- A try, level by level, of a frame that nobody answers. -/
def TxN (f : Fr) (b : Bool) (x k : Nat) (n : Nd) : Prop :=
  (k ≤ sl_ f + 1 ∧ TxAt (idk f b (tk x)) f false k n) ∨ (k = sl_ f + 2 ∧ n = erN f (tk (x + 1)) (decide (16 ≤ x)) 0)
theorem txn_step {f : Fr} (hm : f.may = true) (hw : f.wf) {b : Bool} {x k : Nat} {n : Nd} (h : TxN f b x k n) (hk : k ≤ sl_ f + 1) :
    ((enc f false).getD k 0 = 0 ∨ (enc f false).getD k 0 = 1) ∧ Fit n ∧ n.drv = (enc f false).getD k 0 ∧
    ∃ es n', n.stp ((enc f false).getD k 0) = (es, n') ∧ TxN f b x (k + 1) n' ∧ (k ≠ sl_ f + 1 → es = []) ∧ (k = sl_ f + 1 → es = [ev 8]) := by
  have hq : Okfs [f] := fun g hg => by rw [List.mem_singleton.1 hg]; exact ⟨hm, hw⟩
  rcases h with ⟨h1, h2⟩ | ⟨h1, _⟩
  · refine ⟨lvl_01 (way_lvl (by omega)), tx_fit hm h2 (by omega) (idk_fit hq), tx_drive hm rfl rfl h2 (by omega), ?_⟩
    by_cases h9 : k = sl_ f + 1
    · have e1 : (enc f false).getD k 0 = 1 := by
        rw [enc_two (by omega) false, if_pos h9]; rfl
      have hs := tx_none hm h2 h9 (tk_le x).1 (tk_le x).2
      rw [tk_next] at hs
      rw [e1, hs]
      refine ⟨_, _, rfl, .inr ⟨by omega, ?_⟩, fun h => absurd h9 h, fun _ => rfl⟩
      rw [show decide (127 < tk x) = decide (16 ≤ x) from decide_eq_decide.2 (tk_pas x)]
    · obtain ⟨n', a, c⟩ := tx_step hm rfl rfl h2 (by omega) (fun h => absurd h h9)
      exact ⟨[], n', a, .inl ⟨by omega, c⟩, fun _ => rfl, fun h => absurd h h9⟩
  · omega
/-- Behind a failure, all the time until the next try. -/
def AckT (f : Fr) (x K k : Nat) : Nd := if k = K then idk f true (tk (x + 1)) else erN f (tk (x + 1)) (decide (16 ≤ x)) k
theorem ackT_step {f : Fr} (hm : f.may = true) (hw : f.wf) {x K k : Nat} (hK : K = if 15 ≤ x then 25 else 17) (hk : k < K) :
    Fit (AckT f x K k) ∧ (AckT f x K k).mode ≠ 2 ∧ (AckT f x K k).drv = (if k < 6 ∧ x < 16 then 0 else 1) ∧ (AckT f x K k).stp (if k < 6 ∧ x < 16 then 0 else 1) = ([], AckT f x K (k + 1)) := by
  have hq : Okfs [f] := fun g hg => by rw [List.mem_singleton.1 hg]; exact ⟨hm, hw⟩
  have h25 : k < 25 := by split at hK <;> omega
  have e : (k < 6 ∧ x < 16) ↔ (k < 6 ∧ decide (16 ≤ x) = false) := by
    rw [decide_eq_false_iff_not]
    omega
  have hKt : K = if 127 < tk (x + 1) then 25 else 17 := by
    rw [hK]
    by_cases h : 15 ≤ x
    · rw [if_pos h, if_pos ((tk_pas _).2 (by omega))]
    · rw [if_neg h, if_neg (fun h2 => by have := (tk_pas _).1 h2; omega)]
  unfold AckT
  rw [if_neg (by omega)]
  refine ⟨erN_fit h25 hq, erN_mode h25, ?_, ?_⟩
  · rw [erN_drv h25]
    by_cases h : k < 6 ∧ x < 16
    · rw [if_pos h, if_pos (e.1 h)]
    · rw [if_neg h, if_neg (fun h2 => h (e.2 h2))]
  · have hs := erN_step (f := f) (p := decide (16 ≤ x)) hKt hk
    by_cases h : k < 6 ∧ x < 16
    · rw [if_pos (e.1 h)] at hs
      rw [if_pos h, hs]
    · rw [if_neg (fun h2 => h (e.2 h2))] at hs
      rw [if_neg h, hs]
theorem ackT_zero {f : Fr} {x K : Nat} (h : K ≠ 0) : AckT f x K 0 = erN f (tk (x + 1)) (decide (16 ≤ x)) 0 := by unfold AckT; rw [if_neg (Ne.symm h)]
theorem ackT_end {f : Fr} {x K : Nat} : AckT f x K K = idk f true (tk (x + 1)) := by unfold AckT; rw [if_pos rfl]
theorem ackT_look {f : Fr} {x K : Nat} (h : K ≠ 0) : (AckT f x K 0).lookV = .agg #[.int .i64 (if 16 ≤ x then 4 else 3), .bool true, .int .i64 (tk (x + 1)), .int .i64 0, .bool false, .int .i64 1] := by
  rw [ackT_zero h]
  by_cases h6 : 16 ≤ x
  · rw [decide_eq_true h6, if_pos h6]; rfl
  · rw [decide_eq_false h6, if_neg h6]; rfl

set_option maxHeartbeats 2000000 in
theorem acks_bad (f : Fr) (a : Int) (w : World) (h : f.may = false) :
    Calls Tryz.prog 9 #[f.val, .int .i64 a] w fun e w' => e = .returned (.bool true) ∧ Below w.heap.size w w' := by
  have HB := Lib.hid (boxed f w)
  go_enter Tryz.func9, Tryz.ntmps9
  go_wp2_with fail
  refine (encode_bad f false _ h).mono ?_
  rintro e w2 ⟨rfl, hb2⟩
  have HB2 := Lib.hid (nxt HB.out hb2)
  clear hb2
  go_wp2_with fail
  refine (awake10 _).mono ?_
  rintro e w4 ⟨rfl, hb4⟩
  have HB4 := Lib.hid (nxt HB2.out hb4)
  clear hb4
  go_wp2
  go_ret
  exact ⟨rfl, HB4.out⟩
set_option maxHeartbeats 4000000 in
theorem acks_out (f : Fr) (a : Int) (w : World) (hm : f.may = true) (hwf : f.wf) (h : a < 0 ∨ 40 < a) :
    Calls Tryz.prog 9 #[f.val, .int .i64 a] w fun e w' => e = .returned (.bool true) ∧ Below w.heap.size w w' := by
  have HB := Lib.hid (boxed f w)
  by_cases h1 : a < 0
  · clear h
    go_enter Tryz.func9, Tryz.ntmps9
    go_wp2_with fail
    refine (encode_ok f false _ hm hwf).mono ?_
    rintro e w2 ⟨v, rfl, ho, hb2⟩
    obtain ⟨Ar, cp, hv, hi, -⟩ := ho.il2
    have hgt := enc_ge f false
    obtain ⟨m, hml⟩ : ∃ m, (enc f false).length = m := ⟨_, rfl⟩
    rw [hml] at hv hi hgt
    subst hv
    have hm0 : ((m : Int) == 0) = false := by simp; omega
    have HB2 := Lib.hid (nxt HB.out hb2)
    clear hb2 ho hi hml
    go_wp2_with fail
    refine (awake10 _).mono ?_
    rintro e w4 ⟨rfl, hb4⟩
    have HB4 := Lib.hid (nxt HB2.out hb4)
    clear hb4
    go_wp2
    go_ret
    exact ⟨rfl, HB4.out⟩
  have h2 : 40 < a := by omega
  clear h
  go_enter Tryz.func9, Tryz.ntmps9
  go_wp2_with fail
  refine (encode_ok f false _ hm hwf).mono ?_
  rintro e w2 ⟨v, rfl, ho, hb2⟩
  obtain ⟨Ar, cp, hv, hi, -⟩ := ho.il2
  have hgt := enc_ge f false
  obtain ⟨m, hml⟩ : ∃ m, (enc f false).length = m := ⟨_, rfl⟩
  rw [hml] at hv hi hgt
  subst hv
  have hm0 : ((m : Int) == 0) = false := by simp; omega
  have HB2 := Lib.hid (nxt HB.out hb2)
  clear hb2 ho hi hml
  go_wp2_with fail
  refine (awake10 _).mono ?_
  rintro e w4 ⟨rfl, hb4⟩
  have HB4 := Lib.hid (nxt HB2.out hb4)
  clear hb4
  go_wp2
  go_ret
  exact ⟨rfl, HB4.out⟩

set_option maxHeartbeats 8000000 in
set_option maxRecDepth 100000 in
theorem acks_in (f : Fr) (a : Nat) (w : World) (hm : f.may = true) (hwf : f.wf) (ha : a ≤ 40) :
    Calls Tryz.prog 9 #[f.val, .int .i64 (a : Int)] w fun e w' => e = .returned (.bool true) ∧ Below w.heap.size w w' := by
  have HB := Lib.hid (boxed f w)
  have HM := Lib.hid hm
  have HFW := Lib.hid hwf
  have ha0 : ¬ (a : Int) < 0 := by omega
  have ha2 : ¬ 40 < (a : Int) := by omega
  clear hm hwf
  go_enter Tryz.func9, Tryz.ntmps9
  go_wp2_with fail
  refine (encode_ok f false _ HM.out HFW.out).mono ?_
  rintro e w2 ⟨v, rfl, ho, hb2⟩
  obtain ⟨Ar, cp, hv, hi, hc⟩ := ho.il2
  obtain ⟨m, hml⟩ : ∃ m, (enc f false).length = m := ⟨_, rfl⟩
  have HML := Lib.hid (show m = sl_ f + 10 by rw [← hml, enc_ln])
  have hm310 : m ≤ 310 := by rw [← hml]; exact enc_le HM.out false
  have hm44 : 44 ≤ m := by rw [← hml]; exact enc_ge f false
  have hmI : (m : Int) ≤ 310 := by omega
  have hmJ : ¬ (m : Int) < 44 := by omega
  rw [hml] at hv hi hc
  obtain ⟨ar, rfl, -, -⟩ := hi.2 (by omega)
  subst hv
  have HB2 := Lib.hid (nxt HB.out hb2)
  obtain ⟨c0, c1, c2, c3, c4, c5, c6, c7, c8, c9, c10, c11⟩ := (bx_new w f).below hb2 (by simp)
  have HBL := Lib.hid ((Below.refl w2.heap.size w2).alloc (Nat.le_refl _) (.cells (fcs [f]).toArray 32))
  have HO := Lib.hid (ho.below (w' := w2.alloc (.cells (fcs [f]).toArray 32)) HBL.out)
  have HB3 := Lib.hid (nxt HB2.out HBL.out)
  have HFL := Lib.hid (fl_lit w2 [f])
  have HEL := Lib.hid hml
  clear ho hb2 hi hc hml
  go_wp2_with fail
  refine (joined_any (some ⟨w2.heap.size, 0, none⟩) 1 1 (fun j => [f].getD j Fr.zero) _ HFL.out (by omega) (fun i hi => by obtain rfl : i = 0 := (by omega); exact HM.out)).mono ?_
  clear c0 c1 c2 c3 c4 c5 c6 c7 c8 c9 c10 c11
  rintro e w3 ⟨g, gq, rfl, h1⟩
  have h2 := (h1.to (show idl (putsN (fun j => [f].getD j Fr.zero) 1) = idk f (decide (0 < 0)) (tk 0) from rfl)).old HO.out HB3.out HB.out.size
  have H1 := Lib.hid h2
  have HK := Lib.hid (kept_both kept_no (kept_row w.heap.size (.slice (some ar) m cp) (enc f false)))
  clear h1 h2 HFL HO
  generalize hP : Both NoSide (RowS w.heap.size (.slice (some ar) m cp) (enc f false)) = P at *
  have HP := Lib.hid hP
  clear hP
  have HROW := Lib.hid (show ∀ W nd k, k < m → Nst w W g gq nd P → W.cell? (ar.add k) = some (.int .i64 ((enc f false).getD k 0)) from fun W nd k hk h => by
    obtain ⟨F, hF⟩ := h.side
    rw [← HP.out] at hF
    exact hF.2.cell (j := k) (by rw [HEL.out]; exact hk))
  go_wp2
  go_loopw [8] (fun i wr => ∃ x : Nat, x ≤ a ∧ i = .int .i64 ((x : Int) + 1) ∧ Nst w wr g gq (idk f (decide (0 < x)) (tk x)) P) (fun i _ => a + 1 - (intOf i).toNat)
  case atStart => exact ⟨0, Nat.zero_le _, rfl, H1.out⟩
  case round =>
    obtain ⟨x, hx, rfl, hn⟩ := hrel
    have HN := Lib.hid hn
    clear hn
    by_cases hlt : x < a
    · have hltI : (x : Int) + 1 ≤ (a : Int) := by omega
      obtain ⟨bt, hbt⟩ : ∃ bt, decide (0 < x) = bt := ⟨_, rfl⟩
      rw [hbt] at HN
      clear hbt
      rename World => wo
      go_wp2
      go_loopw [9] (fun i wr => ∃ k : Nat, k ≤ m - 8 ∧ i = .int .i64 k ∧ ∃ nd, TxN f bt x k nd ∧ Nst w wr g gq nd P) (fun i _ => m - (intOf i).toNat)
      case atStart => exact ⟨0, by omega, rfl, _, .inl ⟨by omega, .inl ⟨rfl, rfl⟩⟩, HN.out⟩
      case round =>
        obtain ⟨k, hk, rfl, nd, hz, hn⟩ := hrel
        have HN3 := Lib.hid hn
        clear hn
        by_cases hkt : k < m - 8
        · have hkt' : (k : Int) ≤ (m : Int) - 9 := by omega
          have hkm0 : k < m := by omega
          have hkmI : (k : Int) < (m : Int) := by omega
          obtain ⟨hlv, hfit, hdrv, es, n', hst, hza, hes, hes9⟩ := txn_step HM.out HFW.out hz (by have := HML.out; omega)
          have HLV := Lib.hid hlv
          have HFIT := Lib.hid hfit
          have hdr := fun (W : World) (h : Nst w W g gq nd P) => nst_drive h fun h => (HFIT.out.inf h).f
          rw [hdrv] at hdr
          have HD := Lib.hid hdr
          have HST := Lib.hid hst
          have HZA := Lib.hid hza
          have HES := Lib.hid (And.intro hes hes9)
          have hrow := fun (W : World) (h : Nst w W g gq nd P) => HROW.out W nd k hkm0 h
          clear hlv hfit hdrv hdr hst hza hes hes9 hz
          generalize (enc f false).getD k 0 = z at *
          have HRW := Lib.hid hrow
          have r0 := hrow _ HN3.out
          clear hrow
          by_cases hsl : k = sl_ f + 1
          · have hs1 : ((k : Int) == (m : Int) - 9) = true := by have := HML.out; simp; omega
            obtain rfl := HES.out.2 hsl
            clear hsl
            go_wp2_with fail
            refine wp_region_held_drew (S := fun w' => w'.cell? (ar.add k) = some (.int .i64 z)) (by kernel_rfl) (r0) (fun hHeld => ?_)
            refine takeH (i := 0) (v := .pointer (some ⟨g, 0, none⟩)) rfl (by kernel_rfl) (by kernel_rfl) (by kernel_rfl) (fun _ _ _ h => h) (Or.inl ⟨by rfl, fun w hSw => ?_⟩) hHeld ?_
            · (clear hSw; go_simp)
            simp only [Act.put, List.setIfInBounds_toArray, List.set_cons_zero, List.set_cons_succ]
            refine takeH (i := 2) (v := .slice (some ar) m cp) rfl (by kernel_rfl) (by kernel_rfl) (by kernel_rfl) (fun _ _ _ h => h) (Or.inl ⟨by rfl, fun w hSw => ?_⟩) hHeld ?_
            · (clear hSw; go_simp)
            simp only [Act.put, List.setIfInBounds_toArray, List.set_cons_zero, List.set_cons_succ]
            refine takeH (i := 3) (v := .int .i64 k) rfl (by kernel_rfl) (by kernel_rfl) (by kernel_rfl) (fun _ _ _ h => h) (Or.inl ⟨by rfl, fun w hSw => ?_⟩) hHeld ?_
            · (clear hSw; go_simp)
            simp only [Act.put, List.setIfInBounds_toArray, List.set_cons_zero, List.set_cons_succ]
            refine takeH (i := 4) (v := .pointer (some (ar.add k))) rfl (by kernel_rfl) (by kernel_rfl) (by kernel_rfl) (fun _ _ _ h => h) (Or.inl ⟨by rfl, fun w hSw => ?_⟩) hHeld ?_
            · (clear hSw; go_simp)
            simp only [Act.put, List.setIfInBounds_toArray, List.set_cons_zero, List.set_cons_succ]
            refine takeH (i := 5) (v := .int .i64 z) rfl (by kernel_rfl) (by kernel_rfl) (by kernel_rfl) (fun _ _ _ h => h) (Or.inl ⟨by rfl, fun w hSw => ?_⟩) hHeld ?_
            · (have q1 := hSw; clear hSw; go_simp)
            simp only [Act.put, List.setIfInBounds_toArray, List.set_cons_zero, List.set_cons_succ]
            refine wpAnyH_ready (rs := [1]) (by kernel_rfl) (by simp) ?_
            refine AllReadyH.cons rfl (fun K hK => ?_) AllReadyH.nil
            go_simp
            refine (HD.out _ (HN3.out.drew HK.out)).mono ?_
            rintro e w4 ⟨rfl, hb4⟩
            have HN4 := Lib.hid (HN3.out.next HK.out (undrew hb4))
            clear hb4
            clear hHeld
            dsimp only
            refine hK.out _ _ (HRW.out _ HN4.out) (fun hHeld => ?_)
            clear hK K
            try simp only [Act.put, List.setIfInBounds_toArray, List.set_cons_zero, List.set_cons_succ]
            refine takeH (i := 6) (v := .bool false) rfl (by kernel_rfl) (by kernel_rfl) (by kernel_rfl) (fun _ _ _ h => h) (Or.inl ⟨by rfl, fun w hSw => ?_⟩) hHeld ?_
            · (clear hSw; go_simp)
            simp only [Act.put, List.setIfInBounds_toArray, List.set_cons_zero, List.set_cons_succ]
            refine wpAnyH_done (by kernel_rfl) ?_ _
            clear hHeld
            have r4 := HRW.out _ HN4.out
            have hst := nst_step HN4.out HK.out HFIT.out z HLV.out
            rw [HST.out] at hst
            have HS := Lib.hid hst
            clear hst HD
            go_wp2_with fail
            refine HS.out.mono ?_
            rintro e w5 ⟨u, rfl, h5, h6, h7⟩
            have HN5 := Lib.hid h6
            obtain ⟨ge, ce, rfl, hce⟩ := h5.shape (by simp)
            have k2 : w5.cell? ⟨ge, 2, none⟩ = some (.int .i64 8) := hce 2 _ rfl
            clear h5 h6 h7 HS hce
            go_wp2
            go_roundw
            case rel => exact ⟨k + 1, by omega, by go_num, n', HZA.out, HN5.out⟩
            case measure => simp [intOf]; omega
          · have hs1 : ((k : Int) == (m : Int) - 9) = false := by have := HML.out; simp; omega
            obtain rfl := HES.out.1 hsl
            clear hsl
            go_wp2_with fail
            refine wp_region_held_drew (S := fun w' => w'.cell? (ar.add k) = some (.int .i64 z)) (by kernel_rfl) (r0) (fun hHeld => ?_)
            refine takeH (i := 0) (v := .pointer (some ⟨g, 0, none⟩)) rfl (by kernel_rfl) (by kernel_rfl) (by kernel_rfl) (fun _ _ _ h => h) (Or.inl ⟨by rfl, fun w hSw => ?_⟩) hHeld ?_
            · (clear hSw; go_simp)
            simp only [Act.put, List.setIfInBounds_toArray, List.set_cons_zero, List.set_cons_succ]
            refine takeH (i := 2) (v := .slice (some ar) m cp) rfl (by kernel_rfl) (by kernel_rfl) (by kernel_rfl) (fun _ _ _ h => h) (Or.inl ⟨by rfl, fun w hSw => ?_⟩) hHeld ?_
            · (clear hSw; go_simp)
            simp only [Act.put, List.setIfInBounds_toArray, List.set_cons_zero, List.set_cons_succ]
            refine takeH (i := 3) (v := .int .i64 k) rfl (by kernel_rfl) (by kernel_rfl) (by kernel_rfl) (fun _ _ _ h => h) (Or.inl ⟨by rfl, fun w hSw => ?_⟩) hHeld ?_
            · (clear hSw; go_simp)
            simp only [Act.put, List.setIfInBounds_toArray, List.set_cons_zero, List.set_cons_succ]
            refine takeH (i := 4) (v := .pointer (some (ar.add k))) rfl (by kernel_rfl) (by kernel_rfl) (by kernel_rfl) (fun _ _ _ h => h) (Or.inl ⟨by rfl, fun w hSw => ?_⟩) hHeld ?_
            · (clear hSw; go_simp)
            simp only [Act.put, List.setIfInBounds_toArray, List.set_cons_zero, List.set_cons_succ]
            refine takeH (i := 5) (v := .int .i64 z) rfl (by kernel_rfl) (by kernel_rfl) (by kernel_rfl) (fun _ _ _ h => h) (Or.inl ⟨by rfl, fun w hSw => ?_⟩) hHeld ?_
            · (have q1 := hSw; clear hSw; go_simp)
            simp only [Act.put, List.setIfInBounds_toArray, List.set_cons_zero, List.set_cons_succ]
            refine wpAnyH_ready (rs := [1]) (by kernel_rfl) (by simp) ?_
            refine AllReadyH.cons rfl (fun K hK => ?_) AllReadyH.nil
            go_simp
            refine (HD.out _ (HN3.out.drew HK.out)).mono ?_
            rintro e w4 ⟨rfl, hb4⟩
            have HN4 := Lib.hid (HN3.out.next HK.out (undrew hb4))
            clear hb4
            clear hHeld
            dsimp only
            refine hK.out _ _ (HRW.out _ HN4.out) (fun hHeld => ?_)
            clear hK K
            try simp only [Act.put, List.setIfInBounds_toArray, List.set_cons_zero, List.set_cons_succ]
            refine takeH (i := 6) (v := .bool false) rfl (by kernel_rfl) (by kernel_rfl) (by kernel_rfl) (fun _ _ _ h => h) (Or.inl ⟨by rfl, fun w hSw => ?_⟩) hHeld ?_
            · (clear hSw; go_simp)
            simp only [Act.put, List.setIfInBounds_toArray, List.set_cons_zero, List.set_cons_succ]
            refine wpAnyH_done (by kernel_rfl) ?_ _
            clear hHeld
            have r4 := HRW.out _ HN4.out
            have hst := nst_step HN4.out HK.out HFIT.out z HLV.out
            rw [HST.out] at hst
            have HS := Lib.hid hst
            clear hst HD
            go_wp2_with fail
            refine HS.out.mono ?_
            rintro e w5 ⟨u, rfl, h5, h6, h7⟩
            have HN5 := Lib.hid h6
            obtain ⟨Ae, ce, rfl, -⟩ := h5.len
            clear h5 h6 h7 HS
            go_wp2
            go_roundw
            case rel => exact ⟨k + 1, by omega, by go_num, n', HZA.out, HN5.out⟩
            case measure => simp [intOf]; omega
        · have hkt' : ¬ (k : Int) ≤ (m : Int) - 9 := by omega
          have hnd : nd = erN f (tk (x + 1)) (decide (16 ≤ x)) 0 := by
            have := HML.out
            rcases hz with h | h
            · omega
            · exact h.2
          have H7 := Lib.hid (HN3.out.to hnd)
          clear HN3 HN hz hnd hkt hk H1
          rename World => wb
          by_cases hx15 : x < 15
          · have g16 : ¬ (16 : Int) ≤ (x : Int) + 1 := by omega
            have g17 : ¬ (16 : Int) < (x : Int) + 1 := by omega
            have htk : tk (x + 1) = 8 * ((x : Int) + 1) := by unfold tk; rw [if_pos (by omega)]; omega
            have HK17 := Lib.hid (show (17 : Nat) = if 15 ≤ x then 25 else 17 by rw [if_neg (by omega)])
            have H8 := Lib.hid (H7.out.to (ackT_zero (f := f) (x := x) (K := 17) (by omega)).symm)
            have hlk := nst_look H8.out
            rw [ackT_look (by omega), if_neg (by omega), htk] at hlk
            have HL := Lib.hid hlk
            have hne := lkneq 3 (8 * ((x : Int) + 1))
            clear H7 hlk
            go_wp2_with fail
            refine HL.out.mono ?_
            rintro e w6 ⟨rfl, hb6⟩
            have HN6 := Lib.hid (H8.out.next HK.out hb6)
            clear hb6 H8 HL
            go_wp2
            clear hne
            go_loopw [15] (fun i wr => ∃ j : Nat, j ≤ 17 ∧ i = .int .i64 j ∧ Nst w wr g gq (AckT f x 17 j) P) (fun i _ => 17 - (intOf i).toNat)
            case atStart => exact ⟨0, by omega, rfl, HN6.out⟩
            case round =>
              obtain ⟨j, hj, rfl, hn⟩ := hrel
              have HN7 := Lib.hid hn
              clear hn
              by_cases hjk : j < 17
              · have hjkI : (j : Int) < 17 := by omega
                obtain ⟨hfit, hmo, hdrv, hst⟩ := ackT_step HM.out HFW.out HK17.out hjk
                have hs := fun (W : World) (h : Nst w W g gq (AckT f x 17 j) P) => nst_step h HK.out hfit (if j < 6 ∧ x < 16 then 0 else 1) (by split <;> omega)
                have hd := nst_drive HN7.out fun h => absurd h hmo
                rw [hdrv] at hd
                rw [hst] at hs
                by_cases hj6 : j < 6
                · have hj6I : (j : Int) < 6 := by omega
                  rw [if_pos ⟨hj6, by omega⟩] at hs hd
                  have HS := Lib.hid hs
                  have HD := Lib.hid hd
                  clear hs hd hst hdrv hmo hfit
                  go_wp2_with fail
                  refine HD.out.mono ?_
                  rintro e w4 ⟨rfl, hb4⟩
                  have HN8 := Lib.hid (HN7.out.next HK.out hb4)
                  clear hb4 HD
                  go_wp2_with fail
                  refine (HS.out _ HN8.out).mono ?_
                  rintro e w5 ⟨u, rfl, h5, h6, h7⟩
                  obtain ⟨Ae, ce, rfl, -⟩ := h5.len
                  have HN9 := Lib.hid h6
                  clear h5 h6 h7 HS
                  go_wp2
                  go_roundw
                  case rel => exact ⟨j + 1, by omega, by go_num, HN9.out⟩
                  case measure => simp [intOf]; omega
                · have hj6I : ¬ (j : Int) < 6 := by omega
                  rw [if_neg (fun h => hj6 h.1)] at hs hd
                  have HS := Lib.hid hs
                  have HD := Lib.hid hd
                  clear hs hd hst hdrv hmo hfit
                  go_wp2_with fail
                  refine HD.out.mono ?_
                  rintro e w4 ⟨rfl, hb4⟩
                  have HN8 := Lib.hid (HN7.out.next HK.out hb4)
                  clear hb4 HD
                  go_wp2_with fail
                  refine (HS.out _ HN8.out).mono ?_
                  rintro e w5 ⟨u, rfl, h5, h6, h7⟩
                  obtain ⟨Ae, ce, rfl, -⟩ := h5.len
                  have HN9 := Lib.hid h6
                  clear h5 h6 h7 HS
                  go_wp2
                  go_roundw
                  case rel => exact ⟨j + 1, by omega, by go_num, HN9.out⟩
                  case measure => simp [intOf]; omega
              · have hjkI : ¬ (j : Int) < 17 := by omega
                have H9 := Lib.hid (HN7.out.to (show AckT f x 17 j = idk f (decide (0 < x + 1)) (tk (x + 1)) by rw [show j = 17 by omega, ackT_end, decide_eq_true (Nat.succ_pos x)]))
                have hlk := nst_look H9.out
                rw [show (idk f (decide (0 < x + 1)) (tk (x + 1))).lookV = .agg #[.int .i64 1, .bool (decide (0 < x + 1)), .int .i64 (tk (x + 1)), .int .i64 0, .bool false, .int .i64 1] from rfl] at hlk
                have HL := Lib.hid hlk
                have hf0 := lookF0
                clear hlk HN7 HN6 hjk hj
                go_wp2_with fail
                refine HL.out.mono ?_
                rintro e w8 ⟨rfl, hb8⟩
                have HN8 := Lib.hid (H9.out.next HK.out hb8)
                have hd := nst_drive HN8.out fun h => by cases h
                rw [show (idk f (decide (0 < x + 1)) (tk (x + 1))).drv = 0 from rfl] at hd
                have HD := Lib.hid hd
                clear hd hb8 HL
                go_wp2_with fail
                refine HD.out.mono ?_
                rintro e w9 ⟨rfl, hb9⟩
                have HN9 := Lib.hid (HN8.out.next HK.out hb9)
                clear hb9
                clear hf0
                go_wp2
                go_roundw
                case rel => exact ⟨x + 1, by omega, by go_num, HN9.out⟩
                case measure => simp [intOf]; omega
          · by_cases hx16 : x < 16
            · have g16 : (16 : Int) ≤ (x : Int) + 1 := by omega
              have g17 : ¬ (16 : Int) < (x : Int) + 1 := by omega
              have htk : tk (x + 1) = 128 := by unfold tk; rw [if_neg (by omega)]
              have HK17 := Lib.hid (show (25 : Nat) = if 15 ≤ x then 25 else 17 by rw [if_pos (by omega)])
              have H8 := Lib.hid (H7.out.to (ackT_zero (f := f) (x := x) (K := 25) (by omega)).symm)
              have hlk := nst_look H8.out
              rw [ackT_look (by omega), if_neg (by omega), htk] at hlk
              have HL := Lib.hid hlk
              have hne := lkneq 3 (128)
              clear H7 hlk
              go_wp2_with fail
              refine HL.out.mono ?_
              rintro e w6 ⟨rfl, hb6⟩
              have HN6 := Lib.hid (H8.out.next HK.out hb6)
              clear hb6 H8 HL
              go_wp2
              clear hne
              go_loopw [15] (fun i wr => ∃ j : Nat, j ≤ 25 ∧ i = .int .i64 j ∧ Nst w wr g gq (AckT f x 25 j) P) (fun i _ => 25 - (intOf i).toNat)
              case atStart => exact ⟨0, by omega, rfl, HN6.out⟩
              case round =>
                obtain ⟨j, hj, rfl, hn⟩ := hrel
                have HN7 := Lib.hid hn
                clear hn
                by_cases hjk : j < 25
                · have hjkI : (j : Int) < 25 := by omega
                  obtain ⟨hfit, hmo, hdrv, hst⟩ := ackT_step HM.out HFW.out HK17.out hjk
                  have hs := fun (W : World) (h : Nst w W g gq (AckT f x 25 j) P) => nst_step h HK.out hfit (if j < 6 ∧ x < 16 then 0 else 1) (by split <;> omega)
                  have hd := nst_drive HN7.out fun h => absurd h hmo
                  rw [hdrv] at hd
                  rw [hst] at hs
                  by_cases hj6 : j < 6
                  · have hj6I : (j : Int) < 6 := by omega
                    rw [if_pos ⟨hj6, by omega⟩] at hs hd
                    have HS := Lib.hid hs
                    have HD := Lib.hid hd
                    clear hs hd hst hdrv hmo hfit
                    go_wp2_with fail
                    refine HD.out.mono ?_
                    rintro e w4 ⟨rfl, hb4⟩
                    have HN8 := Lib.hid (HN7.out.next HK.out hb4)
                    clear hb4 HD
                    go_wp2_with fail
                    refine (HS.out _ HN8.out).mono ?_
                    rintro e w5 ⟨u, rfl, h5, h6, h7⟩
                    obtain ⟨Ae, ce, rfl, -⟩ := h5.len
                    have HN9 := Lib.hid h6
                    clear h5 h6 h7 HS
                    go_wp2
                    go_roundw
                    case rel => exact ⟨j + 1, by omega, by go_num, HN9.out⟩
                    case measure => simp [intOf]; omega
                  · have hj6I : ¬ (j : Int) < 6 := by omega
                    rw [if_neg (fun h => hj6 h.1)] at hs hd
                    have HS := Lib.hid hs
                    have HD := Lib.hid hd
                    clear hs hd hst hdrv hmo hfit
                    go_wp2_with fail
                    refine HD.out.mono ?_
                    rintro e w4 ⟨rfl, hb4⟩
                    have HN8 := Lib.hid (HN7.out.next HK.out hb4)
                    clear hb4 HD
                    go_wp2_with fail
                    refine (HS.out _ HN8.out).mono ?_
                    rintro e w5 ⟨u, rfl, h5, h6, h7⟩
                    obtain ⟨Ae, ce, rfl, -⟩ := h5.len
                    have HN9 := Lib.hid h6
                    clear h5 h6 h7 HS
                    go_wp2
                    go_roundw
                    case rel => exact ⟨j + 1, by omega, by go_num, HN9.out⟩
                    case measure => simp [intOf]; omega
                · have hjkI : ¬ (j : Int) < 25 := by omega
                  have H9 := Lib.hid (HN7.out.to (show AckT f x 25 j = idk f (decide (0 < x + 1)) (tk (x + 1)) by rw [show j = 25 by omega, ackT_end, decide_eq_true (Nat.succ_pos x)]))
                  have hlk := nst_look H9.out
                  rw [show (idk f (decide (0 < x + 1)) (tk (x + 1))).lookV = .agg #[.int .i64 1, .bool (decide (0 < x + 1)), .int .i64 (tk (x + 1)), .int .i64 0, .bool false, .int .i64 1] from rfl] at hlk
                  have HL := Lib.hid hlk
                  have hf0 := lookF0
                  clear hlk HN7 HN6 hjk hj
                  go_wp2_with fail
                  refine HL.out.mono ?_
                  rintro e w8 ⟨rfl, hb8⟩
                  have HN8 := Lib.hid (H9.out.next HK.out hb8)
                  have hd := nst_drive HN8.out fun h => by cases h
                  rw [show (idk f (decide (0 < x + 1)) (tk (x + 1))).drv = 0 from rfl] at hd
                  have HD := Lib.hid hd
                  clear hd hb8 HL
                  go_wp2_with fail
                  refine HD.out.mono ?_
                  rintro e w9 ⟨rfl, hb9⟩
                  have HN9 := Lib.hid (HN8.out.next HK.out hb9)
                  clear hb9
                  clear hf0
                  go_wp2
                  go_roundw
                  case rel => exact ⟨x + 1, by omega, by go_num, HN9.out⟩
                  case measure => simp [intOf]; omega
            · have g16 : (16 : Int) ≤ (x : Int) + 1 := by omega
              have g17 : (16 : Int) < (x : Int) + 1 := by omega
              have htk : tk (x + 1) = 128 := by unfold tk; rw [if_neg (by omega)]
              have HK17 := Lib.hid (show (25 : Nat) = if 15 ≤ x then 25 else 17 by rw [if_pos (by omega)])
              have H8 := Lib.hid (H7.out.to (ackT_zero (f := f) (x := x) (K := 25) (by omega)).symm)
              have hlk := nst_look H8.out
              rw [ackT_look (by omega), if_pos (by omega), htk] at hlk
              have HL := Lib.hid hlk
              have hne := lkneq 4 (128)
              clear H7 hlk
              go_wp2_with fail
              refine HL.out.mono ?_
              rintro e w6 ⟨rfl, hb6⟩
              have HN6 := Lib.hid (H8.out.next HK.out hb6)
              clear hb6 H8 HL
              go_wp2
              clear hne
              go_loopw [15] (fun i wr => ∃ j : Nat, j ≤ 25 ∧ i = .int .i64 j ∧ Nst w wr g gq (AckT f x 25 j) P) (fun i _ => 25 - (intOf i).toNat)
              case atStart => exact ⟨0, by omega, rfl, HN6.out⟩
              case round =>
                obtain ⟨j, hj, rfl, hn⟩ := hrel
                have HN7 := Lib.hid hn
                clear hn
                by_cases hjk : j < 25
                · have hjkI : (j : Int) < 25 := by omega
                  obtain ⟨hfit, hmo, hdrv, hst⟩ := ackT_step HM.out HFW.out HK17.out hjk
                  have hs := fun (W : World) (h : Nst w W g gq (AckT f x 25 j) P) => nst_step h HK.out hfit (if j < 6 ∧ x < 16 then 0 else 1) (by split <;> omega)
                  have hd := nst_drive HN7.out fun h => absurd h hmo
                  rw [hdrv] at hd
                  rw [hst] at hs
                  rw [if_neg (fun h => hx16 h.2)] at hs hd
                  by_cases hj6 : j < 6
                  · have hj6I : (j : Int) < 6 := by omega
                    have HS := Lib.hid hs
                    have HD := Lib.hid hd
                    clear hs hd hst hdrv hmo hfit
                    go_wp2_with fail
                    refine HD.out.mono ?_
                    rintro e w4 ⟨rfl, hb4⟩
                    have HN8 := Lib.hid (HN7.out.next HK.out hb4)
                    clear hb4 HD
                    go_wp2_with fail
                    refine (HS.out _ HN8.out).mono ?_
                    rintro e w5 ⟨u, rfl, h5, h6, h7⟩
                    obtain ⟨Ae, ce, rfl, -⟩ := h5.len
                    have HN9 := Lib.hid h6
                    clear h5 h6 h7 HS
                    go_wp2
                    go_roundw
                    case rel => exact ⟨j + 1, by omega, by go_num, HN9.out⟩
                    case measure => simp [intOf]; omega
                  · have hj6I : ¬ (j : Int) < 6 := by omega
                    have HS := Lib.hid hs
                    have HD := Lib.hid hd
                    clear hs hd hst hdrv hmo hfit
                    go_wp2_with fail
                    refine HD.out.mono ?_
                    rintro e w4 ⟨rfl, hb4⟩
                    have HN8 := Lib.hid (HN7.out.next HK.out hb4)
                    clear hb4 HD
                    go_wp2_with fail
                    refine (HS.out _ HN8.out).mono ?_
                    rintro e w5 ⟨u, rfl, h5, h6, h7⟩
                    obtain ⟨Ae, ce, rfl, -⟩ := h5.len
                    have HN9 := Lib.hid h6
                    clear h5 h6 h7 HS
                    go_wp2
                    go_roundw
                    case rel => exact ⟨j + 1, by omega, by go_num, HN9.out⟩
                    case measure => simp [intOf]; omega
                · have hjkI : ¬ (j : Int) < 25 := by omega
                  have H9 := Lib.hid (HN7.out.to (show AckT f x 25 j = idk f (decide (0 < x + 1)) (tk (x + 1)) by rw [show j = 25 by omega, ackT_end, decide_eq_true (Nat.succ_pos x)]))
                  have hlk := nst_look H9.out
                  rw [show (idk f (decide (0 < x + 1)) (tk (x + 1))).lookV = .agg #[.int .i64 1, .bool (decide (0 < x + 1)), .int .i64 (tk (x + 1)), .int .i64 0, .bool false, .int .i64 1] from rfl] at hlk
                  have HL := Lib.hid hlk
                  have hf0 := lookF0
                  clear hlk HN7 HN6 hjk hj
                  go_wp2_with fail
                  refine HL.out.mono ?_
                  rintro e w8 ⟨rfl, hb8⟩
                  have HN8 := Lib.hid (H9.out.next HK.out hb8)
                  have hd := nst_drive HN8.out fun h => by cases h
                  rw [show (idk f (decide (0 < x + 1)) (tk (x + 1))).drv = 0 from rfl] at hd
                  have HD := Lib.hid hd
                  clear hd hb8 HL
                  go_wp2_with fail
                  refine HD.out.mono ?_
                  rintro e w9 ⟨rfl, hb9⟩
                  have HN9 := Lib.hid (HN8.out.next HK.out hb9)
                  clear hb9
                  clear hf0
                  go_wp2
                  go_roundw
                  case rel => exact ⟨x + 1, by omega, by go_num, HN9.out⟩
                  case measure => simp [intOf]; omega
    · have hltI : ¬ (x : Int) + 1 ≤ (a : Int) := by omega
      have hlk := nst_look HN.out
      rw [show (idk f (decide (0 < x)) (tk x)).lookV = .agg #[.int .i64 1, .bool (decide (0 < x)), .int .i64 (tk x), .int .i64 0, .bool false, .int .i64 1] from rfl] at hlk
      have HL := Lib.hid hlk
      have hf3 := lookF3
      clear hlk
      go_wp2_with fail
      refine HL.out.mono ?_
      rintro e w8 ⟨rfl, hb8⟩
      have HB9 := Lib.hid (nxt HN.out.below hb8)
      clear hb8
      go_wp2_with fail
      refine (awake10 _).mono ?_
      rintro e w9 ⟨rfl, hb9⟩
      have HB10 := Lib.hid (nxt HB9.out hb9)
      clear hb9
      go_wp2
      go_ret
      exact ⟨rfl, HB10.out⟩

theorem acks_any (f : Fr) (a : Int) (w : World) (hwf : f.wf) :
    Calls Tryz.prog 9 #[f.val, .int .i64 a] w fun e w' => e = .returned (.bool true) ∧ Below w.heap.size w w' := by
  cases hm : f.may
  · exact acks_bad f a w hm
  · by_cases h : a < 0 ∨ 40 < a
    · exact acks_out f a w hm hwf h
    · obtain ⟨x, rfl⟩ := Int.eq_ofNat_of_zero_le (show 0 ≤ a by omega)
      exact acks_in f x w hm hwf (by omega)
end Go.Proofs.YtenfcbmeokenaaaGreat
