/- The contract of the reference's Order. -/
import Derived.Test.YtjbbneagikogbaaAY
namespace Go.Proofs.Ytjbbneagikogbaa
open Go.RowKit

def slen : Value → Nat | .slice _ n _ => n | _ => 0
theorem push_litF {w wr w2 : World} {o : Obj} {B : Nat} {v : Value} {l : List Fr} (hB : Below B w wr) (hle : B ≤ wr.heap.size) (hx : Fown wr B v l) (hg : (wr.alloc o).grownBy w2 v.ownBlock) : Below B w w2 :=
  (hB.alloc hle o).grown hg (by simp; omega) (fun _ hk => hx.row _ hk)
theorem Sep.liesF {w : World} {base : Nat} {u v v' : Value} {l : List Fr} (h : Sep u v) (hu : Fown w base u l) (hl : Lies w v v') : Sep u v' := by
  rcases hl with e | e
  · unfold Sep; rw [e]; exact h
  · cases hk : u.ownBlock with
    | none => exact .inl hk
    | some k =>
      have := (World.ownsRow.lt hu k hk).2
      exact .inr (by rw [hk, e]; simp; omega)
theorem map_snoc {α β : Type} (f : α → β) (l : List α) (a : α) : (l ++ [a]).map f = l.map f ++ [f a] := by simp

set_option maxRecDepth 100000 in
set_option maxHeartbeats 6400000 in
theorem rorder_any (fs : Nat → Fr) (A : Option Addr) (n cap : Nat) (w : World) (hr : Fl w A n fs) (hn : n ≤ 100) (hmay : ∀ i, i < n → (fs i).may = true) (ps : List Nat) (hs : Srt (fun i => (fs i).plc) n ps) :
    Calls Try.prog 18 #[.slice A n cap] w fun e w' => ∃ v, e = .returned v ∧ Own w' w.heap.size v (asI ps) ∧ Below w.heap.size w w' := by
  have HR := Lib.hid hr; have HM := Lib.hid hmay; have HS := Lib.hid hs; have HLN := Lib.hid hs.len
  have HO0 := Lib.hid ((own_empty w w.heap.size (Nat.le_refl _)).alloc (.cells (Array.replicate n (Value.bool false)) 4))
  have HB0 := Lib.hid (((Below.refl w.heap.size w).alloc (Nat.le_refl _) (.cells #[] 3)).alloc (by simp) (.cells (Array.replicate n (Value.bool false)) 4))
  have HG0 := Lib.hid (barr_new (w.alloc (.cells #[] 3)) n)
  rw [show (w.alloc (.cells #[] 3)).heap.size = w.heap.size + 1 by simp, ← gn_zero n ps] at HG0
  have hmk := makeB n (by omega)
  clear hr hmay hs
  go_enter Try.func18, Try.ntmps18
  go_wp2
  generalize (w.alloc (.cells #[] 3)).alloc (.cells (Array.replicate n (Value.bool false)) 4) = w0 at *
  go_loopw [3] (fun vo wr => ∃ k : Nat, k ≤ n ∧ Own wr w.heap.size vo (asI (ps.take k)) ∧ vo.ownBlock ≠ some (w.heap.size + 1) ∧ BArr wr (w.heap.size + 1) (gn n ps k) ∧ Below w.heap.size w wr) (fun vo _ => n - slen vo)
  case atStart => exact ⟨0, Nat.zero_le _, HO0.out, by simp [Value.ownBlock], HG0.out, HB0.out⟩
  case round =>
    obtain ⟨k, hk, ho, hne, hg, hb⟩ := hrel
    have HLT := Lib.hid (show (asI (ps.take k)).length = k by rw [asI_len, List.length_take, HLN.out]; omega)
    obtain ⟨A3, c3, rfl, hi3, hc3⟩ := ho.il2
    have HO := Lib.hid ho; have HNE := Lib.hid hne; have HG := Lib.hid hg; have HB := Lib.hid hb
    rw [HLT.out] at HO HNE ⊢
    clear ho hne hg hb hi3 hc3
    by_cases hlt : k < n
    · have hlt' : (k : Int) < (n : Int) := by omega
      rename World => wo
      have HF0 := Lib.hid ((Fown.nil wo wo.heap.size (Nat.le_refl _)).alloc (.cells #[] 3))
      have HA0 := Lib.hid (own_empty (wo.alloc (.cells #[] 28)) wo.heap.size (by simp))
      rw [show (wo.alloc (.cells #[] 28)).heap.size = wo.heap.size + 1 by simp] at HA0
      have HBI := Lib.hid (((Below.refl wo.heap.size wo).alloc (Nat.le_refl _) (.cells #[] 28)).alloc (by simp) (.cells #[] 3))
      have HSP := Lib.hid (show Sep (.slice (some ⟨wo.heap.size, 0, none⟩) 0 0) (.slice (some ⟨wo.heap.size + 1, 0, none⟩) 0 0) from .inr (by simp [Value.ownBlock]))
      have HGL := Lib.hid HG.out.lt
      go_wp2
      go_loopw [5, 6, 7] (fun vr va vi wr => ∃ t : Nat, t ≤ n ∧ vi = .int .i64 t ∧ Fown wr wo.heap.size vr ((rm ps k t).map fs) ∧ Own wr wo.heap.size va (asI (rm ps k t)) ∧ Sep vr va ∧ Below wo.heap.size wo wr) (fun _ _ vi _ => n - (intOf vi).toNat)
      case atStart => exact ⟨0, Nat.zero_le _, rfl, HF0.out, HA0.out, HSP.out, HBI.out⟩
      case round =>
        obtain ⟨t, ht, rfl, hf, ha, hsp, hbt⟩ := hrel
        have HF := Lib.hid hf; have HA := Lib.hid ha; have HS2 := Lib.hid hsp; have HBT := Lib.hid hbt
        clear hf ha hsp hbt HF0 HA0 HBI HSP
        by_cases htn : t < n
        · have htn' : (t : Int) < (n : Int) := by omega
          have cg := (HG.out.below HBT.out HGL.out).cell (gn_get (k := k) (ps := ps) htn)
          cases hd : decide (t ∈ ps.take k) with
          | true =>
            rw [hd] at cg
            have HRM := Lib.hid (rm_yes hd)
            clear hd
            go_wp2
            go_roundw
            case rel => exact ⟨t + 1, by omega, by go_num, by rw [HRM.out]; exact HF.out, by rw [HRM.out]; exact HA.out, HS2.out, HBT.out⟩
            case measure => simp [intOf]; omega
          | false =>
            rw [hd] at cg
            have HRM := Lib.hid (rm_no hd)
            have HRL := Lib.hid (rm_len ps k t)
            clear hd
            obtain ⟨ad, rfl, hl, c0, c1, c2, c3, c4, c5, c6, c7, c8, c9, c10, c11⟩ := (HR.out.below (nxt HB.out HBT.out)).at_ htn
            have HFL := Lib.hid (fs_lit wr [fs t])
            have hs := HBT.out.size
            clear hl
            go_wp2_with (first
              | (at_builtin; (refine append_F _ rfl (.tmp 31) (.tmp 36) rfl wo.heap.size u5 ((rm ps k t).map fs) rfl (HF.out.alloc _) (some ⟨wr.heap.size, 0, none⟩) 1 1 [fs t] rfl HFL.out (by rw [List.length_map]; have := HRL.out; omega) (by simp; omega) ?_); intro v2 w2 ho2 hg2 hl2; have HB2 := Lib.hid (push_litF HBT.out hs HF.out hg2); have HF2 := Lib.hid ho2; have HA2 := Lib.hid ((HA.out.alloc _).kept hg2 HS2.out.symm); have HSP2 := Lib.hid (HS2.out.symm.lies (HA.out.alloc _) hl2).symm; have HN := Lib.hid (Arr.new w2 .i64 3 [(t : Int)]).il; have hs2 := HB2.out.size; clear ho2 hg2 hl2)
              | (at_builtin; (refine append_ints2 _ rfl (.tmp 38) (.tmp 40) rfl wo.heap.size u6 (asI (rm ps k t)) rfl (HA2.out.alloc _) _ 1 1 [(t : Int)] rfl HN.out (by rw [asI_len]; have := HRL.out; omega) (by simp; omega) ?_); intro v3 w3 ho3 hg3 hl3; have HB3 := Lib.hid (push_lit HB2.out hs2 HA2.out hg3); have HA3 := Lib.hid ho3; have HF3 := Lib.hid ((HF2.out.alloc _).kept hg3 HSP2.out); have HSP3 := Lib.hid (HSP2.out.liesF (HF2.out.alloc _) hl3); clear ho3 hg3 hl3)
              | fail)
            go_roundw
            case rel => exact ⟨t + 1, by omega, by go_num, by rw [HRM.out, map_snoc]; exact HF3.out, by rw [HRM.out, asI_app]; exact HA3.out, HSP3.out, HB3.out⟩
            case measure => simp [intOf]; omega
        · obtain rfl : n = t := by omega
          obtain ⟨j, hj, hjq, hmy, hwn⟩ := HS.out.next HM.out hlt
          have hqn := HS.out.lt hlt
          have HQ := Lib.hid (show ps[k]? = some (ps.getD k 0) from getD_some' (by rw [HLN.out]; exact hlt))
          obtain ⟨q, hq⟩ : ∃ q, ps.getD k 0 = q := ⟨_, rfl⟩
          rw [hq] at hjq HQ hqn
          obtain ⟨A5, c5, rfl, hfl, -⟩ := HF.out.fl
          obtain ⟨ga, ca, rfl, hga, -⟩ := HA.out.shape (by rw [asI_len]; omega)
          have HRL := Lib.hid (rm_len ps k n)
          have HCA := Lib.hid (show ∀ w' : World, Own w' wo.heap.size (.slice (some ⟨ga, 0, none⟩) (asI (rm ps k n)).length ca) (asI (rm ps k n)) → w'.cell? ⟨ga, j, none⟩ = some (.int .i64 (q : Int)) from fun w' h => by
            have h2 := h.cell (j := j) (by rw [asI_len]; exact hj)
            rw [asI_getD] at h2
            rw [h2]
            simp [List.getD, hjq])
          rw [List.length_map] at hfl ⊢
          rw [asI_len] at HA HCA ⊢
          have HFL := Lib.hid hfl; have HMY := Lib.hid hmy; have HWN := Lib.hid hwn
          clear hfl hmy hwn hq hjq
          obtain ⟨RL, hRL⟩ : ∃ RL, (rm ps k n).length = RL := ⟨_, rfl⟩
          have HRE := Lib.hid hRL
          rw [hRL] at HFL HMY HWN HA HCA HRL hj ⊢
          clear hRL HF
          have hj' : (j : Int) < (RL : Int) := by omega
          have hq' : (q : Int) < (n : Int) := by omega
          go_wp2_with fail
          refine (rwins_any (fun i => ((rm ps k n).map fs).getD i Fr.zero) A5 RL c5 _ HFL.out (by have := HRL.out; omega) HMY.out j HWN.out).mono ?_
          rintro e w6 ⟨rfl, hb6⟩
          have HB6 := Lib.hid (nxt HBT.out hb6)
          have cA := HCA.out _ (HA.out.below hb6)
          have HG6 := Lib.hid (HG.out.below HB6.out HGL.out)
          have cg := HG6.out.cell (gn_get (k := k) (ps := ps) hqn)
          have fg := HG6.out.frozen q
          have HO6 := Lib.hid ((HO.out.below HB6.out).away (g := w.heap.size + 1) (j := q) (u := .bool true) HNE.out)
          have HG7 := Lib.hid (HG6.out.put q true)
          rw [gn_put HQ.out] at HG7
          have HB7 := Lib.hid ((nxt HB.out HB6.out).setCell (p := ⟨w.heap.size + 1, q, none⟩) (Nat.le_succ _) (.bool true))
          have HN := Lib.hid (Arr.new (w6.setCell ⟨w.heap.size + 1, q, none⟩ (.bool true)) .i64 3 [(q : Int)]).il
          have hs7 := HB7.out.size
          have HSZ := Lib.hid (show (w6.setCell ⟨w.heap.size + 1, q, none⟩ (.bool true)).heap.size = w6.heap.size by simp)
          rw [HSZ.out] at HN
          clear hb6
          go_wp2_with (first
            | (at_builtin; (refine append_ints2 _ rfl (.tmp 50) (.tmp 52) rfl w.heap.size (.slice A3 k c3) (asI (ps.take k)) rfl (HO6.out.alloc _) _ 1 1 [(q : Int)] rfl HN.out (by rw [HLT.out]; omega) (by simp; rw [HSZ.out] at hs7; omega) ?_); intro v8 w8 ho8 hg8 hl8)
            | fail)
          have HB8 := Lib.hid (push_lit HB7.out hs7 HO6.out hg8)
          have HO8 := Lib.hid ho8
          have HG8 := Lib.hid ((HG7.out.below ((Below.refl _ _).alloc (Nat.le_refl _) _) HG7.out.lt).grown hg8 HNE.out)
          have HNE8 := Lib.hid (show v8.ownBlock ≠ some (w.heap.size + 1) from by
            rcases hl8 with e | e
            · rw [e]; exact HNE.out
            · rw [e]
              have := HG7.out.lt
              simp at this ⊢
              omega)
          have HST := Lib.hid (show asI (ps.take k) ++ [(q : Int)] = asI (ps.take (k + 1)) by rw [List.take_add_one, HQ.out, asI_app]; rfl)
          rw [HST.out] at HO8
          have HL8 := Lib.hid (show slen v8 = k + 1 from by
            obtain ⟨A8, c8, rfl, _, _⟩ := HO8.out.il2
            show (asI (ps.take (k + 1))).length = k + 1
            rw [asI_len, List.length_take, HLN.out]; omega)
          clear ho8 hg8 hl8
          go_roundw
          case rel => exact ⟨k + 1, by omega, HO8.out, HNE8.out, HG8.out, HB8.out⟩
          case measure => rw [HL8.out]; simp [slen]; omega
    · obtain rfl : n = k := by omega
      have HF := Lib.hid HO.out
      rw [List.take_of_length_le (by rw [HLN.out]; exact Nat.le_refl _)] at HF
      go_wp2
      go_ret
      exact ⟨_, rfl, HF.out, HB.out⟩
end Go.Proofs.Ytjbbneagikogbaa
