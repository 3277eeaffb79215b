/- The contracts of the reference's Behind and Sum. -/
import Derived.Test.YtclinogamfpooaaK3
namespace Go.Proofs.Ytclinogamfpooaa
open Go.RowKit

theorem ofB_at (s k : Nat) (h : k < 15) : (ofB s 15)[k]? = some (bit s (14 - k)) := by
  unfold ofB
  rw [List.getElem?_map, List.getElem?_range h]; rfl
theorem ofB_take (n k : Nat) (h : k < 15) : (ofB n 15).take (k + 1) = (ofB n 15).take k ++ [bit n (14 - k)] := by
  rw [List.take_add_one, ofB_at n k h]; rfl
theorem poly_at (k : Nat) (h : k < 15) : poly[k]? = some (poly.getD k 0) := by
  rw [List.getElem?_eq_getElem (by simpa [poly] using h)]; simp [h, poly]
theorem poly_01 : ∀ k : Nat, k < 15 → (poly.getD k 0 = 0 ∨ poly.getD k 0 = 1) := by decide

set_option maxHeartbeats 800000 in
theorem behind_ok (A : Option Addr) (cap s : Nat) (z : Int) (w : World) (hr : Il w A 15 (ofB s 15)) (hs : s < 32768) (hz : z = 0 ∨ z = 1) :
    Calls Try.prog 55 #[.slice A 15 cap, .int .i64 z] w (SlOne (ofB (stp s z) 15) w) := by
  obtain ⟨ad, rfl, hlt, hcl⟩ := hr.2 (by omega)
  have h0 := hcl 0 (by omega)
  rw [show (ofB s 15).getD 0 0 = bit s 14 from by rw [List.getD_eq_getElem?_getD, ofB_at s 0 (by omega)]; rfl] at h0
  have ha0 : ad.add 0 = ad := by unfold Addr.add; split <;> simp_all
  rw [ha0] at h0
  have HB := Lib.hid (fun k hk => bit_stp (k := k) hs hz hk)
  have hb14 := lvl_01 (bit_lvl s 14)
  have HR := Lib.hid hr
  clear hr hcl hs
  generalize bit s 14 = b14 at *
  have p1 : 0 ≤ b14 := by omega
  have p2 : b14 ≤ 1 := by omega
  have p3 : 0 ≤ z := by omega
  have p4 : z ≤ 1 := by omega
  clear hb14 hz
  generalize hq : ofB (stp s z) 15 = qs at *
  go_enter Try.func55, Try.ntmps55
  have HO := Lib.hid (Own.lit w w.heap.size [] (Nat.le_refl _) (by simp))
  go_wp2_with fail
  generalize htt : (b14 + z) % 2 = t at *
  have t1 : 0 ≤ t := by omega
  have t2 : t ≤ 1 := by omega
  clear htt
  refine (poly_ok _).mono ?_
  rintro e w1 ⟨rfl, hi1, hb1⟩
  have HO1 := Lib.hid (HO.out.below hb1)
  have hw1 : Below w.heap.size w w1 := nxt ((Below.refl _ _).alloc (Nat.le_refl _) _) hb1
  have hnb : (w.alloc (.cells #[] 3)).heap.size = w.heap.size + 1 := by simp
  rw [hnb] at hi1 ⊢
  have HP := Lib.hid hi1
  clear HO hi1 hb1 hnb
  go_wp2
  go_loopw [6, 8] (fun v i wr => ∃ k : Nat, k ≤ 15 ∧ i = .int .i64 k ∧ Own wr w.heap.size v (qs.take k) ∧ v.ownBlock ≠ some (w.heap.size + 1) ∧ Il wr (some ⟨w.heap.size + 1, 0, none⟩) 15 poly ∧ Below w.heap.size w wr) (fun _ i _ => 15 - (intOf i).toNat)
  case atStart => exact ⟨0, Nat.zero_le _, rfl, HO1.out, by simp [Value.ownBlock], HP.out, hw1⟩
  case round =>
    obtain ⟨k, hk, rfl, ho, hne, hpo, hbel⟩ := hrel
    by_cases hlt : k < 15
    · obtain ⟨pd, pz, hpd, hpz, hpc⟩ := hpo.at_ hlt
      injection hpd with hpd
      subst hpd
      rw [add_zero_off] at hpc
      rw [poly_at k hlt] at hpz
      injection hpz with hpz
      have hp01 := poly_01 k hlt
      have HE := Lib.hid (HB.out k hlt)
      rw [hpz] at hp01 HE
      have HT := Lib.hid (ofB_take (stp s z) k hlt)
      rw [hq] at HT
      have hmul : t * pz = 0 ∨ t * pz = 1 := by
        rcases hp01 with h | h <;> rw [h] <;> omega
      obtain ⟨u, hu⟩ : ∃ u, t * pz = u := ⟨_, rfl⟩
      rw [hu] at HE hmul
      have u1 : 0 ≤ u := by omega
      have u2 : u ≤ 1 := by omega
      have q1 : 0 ≤ pz := by omega
      have q2 : pz ≤ 1 := by omega
      have HX := Lib.hid ho; have HPO := Lib.hid hpo; have HNE := Lib.hid hne
      have hlk : (qs.take k).length ≤ 15 := by rw [List.length_take]; omega
      have hsz := hbel.size
      clear ho hpo hne hpz hp01 hmul hq
      by_cases h14 : k < 14
      · obtain ⟨sd, y, hsd, hy, hyc⟩ := (HR.out.below hbel).at_ (show k + 1 < 15 by omega)
        injection hsd with hsd
        subst hsd
        rw [ofB_at s (k + 1) (by omega)] at hy
        injection hy with hy
        have hy01 := lvl_01 (bit_lvl s (13 - k))
        rw [show 14 - (k + 1) = 13 - k by omega] at hy
        have HE2 := Lib.hid HE.out
        rw [if_pos h14, hy] at HE2
        rw [hy] at hy01
        have y1 : 0 ≤ y := by omega
        have y2 : y ≤ 1 := by omega
        have hyc2 : wr.cell? ⟨ad.block, ad.off + (k + 1), none⟩ = some (.int .i64 y) := hyc
        clear hy hy01 HE
        obtain ⟨x, hx⟩ : ∃ x, (y + u) % 2 = x := ⟨_, rfl⟩
        rw [hx] at HE2
        have HS := Lib.hid (Arr.new wr .i64 3 [x]).il
        go_wp2_with (at_builtin; (refine append_ints2 _ rfl (.tmp 29) (.tmp 39) rfl w.heap.size u6 (qs.take k) rfl (HX.out.alloc _) _ 1 1 [x] rfl HS.out (by simp; omega) (by simp; omega) ?_); intro v1 w2 ho2 hg2 hl2)
        go_roundw
        case rel =>
          have hpa := push_away hl2 hg2 HNE.out HPO.out (by omega)
          exact ⟨k + 1, by omega, by go_num, by rw [HT.out, HE2.out]; exact ho2, hpa.1, hpa.2, push_lit hbel hsz HX.out hg2⟩
        case measure => simp [intOf]; omega
      · have HE2 := Lib.hid HE.out
        rw [if_neg h14] at HE2
        clear HE
        obtain ⟨x, hx⟩ : ∃ x, (0 + u) % 2 = x := ⟨_, rfl⟩
        have hx2 : u % 2 = x := by rw [← hx, Int.zero_add]
        rw [hx] at HE2
        have HS := Lib.hid (Arr.new wr .i64 3 [x]).il
        go_wp2_with (at_builtin; (refine append_ints2 _ rfl (.tmp 29) (.tmp 39) rfl w.heap.size u6 (qs.take k) rfl (HX.out.alloc _) _ 1 1 [x] rfl HS.out (by simp; omega) (by simp; omega) ?_); intro v1 w2 ho2 hg2 hl2)
        go_roundw
        case rel =>
          have hpa := push_away hl2 hg2 HNE.out HPO.out (by omega)
          exact ⟨k + 1, by omega, by go_num, by rw [HT.out, HE2.out]; exact ho2, hpa.1, hpa.2, push_lit hbel hsz HX.out hg2⟩
        case measure => simp [intOf]; omega
    · have e : qs.take k = qs := List.take_of_length_le (by rw [← hq, ofB_len]; omega)
      rw [e] at ho
      obtain ⟨A', cap', rfl, hi'⟩ := ho.il
      have HI := Lib.hid hi'
      clear ho hne hpo hi' e
      go_wp2
      go_ret
      exact ⟨A', cap', rfl, HI.out, hbel⟩

set_option maxHeartbeats 400000 in
theorem rsum2_ok (A : Option Addr) (n cap : Nat) (zs : List Int) (w : World) (hr : Il w A n zs) (hn : n ≤ 100000) (hl : ∀ z ∈ zs, lvl z = true) :
    Calls Try.prog 43 #[.slice A n cap] w (SlOne (ofB (csum zs) 15) w) := by
  have hmk : ∀ w : World, (Instr.makeSlice 25 (.int .i64 15) (.int .i64 15)).run Try.prog w = .ok (.slice (some ⟨w.heap.size, 0, none⟩) 15 15) (w.alloc (.cells ((List.replicate 15 0).map (Value.int .i64)).toArray 3)) := make22 15 (by omega)
  have HB := Lib.hid (Arr.new w .i64 3 (List.replicate 15 0))
  have HL := Lib.hid hl; have HR := Lib.hid hr
  clear hl hr
  generalize ((List.replicate 15 0).map (Value.int .i64)).toArray = cs at hmk HB
  go_enter Try.func43, Try.ntmps43
  go_wp2
  go_loopw [3, 4] (fun v i wr => ∃ (k : Nat) (B : Option Addr) (c : Nat), k ≤ n ∧ i = .int .i64 k ∧ v = .slice B 15 c ∧ Il wr B 15 (ofB (csum (zs.take k)) 15) ∧ Below w.heap.size w wr) (fun _ i _ => n - (intOf i).toNat)
  case atStart => exact ⟨0, _, _, Nat.zero_le _, rfl, rfl, by rw [show csum (zs.take 0) = 0 from rfl, ofB_nought]; exact HB.out.il, (Below.refl _ _).alloc (Nat.le_refl _) _⟩
  case round =>
    obtain ⟨k, B, c, hk, rfl, rfl, hi, hbel⟩ := hrel
    have HI := Lib.hid hi
    clear hi
    by_cases hlt : k < n
    · obtain ⟨ad, z, rfl, hz, hc⟩ := (HR.out.below hbel).at_ hlt
      have HS := Lib.hid (csum_step zs k z hz)
      have HZ := Lib.hid (all_at HL.out hz)
      have hs := csum_lt (zs.take k)
      clear hz
      generalize csum (zs.take k) = s at *
      go_wp2_with fail
      refine (behind_ok _ _ s z _ HI.out hs HZ.out).mono ?_
      rintro e w3 ⟨A3, cap3, rfl, hi3, hb3⟩
      rw [ofB_len] at hi3 ⊢
      have HI3 := Lib.hid hi3
      clear hi3
      go_wp2
      go_roundw
      case rel => exact ⟨k + 1, A3, cap3, by omega, by go_num, rfl, by rw [HS.out]; exact HI3.out, nxt hbel hb3⟩
      case measure => simp [intOf]; omega
    · have HS := Lib.hid (show zs.take k = zs from List.take_of_length_le (by rw [HR.out.1]; omega))
      rw [HS.out] at HI
      go_wp2
      go_ret
      exact ⟨B, c, by rw [ofB_len]; rfl, by rw [ofB_len]; exact HI.out, hbel⟩
end Go.Proofs.Ytclinogamfpooaa
