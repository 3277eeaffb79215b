/- The contracts of the reference's Behind and Sum. -/
import Derived.Test.YtffhhegpkejdgaaX610
import Derived.Test.YtffhhegpkejdgaaX66
namespace Go.Proofs.Ytffhhegpkejdgaa
open Go.RowKit

theorem ofB_at (s k : Nat) (h : k < 15) : (ofB s 15)[k]? = some (bit s (14 - k)) := by
  unfold ofB
  rw [List.getElem?_map, List.getElem?_range h]; rfl
theorem ofB_take (n k : Nat) (h : k < 15) : (ofB n 15).take (k + 1) = (ofB n 15).take k ++ [bit n (14 - k)] := by
  rw [List.take_add_one, ofB_at n k h]; rfl
theorem poly_at (k : Nat) (h : k < 15) : poly[k]? = some (poly.getD k 0) := by
  rw [List.getElem?_eq_getElem (by simpa [poly] using h)]; simp [h, poly]
theorem poly_01 : ∀ k : Nat, k < 15 → (poly.getD k 0 = 0 ∨ poly.getD k 0 = 1) := by decide

set_option maxHeartbeats 800000 in
theorem behind_ok (A : Option Addr) (cap s : Nat) (z : Int) (w : World) (hr : Il w A 15 (ofB s 15)) (hs : s < 32768) (hz : z = 0 ∨ z = 1) :
    Calls Try.prog 67 #[.slice A 15 cap, .int .i64 z] w (SlOne (ofB (stp s z) 15) w) := by
  obtain ⟨ad, rfl, hlt, hcl⟩ := hr.2 (by omega)
  have h0 := hcl 0 (by omega)
  rw [show (ofB s 15).getD 0 0 = bit s 14 from by rw [List.getD_eq_getElem?_getD, ofB_at s 0 (by omega)]; rfl] at h0
  have ha0 : ad.add 0 = ad := by unfold Addr.add; split <;> simp_all
  rw [ha0] at h0
  have HB := Lib.hid (fun k hk => bit_stp (k := k) hs hz hk)
  have hb14 := lvl_01 (bit_lvl s 14)
  have HR := Lib.hid hr
  clear hr hcl hs
  generalize bit s 14 = b14 at *
  have p1 : 0 ≤ b14 := by omega
  have p2 : b14 ≤ 1 := by omega
  have p3 : 0 ≤ z := by omega
  have p4 : z ≤ 1 := by omega
  clear hb14 hz
  generalize hq : ofB (stp s z) 15 = qs at *
  go_enter Try.func67, Try.ntmps67
  have HO := Lib.hid (Own.lit w w.heap.size [] (Nat.le_refl _) (by simp))
  go_wp2_with fail
  generalize htt : (b14 + z) % 2 = t at *
  have t1 : 0 ≤ t := by omega
  have t2 : t ≤ 1 := by omega
  clear htt
  refine (poly_ok _).mono ?_
  rintro e w1 ⟨rfl, hi1, hb1⟩
  have HO1 := Lib.hid (HO.out.below hb1)
  have hw1 : Below w.heap.size w w1 := nxt ((Below.refl _ _).alloc (Nat.le_refl _) _) hb1
  have hnb : (w.alloc (.cells #[] 3)).heap.size = w.heap.size + 1 := by simp
  rw [hnb] at hi1 ⊢
  have HP := Lib.hid hi1
  clear HO hi1 hb1 hnb
  go_wp2
  go_loopw [6, 8] (fun v i wr => ∃ k : Nat, k ≤ 15 ∧ i = .int .i64 k ∧ Own wr w.heap.size v (qs.take k) ∧ v.ownBlock ≠ some (w.heap.size + 1) ∧ Il wr (some ⟨w.heap.size + 1, 0, none⟩) 15 poly ∧ Below w.heap.size w wr) (fun _ i _ => 15 - (intOf i).toNat)
  case atStart => exact ⟨0, Nat.zero_le _, rfl, HO1.out, by simp [Value.ownBlock], HP.out, hw1⟩
  case round =>
    obtain ⟨k, hk, rfl, ho, hne, hpo, hbel⟩ := hrel
    by_cases hlt : k < 15
    · obtain ⟨pd, pz, hpd, hpz, hpc⟩ := hpo.at_ hlt
      injection hpd with hpd
      subst hpd
      rw [add_zero_off] at hpc
      rw [poly_at k hlt] at hpz
      injection hpz with hpz
      have hp01 := poly_01 k hlt
      have HE := Lib.hid (HB.out k hlt)
      rw [hpz] at hp01 HE
      have HT := Lib.hid (ofB_take (stp s z) k hlt)
      rw [hq] at HT
      have hmul : t * pz = 0 ∨ t * pz = 1 := by
        rcases hp01 with h | h <;> rw [h] <;> omega
      obtain ⟨u, hu⟩ : ∃ u, t * pz = u := ⟨_, rfl⟩
      rw [hu] at HE hmul
      have u1 : 0 ≤ u := by omega
      have u2 : u ≤ 1 := by omega
      have q1 : 0 ≤ pz := by omega
      have q2 : pz ≤ 1 := by omega
      have HX := Lib.hid ho; have HPO := Lib.hid hpo; have HNE := Lib.hid hne
      have hlk : (qs.take k).length ≤ 15 := by rw [List.length_take]; omega
      have hsz := hbel.size
      clear ho hpo hne hpz hp01 hmul hq
      by_cases h14 : k < 14
      · obtain ⟨sd, y, hsd, hy, hyc⟩ := (HR.out.below hbel).at_ (show k + 1 < 15 by omega)
        injection hsd with hsd
        subst hsd
        rw [ofB_at s (k + 1) (by omega)] at hy
        injection hy with hy
        have hy01 := lvl_01 (bit_lvl s (13 - k))
        rw [show 14 - (k + 1) = 13 - k by omega] at hy
        have HE2 := Lib.hid HE.out
        rw [if_pos h14, hy] at HE2
        rw [hy] at hy01
        have y1 : 0 ≤ y := by omega
        have y2 : y ≤ 1 := by omega
        have hyc2 : wr.cell? ⟨ad.block, ad.off + (k + 1), none⟩ = some (.int .i64 y) := hyc
        clear hy hy01 HE
        obtain ⟨x, hx⟩ : ∃ x, (y + u) % 2 = x := ⟨_, rfl⟩
        rw [hx] at HE2
        have HS := Lib.hid (Arr.new wr .i64 3 [x]).il
        go_wp2_with (at_builtin; (refine append_ints2 _ rfl (.tmp 29) (.tmp 39) rfl w.heap.size u6 (qs.take k) rfl (HX.out.alloc _) _ 1 1 [x] rfl HS.out (by simp; omega) (by simp; omega) ?_); intro v1 w2 ho2 hg2 hl2)
        go_roundw
        case rel =>
          have hpa := push_away hl2 hg2 HNE.out HPO.out (by omega)
          exact ⟨k + 1, by omega, by go_num, by rw [HT.out, HE2.out]; exact ho2, hpa.1, hpa.2, push_lit hbel hsz HX.out hg2⟩
        case measure => simp [intOf]; omega
      · have HE2 := Lib.hid HE.out
        rw [if_neg h14] at HE2
        clear HE
        obtain ⟨x, hx⟩ : ∃ x, (0 + u) % 2 = x := ⟨_, rfl⟩
        have hx2 : u % 2 = x := by rw [← hx, Int.zero_add]
        rw [hx] at HE2
        have HS := Lib.hid (Arr.new wr .i64 3 [x]).il
        go_wp2_with (at_builtin; (refine append_ints2 _ rfl (.tmp 29) (.tmp 39) rfl w.heap.size u6 (qs.take k) rfl (HX.out.alloc _) _ 1 1 [x] rfl HS.out (by simp; omega) (by simp; omega) ?_); intro v1 w2 ho2 hg2 hl2)
        go_roundw
        case rel =>
          have hpa := push_away hl2 hg2 HNE.out HPO.out (by omega)
          exact ⟨k + 1, by omega, by go_num, by rw [HT.out, HE2.out]; exact ho2, hpa.1, hpa.2, push_lit hbel hsz HX.out hg2⟩
        case measure => simp [intOf]; omega
    · have e : qs.take k = qs := List.take_of_length_le (by rw [← hq, ofB_len]; omega)
      rw [e] at ho
      obtain ⟨A', cap', rfl, hi'⟩ := ho.il
      have HI := Lib.hid hi'
      clear ho hne hpo hi' e
      go_wp2
      go_ret
      exact ⟨A', cap', rfl, HI.out, hbel⟩

set_option maxHeartbeats 400000 in
theorem rsum2_ok (A : Option Addr) (n cap : Nat) (zs : List Int) (w : World) (hr : Il w A n zs) (hn : n ≤ 100000) (hl : ∀ z ∈ zs, lvl z = true) :
    Calls Try.prog 46 #[.slice A n cap] w (SlOne (ofB (csum zs) 15) w) := by
  have hmk : ∀ w : World, (Instr.makeSlice 25 (.int .i64 15) (.int .i64 15)).run Try.prog w = .ok (.slice (some ⟨w.heap.size, 0, none⟩) 15 15) (w.alloc (.cells ((List.replicate 15 0).map (Value.int .i64)).toArray 3)) := make22 15 (by omega)
  have HB := Lib.hid (Arr.new w .i64 3 (List.replicate 15 0))
  have HL := Lib.hid hl; have HR := Lib.hid hr
  clear hl hr
  generalize ((List.replicate 15 0).map (Value.int .i64)).toArray = cs at hmk HB
  go_enter Try.func46, Try.ntmps46
  go_wp2
  go_loopw [3, 4] (fun v i wr => ∃ (k : Nat) (B : Option Addr) (c : Nat), k ≤ n ∧ i = .int .i64 k ∧ v = .slice B 15 c ∧ Il wr B 15 (ofB (csum (zs.take k)) 15) ∧ Below w.heap.size w wr) (fun _ i _ => n - (intOf i).toNat)
  case atStart => exact ⟨0, _, _, Nat.zero_le _, rfl, rfl, by rw [show csum (zs.take 0) = 0 from rfl, ofB_nought]; exact HB.out.il, (Below.refl _ _).alloc (Nat.le_refl _) _⟩
  case round =>
    obtain ⟨k, B, c, hk, rfl, rfl, hi, hbel⟩ := hrel
    have HI := Lib.hid hi
    clear hi
    by_cases hlt : k < n
    · obtain ⟨ad, z, rfl, hz, hc⟩ := (HR.out.below hbel).at_ hlt
      have HS := Lib.hid (csum_step zs k z hz)
      have HZ := Lib.hid (all_at HL.out hz)
      have hs := csum_lt (zs.take k)
      clear hz
      generalize csum (zs.take k) = s at *
      go_wp2_with fail
      refine (behind_ok _ _ s z _ HI.out hs HZ.out).mono ?_
      rintro e w3 ⟨A3, cap3, rfl, hi3, hb3⟩
      rw [ofB_len] at hi3 ⊢
      have HI3 := Lib.hid hi3
      clear hi3
      go_wp2
      go_roundw
      case rel => exact ⟨k + 1, A3, cap3, by omega, by go_num, rfl, by rw [HS.out]; exact HI3.out, nxt hbel hb3⟩
      case measure => simp [intOf]; omega
    · have HS := Lib.hid (show zs.take k = zs from List.take_of_length_le (by rw [HR.out.1]; omega))
      rw [HS.out] at HI
      go_wp2
      go_ret
      exact ⟨B, c, by rw [ofB_len]; rfl, by rw [ofB_len]; exact HI.out, hbel⟩
end Go.Proofs.Ytffhhegpkejdgaa

/- The reference of layer 4: Value, digits, Sum, Bits, All. -/
namespace Go.Proofs.Ytffhhegpkejdgaa
open Go.RowKit

set_option maxHeartbeats 400000 in
theorem rv4_ok (A : Option Addr) (n cap : Nat) (zs : List Int) (w : World) (hr : Il w A n zs) (hn : n ≤ 32) (hl : ∀ z ∈ zs, lvl z = true) :
    Calls Try.prog 57 #[.slice A n cap] w fun e w' => e = .returned (.int .i64 (val zs : Nat)) ∧ w = w' := by
  have HA := Lib.hid hl
  clear hl
  go_enter Try.func57, Try.ntmps57
  go_wp2
  go_loop [3, 4] (fun v i => ∃ k : Nat, k ≤ n ∧ i = .int .i64 k ∧ v = .int .i64 (val (zs.take k) : Nat)) (fun _ i => n - (intOf i).toNat)
  case atStart => exact ⟨0, Nat.zero_le _, rfl, rfl⟩
  case round =>
    obtain ⟨k, hk, rfl, rfl⟩ := hrel
    by_cases hlt : k < n
    · obtain ⟨ad, z, rfl, hz, hc⟩ := hr.at_ hlt
      have hz01 := all_at HA.out hz
      have hv := val_32 (all_take HA.out k) (by rw [List.length_take]; omega)
      have HS := Lib.hid (val_step zs k z hz)
      have HR := Lib.hid hr
      clear hr hz
      generalize val (zs.take k) = a at *
      have z1 : 0 ≤ z := by omega
      have z2 : z ≤ 1 := by omega
      have HZ := Lib.hid (show 2 * (a : Int) + z = ((2 * a + z.toNat : Nat) : Int) by omega)
      clear hz01
      go_wp2
      go_round
      case rel => exact ⟨k + 1, by omega, by go_num, val_int (by rw [HS.out]; exact HZ.out)⟩
      case measure => simp [intOf]; omega
    · go_wp2
      go_ret
      exact ⟨ret_int (by rw [show zs.take k = zs from List.take_of_length_le (by rw [hr.1]; omega)]), rfl⟩

set_option maxHeartbeats 800000 in
theorem rdig_ok : ∀ (k n : Nat) (w : World), k ≤ 32 → n ≤ 536870911 → Calls Try.prog 45 #[.int .i64 n, .int .i64 k] w (OwnOk (ofB n k) w) := by
  intro k
  induction k with
  | zero =>
    intro n w _ _
    go_enter Try.func45, Try.ntmps45
    go_wp2
    go_ret
    exact ⟨_, rfl, Own.nil _ _, Below.refl _ _⟩
  | succ k ih =>
    intro n w hk hn
    have HI := Lib.hid (ih (n / 2) · (by omega) (by omega))
    have HS := Lib.hid (ofB_snoc n k)
    have hk1 : ((k : Int) + 1 == 0) = false := by simp; omega
    have e1 : ((k : Int) + 1) - 1 = (k : Int) := by omega
    have e2 : (n : Int) / 2 = ((n / 2 : Nat) : Int) := by omega
    have e3 : (n : Int) % 2 = ((n % 2 : Nat) : Int) := by omega
    have hkk : (k : Int) ≤ 32 := by omega
    have hnn : (n : Int) ≤ 536870911 := by omega
    have hl : (ofB (n / 2) k).length ≤ 32 := by rw [ofB_len]; omega
    clear ih
    generalize ofB (n / 2) k = l at *
    generalize n % 2 = b at *
    generalize n / 2 = m at *
    go_enter Try.func45, Try.ntmps45
    go_wp2_with fail
    refine (HI.out _).mono ?_
    rintro e w1 ⟨v1, rfl, ho1, hb1⟩
    have HO := Lib.hid ho1
    have HN := Lib.hid (Arr.new w1 .i64 3 [(b : Int)]).il
    have hsz := hb1.size
    clear ho1
    go_wp2_with (at_builtin; (refine append_ints2 _ rfl (.tmp 11) (.tmp 14) rfl w.heap.size v1 l rfl (HO.out.alloc _) _ 1 1 [(b : Int)] rfl HN.out (by omega) (by simp; omega) ?_); intro v2 w2 ho2 hg2 _; have hb2 := push_lit hb1 hsz HO.out hg2; have HO2 := Lib.hid ho2; clear ho2 hg2)
    go_ret
    exact ⟨_, rfl, by rw [HS.out]; exact HO2.out, hb2⟩

theorem rs4_ok (A : Option Addr) (n cap : Nat) (zs : List Int) (w : World) (hr : Il w A n zs) (hn : n ≤ 100000) (hl : ∀ z ∈ zs, lvl z = true) :
    Calls Try.prog 26 #[.slice A n cap] w fun e w' => ∃ B c, e = .returned (.slice B 15 c) ∧ Il w' B 15 (ofB (csum zs) 15) ∧ Below w.heap.size w w' := by
  have HR := Lib.hid hr; have HL := Lib.hid hl
  clear hr hl
  go_enter Try.func26, Try.ntmps26
  go_wp2_with fail
  refine (rsum2_ok A n cap zs _ HR.out hn HL.out).mono ?_
  rintro e w1 ⟨B, c, rfl, hi, hb⟩
  rw [ofB_len] at hi ⊢
  have HI := Lib.hid hi
  clear hi
  go_wp2
  go_ret
  exact ⟨B, c, rfl, HI.out, hb⟩
end Go.Proofs.Ytffhhegpkejdgaa

/- The reference of layer 4: Bits and All. -/
namespace Go.Proofs.Ytffhhegpkejdgaa
open Go.RowKit

theorem rarb_row (f : Fr) (w : World) (h : f.may = true) :
    Calls Try.prog 44 #[f.val] w fun e w' => ∃ A cap, e = .returned (.slice A f.wid cap) ∧ Il w' A f.wid (ofB f.num f.wid) ∧ Below w.heap.size w w' := by
  refine (rarb_ok f w h).mono ?_
  rintro e w' ⟨A, cap, he, hi, hb⟩
  rw [ofB_len] at he hi
  exact ⟨A, cap, he, hi, hb⟩
theorem rdig_row (k n : Nat) (w : World) (hk : k ≤ 32) (hn : n ≤ 536870911) :
    Calls Try.prog 45 #[.int .i64 n, .int .i64 k] w fun e w' => ∃ A cap, e = .returned (.slice A k cap) ∧ Il w' A k (ofB n k) ∧ Below w.heap.size w w' := by
  refine (rdig_ok k n w hk hn).mono ?_
  rintro e w' ⟨v, he, ho, hb⟩
  obtain ⟨A, cap, rfl, hi, _⟩ := ho.il2
  rw [ofB_len] at he hi
  exact ⟨A, cap, he, hi, hb⟩
/-- A row of the call's own. -/
def OwnRow (zs : List Int) (w : World) (e : Ending) (w' : World) : Prop := ∃ v, e = .returned v ∧ Own w' w.heap.size v zs ∧ Below w.heap.size w w'
/-- A row is grown; the frame's box stays. -/
theorem grow_fb {f : Fr} {w wa wb : World} {v : Value} {l : List Int} (hb : Below (w.heap.size + 1) (w.alloc (.cells f.cells 24)) wa) (ho : Own wa (w.heap.size + 1) v l) (hg : wa.grownBy wb v.ownBlock) : Below (w.heap.size + 1) (w.alloc (.cells f.cells 24)) wb :=
  hb.grown hg (by have := hb.size; simp at this; omega) ho.row
theorem fb_kept {f : Fr} {w wa : World} (hb : Below (w.heap.size + 1) (w.alloc (.cells f.cells 24)) wa) : Fb wa w.heap.size f := (fb_new w f).below hb (by omega)
theorem nxt1 {B : Nat} {a b c : World} (h : Below B a b) (hB : B ≤ a.heap.size) (h2 : Below b.heap.size b c) : Below B a c := h.trans (h2.mono (Nat.le_trans hB h.size))

set_option maxHeartbeats 3200000 in
theorem rb_false_false (f : Fr) (w : World) (hm : f.may = true) (hwf : f.wf) (hx : f.ext = false) (hrt : f.rtr = false) : Calls Try.prog 25 #[f.val] w (OwnRow (bts f) w) := by
  obtain ⟨n, hn, hn8⟩ := len_nat hm
  have hnd : nDat f = n := by unfold nDat; rw [hrt, hn]; rfl
  have HBT := Lib.hid (show bts f = [0] ++ ofB f.num f.wid ++ [0] ++ ofB n 4 ++ datB f.d (n) by
    unfold bts
    rw [ctlB_split hn (by omega), hnd]
    unfold ctlP
    rw [hx]
    simp [ofB, bit, cW, List.range_succ])
  have hwid : f.wid ≤ 32 := by unfold Fr.wid; split <;> omega
  have HM := Lib.hid hm; have HWF := Lib.hid hwf; have HN := Lib.hid hn; have HRT := Lib.hid hrt; have HX := Lib.hid hx
  clear hm hwf hx hrt hn hnd
  have h0s : (w.alloc (.cells f.cells 24)).heap.size = w.heap.size + 1 := by simp
  have HO0 := Lib.hid (show Own ((w.alloc (.cells f.cells 24)).alloc (.cells #[.int .i64 0] 3)) (w.heap.size + 1) (.slice (some ⟨w.heap.size + 1, 0, none⟩) 1 1) [0] from by
    have := Own.lit (w.alloc (.cells f.cells 24)) (w.heap.size + 1) [0] (by simp) (by simp)
    rwa [h0s] at this)
  have HB0 := Lib.hid (show Below (w.heap.size + 1) (w.alloc (.cells f.cells 24)) ((w.alloc (.cells f.cells 24)).alloc (.cells #[.int .i64 0] 3)) from (Below.refl _ _).alloc (by simp) _)
  clear h0s
  go_enter Try.func25, Try.ntmps25
  go_wp2_with fail
  refine (rarb_row f _ HM.out).mono ?_
  rintro e w1 ⟨A1, cap1, rfl, hi1, hb1⟩
  have HB1 := Lib.hid (nxt1 HB0.out (by simp) hb1)
  have HO1 := Lib.hid (HO0.out.below hb1)
  have HI1 := Lib.hid hi1
  have hs1 : w.heap.size + 1 ≤ w1.heap.size := by have := HB1.out.size; simp at this; omega
  clear hi1 hb1 HO0 HB0
  go_wp2_with (first
      | (at_builtin; (refine append_ints2 _ rfl (.tmp 5) (.tmp 7) rfl (w.heap.size + 1) _ [0] rfl HO1.out A1 f.wid cap1 (ofB f.num f.wid) rfl HI1.out (by simp <;> omega) hs1 ?_); intro v2 w2 ho2 hg2 _; have HB2 := Lib.hid (grow_fb HB1.out HO1.out hg2); have HO2 := Lib.hid ho2; have hs2 : w.heap.size + 1 ≤ w2.heap.size := Nat.le_trans hs1 hg2.size; have HN2 := Lib.hid (Arr.new w2 .i64 3 [0]).il; have hl2 : ([0] ++ ofB f.num f.wid).length ≤ 40 := (by (rw [List.length_append, ofB_len]; simp <;> omega)); obtain ⟨c0, c1, c2, c3, c4, c5, c6, c7, c8, c9, c10, c11⟩ := (fb_kept HB2.out).bx; have lf := (fb_kept HB2.out).lt; rw [HX.out] at c1; rw [HRT.out] at c2; rw [HN.out] at c3; clear ho2 hg2)
      | (at_builtin; (refine append_ints2 _ rfl (.tmp 9) (.tmp 10) rfl (w.heap.size + 1) _ _ rfl (HO2.out.alloc _) _ 1 1 [0] rfl HN2.out (by rw [List.length_append, ofB_len]; simp <;> omega) (by simp <;> omega) ?_); intro v3 w3 ho3 hg3 _; have HB3 := Lib.hid (grow_fb (HB2.out.alloc hs2 _) (HO2.out.alloc _) hg3); have HO3 := Lib.hid ho3; have hs3 : w.heap.size + 1 ≤ w3.heap.size := (by have := hg3.size; simp at this; omega); have HN3 := Lib.hid (Arr.new w3 .i64 3 [0]).il; clear c0 c1 c2 c3 c4 c5 c6 c7 c8 c9 c10 c11 lf; obtain ⟨c0, c1, c2, c3, c4, c5, c6, c7, c8, c9, c10, c11⟩ := (fb_kept HB3.out).bx; have lf := (fb_kept HB3.out).lt; rw [HX.out] at c1; rw [HRT.out] at c2; rw [HN.out] at c3; clear ho3 hg3)
      | fail)
  refine (rdig_row 4 n _ (by omega) (by omega)).mono ?_
  rintro e w5 ⟨A5, cap5, rfl, hi5, hb5⟩
  have HB5 := Lib.hid (nxt1 HB3.out (by simp) hb5)
  have HO5 := Lib.hid (HO3.out.below hb5)
  have HI5 := Lib.hid hi5
  have hs5 : w.heap.size + 1 ≤ w5.heap.size := Nat.le_trans hs3 hb5.size
  clear c0 c1 c2 c3 c4 c5 c6 c7 c8 c9 c10 c11 lf hi5 hb5
  obtain ⟨l0, hl0⟩ : ∃ l0, [0] ++ ofB f.num f.wid ++ [0]  ++ ofB n 4 = l0 := ⟨_, rfl⟩
  have HL0 := Lib.hid (show l0.length ≤ 60 by rw [← hl0]; simp [ofB_len] <;> omega)
  have HLL := Lib.hid (show bts f = l0 ++ datB f.d (n) by rw [HBT.out, ← hl0])
  go_wp2_with (first
      | (at_builtin; (refine append_ints2 _ rfl (.tmp 17) (.tmp 20) rfl (w.heap.size + 1) _ _ rfl HO5.out A5 4 cap5 (ofB n 4) rfl HI5.out (by simp [ofB_len] <;> omega) hs5 ?_); intro v6 w6 ho6 hg6 _; have HB6 := Lib.hid (grow_fb HB5.out HO5.out hg6); have HO6 := Lib.hid ho6; rw [hl0] at HO6; have hs6 : w.heap.size + 1 ≤ w6.heap.size := Nat.le_trans hs5 hg6.size; clear ho6 hg6)
      | fail)
  clear hl0
  go_loopw [3, 4] (fun v i wr => ∃ k : Nat, k ≤ n ∧ i = .int .i64 k ∧ Own wr (w.heap.size + 1) v (l0 ++ datB f.d k) ∧ Below (w.heap.size + 1) (w.alloc (.cells f.cells 24)) wr) (fun _ i _ => n - (intOf i).toNat)
  case atStart => exact ⟨0, Nat.zero_le _, rfl, by simpa [datB] using HO6.out, HB6.out⟩
  case round =>
    obtain ⟨k, hk, rfl, ho, hbel⟩ := hrel
    have HO := Lib.hid ho; have HBL := Lib.hid hbel
    have F := fb_kept hbel
    have hsr : w.heap.size + 1 ≤ wr.heap.size := by have := hbel.size; simp at this; omega
    obtain ⟨c0, c1, c2, c3, c4, c5, c6, c7, c8, c9, c10, c11⟩ := F.bx
    rw [HRT.out] at c2; rw [HN.out] at c3
    clear ho hbel
    by_cases hlt : k < n
    · have dcell := F.bx.data k (by omega)
      obtain ⟨y0, y1⟩ := HWF.out k (by omega)
      obtain ⟨y, hy⟩ := Int.eq_ofNat_of_zero_le y0
      rw [hy] at dcell y1
      have HST := Lib.hid (show datB f.d (k + 1) = datB f.d k ++ ofB y 8 by rw [datB, hy, Int.toNat_natCast])
      have HLen := Lib.hid (show (l0 ++ datB f.d k).length ≤ 124 by have := HL0.out; rw [List.length_append, datB_len]; omega)
      have i3 : (k : Int) < 8 := by omega
      clear y0 hy F
      go_wp2_with fail
      refine (rdig_row 8 y _ (by omega) (by omega)).mono ?_
      rintro e w7 ⟨A7, cap7, rfl, hi7, hb7⟩
      have HB7 := Lib.hid (nxt1 HBL.out (by simp) hb7)
      have HO7 := Lib.hid (HO.out.below hb7)
      have HI7 := Lib.hid hi7
      have hs7 : w.heap.size + 1 ≤ w7.heap.size := Nat.le_trans hsr hb7.size
      clear hi7 hb7
      go_wp2_with (first
        | (at_builtin; (refine append_ints2 _ rfl (.tmp 33) (.tmp 39) rfl (w.heap.size + 1) _ _ rfl HO7.out A7 8 cap7 (ofB y 8) rfl HI7.out (by have := HLen.out; omega) hs7 ?_); intro v8 w8 ho8 hg8 _; have HB8 := Lib.hid (grow_fb HB7.out HO7.out hg8); have HO8 := Lib.hid ho8; clear ho8 hg8)
        | fail)
      go_roundw
      case rel => exact ⟨k + 1, by omega, by go_num, by rw [HST.out, ← List.append_assoc]; exact HO8.out, HB8.out⟩
      case measure => simp [intOf]; omega
    · have HE := Lib.hid (show k = n by omega)
      clear F
      go_wp2
      go_ret
      exact ⟨_, rfl, by rw [HLL.out, ← HE.out]; exact HO.out.mono (Nat.le_succ _), (boxed f w).trans (HBL.out.mono (Nat.le_succ _))⟩

set_option maxHeartbeats 3200000 in
theorem rb_false_true (f : Fr) (w : World) (hm : f.may = true) (hwf : f.wf) (hx : f.ext = false) (hrt : f.rtr = true) : Calls Try.prog 25 #[f.val] w (OwnRow (bts f) w) := by
  obtain ⟨n, hn, hn8⟩ := len_nat hm
  have hnd : nDat f = 0 := by unfold nDat; rw [hrt, hn]; rfl
  have HBT := Lib.hid (show bts f = [0] ++ ofB f.num f.wid ++ [0] ++ ofB n 4 ++ datB f.d (0) by
    unfold bts
    rw [ctlB_split hn (by omega), hnd]
    unfold ctlP
    rw [hx]
    simp [ofB, bit, cW, List.range_succ])
  have hwid : f.wid ≤ 32 := by unfold Fr.wid; split <;> omega
  have HM := Lib.hid hm; have HWF := Lib.hid hwf; have HN := Lib.hid hn; have HRT := Lib.hid hrt; have HX := Lib.hid hx
  clear hm hwf hx hrt hn hnd
  have h0s : (w.alloc (.cells f.cells 24)).heap.size = w.heap.size + 1 := by simp
  have HO0 := Lib.hid (show Own ((w.alloc (.cells f.cells 24)).alloc (.cells #[.int .i64 0] 3)) (w.heap.size + 1) (.slice (some ⟨w.heap.size + 1, 0, none⟩) 1 1) [0] from by
    have := Own.lit (w.alloc (.cells f.cells 24)) (w.heap.size + 1) [0] (by simp) (by simp)
    rwa [h0s] at this)
  have HB0 := Lib.hid (show Below (w.heap.size + 1) (w.alloc (.cells f.cells 24)) ((w.alloc (.cells f.cells 24)).alloc (.cells #[.int .i64 0] 3)) from (Below.refl _ _).alloc (by simp) _)
  clear h0s
  go_enter Try.func25, Try.ntmps25
  go_wp2_with fail
  refine (rarb_row f _ HM.out).mono ?_
  rintro e w1 ⟨A1, cap1, rfl, hi1, hb1⟩
  have HB1 := Lib.hid (nxt1 HB0.out (by simp) hb1)
  have HO1 := Lib.hid (HO0.out.below hb1)
  have HI1 := Lib.hid hi1
  have hs1 : w.heap.size + 1 ≤ w1.heap.size := by have := HB1.out.size; simp at this; omega
  clear hi1 hb1 HO0 HB0
  go_wp2_with (first
      | (at_builtin; (refine append_ints2 _ rfl (.tmp 5) (.tmp 7) rfl (w.heap.size + 1) _ [0] rfl HO1.out A1 f.wid cap1 (ofB f.num f.wid) rfl HI1.out (by simp <;> omega) hs1 ?_); intro v2 w2 ho2 hg2 _; have HB2 := Lib.hid (grow_fb HB1.out HO1.out hg2); have HO2 := Lib.hid ho2; have hs2 : w.heap.size + 1 ≤ w2.heap.size := Nat.le_trans hs1 hg2.size; have HN2 := Lib.hid (Arr.new w2 .i64 3 [0]).il; have hl2 : ([0] ++ ofB f.num f.wid).length ≤ 40 := (by (rw [List.length_append, ofB_len]; simp <;> omega)); obtain ⟨c0, c1, c2, c3, c4, c5, c6, c7, c8, c9, c10, c11⟩ := (fb_kept HB2.out).bx; have lf := (fb_kept HB2.out).lt; rw [HX.out] at c1; rw [HRT.out] at c2; rw [HN.out] at c3; clear ho2 hg2)
      | (at_builtin; (refine append_ints2 _ rfl (.tmp 9) (.tmp 10) rfl (w.heap.size + 1) _ _ rfl (HO2.out.alloc _) _ 1 1 [0] rfl HN2.out (by rw [List.length_append, ofB_len]; simp <;> omega) (by simp <;> omega) ?_); intro v3 w3 ho3 hg3 _; have HB3 := Lib.hid (grow_fb (HB2.out.alloc hs2 _) (HO2.out.alloc _) hg3); have HO3 := Lib.hid ho3; have hs3 : w.heap.size + 1 ≤ w3.heap.size := (by have := hg3.size; simp at this; omega); have HN3 := Lib.hid (Arr.new w3 .i64 3 [0]).il; clear c0 c1 c2 c3 c4 c5 c6 c7 c8 c9 c10 c11 lf; obtain ⟨c0, c1, c2, c3, c4, c5, c6, c7, c8, c9, c10, c11⟩ := (fb_kept HB3.out).bx; have lf := (fb_kept HB3.out).lt; rw [HX.out] at c1; rw [HRT.out] at c2; rw [HN.out] at c3; clear ho3 hg3)
      | fail)
  refine (rdig_row 4 n _ (by omega) (by omega)).mono ?_
  rintro e w5 ⟨A5, cap5, rfl, hi5, hb5⟩
  have HB5 := Lib.hid (nxt1 HB3.out (by simp) hb5)
  have HO5 := Lib.hid (HO3.out.below hb5)
  have HI5 := Lib.hid hi5
  have hs5 : w.heap.size + 1 ≤ w5.heap.size := Nat.le_trans hs3 hb5.size
  clear c0 c1 c2 c3 c4 c5 c6 c7 c8 c9 c10 c11 lf hi5 hb5
  obtain ⟨l0, hl0⟩ : ∃ l0, [0] ++ ofB f.num f.wid ++ [0]  ++ ofB n 4 = l0 := ⟨_, rfl⟩
  have HL0 := Lib.hid (show l0.length ≤ 60 by rw [← hl0]; simp [ofB_len] <;> omega)
  have HLL := Lib.hid (show bts f = l0 ++ datB f.d (0) by rw [HBT.out, ← hl0])
  go_wp2_with (first
      | (at_builtin; (refine append_ints2 _ rfl (.tmp 17) (.tmp 20) rfl (w.heap.size + 1) _ _ rfl HO5.out A5 4 cap5 (ofB n 4) rfl HI5.out (by simp [ofB_len] <;> omega) hs5 ?_); intro v6 w6 ho6 hg6 _; have HB6 := Lib.hid (grow_fb HB5.out HO5.out hg6); have HO6 := Lib.hid ho6; rw [hl0] at HO6; have hs6 : w.heap.size + 1 ≤ w6.heap.size := Nat.le_trans hs5 hg6.size; clear ho6 hg6)
      | fail)
  clear hl0
  go_loopw [3, 4] (fun v i wr => ∃ k : Nat, k ≤ 0 ∧ i = .int .i64 k ∧ Own wr (w.heap.size + 1) v (l0 ++ datB f.d k) ∧ Below (w.heap.size + 1) (w.alloc (.cells f.cells 24)) wr) (fun _ i _ => 0 - (intOf i).toNat)
  case atStart => exact ⟨0, Nat.zero_le _, rfl, by simpa [datB] using HO6.out, HB6.out⟩
  case round =>
    obtain ⟨k, hk, rfl, ho, hbel⟩ := hrel
    have HO := Lib.hid ho; have HBL := Lib.hid hbel
    have F := fb_kept hbel
    have hsr : w.heap.size + 1 ≤ wr.heap.size := by have := hbel.size; simp at this; omega
    obtain ⟨c0, c1, c2, c3, c4, c5, c6, c7, c8, c9, c10, c11⟩ := F.bx
    rw [HRT.out] at c2; rw [HN.out] at c3
    clear ho hbel
    have HE := Lib.hid (show k = 0 by omega)
    obtain rfl : k = 0 := by omega
    clear F hk HE
    by_cases hlt : (0 : Int) < (n : Int)
    · go_wp2
      go_ret
      exact ⟨_, rfl, by rw [HLL.out]; exact HO.out.mono (Nat.le_succ _), (boxed f w).trans (HBL.out.mono (Nat.le_succ _))⟩
    · go_wp2
      go_ret
      exact ⟨_, rfl, by rw [HLL.out]; exact HO.out.mono (Nat.le_succ _), (boxed f w).trans (HBL.out.mono (Nat.le_succ _))⟩

set_option maxHeartbeats 3200000 in
theorem rb_true_false (f : Fr) (w : World) (hm : f.may = true) (hwf : f.wf) (hx : f.ext = true) (hrt : f.rtr = false) : Calls Try.prog 25 #[f.val] w (OwnRow (bts f) w) := by
  obtain ⟨n, hn, hn8⟩ := len_nat hm
  have hnd : nDat f = n := by unfold nDat; rw [hrt, hn]; rfl
  have HBT := Lib.hid (show bts f = [0] ++ ofB f.num f.wid ++ [0] ++ [0] ++ ofB n 4 ++ datB f.d (n) by
    unfold bts
    rw [ctlB_split hn (by omega), hnd]
    unfold ctlP
    rw [hx]
    simp [ofB, bit, cW, List.range_succ])
  have hwid : f.wid ≤ 32 := by unfold Fr.wid; split <;> omega
  have HM := Lib.hid hm; have HWF := Lib.hid hwf; have HN := Lib.hid hn; have HRT := Lib.hid hrt; have HX := Lib.hid hx
  clear hm hwf hx hrt hn hnd
  have h0s : (w.alloc (.cells f.cells 24)).heap.size = w.heap.size + 1 := by simp
  have HO0 := Lib.hid (show Own ((w.alloc (.cells f.cells 24)).alloc (.cells #[.int .i64 0] 3)) (w.heap.size + 1) (.slice (some ⟨w.heap.size + 1, 0, none⟩) 1 1) [0] from by
    have := Own.lit (w.alloc (.cells f.cells 24)) (w.heap.size + 1) [0] (by simp) (by simp)
    rwa [h0s] at this)
  have HB0 := Lib.hid (show Below (w.heap.size + 1) (w.alloc (.cells f.cells 24)) ((w.alloc (.cells f.cells 24)).alloc (.cells #[.int .i64 0] 3)) from (Below.refl _ _).alloc (by simp) _)
  clear h0s
  go_enter Try.func25, Try.ntmps25
  go_wp2_with fail
  refine (rarb_row f _ HM.out).mono ?_
  rintro e w1 ⟨A1, cap1, rfl, hi1, hb1⟩
  have HB1 := Lib.hid (nxt1 HB0.out (by simp) hb1)
  have HO1 := Lib.hid (HO0.out.below hb1)
  have HI1 := Lib.hid hi1
  have hs1 : w.heap.size + 1 ≤ w1.heap.size := by have := HB1.out.size; simp at this; omega
  clear hi1 hb1 HO0 HB0
  go_wp2_with (first
      | (at_builtin; (refine append_ints2 _ rfl (.tmp 5) (.tmp 7) rfl (w.heap.size + 1) _ [0] rfl HO1.out A1 f.wid cap1 (ofB f.num f.wid) rfl HI1.out (by simp <;> omega) hs1 ?_); intro v2 w2 ho2 hg2 _; have HB2 := Lib.hid (grow_fb HB1.out HO1.out hg2); have HO2 := Lib.hid ho2; have hs2 : w.heap.size + 1 ≤ w2.heap.size := Nat.le_trans hs1 hg2.size; have HN2 := Lib.hid (Arr.new w2 .i64 3 [0]).il; have hl2 : ([0] ++ ofB f.num f.wid).length ≤ 40 := (by (rw [List.length_append, ofB_len]; simp <;> omega)); obtain ⟨c0, c1, c2, c3, c4, c5, c6, c7, c8, c9, c10, c11⟩ := (fb_kept HB2.out).bx; have lf := (fb_kept HB2.out).lt; rw [HX.out] at c1; rw [HRT.out] at c2; rw [HN.out] at c3; clear ho2 hg2)
      | (at_builtin; (refine append_ints2 _ rfl (.tmp 9) (.tmp 10) rfl (w.heap.size + 1) _ _ rfl (HO2.out.alloc _) _ 1 1 [0] rfl HN2.out (by rw [List.length_append, ofB_len]; simp <;> omega) (by simp <;> omega) ?_); intro v3 w3 ho3 hg3 _; have HB3 := Lib.hid (grow_fb (HB2.out.alloc hs2 _) (HO2.out.alloc _) hg3); have HO3 := Lib.hid ho3; have hs3 : w.heap.size + 1 ≤ w3.heap.size := (by have := hg3.size; simp at this; omega); have HN3 := Lib.hid (Arr.new w3 .i64 3 [0]).il; clear c0 c1 c2 c3 c4 c5 c6 c7 c8 c9 c10 c11 lf; obtain ⟨c0, c1, c2, c3, c4, c5, c6, c7, c8, c9, c10, c11⟩ := (fb_kept HB3.out).bx; have lf := (fb_kept HB3.out).lt; rw [HX.out] at c1; rw [HRT.out] at c2; rw [HN.out] at c3; clear ho3 hg3)
      | (at_builtin; (refine append_ints2 _ rfl (.tmp 14) (.tmp 15) rfl (w.heap.size + 1) _ _ rfl (HO3.out.alloc _) _ 1 1 [0] rfl HN3.out (by rw [List.length_append, List.length_append, ofB_len]; simp <;> omega) (by simp <;> omega) ?_); intro v4 w4 ho4 hg4 _; have HB4 := Lib.hid (grow_fb (HB3.out.alloc hs3 _) (HO3.out.alloc _) hg4); have HO4 := Lib.hid ho4; have hs4 : w.heap.size + 1 ≤ w4.heap.size := (by have := hg4.size; simp at this; omega); clear c0 c1 c2 c3 c4 c5 c6 c7 c8 c9 c10 c11 lf; obtain ⟨c0, c1, c2, c3, c4, c5, c6, c7, c8, c9, c10, c11⟩ := (fb_kept HB4.out).bx; have lf := (fb_kept HB4.out).lt; rw [HX.out] at c1; rw [HRT.out] at c2; rw [HN.out] at c3; clear ho4 hg4)
      | fail)
  refine (rdig_row 4 n _ (by omega) (by omega)).mono ?_
  rintro e w5 ⟨A5, cap5, rfl, hi5, hb5⟩
  have HB5 := Lib.hid (nxt1 HB4.out (by simp) hb5)
  have HO5 := Lib.hid (HO4.out.below hb5)
  have HI5 := Lib.hid hi5
  have hs5 : w.heap.size + 1 ≤ w5.heap.size := Nat.le_trans hs4 hb5.size
  clear c0 c1 c2 c3 c4 c5 c6 c7 c8 c9 c10 c11 lf hi5 hb5
  obtain ⟨l0, hl0⟩ : ∃ l0, [0] ++ ofB f.num f.wid ++ [0] ++ [0] ++ ofB n 4 = l0 := ⟨_, rfl⟩
  have HL0 := Lib.hid (show l0.length ≤ 60 by rw [← hl0]; simp [ofB_len] <;> omega)
  have HLL := Lib.hid (show bts f = l0 ++ datB f.d (n) by rw [HBT.out, ← hl0])
  go_wp2_with (first
      | (at_builtin; (refine append_ints2 _ rfl (.tmp 17) (.tmp 20) rfl (w.heap.size + 1) _ _ rfl HO5.out A5 4 cap5 (ofB n 4) rfl HI5.out (by simp [ofB_len] <;> omega) hs5 ?_); intro v6 w6 ho6 hg6 _; have HB6 := Lib.hid (grow_fb HB5.out HO5.out hg6); have HO6 := Lib.hid ho6; rw [hl0] at HO6; have hs6 : w.heap.size + 1 ≤ w6.heap.size := Nat.le_trans hs5 hg6.size; clear ho6 hg6)
      | fail)
  clear hl0
  go_loopw [3, 4] (fun v i wr => ∃ k : Nat, k ≤ n ∧ i = .int .i64 k ∧ Own wr (w.heap.size + 1) v (l0 ++ datB f.d k) ∧ Below (w.heap.size + 1) (w.alloc (.cells f.cells 24)) wr) (fun _ i _ => n - (intOf i).toNat)
  case atStart => exact ⟨0, Nat.zero_le _, rfl, by simpa [datB] using HO6.out, HB6.out⟩
  case round =>
    obtain ⟨k, hk, rfl, ho, hbel⟩ := hrel
    have HO := Lib.hid ho; have HBL := Lib.hid hbel
    have F := fb_kept hbel
    have hsr : w.heap.size + 1 ≤ wr.heap.size := by have := hbel.size; simp at this; omega
    obtain ⟨c0, c1, c2, c3, c4, c5, c6, c7, c8, c9, c10, c11⟩ := F.bx
    rw [HRT.out] at c2; rw [HN.out] at c3
    clear ho hbel
    by_cases hlt : k < n
    · have dcell := F.bx.data k (by omega)
      obtain ⟨y0, y1⟩ := HWF.out k (by omega)
      obtain ⟨y, hy⟩ := Int.eq_ofNat_of_zero_le y0
      rw [hy] at dcell y1
      have HST := Lib.hid (show datB f.d (k + 1) = datB f.d k ++ ofB y 8 by rw [datB, hy, Int.toNat_natCast])
      have HLen := Lib.hid (show (l0 ++ datB f.d k).length ≤ 124 by have := HL0.out; rw [List.length_append, datB_len]; omega)
      have i3 : (k : Int) < 8 := by omega
      clear y0 hy F
      go_wp2_with fail
      refine (rdig_row 8 y _ (by omega) (by omega)).mono ?_
      rintro e w7 ⟨A7, cap7, rfl, hi7, hb7⟩
      have HB7 := Lib.hid (nxt1 HBL.out (by simp) hb7)
      have HO7 := Lib.hid (HO.out.below hb7)
      have HI7 := Lib.hid hi7
      have hs7 : w.heap.size + 1 ≤ w7.heap.size := Nat.le_trans hsr hb7.size
      clear hi7 hb7
      go_wp2_with (first
        | (at_builtin; (refine append_ints2 _ rfl (.tmp 33) (.tmp 39) rfl (w.heap.size + 1) _ _ rfl HO7.out A7 8 cap7 (ofB y 8) rfl HI7.out (by have := HLen.out; omega) hs7 ?_); intro v8 w8 ho8 hg8 _; have HB8 := Lib.hid (grow_fb HB7.out HO7.out hg8); have HO8 := Lib.hid ho8; clear ho8 hg8)
        | fail)
      go_roundw
      case rel => exact ⟨k + 1, by omega, by go_num, by rw [HST.out, ← List.append_assoc]; exact HO8.out, HB8.out⟩
      case measure => simp [intOf]; omega
    · have HE := Lib.hid (show k = n by omega)
      clear F
      go_wp2
      go_ret
      exact ⟨_, rfl, by rw [HLL.out, ← HE.out]; exact HO.out.mono (Nat.le_succ _), (boxed f w).trans (HBL.out.mono (Nat.le_succ _))⟩

set_option maxHeartbeats 3200000 in
theorem rb_true_true (f : Fr) (w : World) (hm : f.may = true) (hwf : f.wf) (hx : f.ext = true) (hrt : f.rtr = true) : Calls Try.prog 25 #[f.val] w (OwnRow (bts f) w) := by
  obtain ⟨n, hn, hn8⟩ := len_nat hm
  have hnd : nDat f = 0 := by unfold nDat; rw [hrt, hn]; rfl
  have HBT := Lib.hid (show bts f = [0] ++ ofB f.num f.wid ++ [0] ++ [0] ++ ofB n 4 ++ datB f.d (0) by
    unfold bts
    rw [ctlB_split hn (by omega), hnd]
    unfold ctlP
    rw [hx]
    simp [ofB, bit, cW, List.range_succ])
  have hwid : f.wid ≤ 32 := by unfold Fr.wid; split <;> omega
  have HM := Lib.hid hm; have HWF := Lib.hid hwf; have HN := Lib.hid hn; have HRT := Lib.hid hrt; have HX := Lib.hid hx
  clear hm hwf hx hrt hn hnd
  have h0s : (w.alloc (.cells f.cells 24)).heap.size = w.heap.size + 1 := by simp
  have HO0 := Lib.hid (show Own ((w.alloc (.cells f.cells 24)).alloc (.cells #[.int .i64 0] 3)) (w.heap.size + 1) (.slice (some ⟨w.heap.size + 1, 0, none⟩) 1 1) [0] from by
    have := Own.lit (w.alloc (.cells f.cells 24)) (w.heap.size + 1) [0] (by simp) (by simp)
    rwa [h0s] at this)
  have HB0 := Lib.hid (show Below (w.heap.size + 1) (w.alloc (.cells f.cells 24)) ((w.alloc (.cells f.cells 24)).alloc (.cells #[.int .i64 0] 3)) from (Below.refl _ _).alloc (by simp) _)
  clear h0s
  go_enter Try.func25, Try.ntmps25
  go_wp2_with fail
  refine (rarb_row f _ HM.out).mono ?_
  rintro e w1 ⟨A1, cap1, rfl, hi1, hb1⟩
  have HB1 := Lib.hid (nxt1 HB0.out (by simp) hb1)
  have HO1 := Lib.hid (HO0.out.below hb1)
  have HI1 := Lib.hid hi1
  have hs1 : w.heap.size + 1 ≤ w1.heap.size := by have := HB1.out.size; simp at this; omega
  clear hi1 hb1 HO0 HB0
  go_wp2_with (first
      | (at_builtin; (refine append_ints2 _ rfl (.tmp 5) (.tmp 7) rfl (w.heap.size + 1) _ [0] rfl HO1.out A1 f.wid cap1 (ofB f.num f.wid) rfl HI1.out (by simp <;> omega) hs1 ?_); intro v2 w2 ho2 hg2 _; have HB2 := Lib.hid (grow_fb HB1.out HO1.out hg2); have HO2 := Lib.hid ho2; have hs2 : w.heap.size + 1 ≤ w2.heap.size := Nat.le_trans hs1 hg2.size; have HN2 := Lib.hid (Arr.new w2 .i64 3 [0]).il; have hl2 : ([0] ++ ofB f.num f.wid).length ≤ 40 := (by (rw [List.length_append, ofB_len]; simp <;> omega)); obtain ⟨c0, c1, c2, c3, c4, c5, c6, c7, c8, c9, c10, c11⟩ := (fb_kept HB2.out).bx; have lf := (fb_kept HB2.out).lt; rw [HX.out] at c1; rw [HRT.out] at c2; rw [HN.out] at c3; clear ho2 hg2)
      | (at_builtin; (refine append_ints2 _ rfl (.tmp 9) (.tmp 10) rfl (w.heap.size + 1) _ _ rfl (HO2.out.alloc _) _ 1 1 [0] rfl HN2.out (by rw [List.length_append, ofB_len]; simp <;> omega) (by simp <;> omega) ?_); intro v3 w3 ho3 hg3 _; have HB3 := Lib.hid (grow_fb (HB2.out.alloc hs2 _) (HO2.out.alloc _) hg3); have HO3 := Lib.hid ho3; have hs3 : w.heap.size + 1 ≤ w3.heap.size := (by have := hg3.size; simp at this; omega); have HN3 := Lib.hid (Arr.new w3 .i64 3 [0]).il; clear c0 c1 c2 c3 c4 c5 c6 c7 c8 c9 c10 c11 lf; obtain ⟨c0, c1, c2, c3, c4, c5, c6, c7, c8, c9, c10, c11⟩ := (fb_kept HB3.out).bx; have lf := (fb_kept HB3.out).lt; rw [HX.out] at c1; rw [HRT.out] at c2; rw [HN.out] at c3; clear ho3 hg3)
      | (at_builtin; (refine append_ints2 _ rfl (.tmp 14) (.tmp 15) rfl (w.heap.size + 1) _ _ rfl (HO3.out.alloc _) _ 1 1 [0] rfl HN3.out (by rw [List.length_append, List.length_append, ofB_len]; simp <;> omega) (by simp <;> omega) ?_); intro v4 w4 ho4 hg4 _; have HB4 := Lib.hid (grow_fb (HB3.out.alloc hs3 _) (HO3.out.alloc _) hg4); have HO4 := Lib.hid ho4; have hs4 : w.heap.size + 1 ≤ w4.heap.size := (by have := hg4.size; simp at this; omega); clear c0 c1 c2 c3 c4 c5 c6 c7 c8 c9 c10 c11 lf; obtain ⟨c0, c1, c2, c3, c4, c5, c6, c7, c8, c9, c10, c11⟩ := (fb_kept HB4.out).bx; have lf := (fb_kept HB4.out).lt; rw [HX.out] at c1; rw [HRT.out] at c2; rw [HN.out] at c3; clear ho4 hg4)
      | fail)
  refine (rdig_row 4 n _ (by omega) (by omega)).mono ?_
  rintro e w5 ⟨A5, cap5, rfl, hi5, hb5⟩
  have HB5 := Lib.hid (nxt1 HB4.out (by simp) hb5)
  have HO5 := Lib.hid (HO4.out.below hb5)
  have HI5 := Lib.hid hi5
  have hs5 : w.heap.size + 1 ≤ w5.heap.size := Nat.le_trans hs4 hb5.size
  clear c0 c1 c2 c3 c4 c5 c6 c7 c8 c9 c10 c11 lf hi5 hb5
  obtain ⟨l0, hl0⟩ : ∃ l0, [0] ++ ofB f.num f.wid ++ [0] ++ [0] ++ ofB n 4 = l0 := ⟨_, rfl⟩
  have HL0 := Lib.hid (show l0.length ≤ 60 by rw [← hl0]; simp [ofB_len] <;> omega)
  have HLL := Lib.hid (show bts f = l0 ++ datB f.d (0) by rw [HBT.out, ← hl0])
  go_wp2_with (first
      | (at_builtin; (refine append_ints2 _ rfl (.tmp 17) (.tmp 20) rfl (w.heap.size + 1) _ _ rfl HO5.out A5 4 cap5 (ofB n 4) rfl HI5.out (by simp [ofB_len] <;> omega) hs5 ?_); intro v6 w6 ho6 hg6 _; have HB6 := Lib.hid (grow_fb HB5.out HO5.out hg6); have HO6 := Lib.hid ho6; rw [hl0] at HO6; have hs6 : w.heap.size + 1 ≤ w6.heap.size := Nat.le_trans hs5 hg6.size; clear ho6 hg6)
      | fail)
  clear hl0
  go_loopw [3, 4] (fun v i wr => ∃ k : Nat, k ≤ 0 ∧ i = .int .i64 k ∧ Own wr (w.heap.size + 1) v (l0 ++ datB f.d k) ∧ Below (w.heap.size + 1) (w.alloc (.cells f.cells 24)) wr) (fun _ i _ => 0 - (intOf i).toNat)
  case atStart => exact ⟨0, Nat.zero_le _, rfl, by simpa [datB] using HO6.out, HB6.out⟩
  case round =>
    obtain ⟨k, hk, rfl, ho, hbel⟩ := hrel
    have HO := Lib.hid ho; have HBL := Lib.hid hbel
    have F := fb_kept hbel
    have hsr : w.heap.size + 1 ≤ wr.heap.size := by have := hbel.size; simp at this; omega
    obtain ⟨c0, c1, c2, c3, c4, c5, c6, c7, c8, c9, c10, c11⟩ := F.bx
    rw [HRT.out] at c2; rw [HN.out] at c3
    clear ho hbel
    have HE := Lib.hid (show k = 0 by omega)
    obtain rfl : k = 0 := by omega
    clear F hk HE
    by_cases hlt : (0 : Int) < (n : Int)
    · go_wp2
      go_ret
      exact ⟨_, rfl, by rw [HLL.out]; exact HO.out.mono (Nat.le_succ _), (boxed f w).trans (HBL.out.mono (Nat.le_succ _))⟩
    · go_wp2
      go_ret
      exact ⟨_, rfl, by rw [HLL.out]; exact HO.out.mono (Nat.le_succ _), (boxed f w).trans (HBL.out.mono (Nat.le_succ _))⟩

theorem rb_ok (f : Fr) (w : World) (hm : f.may = true) (hwf : f.wf) : Calls Try.prog 25 #[f.val] w (OwnRow (bts f) w) := by
  cases hx : f.ext <;> cases hr : f.rtr
  · exact rb_false_false f w hm hwf hx hr
  · exact rb_false_true f w hm hwf hx hr
  · exact rb_true_false f w hm hwf hx hr
  · exact rb_true_true f w hm hwf hx hr

end Go.Proofs.Ytffhhegpkejdgaa

