/- The contracts of codec's Encode, Length and Longest. -/
import Derived.Test.YtffhhegpkejdgaaX69
import Derived.Test.YtffhhegpkejdgaaX63
import Derived.Test.YtffhhegpkejdgaaX61
import Derived.WalkKit
import Derived.ProofKit
import Derived.OpenShut
import Derived.ShutString
import Derived.ChangeOld
import Derived.Below
import Derived.Test.YtffhhegpkejdgaaX62
namespace Go.Proofs.Ytffhhegpkejdgaa
open Go.RowKit

/-- A frame's levels up to its sum's last one. -/
def raw (f : Fr) : List Int := bts f ++ ofB (csum (bts f)) 15
/-- The ten behind. -/
def ten (s : Int) : List Int := [1, s, 1, 1, 1, 1, 1, 1, 1, 1]
/-- A frame's levels on the bus. -/
def enc (f : Fr) (b : Bool) : List Int := stf (raw f) ++ ten (if b then 0 else 1)
theorem alls_raw (f : Fr) : alls f = raw f ++ ten 1 := rfl
theorem raw_len (f : Fr) : (raw f).length = (bts f).length + 15 := by unfold raw; rw [List.length_append, ofB_len]
theorem raw_all (f : Fr) : ∀ z ∈ raw f, lvl z = true := all_append (bts_all f) (ofB_all _ _)
theorem enc_len (f : Fr) (b : Bool) : (enc f b).length = (stf (raw f)).length + 10 := by unfold enc; rw [List.length_append]; rfl
theorem stf_raw_le {f : Fr} (h : f.may = true) : (stf (raw f)).length ≤ 300 := by
  have := (stf_len (raw f)).2; rw [raw_len] at this; have := bts_le h; omega
theorem enc_set (f : Fr) : (stf (raw f) ++ ten 1).set ((stf (raw f)).length + 1) 0 = enc f true := by
  unfold enc
  rw [List.set_append_right _ _ (by omega), show (stf (raw f)).length + 1 - (stf (raw f)).length = 1 by omega]; rfl

set_option maxHeartbeats 400000 in
theorem encode_bad (f : Fr) (b : Bool) (w : World) (h : f.may = false) :
    Calls Try.prog 10 #[f.val, .bool b] w fun e w' => e = .returned (.tuple #[.slice none 0 0, .int .i64 14]) ∧ Below w.heap.size w w' := by
  have HM := Lib.hid h
  clear h
  go_enter Try.func10, Try.ntmps10
  go_wp2_with fail
  refine (fall_bad f _ HM.out).mono ?_
  rintro e w1 ⟨rfl, hb1⟩
  go_wp2
  go_ret2
  exact ⟨rfl, nxt (boxed f w) hb1⟩

theorem grown_undrew6 {w w' : World} {row : Option Nat} (h : w.drew.grownBy w' row) : w.grownBy w' row := ⟨h.os, h.tape, h.output, h.size, h.block⟩

set_option maxRecDepth 100000 in
set_option maxHeartbeats 3200000 in
theorem encode_ok (f : Fr) (b : Bool) (w : World) (h : f.may = true) (hwf : f.wf) :
    Calls Try.prog 10 #[f.val, .bool b] w (OwnTo (enc f b) w) := by
  have HM := Lib.hid h; have HWF := Lib.hid hwf
  obtain ⟨m, hm⟩ : ∃ m, (raw f).length = m := ⟨_, rfl⟩
  have hmle : m ≤ 118 := by rw [← hm, raw_len]; have := bts_le h; omega
  have HML := Lib.hid hm
  have HAL := Lib.hid (raw_all f)
  have HSL := Lib.hid (stf_raw_le h)
  have HSG := Lib.hid (show m ≤ (stf (raw f)).length by rw [← hm]; exact (stf_len (raw f)).1)
  have HT := Lib.hid (show (alls f).take m = raw f by rw [alls_raw, ← hm, List.take_left])
  have HD := Lib.hid (show (alls f).drop m = ten 1 by rw [alls_raw, ← hm, List.drop_left])
  have HLN := Lib.hid (show (alls f).length = m + 10 by rw [alls_raw, List.length_append, hm]; rfl)
  have HES := Lib.hid (enc_set f)
  have HEF := Lib.hid (show enc f false = stf (raw f) ++ ten 1 from rfl)
  clear h hwf hm
  go_enter Try.func10, Try.ntmps10
  go_wp2_with fail
  refine (fall_ok f _ HM.out HWF.out).mono ?_
  rintro e w1 ⟨v, rfl, ho1, hb1⟩
  obtain ⟨A1, cap, rfl, hi, hcap⟩ := ho1.il2
  have HB1 := Lib.hid (nxt (boxed f w) hb1)
  rw [HLN.out] at hi hcap ⊢
  obtain ⟨ad, rfl, hlt, hcl⟩ := hi.2 (by omega)
  have HI := Lib.hid hi
  clear hb1 ho1 hi hlt hcl
  have HI1 := Lib.hid (show Il w1.drew (some ad) m (raw f) from by rw [← HT.out]; exact HI.out.take m (by omega))
  have HI2 := Lib.hid (show Il w1 (some (ad.add m)) 10 (ten 1) from by
    have h := HI.out.drop m (by omega)
    rw [HD.out] at h
    rwa [Nat.add_sub_cancel_left] at h)
  have g4 : (m : Int) ≤ (m : Int) + 10 := by omega
  have g5 : m ≤ cap := by omega
  have g6 : (m : Int) ≤ (cap : Int) := by omega
  have g7 : ¬ cap = m := by omega
  have g8 : (0 : Int) ≤ (m : Int) := by omega
  clear HI
  go_wp2_with fail
  go_region_held3 (fun _ => True) (trivial)
    (first
      | (go_at_call 23; (refine (add_own _ m _ (raw f) _ HI1.out (by omega) HAL.out).mono ?_); rintro e w2 ⟨v2, rfl, ho2, hb2⟩; have HO2 := Lib.hid ho2; have HB2 := Lib.hid (nxt (below_drew (Below.refl w1.heap.size w1)) hb2); have HI3 := Lib.hid (HI2.out.below HB2.out); clear ho2 hb2)
      | (refine step_append_ints2 _ (by rfl) (.tmp 24) (.tmp 27) (by rfl) w1.heap.size v2 (stf (raw f)) (by rfl) (by exact HO2.out) _ 10 _ (ten 1) (by rfl) (by exact HI3.out) (by have := HSL.out; omega) (by exact HB2.out.size) ?_; intro v3 w3 ho3 hg3 hl3; have HB3 := Lib.hid (HB2.out.grown hg3 HB2.out.size HO2.out.row); have HO3 := Lib.hid ho3; clear ho3 hg3 hl3)
      | fail)
  obtain ⟨L, hL⟩ : ∃ L, (stf (raw f)).length = L := ⟨_, rfl⟩
  have hen : (stf (raw f) ++ ten 1).length = L + 10 := by rw [List.length_append, hL]; rfl
  rw [hL] at HES
  have HBW := Lib.hid (nxt HB1.out HB3.out)
  have HLL := Lib.hid (show L ≤ 300 by rw [← hL]; exact HSL.out)
  have HOW := Lib.hid (HO3.out.mono HB1.out.size)
  obtain ⟨q, cap3, rfl, hq, hcap3⟩ := HO3.out.shape (by omega)
  rw [hen] at HOW hcap3 ⊢
  have cq := HOW.out.cell (j := L + 1) (by omega)
  have fq := HOW.out.frozen (L + 1)
  have HQ := Lib.hid (Nat.le_trans HB1.out.size hq)
  clear hL hen HO2 HO3 HI3 HB2 HB3 HI2 HI1 g4 g5 g6 g7 g8 hcap hq
  cases b with
  | false =>
    go_wp2
    go_ret2
    exact ⟨_, rfl, by rw [HEF.out]; exact HOW.out, HBW.out⟩
  | true =>
    have i1 : (L : Int) + 1 < (L : Int) + 10 := by omega
    have i2 : (L : Int) ≤ 300 := by have := HLL.out; omega
    have i3 : (0 : Int) ≤ (L : Int) + 1 := by omega
    go_wp2
    go_ret2
    exact ⟨_, rfl, by rw [← HES.out]; exact HOW.out.put (L + 1) 0, HBW.out.setCell (p := ⟨q, L + 1, none⟩) HQ.out _⟩

set_option maxHeartbeats 400000 in
theorem length_bad (f : Fr) (w : World) (h : f.may = false) :
    Calls Try.prog 11 #[f.val] w fun e w' => e = .returned (.tuple #[.int .i64 0, .int .i64 14]) ∧ Below w.heap.size w w' := by
  have HM := Lib.hid h
  clear h
  go_enter Try.func11, Try.ntmps11
  go_wp2_with fail
  refine (encode_bad f _ _ HM.out).mono ?_
  rintro e w1 ⟨rfl, hb1⟩
  go_wp2
  go_ret2
  exact ⟨rfl, nxt (boxed f w) hb1⟩
set_option maxHeartbeats 400000 in
theorem length_ok (f : Fr) (w : World) (h : f.may = true) (hwf : f.wf) :
    Calls Try.prog 11 #[f.val] w fun e w' => e = .returned (.tuple #[.int .i64 ((stf (raw f)).length + 10 : Nat), .int .i64 0]) ∧ Below w.heap.size w w' := by
  have HM := Lib.hid h; have HWF := Lib.hid hwf
  have HL := Lib.hid (enc_len f false)
  clear h hwf
  go_enter Try.func11, Try.ntmps11
  go_wp2_with fail
  refine (encode_ok f false _ HM.out HWF.out).mono ?_
  rintro e w1 ⟨v, rfl, ho1, hb1⟩
  obtain ⟨A1, cap1, rfl, _, _⟩ := ho1.il2
  have HB := Lib.hid (nxt (boxed f w) hb1)
  rw [HL.out]
  clear ho1 hb1
  obtain ⟨k, hk⟩ : ∃ k, (stf (raw f)).length + 10 = k := ⟨_, rfl⟩
  have HK := Lib.hid hk
  rw [hk]
  clear hk
  go_wp2
  go_ret2
  exact ⟨by rw [HK.out]; rfl, HB.out⟩

/-- How many levels a frame of n bytes has, up to its sum's last one. -/
def own6 (n : Nat) (x : Bool) : Nat := (if x then 54 else 34) + 8 * n
def lgst (n : Nat) (x : Bool) : Nat := own6 n x + (own6 n x - 1) / 4 + 10
theorem longest_bad (n : Int) (b : Bool) (w : World) (h : n < 0 ∨ 8 < n) :
    Calls Try.prog 12 #[.int .i64 n, .bool b] w fun e w' => e = .returned (.tuple #[.int .i64 0, .int .i64 10]) ∧ w = w' := by
  rcases Int.lt_or_le n 0 with h0 | h0
  · clear h
    go_enter Try.func12, Try.ntmps12
    go_wp2
    go_ret2
    exact ⟨rfl, rfl⟩
  · have h1 : 8 < n := by omega
    clear h
    go_enter Try.func12, Try.ntmps12
    go_wp2
    go_ret2
    exact ⟨rfl, rfl⟩
set_option maxHeartbeats 800000 in
theorem longest_ok6 (n : Nat) (b : Bool) (w : World) (h : n ≤ 8) :
    Calls Try.prog 12 #[.int .i64 n, .bool b] w fun e w' => e = .returned (.tuple #[.int .i64 (lgst n b : Nat), .int .i64 0]) ∧ w = w' := by
  have h2 : (n : Int) ≤ 8 := by omega
  have h3 : (0 : Int) ≤ (n : Int) := by omega
  have HL := Lib.hid (show lgst n b = own6 n b + (own6 n b - 1) / 4 + 10 from rfl)
  have hb6 : own6 n b ≤ 118 := by unfold own6; split <;> omega
  have HO := Lib.hid (show own6 n b = (if b then 54 else 34) + 8 * n from rfl)
  obtain ⟨p, hp⟩ : ∃ p, own6 n b = p := ⟨_, rfl⟩
  rw [hp] at HL HO hb6
  obtain ⟨q, hq⟩ : ∃ q, (p - 1) / 4 = q := ⟨_, rfl⟩
  have hq2 : q ≤ 30 := by omega
  rw [hq] at HL
  have HQ := Lib.hid hq
  clear hp hq h
  cases b with
  | false =>
    have hp : (34 : Int) + 8 * (n : Int) = (p : Int) := by have := HO.out; simp at this; omega
    go_enter Try.func12, Try.ntmps12
    go_wp2_with fail
    refine (most_ok p _ (by omega)).mono ?_
    rintro e w' ⟨rfl, rfl⟩
    rw [HQ.out]
    go_wp2
    go_ret2
    exact ⟨by rw [HL.out]; push_cast; rfl, rfl⟩
  | true =>
    have hp : (54 : Int) + 8 * (n : Int) = (p : Int) := by have := HO.out; simp at this; omega
    go_enter Try.func12, Try.ntmps12
    go_wp2_with fail
    refine (most_ok p _ (by omega)).mono ?_
    rintro e w' ⟨rfl, rfl⟩
    rw [HQ.out]
    go_wp2
    go_ret2
    exact ⟨by rw [HL.out]; push_cast; rfl, rfl⟩
end Go.Proofs.Ytffhhegpkejdgaa

/- What is encoded is decoded: plain mathematics. -/
namespace Go.Proofs.Ytffhhegpkejdgaa

/-- Levels are gone through, from one state to another one. -/
def Thru (m t o t' o' : List Int) : Prop := ∀ (s : List Int) (k : Nat), dcd (m ++ s) k t o = dcd s (k + m.length) t' o'
section
variable {m m' t o t' o' t'' o'' : List Int} {z : Int}
theorem Thru.refl (t o : List Int) : Thru [] t o t o := fun _ _ => rfl
theorem Thru.trans (h : Thru m t o t' o') (h' : Thru m' t' o' t'' o'') : Thru (m ++ m') t o t'' o'' := fun s k => by
  rw [List.append_assoc, h, h', List.length_append, Nat.add_assoc]
theorem Thru.one (h : stq t o z = (0, t', o')) (h9 : ¬ kd o' = 9) : Thru [z] t o t' o' := fun s k => by
  rw [List.singleton_append, dcd_go h h9]; rfl
theorem Thru.err (h : Thru m t o t' o') (he : (stq t' o' z).1 ≠ 0) (s : List Int) (k : Nat) : dcd (m ++ z :: s) k t o = ((stq t' o' z).1, k + m.length, o') := by rw [h, dcd_err he]
theorem Thru.fin (h : Thru m t o t' o') (hs : stq t' o' z = (0, t'', o'')) (h9 : kd o'' = 9) (s : List Int) (k : Nat) : dcd (m ++ z :: s) k t o = (0, k + m.length + 1, o'') := by rw [h, dcd_end hs h9]
end
/-- A beginning of a whole frame is too short. -/
theorem dcd_short : ∀ (l : List Int) (k : Nat) (t o : List Int) (n : Nat) (p : List Int) (j : Nat), dcd l k t o = (0, k + n, p) → j < n → ∃ q, dcd (l.take j) k t o = (13, k + j, q) := by
  intro l
  induction l with
  | nil => intro k t o n p j h; simp [dcd] at h
  | cons z l ih =>
    intro k t o n p j h hj
    cases j with
    | zero => exact ⟨o, rfl⟩
    | succ j =>
      have go : ∀ t' o', stq t o z = (0, t', o') → ∃ q, dcd ((z :: l).take (j + 1)) k t o = (13, k + (j + 1), q) := by
        intro t' o' hs
        by_cases h9 : kd o' = 9
        · rw [dcd_end hs h9] at h
          injection h with _ h
          injection h with h _
          omega
        · rw [dcd_go hs h9, show k + n = k + 1 + (n - 1) by omega] at h
          obtain ⟨q, hq⟩ := ih _ _ _ _ _ j h (by omega)
          refine ⟨q, ?_⟩
          rw [List.take_succ_cons, dcd_go hs h9, hq]
          congr 2
          omega
      rcases stq_cases t o z with ⟨h1, _, _⟩ | ⟨_, _, hs⟩ | ⟨_, _, hs⟩
      · rw [dcd_err h1] at h
        injection h with h _
        exact absurd h h1
      · exact go _ _ hs
      · exact go _ _ hs

/-- Levels up to a sum's last one. -/
structure UpTo (r : List Int) : Prop where
  lev : ∀ z ∈ r, lvl z = true
  low : ∀ k, k < r.length → kd (r.take k) ≤ 4
  end_ : kd r ≤ 5
  zero : one r 0 = false
theorem wr_low {o : List Int} {z : Int} (h : kd o ≤ 4) (h0 : kd o = 0 → z = 0) : wr o z = 0 := by
  unfold wr
  by_cases e : kd o = 0
  · rw [if_pos e, if_pos (h0 e)]
  · rw [if_neg e, if_neg (by omega), if_neg (by omega)]
theorem kd_pos {o : List Int} (h : o ≠ []) : kd o ≠ 0 := by
  have hl : 0 < o.length := List.length_pos_iff.2 h
  unfold kd hW wds
  rw [nx, if_neg (by omega), Nat.zero_add]
  rcases Nat.lt_or_ge (o.length - 1) (sumW (aW (hEx o) :: cW (hEx o) :: hDat o :: [15, 1, 1, 1, 7])) with h1 | h1
  · have := (nx_lt _ _ 1 h1).1; omega
  · rw [nx_end _ _ _ h1]; simp
theorem thru_stf : ∀ r : List Int, UpTo r → Thru (stf r) [] [] (stf r) r := by
  refine snoc_ind (fun _ => Thru.refl _ _) ?_
  intro r z ih hu
  obtain ⟨hl, hz⟩ := all_snoc hu.lev
  have hk : kd r ≤ 4 := by
    have := hu.low r.length (by simp)
    rwa [List.take_append_of_le_length (Nat.le_refl _), List.take_length] at this
  have hr : UpTo r := ⟨hl, fun k hk' => by
      have := hu.low k (by simp; omega)
      rwa [List.take_append_of_le_length (by omega)] at this, by omega, by
      cases r with
      | nil => rfl
      | cons a r => exact hu.zero⟩
  have h1 := ih hr
  have ha := alk_stf r
  have hs : stq (stf r) r z = (0, stf r ++ [z], r ++ [z]) := by
    refine stq_own hz (fun x => by omega) (wr_low hk fun e => ?_)
    have hn : r = [] := Classical.byContradiction fun hne => kd_pos hne e
    subst hn
    have h0 := hu.zero
    rcases lvl_01 hz with e | e
    · exact e
    · subst e; exact absurd h0 (by decide)
  have h9 : ¬ kd (r ++ [z]) = 9 := by have := hu.end_; omega
  have h2 := h1.trans (Thru.one hs h9)
  rw [stf_snoc]
  by_cases h5 : alk (stf r ++ [z]) = 5
  · rw [sput_five h5]
    refine h2.trans (Thru.one (stq_add ?_ hu.end_ (by omega) ?_) h9)
    · rcases lvl_01 hz with e | e <;> rw [e] <;> rfl
    · rw [lst_snoc]; exact flip_ne z
  · rw [sput_else h5]; exact h2

/-- The fields of a frame's levels. -/
theorem nx_lo (a c d k : Nat) (h : k < 1 + a + c + d + 15) : (nx (wds a c d) k 0).1 ≤ 4 := by
  unfold wds
  simp only [nx]
  split
  · simp
  · split
    · simp
    · split
      · simp
      · split
        · simp
        · rw [if_pos (by omega)]; simp
def tl (j : Nat) : Nat := if j < 3 then 5 + j else if j < 10 then 8 else 9
theorem nx_hi (a c d j : Nat) (h : j ≤ 10) : (nx (wds a c d) (1 + a + c + d + 15 + j) 0).1 = tl j := by
  unfold wds
  simp only [nx]
  rw [if_neg (by omega), if_neg (by omega), if_neg (by omega), if_neg (by omega), if_neg (by omega)]
  rw [show 1 + a + c + d + 15 + j - 1 - a - c - d - 15 = j by omega]
  have : j = 0 ∨ j = 1 ∨ j = 2 ∨ j = 3 ∨ j = 4 ∨ j = 5 ∨ j = 6 ∨ j = 7 ∨ j = 8 ∨ j = 9 ∨ j = 10 := by omega
  rcases this with rfl | rfl | rfl | rfl | rfl | rfl | rfl | rfl | rfl | rfl | rfl <;> rfl
section
variable {f : Fr} (hm : f.may = true)
include hm
theorem raw_W (x : List Int) : hW (raw f ++ x) = wds (aW f.ext) (cW f.ext) (8 * nDat f) := by
  obtain ⟨n, hn, h8⟩ := len_nat hm
  obtain ⟨i, hi⟩ := id_nat hm
  unfold raw
  rw [List.append_assoc, bts_hdr hn (by omega)]
  exact hdr_W hi (by omega) hn (by omega)
omit hm in
theorem raw_len2 : (raw f).length = 1 + aW f.ext + cW f.ext + 8 * nDat f + 15 := by
  rw [raw_len, bts_len]; have := hEnd_eq f.ext; omega
theorem kd_tail (x : List Int) (h : x.length ≤ 10) : kd (raw f ++ x) = tl x.length := by
  unfold kd
  rw [raw_W hm, List.length_append, raw_len2, nx_hi _ _ _ _ h]
theorem kd_raw : kd (raw f) = 5 := by
  have := kd_tail hm [] (by simp)
  rwa [List.append_nil] at this
theorem raw_upto : UpTo (raw f) := by
  have hW0 := raw_W hm []
  rw [List.append_nil] at hW0
  refine ⟨raw_all f, fun k hk => ?_, by rw [kd_raw hm]; omega, ?_⟩
  · have hs : sumW (hW (raw f)) = (raw f).length + 10 := by rw [hW0, raw_len2]; simp only [wds, sumW]; omega
    rw [kd_take (by omega) (by omega), hW0]
    exact nx_lo _ _ _ _ (by rw [← raw_len2]; exact hk)
  · obtain ⟨n, hn, h8⟩ := len_nat hm
    unfold raw
    rw [bts_hdr hn (by omega)]
    exact hdr_zero
theorem raw_rok : rok (raw f) = true := by
  obtain ⟨n, hn, h8⟩ := len_nat hm
  obtain ⟨i, hi⟩ := id_nat hm
  have e : raw f = hdr f n (ofB (csum (bts f)) 15) := bts_hdr hn (by omega) _
  have ha : ahead (raw f) = (bts f).length := by rw [e, hdr_ahead hi (by omega) hn (by omega), bts_len]
  have hx : hEx (raw f) = f.ext := by rw [e]; exact hdr_ext hi
  unfold rok
  rw [ha, hx, List.take_of_length_le (by rw [raw_len]; omega), decide_eq_false (by rw [raw_len, bts_len]; omega)]
  unfold raw
  rw [rgt_own _ (bts_all f) (csum_lt _)]
  simp
theorem raw_frame (hwf : f.wf) (x : List Int) : (frm (raw f ++ x)).val = f.val := by
  obtain ⟨n, hn, h8⟩ := len_nat hm
  unfold raw
  rw [List.append_assoc, bts_hdr hn (by omega)]
  exact hdr_frame hm hwf (by omega) (by rw [hn]; omega)
/-- The ten behind are gone through, but the last one. -/
theorem wr_tail {j : Nat} {x : List Int} {z : Int} (hx : x.length = j) (hj : j ≤ 9) (hz : j = 1 ∨ z = 1) : wr (raw f ++ x) z = 0 := by
  have hk := kd_tail hm x (by omega)
  rw [hx] at hk
  unfold wr
  rw [hk]
  have : j = 0 ∨ j = 1 ∨ j = 2 ∨ (3 ≤ j ∧ j ≤ 9) := by omega
  rcases this with rfl | rfl | rfl | ⟨h1, h2⟩
  · have hx0 : x = [] := List.eq_nil_of_length_eq_zero hx
    subst hx0
    rw [List.append_nil, if_neg (by decide), if_pos (by decide), raw_rok hm]
    unfold nrc; rw [if_pos rfl, if_pos (by omega)]
  · rw [if_neg (by decide), if_neg (by decide), if_neg (by decide)]
  · rw [if_neg (by decide), if_neg (by decide), if_pos (by decide)]; unfold nrc; rw [if_pos (by omega)]
  · have e : tl j = 8 := by unfold tl; rw [if_neg (by omega), if_pos (by omega)]
    rw [e, if_neg (by decide), if_neg (by decide), if_pos (by decide)]; unfold nrc; rw [if_pos (by omega)]
theorem wr_stop {j : Nat} {x : List Int} (hx : x.length = j) (hj : j ≤ 9) (h1 : j ≠ 1) : wr (raw f ++ x) 0 = 11 := by
  have hk := kd_tail hm x (by omega)
  rw [hx] at hk
  unfold wr
  rw [hk]
  have : j = 0 ∨ j = 2 ∨ (3 ≤ j ∧ j ≤ 9) := by omega
  rcases this with rfl | rfl | ⟨h1, h2⟩
  · have hx0 : x = [] := List.eq_nil_of_length_eq_zero hx
    subst hx0
    rw [List.append_nil, if_neg (by decide), if_pos (by decide), raw_rok hm]
    rfl
  · rw [if_neg (by decide), if_neg (by decide), if_pos (by decide)]; rfl
  · have e : tl j = 8 := by unfold tl; rw [if_neg (by omega), if_pos (by omega)]
    rw [e, if_neg (by decide), if_neg (by decide), if_pos (by decide)]; rfl
/-- Nothing is added behind the sum. -/
theorem no_add {x t : List Int} (hx : x.length ≤ 9) (ht : x = [] → alk t ≤ 4) : ¬ (kd (raw f ++ x) ≤ 5 ∧ 5 ≤ alk t) := by
  rintro ⟨h1, h2⟩
  rw [kd_tail hm x (by omega)] at h1
  rcases Nat.eq_zero_or_pos x.length with h | h
  · have := ht (List.eq_nil_of_length_eq_zero h); omega
  · unfold tl at h1
    split at h1
    · omega
    · split at h1 <;> omega
theorem thru_tail : ∀ x : List Int, x.length ≤ 9 → (∀ z ∈ x, lvl z = true) → (∀ j z, x[j]? = some z → j = 1 ∨ z = 1) → Thru (stf (raw f) ++ x) [] [] (stf (raw f) ++ x) (raw f ++ x) := by
  refine snoc_ind (fun _ _ _ => ?_) ?_
  · rw [List.append_nil, List.append_nil]; exact thru_stf _ (raw_upto hm)
  · intro x z ih hx hl hs
    rw [List.length_append, List.length_singleton] at hx
    obtain ⟨hl1, hz⟩ := all_snoc hl
    have h1 := ih (by omega) hl1 (fun j y hj => hs j y (by
      obtain ⟨hlt, e⟩ := List.getElem?_eq_some_iff.1 hj
      rw [List.getElem?_append_left hlt]; exact hj))
    rw [← List.append_assoc, ← List.append_assoc]
    refine h1.trans (Thru.one (stq_own hz (no_add hm (by omega) fun e => ?_) (wr_tail hm rfl (by omega) (hs x.length z (by simp)))) ?_)
    · subst e; rw [List.append_nil]; exact alk_stf _
    · rw [List.append_assoc, kd_tail hm _ (by simp; omega), List.length_append, List.length_singleton]
      unfold tl
      split
      · omega
      · rw [if_pos (by omega)]; omega
/-- Whatever stands behind, a frame's levels are gone through. -/
theorem enc_dcd (b : Bool) (s : List Int) : dcd (enc f b ++ s) 0 [] [] = (0, (enc f b).length, raw f ++ ten (if b then 0 else 1)) := by
  have h := thru_tail hm ((ten (if b then 0 else 1)).take 9) (by rw [List.length_take]; omega) (by cases b <;> decide) (by
    intro j z hj
    have h9 : j < 9 := by
      obtain ⟨hlt, _⟩ := List.getElem?_eq_some_iff.1 hj
      rw [List.length_take] at hlt; omega
    have : j = 0 ∨ j = 1 ∨ j = 2 ∨ j = 3 ∨ j = 4 ∨ j = 5 ∨ j = 6 ∨ j = 7 ∨ j = 8 := by omega
    rcases this with rfl | rfl | rfl | rfl | rfl | rfl | rfl | rfl | rfl <;> cases b <;> simp [ten] at hj <;> simp [← hj])
  have e9 : ((ten (if b then 0 else 1)).take 9).length = 9 := by rfl
  have et : ten (if b then 0 else 1) = (ten (if b then 0 else 1)).take 9 ++ [1] := by cases b <;> rfl
  have hs := stq_own (t := stf (raw f) ++ (ten (if b then 0 else 1)).take 9) (z := 1) rfl (no_add hm (x := (ten (if b then 0 else 1)).take 9) (by rw [e9]; omega) (fun e => by rw [e] at e9; cases e9)) (wr_tail hm e9 (by omega) (.inr rfl))
  rw [List.append_assoc (raw f), ← et] at hs
  have hf := h.fin hs (by rw [kd_tail hm _ (by cases b <;> decide)]; cases b <;> rfl) s 0
  have el : (enc f b).length = (stf (raw f) ++ (ten (if b then 0 else 1)).take 9).length + 1 := by rw [enc_len, List.length_append, e9]
  have ee : enc f b ++ s = stf (raw f) ++ (ten (if b then 0 else 1)).take 9 ++ 1 :: s := by
    unfold enc
    rw [List.append_assoc, List.append_assoc]
    congr 1
  rw [ee, hf, el, Nat.zero_add]
/-- One of the ten is turned. -/
theorem stop_dcd (b : Bool) {j : Nat} (hj : j ≤ 9) (h1 : j ≠ 1) (s : List Int) : dcd (stf (raw f) ++ (ten (if b then 0 else 1)).take j ++ 0 :: s) 0 [] [] = (11, (stf (raw f)).length + j, raw f ++ (ten (if b then 0 else 1)).take j) := by
  have e9 : ((ten (if b then 0 else 1)).take j).length = j := by rw [List.length_take]; show min j 10 = j; omega
  have h := thru_tail hm ((ten (if b then 0 else 1)).take j) (by omega) (all_take (by cases b <;> decide) j) (by
    intro i z hi
    have hlt : i < 10 := by
      obtain ⟨hlt, _⟩ := List.getElem?_eq_some_iff.1 hi
      omega
    have hi' : (ten (if b then 0 else 1))[i]? = some z := by
      rw [List.getElem?_take] at hi
      split at hi
      · exact hi
      · cases hi
    have : i = 0 ∨ i = 1 ∨ i = 2 ∨ i = 3 ∨ i = 4 ∨ i = 5 ∨ i = 6 ∨ i = 7 ∨ i = 8 ∨ i = 9 := by omega
    rcases this with rfl | rfl | rfl | rfl | rfl | rfl | rfl | rfl | rfl | rfl <;> cases b <;> simp [ten] at hi' <;> simp [← hi'])
  have hw := wr_stop hm e9 hj h1
  have hs := stq_wr (t := stf (raw f) ++ (ten (if b then 0 else 1)).take j) (z := 0) rfl (no_add hm (x := (ten (if b then 0 else 1)).take j) (by omega) (fun e => by rw [e, List.append_nil]; exact alk_stf _)) (by rw [hw]; decide)
  rw [hw] at hs
  have := h.err (z := 0) (by rw [hs]; simp) s 0
  rw [hs] at this
  rw [this, List.length_append, e9, Nat.zero_add]
end
end Go.Proofs.Ytffhhegpkejdgaa

/- What Decode answers of what is encoded; the chapter's example. -/
namespace Go.Proofs.Ytffhhegpkejdgaa
open Go.RowKit

section
variable {f : Fr} (hm : f.may = true)
include hm
theorem enc_dE (b : Bool) (s : List Int) : dE (enc f b ++ s) = 0 := by unfold dE; rw [enc_dcd hm]
theorem enc_dN (b : Bool) (s : List Int) : dN (enc f b ++ s) = (enc f b).length := by unfold dN; rw [enc_dcd hm]
theorem enc_dO (b : Bool) (s : List Int) : dO (enc f b ++ s) = raw f ++ ten (if b then 0 else 1) := by unfold dO; rw [enc_dcd hm]
theorem enc_dF (hwf : f.wf) (b : Bool) (s : List Int) : (dF (enc f b ++ s)).val = f.val := by
  unfold dF
  rw [if_pos (enc_dE hm b s), enc_dO hm]
  exact raw_frame hm hwf _
theorem enc_dV (hwf : f.wf) (b : Bool) (s : List Int) : dV (enc f b ++ s) = .tuple #[f.val, .int .i64 ((enc f b).length : Nat), .int .i64 0] := by
  unfold dV
  rw [enc_dE hm, enc_dN hm, enc_dF hm hwf]
end
theorem zero_may : Fr.zero.may = true := by decide
theorem zero_wf : Fr.zero.wf := fun k _ => ⟨by show (0 : Int) ≤ 0; omega, by show (0 : Int) ≤ 255; omega⟩
def z50 : List Int := [0, 0, 0, 0, 0, 1, 0, 0, 0, 0, 0, 1, 0, 0, 0, 0, 0, 1, 0, 0, 0, 0, 0, 1, 0, 0, 0, 0, 0, 1, 0, 0, 0, 0, 0, 1, 0, 0, 0, 0, 1, 0, 1, 1, 1, 1, 1, 1, 1, 1]
set_option maxRecDepth 100000 in
theorem enc_zero : enc Fr.zero true = z50 := by decide
def z12 : List Int := [0, 0, 0, 0, 0, 1, 0, 0, 0, 0, 0, 1]

set_option maxRecDepth 100000 in
set_option maxHeartbeats 3200000 in
theorem awake6 (w : World) : Calls Try.prog 14 #[] w fun e w' => e = .returned (.bool true) ∧ Below w.heap.size w w' := by
  have h22 := eq22
  go_enter Try.func14, Try.ntmps14
  go_wp2_with fail
  refine (encode_ok Fr.zero true _ zero_may zero_wf).mono ?_
  rintro e w1 ⟨v, rfl, ho1, hb1⟩
  have HDV := Lib.hid (enc_dV zero_may zero_wf true [])
  rw [List.append_nil] at HDV
  rw [enc_zero] at ho1 HDV
  obtain ⟨q, cap, rfl, hq, hcap⟩ := ho1.shape (by decide)
  rw [show z50.length = 50 from rfl] at hcap HDV ⊢
  have HI := Lib.hid (show Il w1 (some ⟨q, 0, none⟩) 50 z50 from ho1.il3)
  have c41 : w1.cell? ⟨q, 41, none⟩ = some (.int .i64 0) := ho1.cell (j := 41) (by decide)
  have HO := Lib.hid ho1
  have HB1 := Lib.hid hb1
  clear ho1 hb1 hq
  go_wp2_with fail
  refine (decode_any _ 50 _ z50 _ HI.out (by omega)).mono ?_
  rintro e w2 ⟨rfl, hb2⟩
  rw [HDV.out]
  have HB2 := Lib.hid (nxt HB1.out hb2)
  have HI2 := Lib.hid (HI.out.below hb2)
  have d41 : w2.cell? ⟨q, 41, none⟩ = some (.int .i64 0) := (HO.out.below hb2).cell (j := 41) (by decide)
  clear hb2 c41 HO HI
  go_wp2_with fail
  refine (longest_ok6 8 false _ (by omega)).mono ?_
  rintro e w3 ⟨rfl, rfl⟩
  rw [show lgst 8 false = 132 from rfl]
  have HIa := Lib.hid (show Il ((w2.alloc (.cells Fr.zero.cells 24)).alloc (.cells (z12.map (Value.int .i64)).toArray 3)) (some ⟨q, 0, none⟩) 12 z12 from (HI2.out.take 12 (by omega)).below (alloc2 w2 _ _))
  have HIb := Lib.hid (show Il ((w2.alloc (.cells Fr.zero.cells 24)).alloc (.cells (z12.map (Value.int .i64)).toArray 3)) (some ⟨w2.heap.size + 1, 0, none⟩) 12 z12 from (arr_next w2 (.cells Fr.zero.cells 24) z12).il)
  have HF2 := Lib.hid (show Fb ((w2.alloc (.cells Fr.zero.cells 24)).alloc (.cells (z12.map (Value.int .i64)).toArray 3)) w2.heap.size Fr.zero from (fb_new w2 Fr.zero).below (B := w2.heap.size + 1) ((Below.refl _ _).alloc (by simp) _) (by omega))
  have HB3 := Lib.hid (nxt HB2.out (alloc2 w2 (.cells Fr.zero.cells 24) (.cells (z12.map (Value.int .i64)).toArray 3)))
  go_wp2_with fail
  refine (ints_b _ _ 12 12 _ _ z12 z12 _ HIa.out HIb.out (by omega)).mono ?_
  rintro e w4 ⟨rfl, hb4⟩
  rw [show (z12 == z12) = true from by decide]
  have HB4 := Lib.hid (nxt HB3.out hb4)
  have F4 := HF2.out.below hb4 HF2.out.lt
  have d4 : w4.cell? ⟨q, 41, none⟩ = some (.int .i64 0) := by
    obtain ⟨ad, e, _, hc⟩ := ((HI2.out.below (alloc2 w2 (.cells Fr.zero.cells 24) (.cells (z12.map (Value.int .i64)).toArray 3))).below hb4).2 (by omega)
    injection e with e
    have := hc 41 (by omega)
    rw [← e, add_zero_off] at this
    exact this
  obtain ⟨c0, c1, c2, c3, c4, c5, c6, c7, c8, c9, c10, c11⟩ := F4.bx
  clear hb4 HIa HIb HF2 HI2 d41 F4
  go_wp2
  go_ret
  exact ⟨rfl, HB4.out⟩
end Go.Proofs.Ytffhhegpkejdgaa

/- What is decoded may be; beginnings of what is encoded: plain mathematics. -/
namespace Go.Proofs.Ytffhhegpkejdgaa
open Go.RowKit

theorem cut_val {zs : List Int} (h : ∀ z ∈ zs, lvl z = true) (a n : Nat) : val (cutL zs a n) < 2 ^ n := by
  have h1 := val_lt (cutL zs a n) (all_cut h a n)
  have h2 : (cutL zs a n).length ≤ n := by unfold cutL; rw [List.length_drop, List.length_take]; omega
  exact Nat.lt_of_lt_of_le h1 (Nat.pow_le_pow_right (by omega) h2)
theorem fid_le {zs : List Int} (h : ∀ z ∈ zs, lvl z = true) : (fid zs : Int) ≤ (if hEx zs then 536870911 else 2047) := by
  have h1 := cut_val h 1 11
  have h2 := cut_val h 14 18
  unfold fid
  split <;> omega
theorem frm_may {zs : List Int} (h : ∀ z ∈ zs, lvl z = true) : (frm zs).may = true := by
  have h1 := fid_le h
  have h3 := hLn_le zs
  simp only [Fr.may, Bool.and_eq_true, decide_eq_true_eq, List.all_eq_true, List.mem_range, Bool.or_eq_true, beq_iff_eq, Bool.not_eq_true']
  refine ⟨⟨⟨⟨?_, ?_⟩, ?_⟩, ?_⟩, ?_⟩
  · show (0 : Int) ≤ ((fid zs : Nat) : Int); omega
  · exact h1
  · show (0 : Int) ≤ ((hLn zs : Nat) : Int); omega
  · show ((hLn zs : Nat) : Int) ≤ 8; omega
  · intro k hk
    show (if k < hDat zs / 8 then ((byt zs k : Nat) : Int) else 0) = 0 ∨ (hRt zs = false ∧ (k : Int) < ((hLn zs : Nat) : Int))
    split
    · next hlt =>
      unfold hDat at hlt
      cases hr : hRt zs
      · rw [hr] at hlt; simp at hlt; exact .inr ⟨rfl, by omega⟩
      · rw [hr] at hlt; simp at hlt
    · exact .inl rfl
theorem frm_wf {zs : List Int} (h : ∀ z ∈ zs, lvl z = true) : (frm zs).wf := by
  intro k hk
  show 0 ≤ (if k < hDat zs / 8 then ((byt zs k : Nat) : Int) else 0) ∧ (if k < hDat zs / 8 then ((byt zs k : Nat) : Int) else 0) ≤ 255
  have := cut_val h (hEnd (hEx zs) + k * 8) 8
  unfold byt
  split <;> omega
theorem d_may {zs : List Int} (h : dE zs = 0) : (dF zs).may = true ∧ (dF zs).wf := by
  unfold dF
  rw [if_pos h]
  exact ⟨frm_may (d_whole h).lev, frm_wf (d_whole h).lev⟩
theorem d_44 {zs : List Int} (h : dE zs = 0) : 44 ≤ dN zs := by
  have h1 := (d_whole h).len
  have h2 := (d_whole h).le
  rw [sumW_hW] at h1
  have : 19 ≤ hEnd (hEx (dO zs)) := by cases hEx (dO zs) <;> decide
  have : hEnd (hEx (dO zs)) ≤ ahead (dO zs) := by unfold ahead; omega
  omega
/-- What Decode answers of what is ahead. -/
theorem d_take {zs : List Int} : dN zs ≤ zs.length ∧ (dE zs = 0 → dV (zs.take (dN zs)) = dV zs) ∧ (dE zs ≠ 0 → (dE zs = 13 ↔ dN zs = zs.length) ∧ dV (zs.take (dN zs)) = .tuple #[Fr.zero.val, .int .i64 (dN zs : Nat), .int .i64 13]) := by
  obtain ⟨e, n, p, h1, h2, h3, h4⟩ := dcd_pre zs 0 [] []
  rw [Nat.zero_add] at h1 h3
  have e1 : dE zs = e := by unfold dE; rw [h1]
  have e2 : dN zs = n := by unfold dN; rw [h1]
  have e3 : dO zs = p := by unfold dO; rw [h1]
  rw [e2]
  refine ⟨h2, fun h0 => ?_, fun h0 => ?_⟩
  · rw [e1] at h0
    have h5 := h3 h0
    unfold dV dF dE dN dO
    rw [h5, h1, h0]
  · rw [e1] at h0
    obtain ⟨h5, q, h6⟩ := h4 h0
    rw [Nat.zero_add] at h6
    refine ⟨by rw [e1]; exact h5, ?_⟩
    unfold dV dF dE dN dO
    rw [h6]
    rfl
theorem d_zero {zs : List Int} (h : dE zs ≠ 0) : dF zs = Fr.zero := if_neg h
/-- A beginning of what is encoded is too short. -/
theorem short_dV {f : Fr} (hm : f.may = true) (b : Bool) {j : Nat} (hj : j < (enc f b).length) : dV ((enc f b).take j) = .tuple #[Fr.zero.val, .int .i64 (j : Nat), .int .i64 13] := by
  have h := enc_dcd hm b []
  rw [List.append_nil, ← Nat.zero_add (enc f b).length] at h
  obtain ⟨q, hq⟩ := dcd_short _ 0 [] [] _ _ j h hj
  rw [Nat.zero_add] at hq
  unfold dV dF dE dN dO
  rw [hq]
  rfl
end Go.Proofs.Ytffhhegpkejdgaa

/- How arguments that came in are opened: slices of ints, arrays of ints and of bools. -/
namespace Go.Proofs.Ytffhhegpkejdgaa
open Go.ChangeShapes Go.WideShapes Go.ChangeAt Go.RowKit

theorem ownKn : ownKnob Try.prog.godebug = none := by kernel_rfl
theorem laidOut : laidOutB Try.prog = true := by kernel_rfl

/-- What is known of a slice of ints that came in. -/
def InRow (w : World) (a : Option Addr) (len cap : Nat) (zs : List Int) : Prop :=
  Il w a len zs ∧ len ≤ cap ∧ ∀ z ∈ zs, -9223372036854775808 ≤ z ∧ z ≤ 9223372036854775807

theorem wf_i64 {z : Int} (h : (Lit.int .i64 z).wf = true) : -9223372036854775808 ≤ z ∧ z ≤ 9223372036854775807 := bounds_i64 h

section
variable {H : Type} {enc : TypeId × Value → H} {W : World} {m : Nat} {x : DataW H × List MemPlace}
theorem row_in {c : Value} (hf : DataW.trod enc Try.prog W 0 (fun _ => true) true m 25 [c] = some x) : ∃ a len cap zs, c = .slice a len cap ∧ InRow W a len cap zs := by
  rcases open_ints Try.underlying25 Try.underlying3 (by kernel_rfl) hf with ⟨hcs, _⟩ | ⟨ad, l, c', zs, hcs, _, hl, hm, hz, _, hcell, hwz⟩
  · simp at hcs
    exact ⟨none, 0, 0, [], hcs, ⟨rfl, fun h => by omega⟩, Nat.le_refl _, fun z hz => by cases hz⟩
  · simp at hcs
    have hzl : zs.length = c' := by simpa using hz
    refine ⟨some ad, l, c', zs.take l, hcs, ⟨by rw [List.length_take]; omega, fun hn => ⟨ad, rfl, ?_, fun j hj => ?_⟩⟩, hl, fun z hz => wf_i64 (hwz z (List.mem_of_mem_take hz))⟩
    · have h0 := hcell 0 (by omega)
      rcases Nat.lt_or_ge ad.block W.heap.size with h | h
      · exact h
      · have hb : (ad.add 0).block = ad.block := block_of_add ad 0
        rw [World.cell?, hb, Array.getElem?_eq_none h] at h0
        cases h0
    · rw [hcell j (by omega)]
      simp [List.getD, List.getElem?_take_of_lt hj]
/-- An array of cells: each reads as its element type does. -/
theorem cells_in {t e : TypeId} {n : Nat} {cs : List Value} (ht : Try.prog.underlying t = some (.array n e)) (he : Try.prog.cellsOf e = 1) (hc : Try.prog.cellsOf t = n) (hf : DataW.trod enc Try.prog W 0 (fun _ => true) true m t cs = some x) :
    cs.length = n ∧ ∀ i, i < n → ∃ v m' x', cs[i]? = some v ∧ DataW.trod enc Try.prog W 0 (fun _ => true) true m' e [v] = some x' := by
  obtain ⟨xs, m', _, _, hl0, hl, hi⟩ := DataW.trod_array ht hf
  rw [hc] at hl0
  refine ⟨hl0, fun i h => ?_⟩
  have h1 := hi i h
  rw [he, Nat.mul_one, List.getElem?_eq_getElem (by omega)] at h1
  have hlt : i < cs.length := by omega
  rw [List.drop_eq_getElem_cons hlt, List.take_succ_cons, List.take_zero] at h1
  exact ⟨_, m', _, List.getElem?_eq_getElem hlt, h1⟩
theorem list_of {α : Type} (f : α → Value) (cs : List Value) (h : ∀ i, i < cs.length → ∃ a, cs[i]? = some (f a)) : ∃ ps : List α, cs = ps.map f := by
  induction cs with
  | nil => exact ⟨[], rfl⟩
  | cons c cs ih =>
    obtain ⟨a, ha⟩ := h 0 (by simp)
    obtain ⟨ps, hps⟩ := ih (fun i hi => by simpa using h (i + 1) (by simp; exact hi))
    simp at ha
    exact ⟨a :: ps, by rw [ha, hps]; rfl⟩
theorem bools_in {t : TypeId} {n : Nat} {cs : List Value} (ht : Try.prog.underlying t = some (.array n 4)) (hc : Try.prog.cellsOf t = n) (hf : DataW.trod enc Try.prog W 0 (fun _ => true) true m t cs = some x) : ∃ bs : List Bool, cs = bs.map Value.bool ∧ bs.length = n := by
  obtain ⟨hl, h⟩ := cells_in ht (by kernel_rfl) hc hf
  obtain ⟨ps, hps⟩ := list_of Value.bool cs (fun i hi => by
    obtain ⟨v, m', x', hv, hr⟩ := h i (by omega)
    obtain ⟨b, hb, _⟩ := DataW.trod_bool Try.underlying4 hr
    simp at hb
    exact ⟨b, by rw [hv, hb]⟩)
  exact ⟨ps, hps, by rw [← hl, hps, List.length_map]⟩
theorem ints_in {t : TypeId} {n : Nat} {cs : List Value} (ht : Try.prog.underlying t = some (.array n 3)) (hc : Try.prog.cellsOf t = n) (hf : DataW.trod enc Try.prog W 0 (fun _ => true) true m t cs = some x) : ∃ zs : List Int, cs = zs.map (Value.int .i64) ∧ zs.length = n := by
  obtain ⟨hl, h⟩ := cells_in ht (by kernel_rfl) hc hf
  obtain ⟨ps, hps⟩ := list_of (Value.int .i64) cs (fun i hi => by
    obtain ⟨v, m', x', hv, hr⟩ := h i (by omega)
    obtain ⟨b, hb, _⟩ := DataW.trod_int Try.underlying3 hr
    simp at hb
    exact ⟨b, by rw [hv, hb]⟩)
  exact ⟨ps, hps, by rw [← hl, hps, List.length_map]⟩
theorem rows_in {t : TypeId} {n : Nat} {cs : List Value} (ht : Try.prog.underlying t = some (.array n 25)) (hc : Try.prog.cellsOf t = n) (hf : DataW.trod enc Try.prog W 0 (fun _ => true) true m t cs = some x) : cs.length = n ∧ ∀ i, i < n → ∃ a len cap zs, cs[i]? = some (.slice a len cap) ∧ InRow W a len cap zs := by
  obtain ⟨hl, h⟩ := cells_in ht (by kernel_rfl) hc hf
  refine ⟨hl, fun i hi => ?_⟩
  obtain ⟨v, m', x', hv, hr⟩ := h i hi
  obtain ⟨a, len, cap, zs, rfl, hin⟩ := row_in hr
  exact ⟨a, len, cap, zs, hv, hin⟩
end
theorem two_cells {cs : Array Value} {u v : Value} (hl : cs.toList.length = 2) (h0 : cs.toList[0]? = some u) (h1 : cs.toList[1]? = some v) : cs = #[u, v] := by
  obtain ⟨l⟩ := cs
  match l, hl with
  | [a, b], _ =>
    simp at h0 h1
    rw [h0, h1]
/-- An array, or a struct, is its cells. -/
theorem agg_in {W : World} {base : Nat} {t : TypeId} {n : Nat} {e : TypeId} {v : Value} (ht : Try.prog.underlying t = some (.array n e)) (h : Value.okWide Try.prog W .any base t v) : ∃ cs : Array Value, v = .agg cs := by
  simp only [Value.okWide, ht] at h
  obtain ⟨cs, rfl, _⟩ := h
  exact ⟨cs, rfl⟩
end Go.Proofs.Ytffhhegpkejdgaa

/- How frames, rows of frames and rows of bytes that came in are opened. -/
namespace Go.Proofs.Ytffhhegpkejdgaa
open Go.ChangeShapes Go.WideShapes Go.ChangeAt Go.RowKit

section
variable {H : Type} {enc : TypeId × Value → H} {W : World} {m : Nat} {x : DataW H × List MemPlace}
theorem frame_cells {cs : List Value} (hf : DataW.trod enc Try.prog W 0 (fun _ => true) true m 24 cs = some x) : ∃ f : Fr, cs = f.cells.toList ∧ f.wf := by
  obtain ⟨xs, n, _, _, hl, hxl, hg⟩ := DataW.trod_struct Try.underlying24 hf
  rw [show Try.prog.cellsOf 24 = 12 by kernel_rfl] at hl
  have hxl' : xs.length = 5 := hxl
  match cs, hl with
  | [c0, c1, c2, c3, c4, c5, c6, c7, c8, c9, c10, c11], _ =>
    have t0 : DataW.trod enc Try.prog W 0 (fun _ => true) true n 3 (List.take (Try.prog.cellsOf 3) (List.drop 0 [c0, c1, c2, c3, c4, c5, c6, c7, c8, c9, c10, c11])) = xs[0]? := hg 0 _ rfl
    have t1 : DataW.trod enc Try.prog W 0 (fun _ => true) true n 4 (List.take (Try.prog.cellsOf 4) (List.drop 1 [c0, c1, c2, c3, c4, c5, c6, c7, c8, c9, c10, c11])) = xs[1]? := hg 1 _ rfl
    have t2 : DataW.trod enc Try.prog W 0 (fun _ => true) true n 4 (List.take (Try.prog.cellsOf 4) (List.drop 2 [c0, c1, c2, c3, c4, c5, c6, c7, c8, c9, c10, c11])) = xs[2]? := hg 2 _ rfl
    have t3 : DataW.trod enc Try.prog W 0 (fun _ => true) true n 3 (List.take (Try.prog.cellsOf 3) (List.drop 3 [c0, c1, c2, c3, c4, c5, c6, c7, c8, c9, c10, c11])) = xs[3]? := hg 3 _ rfl
    have t4 : DataW.trod enc Try.prog W 0 (fun _ => true) true n 22 (List.take (Try.prog.cellsOf 22) (List.drop 4 [c0, c1, c2, c3, c4, c5, c6, c7, c8, c9, c10, c11])) = xs[4]? := hg 4 _ rfl
    rw [List.getElem?_eq_getElem (by omega)] at t0 t1 t2 t3 t4
    simp only [show Try.prog.cellsOf 3 = 1 by kernel_rfl, List.drop_zero, List.drop_succ_cons, List.take_succ_cons, List.take_zero] at t0 t3
    simp only [show Try.prog.cellsOf 4 = 1 by kernel_rfl, List.drop_zero, List.drop_succ_cons, List.take_succ_cons, List.take_zero] at t1 t2
    simp only [show Try.prog.cellsOf 22 = 8 by kernel_rfl, List.drop_zero, List.drop_succ_cons, List.take_succ_cons, List.take_zero] at t4
    obtain ⟨i, hi, _⟩ := DataW.trod_int Try.underlying3 t0
    obtain ⟨e, he, _⟩ := DataW.trod_bool Try.underlying4 t1
    obtain ⟨r, hr, _⟩ := DataW.trod_bool Try.underlying4 t2
    obtain ⟨l, hl, _⟩ := DataW.trod_int Try.underlying3 t3
    obtain ⟨_, hc⟩ := cells_in Try.underlying22 (by kernel_rfl) (by kernel_rfl) t4
    have hb : ∀ k, k < 8 → ∃ z : Int, [c4, c5, c6, c7, c8, c9, c10, c11][k]? = some (Value.int .u8 z) ∧ 0 ≤ z ∧ z ≤ 255 := fun k hk => by
      obtain ⟨v, m', x', hv, ht⟩ := hc k hk
      obtain ⟨z, hz, _, hw⟩ := DataW.trod_int Try.underlying5 ht
      simp at hz
      subst hz
      exact ⟨z, hv, bounds_u8 hw⟩
    simp at hi he hr hl
    obtain ⟨z0, q0, w0⟩ := hb 0 (by omega)
    obtain ⟨z1, q1, w1⟩ := hb 1 (by omega)
    obtain ⟨z2, q2, w2⟩ := hb 2 (by omega)
    obtain ⟨z3, q3, w3⟩ := hb 3 (by omega)
    obtain ⟨z4, q4, w4⟩ := hb 4 (by omega)
    obtain ⟨z5, q5, w5⟩ := hb 5 (by omega)
    obtain ⟨z6, q6, w6⟩ := hb 6 (by omega)
    obtain ⟨z7, q7, w7⟩ := hb 7 (by omega)
    simp at q0 q1 q2 q3 q4 q5 q6 q7
    refine ⟨⟨i, e, r, l, fun k => [z0, z1, z2, z3, z4, z5, z6, z7].getD k 0⟩, ?_, ?_⟩
    · rw [hi, he, hr, hl, q0, q1, q2, q3, q4, q5, q6, q7]; rfl
    · intro k hk
      match k, hk with
      | 0, _ => exact w0
      | 1, _ => exact w1
      | 2, _ => exact w2
      | 3, _ => exact w3
      | 4, _ => exact w4
      | 5, _ => exact w5
      | 6, _ => exact w6
      | 7, _ => exact w7
theorem frame_in {v : Value} {d : DataW H} {p : List MemPlace} {base : Nat} (hv : Value.okWide Try.prog W .any base 24 v) (h : DataW.Trod enc Try.prog W 0 (fun _ => true) true 24 v d p) : ∃ f : Fr, v = f.val ∧ f.wf := by
  obtain ⟨cs, rfl, _⟩ := okWide_struct Try.underlying24 hv
  obtain ⟨fuel, hf⟩ := h
  obtain ⟨f, hc, hw⟩ := frame_cells hf
  refine ⟨f, ?_, hw⟩
  have : cs = f.cells := Array.toList_inj.1 hc
  rw [this]
end
end Go.Proofs.Ytffhhegpkejdgaa

/- The contracts of the reference of layer 2: Of, Value, Poly, Behind, Sum. -/
namespace Go.Proofs.Ytffhhegpkejdgaa
open Go.RowKit

theorem halfI (s k : Nat) : ((s / 2 ^ k : Nat) : Int) / 2 = ((s / 2 ^ (k + 1) : Nat) : Int) := by
  rw [Nat.pow_succ, ← Nat.div_div_eq_div_mul]; omega
theorem bitI (s k : Nat) : ((s / 2 ^ k : Nat) : Int) % 2 = bit s k := by unfold bit; omega

theorem poly_ok (w : World) : Calls Try.prog 77 #[] w (fun e w' => e = .returned (.slice (some ⟨w.heap.size, 0, none⟩) 15 15) ∧ Il w' (some ⟨w.heap.size, 0, none⟩) 15 poly ∧ Below w.heap.size w w') := by
  have HB := Lib.hid (Arr.new w .i64 3 poly)
  go_enter Try.func77, Try.ntmps77
  go_wp2
  go_ret
  exact ⟨rfl, HB.out.il, (Below.refl _ _).alloc (Nat.le_refl _) _⟩
end Go.Proofs.Ytffhhegpkejdgaa

