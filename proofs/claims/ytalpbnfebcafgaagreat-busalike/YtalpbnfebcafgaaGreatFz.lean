/- Plain mathematics: what the fields of a frame's own levels tell. -/
import Derived.Test.YtalpbnfebcafgaaGreatLa
namespace Go.Proofs.YtalpbnfebcafgaaGreat
set_option maxRecDepth 20000

theorem cut_mid {xs ys zs : List Int} {a n : Nat} (h1 : xs.length = a) (h2 : ys.length = n) : cutL (xs ++ ys ++ zs) a n = ys := by
  unfold cutL
  rw [List.take_append_of_le_length (by rw [List.length_append]; omega), List.take_of_length_le (by rw [List.length_append]; omega), ← h1, List.drop_left]
theorem get_mid {xs ys : List Int} {k : Nat} {y : Int} (h : xs.length = k) : (xs ++ y :: ys)[k]? = some y := by
  rw [List.getElem?_append_right (by omega), h]; simp

/-- A frame's control levels without the four that tell how many bytes there are. -/
def ctlP (f : Fr) : List Int := [0] ++ ofB f.num f.wid ++ ofB 0 (cW f.ext - 4)
/-- A frame's levels with t told. -/
def hdr (f : Fr) (t : Nat) (r : List Int) : List Int := ctlP f ++ ofB t 4 ++ (datB f.d (nDat f) ++ r)
theorem ctlP_len (f : Fr) : (ctlP f).length + 4 = hEnd f.ext := by
  unfold ctlP
  rw [List.length_append, List.length_append, ofB_len, ofB_len, wid_eq]
  cases f.ext <;> rfl
theorem ctlB_split {f : Fr} {n : Nat} (hn : f.len = (n : Int)) (h : n < 16) : ctlB f = ctlP f ++ ofB n 4 := by
  unfold ctlB ctlP
  have hc : cW f.ext = (cW f.ext - 4) + 4 := by cases f.ext <;> rfl
  rw [hn, Int.toNat_natCast, List.append_assoc ([0] ++ ofB f.num f.wid)]
  conv => lhs; rw [hc, ofB_split, show n / 2 ^ 4 = 0 by omega]
theorem bts_hdr {f : Fr} {n : Nat} (hn : f.len = (n : Int)) (h : n < 16) (r : List Int) : bts f ++ r = hdr f n r := by
  unfold bts hdr
  rw [ctlB_split hn h, List.append_assoc]

section
variable {f : Fr} {t : Nat} {r : List Int} {i : Nat}
theorem hdr_len : (hdr f t r).length = hEnd f.ext + 8 * nDat f + r.length := by
  unfold hdr
  rw [List.length_append, List.length_append, List.length_append, ofB_len, datB_len]
  have := ctlP_len f
  omega
theorem hdr_short (hx : f.ext = false) (hi : f.id = (i : Int)) : ∃ s, hdr f t r = [0] ++ ofB i 11 ++ (f.rtr.toNat : Int) :: 0 :: s := by
  unfold hdr ctlP
  rw [← arb_short hx hi]
  exact ⟨ofB 0 (cW f.ext - 4) ++ ofB t 4 ++ (datB f.d (nDat f) ++ r), by simp⟩
theorem hdr_long (hx : f.ext = true) (hi : f.id = (i : Int)) : ∃ s, hdr f t r = [0] ++ ofB (i / 262144) 11 ++ 1 :: 1 :: (ofB (i % 262144) 18 ++ (f.rtr.toNat : Int) :: s) := by
  unfold hdr ctlP
  rw [← arb_long hx hi]
  exact ⟨ofB 0 (cW f.ext - 4) ++ ofB t 4 ++ (datB f.d (nDat f) ++ r), by simp⟩
theorem flag_one (b : Bool) : (((b.toNat : Nat) : Int) == 1) = b := by cases b <;> rfl
theorem hdr_zero : one (hdr f t r) 0 = false := by
  unfold hdr ctlP; rfl
theorem hdr_ext (hi : f.id = (i : Int)) : hEx (hdr f t r) = f.ext := by
  unfold hEx
  cases hx : f.ext
  · obtain ⟨s, e⟩ := hdr_short (t := t) (r := r) hx hi
    rw [e, show [0] ++ ofB i 11 ++ (f.rtr.toNat : Int) :: 0 :: s = ([0] ++ ofB i 11 ++ [(f.rtr.toNat : Int)]) ++ 0 :: s by simp]
    exact one_at (get_mid (by simp [ofB_len]))
  · obtain ⟨s, e⟩ := hdr_long (t := t) (r := r) hx hi
    rw [e, show ∀ q, [0] ++ ofB (i / 262144) 11 ++ 1 :: 1 :: q = ([0] ++ ofB (i / 262144) 11 ++ [1]) ++ 1 :: q by simp]
    exact one_at (get_mid (by simp [ofB_len]))
theorem hdr_rtr (hi : f.id = (i : Int)) : hRt (hdr f t r) = f.rtr := by
  unfold hRt
  rw [hdr_ext hi]
  cases hx : f.ext
  · obtain ⟨s, e⟩ := hdr_short (t := t) (r := r) hx hi
    rw [e]
    exact (one_at (get_mid (by simp [ofB_len]))).trans (flag_one _)
  · obtain ⟨s, e⟩ := hdr_long (t := t) (r := r) hx hi
    rw [e, show [0] ++ ofB (i / 262144) 11 ++ 1 :: 1 :: (ofB (i % 262144) 18 ++ (f.rtr.toNat : Int) :: s) = ([0] ++ ofB (i / 262144) 11 ++ [1, 1] ++ ofB (i % 262144) 18) ++ (f.rtr.toNat : Int) :: s by simp]
    exact (one_at (get_mid (by simp [ofB_len]))).trans (flag_one _)
theorem hdr_told (hi : f.id = (i : Int)) (ht : t < 16) : hLn (hdr f t r) = min t 8 := by
  unfold hLn
  rw [hdr_ext hi, if_pos (by rw [hdr_len]; omega)]
  have := ctlP_len f
  have e : cutL (hdr f t r) (hEnd f.ext - 4) 4 = ofB t 4 := cut_mid (by omega) (ofB_len _ _)
  rw [e, val_ofB, show t % 2 ^ 4 = t by omega]
theorem hdr_dat (hi : f.id = (i : Int)) (ht : t < 16) {n : Nat} (hn : f.len = (n : Int)) (hm : min t 8 = n) : hDat (hdr f t r) = 8 * nDat f := by
  unfold hDat nDat
  rw [hdr_rtr hi, hdr_told hi ht, hm, hn, Int.toNat_natCast]
  split <;> omega
theorem hdr_ahead (hi : f.id = (i : Int)) (ht : t < 16) {n : Nat} (hn : f.len = (n : Int)) (hm : min t 8 = n) : ahead (hdr f t r) = hEnd f.ext + 8 * nDat f := by
  unfold ahead
  rw [hdr_ext hi, hdr_dat hi ht hn hm]
theorem hdr_W (hi : f.id = (i : Int)) (ht : t < 16) {n : Nat} (hn : f.len = (n : Int)) (hm : min t 8 = n) : hW (hdr f t r) = wds (aW f.ext) (cW f.ext) (8 * nDat f) := by
  unfold hW
  rw [hdr_ext hi, hdr_dat hi ht hn hm]
theorem hdr_id (hi : f.id = (i : Int)) (hm : f.may = true) : fid (hdr f t r) = i := by
  obtain ⟨h0, h1, _⟩ := may_parts hm
  unfold Fr.most at h1
  unfold fid
  rw [hdr_ext hi]
  cases hx : f.ext
  · obtain ⟨s, e⟩ := hdr_short (t := t) (r := r) hx hi
    rw [hx] at h1
    simp only [Bool.false_eq_true, if_false] at h1 ⊢
    rw [e, cut_mid (by rfl) (ofB_len _ _), val_ofB]
    rw [Nat.mod_eq_of_lt]; omega
  · obtain ⟨s, e⟩ := hdr_long (t := t) (r := r) hx hi
    rw [hx] at h1
    simp only [if_true] at h1 ⊢
    have e2 : hdr f t r = ([0] ++ ofB (i / 262144) 11 ++ [1, 1]) ++ ofB (i % 262144) 18 ++ (f.rtr.toNat : Int) :: s := by rw [e]; simp
    have v1 : cutL (hdr f t r) 1 11 = ofB (i / 262144) 11 := by rw [e]; exact cut_mid rfl (ofB_len _ _)
    have v2 : cutL (hdr f t r) 14 18 = ofB (i % 262144) 18 := by rw [e2]; exact cut_mid (by simp [ofB_len]) (ofB_len _ _)
    rw [v1, v2, val_ofB, val_ofB]
    rw [Nat.mod_eq_of_lt (show i / 262144 < 2 ^ 11 by omega), Nat.mod_eq_of_lt (show i % 262144 < 2 ^ 18 by omega)]
    omega
theorem datB_split (d : Nat → Int) : ∀ m j, j < m → ∃ s, datB d m = datB d j ++ ofB (d j).toNat 8 ++ s := by
  intro m
  induction m with
  | zero => intro j hj; omega
  | succ m ih =>
    intro j hj
    rcases Nat.lt_or_ge j m with h | h
    · obtain ⟨s, e⟩ := ih j h
      exact ⟨s ++ ofB (d m).toNat 8, by rw [datB, e]; simp⟩
    · have : j = m := by omega
      subst this
      exact ⟨[], by rw [datB]; simp⟩
theorem hdr_byte (hi : f.id = (i : Int)) (hwf : f.wf) {j : Nat} (hj : j < nDat f) (h8 : j < 8) : ((byt (hdr f t r) j : Nat) : Int) = f.d j := by
  obtain ⟨s, e⟩ := datB_split f.d (nDat f) j hj
  obtain ⟨y0, y1⟩ := hwf j h8
  unfold byt
  rw [hdr_ext hi]
  have e2 : hdr f t r = (ctlP f ++ ofB t 4 ++ datB f.d j) ++ ofB (f.d j).toNat 8 ++ (s ++ r) := by unfold hdr; rw [e]; simp
  have := ctlP_len f
  rw [e2, cut_mid (by rw [List.length_append, List.length_append, ofB_len, datB_len]; omega) (ofB_len _ _), val_ofB, Nat.mod_eq_of_lt (by omega)]
  omega
theorem frm_cells {a b : Fr} (h1 : a.id = b.id) (h2 : a.ext = b.ext) (h3 : a.rtr = b.rtr) (h4 : a.len = b.len) (h5 : ∀ k, k < 8 → a.d k = b.d k) : a.val = b.val := by
  unfold Fr.val Fr.cells
  rw [h1, h2, h3, h4, h5 0 (by omega), h5 1 (by omega), h5 2 (by omega), h5 3 (by omega), h5 4 (by omega), h5 5 (by omega), h5 6 (by omega), h5 7 (by omega)]
theorem hdr_frame (hm : f.may = true) (hwf : f.wf) (ht : t < 16) (hl : min t 8 = f.len.toNat) : (frm (hdr f t r)).val = f.val := by
  obtain ⟨h0, h1, h2, h3, h4⟩ := may_parts hm
  obtain ⟨i, hi⟩ := Int.eq_ofNat_of_zero_le h0
  obtain ⟨n, hn⟩ := Int.eq_ofNat_of_zero_le h2
  rw [hn, Int.toNat_natCast] at hl
  unfold frm frk
  refine frm_cells ?_ ?_ ?_ ?_ ?_
  · show ((fid (hdr f t r) : Nat) : Int) = f.id
    rw [hdr_id hi hm, hi]
  · exact hdr_ext hi
  · exact hdr_rtr hi
  · show ((hLn (hdr f t r) : Nat) : Int) = f.len
    rw [hdr_told hi ht, hl, hn]
  · intro k hk
    show (if k < hDat (hdr f t r) / 8 then ((byt (hdr f t r) k : Nat) : Int) else 0) = f.d k
    rw [hdr_dat hi ht hn hl, show 8 * nDat f / 8 = nDat f by omega]
    split
    · next h => exact hdr_byte hi hwf h hk
    · next h =>
      rcases h4 k hk with h | ⟨ha, hb⟩
      · exact h.symm
      · exfalso
        apply h
        unfold nDat; rw [ha, hn]; simp; omega
end
end Go.Proofs.YtalpbnfebcafgaaGreat
