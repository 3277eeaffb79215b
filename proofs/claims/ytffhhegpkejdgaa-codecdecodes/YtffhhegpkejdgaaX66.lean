/- The contract of field's Next. -/
import Derived.Test.YtffhhegpkejdgaaX63
import Derived.Test.YtffhhegpkejdgaaX65
namespace Go.Proofs.Ytffhhegpkejdgaa
open Go.RowKit

/-- What Next answers of n levels, with these fields. -/
def nout (ws : List Nat) (n k : Nat) : Value :=
  match ws with
  | [] => if 0 < n then .tuple #[.int .i64 0, .int .i64 0, .int .i64 12] else .tuple #[.int .i64 (k : Int), .int .i64 0, .int .i64 0]
  | w :: ws => if n < w then .tuple #[.int .i64 (k : Int), .int .i64 (n : Int), .int .i64 0] else nout ws (n - w) (k + 1)
theorem nx_hit {w n : Nat} (ws : List Nat) (k : Nat) (h : n < w) : nout (w :: ws) n k = .tuple #[.int .i64 (k : Int), .int .i64 (n : Int), .int .i64 0] := by simp [nout, h]
theorem nx_miss {w n : Nat} (ws : List Nat) (k : Nat) (h : ¬ n < w) : nout (w :: ws) n k = nout ws (n - w) (k + 1) := by simp [nout, h]

theorem ix9 (a c d k : Nat) (hk : k < 9) (v : Value) (e : (W9c a c d)[k]? = some v) (w : World) : (Instr.index 66 (W9 a c d) (.int .i64 (k : Int))).run Try.prog w = .ok v w := by
  have h1 : (0 : Int) ≤ (k : Int) ∧ (k : Int) < 9 := by omega
  have e2 := e
  rw [← Array.getElem?_toList] at e2
  simp [Instr.index, run_underlying Try.underlying66, asIntOf, h1, part, isAgg, run_underlying Try.underlying3]
  rw [if_pos hk, e2]
  rfl

set_option maxHeartbeats 400000 in
theorem next_bad (A : Option Addr) (n cap : Nat) (zs : List Int) (w : World) (hr : Il w A n zs) (hn : n ≤ 100000) (hl : 0 ≤ chk zs) :
    Calls Try.prog 51 #[.slice A n cap] w fun e w' => e = .returned (.tuple #[.int .i64 0, .int .i64 0, .int .i64 10]) ∧ w = w' := by
  go_enter Try.func51, Try.ntmps51
  go_wp2_with fail
  refine (check_any _ _ _ _ _ hr (by omega)).mono ?_
  rintro e w' ⟨rfl, rfl⟩
  go_wp2
  go_ret3
  exact ⟨rfl, rfl⟩

set_option maxHeartbeats 3200000 in
theorem next_any_row (A : Option Addr) (n cap : Nat) (zs : List Int) (w : World) (hr : Il w A n zs) (hn : n ≤ 100000) (hcap : n ≤ cap) (hl : ∀ z ∈ zs, lvl z = true) :
    Calls Try.prog 51 #[.slice A n cap] w fun e w' => e = .returned (nout (hW zs) n 0) ∧ Below w.heap.size w w' := by
  have HC := Lib.hid (show chk zs = -1 from fst_of_all lvl zs hl)
  have HR := Lib.hid hr; have HL := Lib.hid hl
  have ha := aW_le (hEx zs); have hc := cW_le (hEx zs); have hdd := hDat_le zs
  have HQ := Lib.hid (show hW zs = wds (aW (hEx zs)) (cW (hEx zs)) (hDat zs) from rfl)
  clear hr hl
  go_enter Try.func51, Try.ntmps51
  go_wp2_with fail
  refine (check_any _ _ _ _ _ HR.out (by omega)).mono ?_
  rintro e w' ⟨rfl, rfl⟩
  rw [HC.out]
  go_wp2_with fail
  refine (head_ok _ _ _ _ _ HR.out hn hcap HL.out).mono ?_
  rintro e w1 ⟨rfl, hb1⟩
  go_wp2_with fail
  refine (widths_any (hd zs) (hLn zs) (by have := hLn_le zs; omega) rfl _).mono ?_
  rintro e w2 ⟨rfl, hb2⟩
  rw [dW_hd, show (hd zs).ext = hEx zs from rfl]
  have HB := Lib.hid (nxt hb1 hb2)
  clear hb1 hb2
  generalize aW (hEx zs) = a at *
  generalize cW (hEx zs) = c at *
  obtain ⟨d, hd0⟩ : ∃ d, hDat zs = d := ⟨_, rfl⟩
  rw [hd0] at hdd HQ ⊢
  clear hd0
  go_wp2
  go_loop [5, 16] (fun v i => ∃ k m : Nat, k ≤ 9 ∧ m ≤ 100000 ∧ i = .int .i64 k ∧ v = .int .i64 m ∧ nout (hW zs) n 0 = nout ((wds a c d).drop k) m k) (fun _ i => 9 - (intOf i).toNat)
  case atStart => exact ⟨0, n, Nat.zero_le _, hn, rfl, rfl, by rw [HQ.out]; rfl⟩
  case round =>
    obtain ⟨k, m, hk, hm, rfl, rfl, hnx⟩ := hrel
    rcases (show k = 0 ∨ k = 1 ∨ k = 2 ∨ k = 3 ∨ k = 4 ∨ k = 5 ∨ k = 6 ∨ k = 7 ∨ k = 8 ∨ k = 9 by omega) with rfl | rfl | rfl | rfl | rfl | rfl | rfl | rfl | rfl | rfl
    all_goals clear hk
    · have HN := Lib.hid hnx
      clear hnx
      have hix : ∀ u : World, (Instr.index 66 (W9 a c d) (.int .i64 0)).run Try.prog u = .ok (.int .i64 1) u := ix9 a c d 0 (by omega) (.int .i64 1) rfl
      by_cases hlt : m < 1
      · go_wp2
        go_ret3
        exact ⟨congrArg Ending.returned (HN.out.trans (nx_hit _ _ hlt)).symm, HB.out⟩
      · go_wp2
        go_round
        case rel => exact ⟨1, m - 1, by omega, by omega, by go_num, by go_num, HN.out.trans (nx_miss _ _ hlt)⟩
        case measure => simp [intOf]
    · have HN := Lib.hid hnx
      clear hnx
      have hix : ∀ u : World, (Instr.index 66 (W9 a c d) (.int .i64 1)).run Try.prog u = .ok (.int .i64 (a : Int)) u := ix9 a c d 1 (by omega) (.int .i64 (a : Int)) rfl
      by_cases hlt : m < a
      · go_wp2
        go_ret3
        exact ⟨congrArg Ending.returned (HN.out.trans (nx_hit _ _ hlt)).symm, HB.out⟩
      · go_wp2
        go_round
        case rel => exact ⟨2, m - a, by omega, by omega, by go_num, by go_num, HN.out.trans (nx_miss _ _ hlt)⟩
        case measure => simp [intOf]
    · have HN := Lib.hid hnx
      clear hnx
      have hix : ∀ u : World, (Instr.index 66 (W9 a c d) (.int .i64 2)).run Try.prog u = .ok (.int .i64 (c : Int)) u := ix9 a c d 2 (by omega) (.int .i64 (c : Int)) rfl
      by_cases hlt : m < c
      · go_wp2
        go_ret3
        exact ⟨congrArg Ending.returned (HN.out.trans (nx_hit _ _ hlt)).symm, HB.out⟩
      · go_wp2
        go_round
        case rel => exact ⟨3, m - c, by omega, by omega, by go_num, by go_num, HN.out.trans (nx_miss _ _ hlt)⟩
        case measure => simp [intOf]
    · have HN := Lib.hid hnx
      clear hnx
      have hix : ∀ u : World, (Instr.index 66 (W9 a c d) (.int .i64 3)).run Try.prog u = .ok (.int .i64 (d : Int)) u := ix9 a c d 3 (by omega) (.int .i64 (d : Int)) rfl
      by_cases hlt : m < d
      · go_wp2
        go_ret3
        exact ⟨congrArg Ending.returned (HN.out.trans (nx_hit _ _ hlt)).symm, HB.out⟩
      · go_wp2
        go_round
        case rel => exact ⟨4, m - d, by omega, by omega, by go_num, by go_num, HN.out.trans (nx_miss _ _ hlt)⟩
        case measure => simp [intOf]
    · have HN := Lib.hid hnx
      clear hnx
      have hix : ∀ u : World, (Instr.index 66 (W9 a c d) (.int .i64 4)).run Try.prog u = .ok (.int .i64 15) u := ix9 a c d 4 (by omega) (.int .i64 15) rfl
      by_cases hlt : m < 15
      · go_wp2
        go_ret3
        exact ⟨congrArg Ending.returned (HN.out.trans (nx_hit _ _ hlt)).symm, HB.out⟩
      · go_wp2
        go_round
        case rel => exact ⟨5, m - 15, by omega, by omega, by go_num, by go_num, HN.out.trans (nx_miss _ _ hlt)⟩
        case measure => simp [intOf]
    · have HN := Lib.hid hnx
      clear hnx
      have hix : ∀ u : World, (Instr.index 66 (W9 a c d) (.int .i64 5)).run Try.prog u = .ok (.int .i64 1) u := ix9 a c d 5 (by omega) (.int .i64 1) rfl
      by_cases hlt : m < 1
      · go_wp2
        go_ret3
        exact ⟨congrArg Ending.returned (HN.out.trans (nx_hit _ _ hlt)).symm, HB.out⟩
      · go_wp2
        go_round
        case rel => exact ⟨6, m - 1, by omega, by omega, by go_num, by go_num, HN.out.trans (nx_miss _ _ hlt)⟩
        case measure => simp [intOf]
    · have HN := Lib.hid hnx
      clear hnx
      have hix : ∀ u : World, (Instr.index 66 (W9 a c d) (.int .i64 6)).run Try.prog u = .ok (.int .i64 1) u := ix9 a c d 6 (by omega) (.int .i64 1) rfl
      by_cases hlt : m < 1
      · go_wp2
        go_ret3
        exact ⟨congrArg Ending.returned (HN.out.trans (nx_hit _ _ hlt)).symm, HB.out⟩
      · go_wp2
        go_round
        case rel => exact ⟨7, m - 1, by omega, by omega, by go_num, by go_num, HN.out.trans (nx_miss _ _ hlt)⟩
        case measure => simp [intOf]
    · have HN := Lib.hid hnx
      clear hnx
      have hix : ∀ u : World, (Instr.index 66 (W9 a c d) (.int .i64 7)).run Try.prog u = .ok (.int .i64 1) u := ix9 a c d 7 (by omega) (.int .i64 1) rfl
      by_cases hlt : m < 1
      · go_wp2
        go_ret3
        exact ⟨congrArg Ending.returned (HN.out.trans (nx_hit _ _ hlt)).symm, HB.out⟩
      · go_wp2
        go_round
        case rel => exact ⟨8, m - 1, by omega, by omega, by go_num, by go_num, HN.out.trans (nx_miss _ _ hlt)⟩
        case measure => simp [intOf]
    · have HN := Lib.hid hnx
      clear hnx
      have hix : ∀ u : World, (Instr.index 66 (W9 a c d) (.int .i64 8)).run Try.prog u = .ok (.int .i64 7) u := ix9 a c d 8 (by omega) (.int .i64 7) rfl
      by_cases hlt : m < 7
      · go_wp2
        go_ret3
        exact ⟨congrArg Ending.returned (HN.out.trans (nx_hit _ _ hlt)).symm, HB.out⟩
      · go_wp2
        go_round
        case rel => exact ⟨9, m - 7, by omega, by omega, by go_num, by go_num, HN.out.trans (nx_miss _ _ hlt)⟩
        case measure => simp [intOf]
    · have HN := Lib.hid hnx
      clear hnx
      by_cases hlt : 0 < m
      · go_wp2
        go_ret3
        exact ⟨by rw [HN.out]; simp [nout, wds, hlt], HB.out⟩
      · go_wp2
        go_ret3
        exact ⟨by rw [HN.out]; simp [nout, wds, hlt], HB.out⟩
end Go.Proofs.Ytffhhegpkejdgaa

/- The helpers of layer 4's laws: levels, kind, awake. -/
namespace Go.Proofs.Ytffhhegpkejdgaa
open Go.RowKit

theorem led_lvl_end {zs : List Int} {k n : Nat} (h : k ≤ led lvl zs) (hn : zs.length = n) (hk : ¬ k < n) : true = decide (chk zs < 0) := by
  have := led_le lvl zs
  rw [chk, fst_end lvl zs (by omega)]; rfl
theorem led_lvl_stop {zs : List Int} {k : Nat} {z : Int} (h : k ≤ led lvl zs) (hz : zs[k]? = some z) (hv : lvl z = false) : false = decide (chk zs < 0) := by
  rw [chk, fst_stop lvl zs k z h hz hv]; simp

def nine : List Int := [0, 1, 2, 3, 4, 5, 6, 7, 8, 9]
theorem nine_at (k : Nat) (h : k < 10) : nine[k]? = some (k : Int) := by
  rcases (show k = 0 ∨ k = 1 ∨ k = 2 ∨ k = 3 ∨ k = 4 ∨ k = 5 ∨ k = 6 ∨ k = 7 ∨ k = 8 ∨ k = 9 by omega) with rfl | rfl | rfl | rfl | rfl | rfl | rfl | rfl | rfl | rfl <;> rfl

def f1 : Fr := ⟨1, false, false, 0, fun _ => 0⟩
def lone : List Int := [0, 0, 0, 0, 0, 0, 0, 0, 0, 0, 0, 1, 0, 0, 0, 0, 0, 0, 0]
theorem f1_may : f1.may = true := by decide
theorem f1_wf : f1.wf := fun k _ => ⟨by show (0 : Int) ≤ 0; omega, by show (0 : Int) ≤ 255; omega⟩
theorem f1_bts : bts f1 = lone := by decide
theorem f1_next : nout (hW lone) 19 0 = .tuple #[.int .i64 4, .int .i64 0, .int .i64 0] := by rfl
theorem f1_ahead : aout lone = .tuple #[.int .i64 19, .int .i64 0] := by rfl
theorem alls_len (f : Fr) : (alls f).length = (bts f).length + 25 := by
  unfold alls; rw [List.length_append, List.length_append, ofB_len]; simp
theorem f1_alls : (alls f1).length = 44 := by rw [alls_len, f1_bts]; rfl
theorem f1_frame : fout lone = .tuple #[f1.val, .int .i64 0] := by
  have e : frm lone = f1 := by
    unfold frm frk f1
    simp only [Fr.mk.injEq]
    refine ⟨by decide, by decide, by decide, by decide, ?_⟩
    funext j
    rw [if_neg (by rw [show hDat lone / 8 = 0 by decide]; omega)]
  unfold fout
  rw [if_neg (by decide), if_neg (by decide), e]
end Go.Proofs.Ytffhhegpkejdgaa

/- Plain mathematics: what the fields of a frame's own levels tell. -/
namespace Go.Proofs.Ytffhhegpkejdgaa

theorem cut_mid {xs ys zs : List Int} {a n : Nat} (h1 : xs.length = a) (h2 : ys.length = n) : cutL (xs ++ ys ++ zs) a n = ys := by
  unfold cutL
  rw [List.take_append_of_le_length (by rw [List.length_append]; omega), List.take_of_length_le (by rw [List.length_append]; omega), ← h1, List.drop_left]
theorem get_mid {xs ys : List Int} {k : Nat} {y : Int} (h : xs.length = k) : (xs ++ y :: ys)[k]? = some y := by
  rw [List.getElem?_append_right (by omega), h]; simp

/-- A frame's control levels without the four that tell how many bytes there are. -/
def ctlP (f : Fr) : List Int := [0] ++ ofB f.num f.wid ++ ofB 0 (cW f.ext - 4)
/-- A frame's levels with t told. -/
def hdr (f : Fr) (t : Nat) (r : List Int) : List Int := ctlP f ++ ofB t 4 ++ (datB f.d (nDat f) ++ r)
theorem ctlP_len (f : Fr) : (ctlP f).length + 4 = hEnd f.ext := by
  unfold ctlP
  rw [List.length_append, List.length_append, ofB_len, ofB_len, wid_eq]
  cases f.ext <;> rfl
theorem ctlB_split {f : Fr} {n : Nat} (hn : f.len = (n : Int)) (h : n < 16) : ctlB f = ctlP f ++ ofB n 4 := by
  unfold ctlB ctlP
  have hc : cW f.ext = (cW f.ext - 4) + 4 := by cases f.ext <;> rfl
  rw [hn, Int.toNat_natCast, List.append_assoc ([0] ++ ofB f.num f.wid)]
  conv => lhs; rw [hc, ofB_split, show n / 2 ^ 4 = 0 by omega]
theorem bts_hdr {f : Fr} {n : Nat} (hn : f.len = (n : Int)) (h : n < 16) (r : List Int) : bts f ++ r = hdr f n r := by
  unfold bts hdr
  rw [ctlB_split hn h, List.append_assoc]

section
variable {f : Fr} {t : Nat} {r : List Int} {i : Nat}
theorem hdr_len : (hdr f t r).length = hEnd f.ext + 8 * nDat f + r.length := by
  unfold hdr
  rw [List.length_append, List.length_append, List.length_append, ofB_len, datB_len]
  have := ctlP_len f
  omega
theorem hdr_short (hx : f.ext = false) (hi : f.id = (i : Int)) : ∃ s, hdr f t r = [0] ++ ofB i 11 ++ (f.rtr.toNat : Int) :: 0 :: s := by
  unfold hdr ctlP
  rw [← arb_short hx hi]
  exact ⟨ofB 0 (cW f.ext - 4) ++ ofB t 4 ++ (datB f.d (nDat f) ++ r), by simp⟩
theorem hdr_long (hx : f.ext = true) (hi : f.id = (i : Int)) : ∃ s, hdr f t r = [0] ++ ofB (i / 262144) 11 ++ 1 :: 1 :: (ofB (i % 262144) 18 ++ (f.rtr.toNat : Int) :: s) := by
  unfold hdr ctlP
  rw [← arb_long hx hi]
  exact ⟨ofB 0 (cW f.ext - 4) ++ ofB t 4 ++ (datB f.d (nDat f) ++ r), by simp⟩
theorem flag_one (b : Bool) : (((b.toNat : Nat) : Int) == 1) = b := by cases b <;> rfl
theorem hdr_zero : one (hdr f t r) 0 = false := by
  unfold hdr ctlP; rfl
theorem hdr_ext (hi : f.id = (i : Int)) : hEx (hdr f t r) = f.ext := by
  unfold hEx
  cases hx : f.ext
  · obtain ⟨s, e⟩ := hdr_short (t := t) (r := r) hx hi
    rw [e, show [0] ++ ofB i 11 ++ (f.rtr.toNat : Int) :: 0 :: s = ([0] ++ ofB i 11 ++ [(f.rtr.toNat : Int)]) ++ 0 :: s by simp]
    exact one_at (get_mid (by simp [ofB_len]))
  · obtain ⟨s, e⟩ := hdr_long (t := t) (r := r) hx hi
    rw [e, show ∀ q, [0] ++ ofB (i / 262144) 11 ++ 1 :: 1 :: q = ([0] ++ ofB (i / 262144) 11 ++ [1]) ++ 1 :: q by simp]
    exact one_at (get_mid (by simp [ofB_len]))
theorem hdr_rtr (hi : f.id = (i : Int)) : hRt (hdr f t r) = f.rtr := by
  unfold hRt
  rw [hdr_ext hi]
  cases hx : f.ext
  · obtain ⟨s, e⟩ := hdr_short (t := t) (r := r) hx hi
    rw [e]
    exact (one_at (get_mid (by simp [ofB_len]))).trans (flag_one _)
  · obtain ⟨s, e⟩ := hdr_long (t := t) (r := r) hx hi
    rw [e, show [0] ++ ofB (i / 262144) 11 ++ 1 :: 1 :: (ofB (i % 262144) 18 ++ (f.rtr.toNat : Int) :: s) = ([0] ++ ofB (i / 262144) 11 ++ [1, 1] ++ ofB (i % 262144) 18) ++ (f.rtr.toNat : Int) :: s by simp]
    exact (one_at (get_mid (by simp [ofB_len]))).trans (flag_one _)
theorem hdr_told (hi : f.id = (i : Int)) (ht : t < 16) : hLn (hdr f t r) = min t 8 := by
  unfold hLn
  rw [hdr_ext hi, if_pos (by rw [hdr_len]; omega)]
  have := ctlP_len f
  have e : cutL (hdr f t r) (hEnd f.ext - 4) 4 = ofB t 4 := cut_mid (by omega) (ofB_len _ _)
  rw [e, val_ofB, show t % 2 ^ 4 = t by omega]
theorem hdr_dat (hi : f.id = (i : Int)) (ht : t < 16) {n : Nat} (hn : f.len = (n : Int)) (hm : min t 8 = n) : hDat (hdr f t r) = 8 * nDat f := by
  unfold hDat nDat
  rw [hdr_rtr hi, hdr_told hi ht, hm, hn, Int.toNat_natCast]
  split <;> omega
theorem hdr_ahead (hi : f.id = (i : Int)) (ht : t < 16) {n : Nat} (hn : f.len = (n : Int)) (hm : min t 8 = n) : ahead (hdr f t r) = hEnd f.ext + 8 * nDat f := by
  unfold ahead
  rw [hdr_ext hi, hdr_dat hi ht hn hm]
theorem hdr_W (hi : f.id = (i : Int)) (ht : t < 16) {n : Nat} (hn : f.len = (n : Int)) (hm : min t 8 = n) : hW (hdr f t r) = wds (aW f.ext) (cW f.ext) (8 * nDat f) := by
  unfold hW
  rw [hdr_ext hi, hdr_dat hi ht hn hm]
theorem hdr_id (hi : f.id = (i : Int)) (hm : f.may = true) : fid (hdr f t r) = i := by
  obtain ⟨h0, h1, _⟩ := may_parts hm
  unfold Fr.most at h1
  unfold fid
  rw [hdr_ext hi]
  cases hx : f.ext
  · obtain ⟨s, e⟩ := hdr_short (t := t) (r := r) hx hi
    rw [hx] at h1
    simp only [Bool.false_eq_true, if_false] at h1 ⊢
    rw [e, cut_mid (by rfl) (ofB_len _ _), val_ofB]
    rw [Nat.mod_eq_of_lt]; omega
  · obtain ⟨s, e⟩ := hdr_long (t := t) (r := r) hx hi
    rw [hx] at h1
    simp only [if_true] at h1 ⊢
    have e2 : hdr f t r = ([0] ++ ofB (i / 262144) 11 ++ [1, 1]) ++ ofB (i % 262144) 18 ++ (f.rtr.toNat : Int) :: s := by rw [e]; simp
    have v1 : cutL (hdr f t r) 1 11 = ofB (i / 262144) 11 := by rw [e]; exact cut_mid rfl (ofB_len _ _)
    have v2 : cutL (hdr f t r) 14 18 = ofB (i % 262144) 18 := by rw [e2]; exact cut_mid (by simp [ofB_len]) (ofB_len _ _)
    rw [v1, v2, val_ofB, val_ofB]
    rw [Nat.mod_eq_of_lt (show i / 262144 < 2 ^ 11 by omega), Nat.mod_eq_of_lt (show i % 262144 < 2 ^ 18 by omega)]
    omega
theorem datB_split (d : Nat → Int) : ∀ m j, j < m → ∃ s, datB d m = datB d j ++ ofB (d j).toNat 8 ++ s := by
  intro m
  induction m with
  | zero => intro j hj; omega
  | succ m ih =>
    intro j hj
    rcases Nat.lt_or_ge j m with h | h
    · obtain ⟨s, e⟩ := ih j h
      exact ⟨s ++ ofB (d m).toNat 8, by rw [datB, e]; simp⟩
    · have : j = m := by omega
      subst this
      exact ⟨[], by rw [datB]; simp⟩
theorem hdr_byte (hi : f.id = (i : Int)) (hwf : f.wf) {j : Nat} (hj : j < nDat f) (h8 : j < 8) : ((byt (hdr f t r) j : Nat) : Int) = f.d j := by
  obtain ⟨s, e⟩ := datB_split f.d (nDat f) j hj
  obtain ⟨y0, y1⟩ := hwf j h8
  unfold byt
  rw [hdr_ext hi]
  have e2 : hdr f t r = (ctlP f ++ ofB t 4 ++ datB f.d j) ++ ofB (f.d j).toNat 8 ++ (s ++ r) := by unfold hdr; rw [e]; simp
  have := ctlP_len f
  rw [e2, cut_mid (by rw [List.length_append, List.length_append, ofB_len, datB_len]; omega) (ofB_len _ _), val_ofB, Nat.mod_eq_of_lt (by omega)]
  omega
theorem frm_cells {a b : Fr} (h1 : a.id = b.id) (h2 : a.ext = b.ext) (h3 : a.rtr = b.rtr) (h4 : a.len = b.len) (h5 : ∀ k, k < 8 → a.d k = b.d k) : a.val = b.val := by
  unfold Fr.val Fr.cells
  rw [h1, h2, h3, h4, h5 0 (by omega), h5 1 (by omega), h5 2 (by omega), h5 3 (by omega), h5 4 (by omega), h5 5 (by omega), h5 6 (by omega), h5 7 (by omega)]
theorem hdr_frame (hm : f.may = true) (hwf : f.wf) (ht : t < 16) (hl : min t 8 = f.len.toNat) : (frm (hdr f t r)).val = f.val := by
  obtain ⟨h0, h1, h2, h3, h4⟩ := may_parts hm
  obtain ⟨i, hi⟩ := Int.eq_ofNat_of_zero_le h0
  obtain ⟨n, hn⟩ := Int.eq_ofNat_of_zero_le h2
  rw [hn, Int.toNat_natCast] at hl
  unfold frm frk
  refine frm_cells ?_ ?_ ?_ ?_ ?_
  · show ((fid (hdr f t r) : Nat) : Int) = f.id
    rw [hdr_id hi hm, hi]
  · exact hdr_ext hi
  · exact hdr_rtr hi
  · show ((hLn (hdr f t r) : Nat) : Int) = f.len
    rw [hdr_told hi ht, hl, hn]
  · intro k hk
    show (if k < hDat (hdr f t r) / 8 then ((byt (hdr f t r) k : Nat) : Int) else 0) = f.d k
    rw [hdr_dat hi ht hn hl, show 8 * nDat f / 8 = nDat f by omega]
    split
    · next h => exact hdr_byte hi hwf h hk
    · next h =>
      rcases h4 k hk with h | ⟨ha, hb⟩
      · exact h.symm
      · exfalso
        apply h
        unfold nDat; rw [ha, hn]; simp; omega
end
end Go.Proofs.Ytffhhegpkejdgaa

/- The chapter's examples. -/
namespace Go.Proofs.Ytffhhegpkejdgaa
open Go.RowKit

end Go.Proofs.Ytffhhegpkejdgaa

/- The walk of the law FieldLong. -/
namespace Go.Proofs.Ytffhhegpkejdgaa
open Go.RowKit

theorem bit4 (t : Nat) : ofB t 4 = [bit t 3, bit t 2, bit t 1, bit t 0] := rfl
/-- Levels with the first k of the four told anew. -/
def tld (f : Fr) (t k : Nat) : List Int := ctlP f ++ ((ofB t 4).take k ++ (ofB 8 4).drop k) ++ (datB f.d (nDat f) ++ [])
theorem tld_len (f : Fr) (t k : Nat) (h : k ≤ 4) : (tld f t k).length = hEnd f.ext + 8 * nDat f := by
  unfold tld
  rw [List.length_append, List.length_append, List.length_append, List.length_append, List.length_take, List.length_drop, ofB_len, ofB_len, datB_len]
  have := ctlP_len f
  simp; omega
theorem tld_step (f : Fr) (t k : Nat) (h : k < 4) : (tld f t k).set (hEnd f.ext - 4 + k) (bit t (3 - k)) = tld f t (k + 1) := by
  have hl : (ctlP f).length = hEnd f.ext - 4 := by have := ctlP_len f; omega
  unfold tld
  rw [List.append_assoc, List.append_assoc, List.set_append_right _ _ (by omega), hl, show hEnd f.ext - 4 + k - (hEnd f.ext - 4) = k by omega, bit4, bit4]
  rcases (show k = 0 ∨ k = 1 ∨ k = 2 ∨ k = 3 by omega) with rfl | rfl | rfl | rfl <;> simp
theorem tld_zero {f : Fr} (t : Nat) (h : f.len = 8) : bts f = tld f t 0 := by
  have := bts_hdr (f := f) (n := 8) (by omega) (by omega) []
  rw [List.append_nil] at this
  rw [this]
  unfold tld hdr; simp
theorem tld_four (f : Fr) (t : Nat) : tld f t 4 = hdr f t [] := by
  unfold tld hdr
  rw [List.take_of_length_le (by rw [ofB_len]; omega), List.drop_eq_nil_of_le (by rw [ofB_len]; omega), List.append_nil]
theorem hdr_more (f : Fr) (t : Nat) (r : List Int) : hdr f t [] ++ r = hdr f t r := by unfold hdr; simp
theorem hdr_fout {f : Fr} {t : Nat} (r : List Int) (hm : f.may = true) (hwf : f.wf) (ht : t < 16) (hl : min t 8 = f.len.toNat) : fout (hdr f t r) = .tuple #[f.val, .int .i64 0] := by
  obtain ⟨h0, _, h2, _⟩ := may_parts hm
  obtain ⟨i, hi⟩ := Int.eq_ofNat_of_zero_le h0
  obtain ⟨n, hn⟩ := Int.eq_ofNat_of_zero_le h2
  unfold fout
  rw [hdr_ext hi, hdr_len, hdr_ahead hi ht hn (by rw [hl, hn]; simp), if_neg (by omega), hdr_zero, hdr_frame hm hwf ht hl]
  simp
theorem hdr_aout {f : Fr} {t : Nat} (r : List Int) (hm : f.may = true) (ht : t < 16) (hl : min t 8 = f.len.toNat) : aout (hdr f t r) = .tuple #[.int .i64 ((hEnd f.ext + 8 * nDat f : Nat) : Int), .int .i64 0] := by
  obtain ⟨h0, _, h2, _⟩ := may_parts hm
  obtain ⟨i, hi⟩ := Int.eq_ofNat_of_zero_le h0
  obtain ⟨n, hn⟩ := Int.eq_ofNat_of_zero_le h2
  unfold aout
  rw [hdr_ext hi, hdr_len, hdr_ahead hi ht hn (by rw [hl, hn]; simp), if_neg (by omega)]
theorem hdr_all (f : Fr) (t : Nat) {r : List Int} (hr : ∀ z ∈ r, lvl z = true) : ∀ z ∈ hdr f t r, lvl z = true := by
  unfold hdr ctlP
  exact all_append (all_append (all_append (all_append (by intro z hz; simp at hz; subst hz; rfl) (ofB_all _ _)) (ofB_all _ _)) (ofB_all _ _)) (all_append (datB_all _ _) hr)

end Go.Proofs.Ytffhhegpkejdgaa

/- Plain mathematics: the header of beginnings, and of rows with levels turned behind it. -/
namespace Go.Proofs.Ytffhhegpkejdgaa

theorem get_take {zs ys : List Int} {k j : Nat} (h : zs.take k = ys.take k) (hj : j < k) : zs[j]? = ys[j]? := by
  have := congrArg (fun l : List Int => l[j]?) h
  simpa [List.getElem?_take_of_lt hj] using this
theorem one_take {zs ys : List Int} {k j : Nat} (h : zs.take k = ys.take k) (hj : j < k) : one zs j = one ys j := by
  unfold one; rw [get_take h hj]
theorem hEx_take {zs ys : List Int} {k : Nat} (h : zs.take k = ys.take k) (hk : 13 < k) : hEx zs = hEx ys := one_take h hk
theorem cut_take {zs ys : List Int} {k a n : Nat} (h : zs.take k = ys.take k) (hk : a + n ≤ k) : cutL zs a n = cutL ys a n := by
  unfold cutL
  have := congrArg (List.take (a + n)) h
  rw [List.take_take, List.take_take, Nat.min_eq_left hk] at this
  rw [this]
theorem hEnd_13 (x : Bool) : 13 < hEnd x := by cases x <;> decide
theorem hRt_take {zs ys : List Int} {k : Nat} (h : zs.take k = ys.take k) (hk : hEnd (hEx zs) ≤ k) : hRt zs = hRt ys := by
  have hx := hEx_take h (Nat.lt_of_lt_of_le (hEnd_13 _) hk)
  unfold hRt
  rw [← hx]
  apply one_take h
  revert hk
  cases hEx zs <;> simp [hEnd] <;> omega
theorem hLn_take {zs ys : List Int} {k : Nat} (h : zs.take k = ys.take k) (hk : hEnd (hEx zs) ≤ k) (hz : k ≤ zs.length) (hy : k ≤ ys.length) : hLn zs = hLn ys := by
  have hx := hEx_take h (Nat.lt_of_lt_of_le (hEnd_13 _) hk)
  unfold hLn
  rw [← hx, if_pos (by omega), if_pos (by omega), cut_take h (by have := hEnd_13 (hEx zs); omega)]
theorem hDat_take {zs ys : List Int} {k : Nat} (h : zs.take k = ys.take k) (hk : hEnd (hEx zs) ≤ k) (hz : k ≤ zs.length) (hy : k ≤ ys.length) : hDat zs = hDat ys := by
  unfold hDat
  rw [hRt_take h hk, hLn_take h hk hz hy]
theorem ahead_take {zs ys : List Int} {k : Nat} (h : zs.take k = ys.take k) (hk : hEnd (hEx zs) ≤ k) (hz : k ≤ zs.length) (hy : k ≤ ys.length) : ahead zs = ahead ys := by
  unfold ahead
  rw [hEx_take h (Nat.lt_of_lt_of_le (hEnd_13 _) hk), hDat_take h hk hz hy]
/-- A beginning that ends ahead of the sum is too short. -/
theorem fout_short {zs : List Int} {k : Nat} (hk : k < ahead zs) (hz : k ≤ zs.length) : fout (zs.take k) = .tuple #[Fr.zero.val, .int .i64 13] := by
  unfold fout
  have hl : (zs.take k).length = k := by rw [List.length_take]; omega
  rw [hl]
  have e : (zs.take k).take k = zs.take k := by rw [List.take_take, Nat.min_self]
  rw [if_pos]
  rcases Nat.lt_or_ge k (hEnd (hEx (zs.take k))) with h | h
  · exact .inl h
  · rw [ahead_take e h (by omega) hz]
    exact .inr hk
/-- What Next tells of a beginning is told by the whole's fields. -/
theorem nout_take {zs : List Int} {k : Nat} (hz : k ≤ zs.length) : nout (hW (zs.take k)) k 0 = nout (hW zs) k 0 := by
  have hl : (zs.take k).length = k := by rw [List.length_take]; omega
  have e : (zs.take k).take k = zs.take k := by rw [List.take_take, Nat.min_self]
  rcases Nat.lt_or_ge k 14 with h | h
  · have hx : hEx (zs.take k) = false := one_far (by omega)
    unfold hW wds
    rw [hx]
    have ha : k < 1 ∨ (¬ k < 1 ∧ k - 1 < aW (hEx zs) ∧ k - 1 < aW false) := by
      have : 13 ≤ aW (hEx zs) := by cases hEx zs <;> decide
      have : aW false = 13 := rfl
      omega
    rcases ha with ha | ⟨h1, h2, h3⟩
    · rw [nx_hit _ _ ha, nx_hit _ _ ha]
    · rw [nx_miss _ _ h1, nx_miss _ _ h1, nx_hit _ _ h2, nx_hit _ _ h3]
  · have hx : hEx (zs.take k) = hEx zs := hEx_take e (by omega)
    rcases Nat.lt_or_ge k (hEnd (hEx (zs.take k))) with h2 | h2
    · unfold hW wds
      rw [hx] at h2 ⊢
      have h1 : ¬ k < 1 := by omega
      rw [nx_miss _ _ h1, nx_miss _ _ h1]
      rcases Nat.lt_or_ge (k - 1) (aW (hEx zs)) with h3 | h3
      · rw [nx_hit _ _ h3, nx_hit _ _ h3]
      · have := hEnd_eq (hEx zs)
        have h4 : ¬ k - 1 < aW (hEx zs) := by omega
        have h5 : k - 1 - aW (hEx zs) < cW (hEx zs) := by omega
        rw [nx_miss _ _ h4, nx_miss _ _ h4, nx_hit _ _ h5, nx_hit _ _ h5]
    · unfold hW
      rw [hx, hDat_take e h2 (by omega) hz]

/-- nout, by nx. -/
theorem nout_nx : ∀ (ws : List Nat) (n k : Nat), n ≤ sumW ws → nout ws n k = .tuple #[.int .i64 ((nx ws n k).1 : Int), .int .i64 ((nx ws n k).2 : Int), .int .i64 0] := by
  intro ws
  induction ws with
  | nil => intro n k h; simp [sumW] at h; subst h; rfl
  | cons w ws ih =>
    intro n k h
    simp only [sumW] at h
    unfold nout nx
    split
    · rfl
    · exact ih _ _ (by omega)
theorem nout_long : ∀ (ws : List Nat) (n k : Nat), sumW ws < n → nout ws n k = .tuple #[.int .i64 0, .int .i64 0, .int .i64 12] := by
  intro ws
  induction ws with
  | nil => intro n k h; simp [sumW] at h; simp [nout, h]
  | cons w ws ih =>
    intro n k h
    simp only [sumW] at h
    unfold nout
    rw [if_neg (by omega)]
    exact ih _ _ (by omega)
end Go.Proofs.Ytffhhegpkejdgaa

/- The walk of the law FieldBack. -/
namespace Go.Proofs.Ytffhhegpkejdgaa
open Go.RowKit

/-! What a frame's own levels tell, and what they tell with one turned. -/
theorem alls_hdr {f : Fr} {n : Nat} (hn : f.len = (n : Int)) (h : n < 16) : alls f = hdr f n (ofB (csum (bts f)) 15 ++ List.replicate 10 1) := by
  unfold alls; rw [List.append_assoc]; exact bts_hdr hn h _
theorem alls_all (f : Fr) : ∀ z ∈ alls f, lvl z = true := by
  unfold alls
  exact all_append (all_append (bts_all f) (ofB_all _ _)) (by intro z hz; simp at hz; subst hz; rfl)
/-- The header is asked of the first levels alone. -/
theorem take_hdr {f : Fr} {n k : Nat} {r : List Int} (h : (hdr f n r).length - r.length ≤ k) : (hdr f n r).take k = hdr f n (r.take (k - ((hdr f n r).length - r.length))) := by
  unfold hdr at h ⊢
  rw [← List.append_assoc, ← List.append_assoc, List.take_append]
  simp only [List.length_append] at h ⊢
  rw [List.take_of_length_le (by simp only [List.length_append]; omega)]
  congr 2
  omega
/-- One level turned, behind the control levels and ahead of the sum's end. -/
def trn (f : Fr) (p : Nat) : List Int := (alls f).set p (1 - (alls f).getD p 0)
theorem trn_all (f : Fr) (p : Nat) : ∀ z ∈ trn f p, lvl z = true := by
  intro z hz
  rcases List.mem_or_eq_of_mem_set hz with h | h
  · exact alls_all f z h
  · rcases Nat.lt_or_ge p (alls f).length with hp | hp
    · have := lvl_01 (alls_all f _ (List.mem_of_getElem? (getD_some _ p hp)))
      subst h
      rcases this with e | e <;> rw [e] <;> rfl
    · subst h
      rw [List.getD_eq_getElem?_getD, List.getElem?_eq_none hp]; rfl
section
variable {f : Fr} (hm : f.may = true)
include hm
theorem len_nat : ∃ n : Nat, f.len = (n : Int) ∧ n ≤ 8 := by
  obtain ⟨_, _, h2, h3, _⟩ := may_parts hm
  obtain ⟨n, hn⟩ := Int.eq_ofNat_of_zero_le h2
  exact ⟨n, hn, by omega⟩
theorem id_nat : ∃ i : Nat, f.id = (i : Int) := by
  obtain ⟨h0, _⟩ := may_parts hm
  exact Int.eq_ofNat_of_zero_le h0
theorem alls_aout : aout (alls f) = .tuple #[.int .i64 ((hEnd f.ext + 8 * nDat f : Nat) : Int), .int .i64 0] := by
  obtain ⟨n, hn, h8⟩ := len_nat hm
  rw [alls_hdr hn (by omega)]
  exact hdr_aout _ hm (by omega) (by rw [hn]; simp; omega)
theorem alls_ahead : ahead (alls f) = (bts f).length := by
  obtain ⟨n, hn, h8⟩ := len_nat hm
  obtain ⟨i, hi⟩ := id_nat hm
  rw [alls_hdr hn (by omega), hdr_ahead hi (by omega) hn (by omega), bts_len]
theorem alls_ext : hEx (alls f) = f.ext := by
  obtain ⟨n, hn, h8⟩ := len_nat hm
  obtain ⟨i, hi⟩ := id_nat hm
  rw [alls_hdr hn (by omega), hdr_ext hi]
theorem alls_rout : rout (alls f) = .tuple #[.bool true, .int .i64 0] := by
  unfold rout
  rw [alls_ext hm, alls_ahead hm, alls_len, bts_len, if_neg (by omega), ← bts_len]
  have e : (alls f).take ((bts f).length + 15) = bts f ++ ofB (csum (bts f)) 15 := by
    unfold alls
    rw [List.take_append_of_le_length (by rw [List.length_append, ofB_len]; omega), List.take_of_length_le (by rw [List.length_append, ofB_len]; omega)]
  rw [e, rgt_own _ (bts_all f) (csum_lt _)]
  simp
theorem alls_fout (hwf : f.wf) {k : Nat} (h : (bts f).length ≤ k) : fout ((alls f).take k) = .tuple #[f.val, .int .i64 0] := by
  obtain ⟨n, hn, h8⟩ := len_nat hm
  have hb := bts_len f
  rw [alls_hdr hn (by omega), take_hdr (f := f) (by rw [hdr_len]; omega)]
  exact hdr_fout _ hm hwf (by omega) (by rw [hn]; simp; omega)
theorem trn_rout {p : Nat} (h1 : hEnd f.ext ≤ p) (h2 : p < (bts f).length + 15) : rout (trn f p) = .tuple #[.bool false, .int .i64 0] := by
  have hbl := bts_len f
  have hal := alls_len f
  have hlen : (trn f p).length = (bts f).length + 25 := by unfold trn; rw [List.length_set, hal]
  have et : (trn f p).take p = (alls f).take p := by unfold trn; rw [List.take_set_of_le (Nat.le_refl _)]
  have ek : (alls f).take p = (trn f p).take p := et.symm
  have hh : hEnd (hEx (alls f)) ≤ p := by rw [alls_ext hm]; exact h1
  have hext : hEx (trn f p) = f.ext := by rw [← hEx_take ek (Nat.lt_of_lt_of_le (hEnd_13 _) hh), alls_ext hm]
  have hah : ahead (trn f p) = (bts f).length := by rw [← ahead_take ek hh (by omega) (by omega), alls_ahead hm]
  unfold rout
  rw [hext, hah, hlen, if_neg (by omega)]
  have htl : ((trn f p).take ((bts f).length + 15)).length = (bts f).length + 15 := by rw [List.length_take]; omega
  have hal2 : ((alls f).take ((bts f).length + 15)).length = (bts f).length + 15 := by rw [List.length_take]; omega
  rw [rgt_sum _ (all_take (trn_all f p) _) (by omega)]
  have e : (alls f).take ((bts f).length + 15) = bts f ++ ofB (csum (bts f)) 15 := by
    unfold alls
    rw [List.take_append_of_le_length (by rw [List.length_append, ofB_len]; omega), List.take_of_length_le (by rw [List.length_append, ofB_len]; omega)]
  have e0 : csum ((alls f).take ((bts f).length + 15)) = 0 := by
    rw [e, csum_own _ (csum_lt _)]
  have hne : csum ((trn f p).take ((bts f).length + 15)) ≠ 0 := by
    rw [← e0]
    intro hc
    have := csum_burst (p := p) (by omega) (all_take (trn_all f p) _) (all_take (alls_all f) _) (by rw [List.take_take, List.take_take, Nat.min_eq_left (by omega), et])
      (by
        rw [List.drop_take, List.drop_take]
        unfold trn
        rw [List.drop_set_of_lt (by omega)]) hc
    have g := congrArg (fun l : List Int => l[p]?) this
    simp only [List.getElem?_take_of_lt h2] at g
    unfold trn at g
    rw [List.getElem?_set_self (by omega), getD_some _ p (by omega)] at g
    injection g with g
    omega
  simp [hne]
end
end Go.Proofs.Ytffhhegpkejdgaa

/- Plain mathematics of runs. -/
namespace Go.Proofs.Ytffhhegpkejdgaa

/-- One step of going through a row from the left: the runs so far, and where the last one began. -/
def rstp (zs : List Int) (i : Nat) (s : List Int × Nat) : List Int × Nat :=
  if i = zs.length ∨ zs.getD i 0 ≠ zs.getD s.2 0 then (s.1 ++ [(i : Int) - (s.2 : Int)], i) else s
def stt (zs : List Int) : Nat → List Int × Nat
  | 0 => ([], 0)
  | i + 1 => rstp zs (i + 1) (stt zs i)
/-- The runs of a row. -/
def runs (zs : List Int) : List Int := (stt zs zs.length).1

theorem stt_stay {zs : List Int} {i : Nat} {s : List Int × Nat} (h : stt zs i = s) (hi : i + 1 < zs.length) (he : zs.getD (i + 1) 0 = zs.getD s.2 0) : stt zs (i + 1) = s := by
  simp only [stt, rstp, h]; rw [if_neg (by simp only [not_or]; exact ⟨by omega, by simpa using he⟩)]
theorem stt_cut {zs : List Int} {i : Nat} {s : List Int × Nat} (h : stt zs i = s) (he : zs.getD (i + 1) 0 ≠ zs.getD s.2 0) : stt zs (i + 1) = (s.1 ++ [((i + 1 : Nat) : Int) - (s.2 : Int)], i + 1) := by
  simp only [stt, rstp, h]; rw [if_pos (.inr he)]
theorem stt_last {zs : List Int} {i : Nat} {s : List Int × Nat} (h : stt zs i = s) (he : i + 1 = zs.length) : stt zs (i + 1) = (s.1 ++ [((i + 1 : Nat) : Int) - (s.2 : Int)], i + 1) := by
  simp only [stt, rstp, h]; rw [if_pos (.inl he)]

/-- What stt keeps: the last run began within, and all from there on are alike. -/
theorem stt_inv (zs : List Int) : ∀ i, i < zs.length → (stt zs i).2 ≤ i ∧ ∀ k, (stt zs i).2 ≤ k → k ≤ i → zs.getD k 0 = zs.getD (stt zs i).2 0 := by
  intro i
  induction i with
  | zero => intro _; refine ⟨Nat.le_refl _, fun k h1 h2 => ?_⟩; simp only [stt] at h1 ⊢; rw [show k = 0 by omega]
  | succ i ih =>
    intro hi
    obtain ⟨h1, h2⟩ := ih (by omega)
    rcases Classical.em (zs.getD (i + 1) 0 = zs.getD (stt zs i).2 0) with he | he
    · rw [stt_stay rfl hi he]
      refine ⟨by omega, fun k h3 h4 => ?_⟩
      rcases Nat.lt_or_ge k (i + 1) with hk | hk
      · exact h2 k h3 (by omega)
      · rw [show k = i + 1 by omega]; exact he
    · rw [stt_cut rfl he]
      refine ⟨Nat.le_refl _, fun k h3 h4 => ?_⟩
      dsimp only at h3 h4 ⊢
      rw [show k = i + 1 by omega]

/-- 'rs' are the runs of zs from the place 'at_' on. -/
def From (zs : List Int) : Nat → List Int → Prop
  | i, [] => i = zs.length
  | i, r :: rs => 1 ≤ r ∧ i + r.toNat ≤ zs.length ∧ (∀ k, i ≤ k → k < i + r.toNat → zs.getD k 0 = zs.getD i 0) ∧ (i + r.toNat < zs.length → zs.getD (i + r.toNat) 0 ≠ zs.getD (i + r.toNat - 1) 0) ∧ From zs (i + r.toNat) rs

/-- From the place i up to j, which is none of the end. -/
def Upto (zs : List Int) : Nat → List Int → Nat → Prop
  | i, [], j => i = j
  | i, r :: rs, j => 1 ≤ r ∧ i + r.toNat ≤ zs.length ∧ (∀ k, i ≤ k → k < i + r.toNat → zs.getD k 0 = zs.getD i 0) ∧ (i + r.toNat < zs.length → zs.getD (i + r.toNat) 0 ≠ zs.getD (i + r.toNat - 1) 0) ∧ Upto zs (i + r.toNat) rs j
theorem Upto.snoc {zs : List Int} : ∀ (rs : List Int) (i j : Nat) (r : Int), Upto zs i rs j → 1 ≤ r → j + r.toNat ≤ zs.length → (∀ k, j ≤ k → k < j + r.toNat → zs.getD k 0 = zs.getD j 0) →
    (j + r.toNat < zs.length → zs.getD (j + r.toNat) 0 ≠ zs.getD (j + r.toNat - 1) 0) → Upto zs i (rs ++ [r]) (j + r.toNat)
  | [], i, j, r, h, h1, h2, h3, h4 => by
    simp only [Upto] at h; subst h
    exact ⟨h1, h2, h3, h4, rfl⟩
  | q :: rs, i, j, r, h, h1, h2, h3, h4 => ⟨h.1, h.2.1, h.2.2.1, h.2.2.2.1, Upto.snoc rs _ j r h.2.2.2.2 h1 h2 h3 h4⟩
theorem Upto.from_ {zs : List Int} : ∀ (rs : List Int) (i : Nat), Upto zs i rs zs.length → From zs i rs
  | [], _, h => h
  | _ :: rs, _, h => ⟨h.1, h.2.1, h.2.2.1, h.2.2.2.1, Upto.from_ rs _ h.2.2.2.2⟩

theorem stt_upto (zs : List Int) : ∀ i, i < zs.length → Upto zs 0 (stt zs i).1 (stt zs i).2 := by
  intro i
  induction i with
  | zero => intro _; exact rfl
  | succ i ih =>
    intro hi
    have hv := stt_inv zs i (by omega)
    have h := ih (by omega)
    rcases Classical.em (zs.getD (i + 1) 0 = zs.getD (stt zs i).2 0) with he | he
    · rw [stt_stay rfl hi he]; exact h
    · rw [stt_cut rfl he]
      have e : (stt zs i).2 + (((i + 1 : Nat) : Int) - ((stt zs i).2 : Int)).toNat = i + 1 := by omega
      have := Upto.snoc _ 0 _ (((i + 1 : Nat) : Int) - ((stt zs i).2 : Int)) h (by omega) (by omega) (fun k h1 h2 => hv.2 k h1 (by omega)) (fun _ => by
        rw [e, Nat.add_sub_cancel, hv.2 i hv.1 (Nat.le_refl _)]; exact he)
      rw [e] at this
      exact this
theorem runs_from (zs : List Int) : From zs 0 (runs zs) := by
  unfold runs
  rcases Nat.eq_zero_or_pos zs.length with h0 | h0
  · rw [h0]; exact h0.symm
  · obtain ⟨i, hi⟩ : ∃ i, zs.length = i + 1 := ⟨zs.length - 1, by omega⟩
    have hv := stt_inv zs i (by omega)
    have h := stt_upto zs i (by omega)
    rw [hi, stt_last rfl hi.symm]
    have e : (stt zs i).2 + (((i + 1 : Nat) : Int) - ((stt zs i).2 : Int)).toNat = zs.length := by omega
    have := Upto.snoc _ 0 _ (((i + 1 : Nat) : Int) - ((stt zs i).2 : Int)) h (by omega) (by omega) (fun k h1 h2 => hv.2 k h1 (by omega)) (fun hlt => by omega)
    rw [e] at this
    exact this.from_

/-- How many runs begin in a row behind p. -/
def rcnt : Option Int → List Int → Nat
  | _, [] => 0
  | p, x :: l => (if p = some x then 0 else 1) + rcnt (some x) l
def lastOr : Option Int → List Int → Option Int
  | p, [] => p
  | _, x :: l => lastOr (some x) l
theorem lastOr_snoc : ∀ (a : List Int) (p : Option Int) (x : Int), lastOr p (a ++ [x]) = some x
  | [], _, _ => rfl
  | y :: a, _, x => lastOr_snoc a (some y) x
theorem cnt_append : ∀ (a b : List Int) (p : Option Int), rcnt p (a ++ b) = rcnt p a + rcnt (lastOr p a) b
  | [], b, p => by simp [rcnt, lastOr]
  | x :: a, b, p => by
    simp only [List.cons_append, rcnt, lastOr]
    rw [cnt_append a b (some x)]; omega
theorem cnt_joint (a b : List Int) (x y : Int) : rcnt none ((a ++ [x]) ++ (y :: b)) + (if x = y then 1 else 0) = rcnt none (a ++ [x]) + rcnt none (y :: b) := by
  rw [cnt_append, lastOr_snoc]
  by_cases h : x = y
  · simp [rcnt, h]; omega
  · simp [rcnt, h]
theorem cnt_snoc (a : List Int) (x y : Int) : rcnt none (a ++ [x] ++ [y]) = rcnt none (a ++ [x]) + (if x = y then 0 else 1) := by
  rw [cnt_append, lastOr_snoc]; simp [rcnt]

theorem stt_cnt (zs : List Int) : ∀ i, i < zs.length → (stt zs i).1.length + 1 = rcnt none (zs.take (i + 1)) := by
  intro i
  induction i with
  | zero =>
    intro hi
    match zs, hi with
    | z :: zs, _ => simp [stt, rcnt]
  | succ i ih =>
    intro hi
    have hv := stt_inv zs i (by omega)
    have h := ih (by omega)
    have e1 : zs.take (i + 1) = zs.take i ++ [zs.getD i 0] := by rw [List.take_add_one]; simp [show i < zs.length by omega]
    have e2 : zs.take (i + 1 + 1) = zs.take i ++ [zs.getD i 0] ++ [zs.getD (i + 1) 0] := by rw [List.take_add_one, e1]; simp [hi]
    rw [e2, cnt_snoc, ← e1, ← h]
    have hs := hv.2 i hv.1 (Nat.le_refl _)
    rcases Classical.em (zs.getD (i + 1) 0 = zs.getD (stt zs i).2 0) with he | he
    · rw [stt_stay rfl hi he, if_pos (by rw [hs, he])]
    · rw [stt_cut rfl he, if_neg (by rw [hs]; exact fun h => he h.symm)]; simp
theorem runs_cnt (zs : List Int) : (runs zs).length = rcnt none zs := by
  unfold runs
  rcases Nat.eq_zero_or_pos zs.length with h0 | h0
  · have : zs = [] := List.eq_nil_of_length_eq_zero h0
    subst this; rfl
  · obtain ⟨i, hi⟩ : ∃ i, zs.length = i + 1 := ⟨zs.length - 1, by omega⟩
    have h := stt_cnt zs i (by omega)
    rw [List.take_of_length_le (by omega)] at h
    rw [hi, stt_last rfl hi.symm, ← h]; simp

/-- The greatest of numbers, from m on. -/
def most (rs : List Int) : Int := rs.foldl max 0
theorem most_snoc (rs : List Int) (r : Int) : most (rs ++ [r]) = max (most rs) r := by simp [most]
theorem foldl_max_ge : ∀ (rs : List Int) (m : Int), m ≤ rs.foldl max m ∧ ∀ r ∈ rs, r ≤ rs.foldl max m
  | [], m => ⟨Int.le_refl _, fun r h => by cases h⟩
  | q :: rs, m => by
    obtain ⟨h1, h2⟩ := foldl_max_ge rs (max m q)
    refine ⟨by simp only [List.foldl_cons]; omega, fun r hr => ?_⟩
    simp only [List.foldl_cons]
    cases hr with
    | head => omega
    | tail _ hr => exact h2 r hr
theorem most_ge (rs : List Int) (r : Int) (h : r ∈ rs) : r ≤ most rs := (foldl_max_ge rs 0).2 r h

end Go.Proofs.Ytffhhegpkejdgaa

