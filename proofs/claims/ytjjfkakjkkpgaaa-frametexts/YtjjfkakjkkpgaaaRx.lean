/- The contract of the reference's Text. -/
import Derived.Test.YtjjfkakjkkpgaaaRt
import Derived.Test.YtjjfkakjkkpgaaaTx
namespace Go.Proofs.Ytjjfkakjkkpgaaa
open Go.RowKit

theorem app_3582 (l : List UInt8) : str l ++ (⟨#[35, 82]⟩ : ByteArray) = str (l ++ [35, 82]) := str_append l [35, 82]

set_option maxHeartbeats 1600000 in
theorem rtext3_ok (f : Fr) (w : World) (h : f.may = true) (hwf : f.wf) :
    Calls Try.prog 19 #[f.val] w fun e w' => e = .returned (.string (str f.text)) ∧ Below w.heap.size w w' := by
  obtain ⟨h0, h1, h2, h3, -⟩ := may_parts h
  have HB := Lib.hid (boxed f w)
  have HC := Lib.hid (data_cell f w)
  have HW := Lib.hid hwf
  have HH := Lib.hid (head_len f)
  obtain ⟨i, hi⟩ := Int.eq_ofNat_of_zero_le h0
  obtain ⟨n, hn⟩ := Int.eq_ofNat_of_zero_le h2
  have hmax : i ≤ 536870911 := by
    have : f.id ≤ 536870911 := by revert h1; simp only [Fr.most]; split <;> omega
    omega
  have hn8 : n ≤ 8 := by omega
  have hn8' : (n : Int) ≤ 8 := by omega
  obtain ⟨wd, hwd, hw8⟩ : ∃ wd : Nat, (if f.ext then 8 else 3) = wd ∧ wd ≤ 8 := ⟨_, rfl, by split <;> omega⟩
  have E3 := Lib.hid (show f.head = hx wd i ++ [35] by unfold Fr.head; rw [hwd, hi]; rfl)
  have E4 : (f.ext = false ∧ wd = 3) ∨ (f.ext = true ∧ wd = 8) := by
    cases hx : f.ext <;> simp [hx] at hwd <;> simp [← hwd]
  have E4 := Lib.hid E4
  have E2 := Lib.hid hn
  have HT1 := Lib.hid (show f.rtr = true → f.text = f.head ++ 82 :: hx 1 n from fun hr => by unfold Fr.text Fr.tail; rw [hr, hn]; rfl)
  have HT0 := Lib.hid (show f.rtr = false → f.text = f.head ++ prs f.d n from fun hr => by unfold Fr.text Fr.tail; rw [hr, hn]; rfl)
  have HS := Lib.hid (hexes_ok wd i · hw8 hmax)
  have L1 := Lib.hid (app_35 (hx wd i))
  have L2 := Lib.hid (app_3582 (hx wd i))
  have hz1 : (str (hx wd i)).size ≤ 8 := by rw [str_size, hx_len]; exact hw8
  obtain ⟨gid, ext, r, len, d⟩ := f
  obtain rfl : gid = (i : Int) := hi
  obtain rfl : len = (n : Int) := hn
  simp only at HC HT0 HT1
  obtain ⟨hdl, hhd⟩ : ∃ hdl, Fr.head ⟨(i : Int), ext, r, (n : Int), d⟩ = hdl := ⟨_, rfl⟩
  obtain ⟨txl, htx⟩ : ∃ txl, Fr.text ⟨(i : Int), ext, r, (n : Int), d⟩ = txl := ⟨_, rfl⟩
  rw [hhd] at E3 HH
  rw [hhd, htx] at HT0 HT1
  rw [htx]
  clear h h0 h1 h2 h3 hwd hwf hhd htx
  rcases E4.out with ⟨hxt, hwd⟩ | ⟨hxt, hwd⟩
  all_goals
    simp only at hxt
    subst hxt
    subst hwd
    cases r
    · have HT := Lib.hid (HT0.out rfl)
      have D0 := Lib.hid (show (str (hx _ i) ++ (⟨#[35]⟩ : ByteArray)) = str (hdl ++ prs d 0) by rw [L1.out, E3.out]; simp [prs])
      generalize str (hx _ i) = t at *
      go_enter Try.func19, Try.ntmps19
      go_wp2_with fail
      refine (HS.out _).mono ?_
      rintro e w1 ⟨rfl, rfl⟩
      go_wp2
      go_loop [3, 4] (fun a j => ∃ k : Nat, k ≤ n ∧ j = .int .i64 k ∧ a = .string (str (hdl ++ prs d k))) (fun _ j => n - (intOf j).toNat)
      case atStart => exact ⟨0, Nat.zero_le _, rfl, by rw [D0.out]⟩
      case round =>
        obtain ⟨k, hk, rfl, rfl⟩ := hrel
        have hsz : (str (hdl ++ prs d k)).size ≤ 25 := by
          rw [str_size, List.length_append, prs_len]; have := HH.out; omega
        by_cases hlt : k < n
        · have hcell := HC.out k (by omega)
          have hlt' : (k : Int) < (n : Int) := by omega
          have hlt8 : (k : Int) < 8 := by omega
          obtain ⟨v, hv, hv2⟩ : ∃ v : Nat, d k = (v : Int) ∧ v ≤ 255 := ⟨(d k).toNat, by have := HW.out k (by omega); simp only at this; omega, by have := HW.out k (by omega); simp only at this; omega⟩
          rw [hv] at hcell
          have HP := Lib.hid (show str (hdl ++ prs d k) ++ str (hx 2 v) = str (hdl ++ prs d (k + 1)) by rw [str_append, List.append_assoc, prs, hv]; rfl)
          have hz2 : (str (hx 2 v)).size = 2 := by rw [str_size, hx_len]
          have hv3 : (v : Int) ≤ 255 := by omega
          generalize str (hdl ++ prs d k) = u at *
          clear hv
          go_wp2_with fail
          refine (hexes_ok 2 v _ (by omega) (by omega)).mono ?_
          rintro e w3 ⟨rfl, rfl⟩
          generalize str (hx 2 v) = q at *
          go_wp2
          go_round
          case rel => exact ⟨k + 1, by omega, by go_num, by rw [HP.out]⟩
          case measure => simp [intOf]; omega
        · go_wp2
          go_ret
          exact ⟨by rw [HT.out, show n = k by omega]; rfl, HB.out⟩
    · have HT := Lib.hid (show str (hx _ i) ++ (⟨#[35, 82]⟩ : ByteArray) ++ (⟨#[hd n]⟩ : ByteArray) = str txl by
        have e : hx 1 n = [hd n] := by simp only [hx, List.nil_append]; rw [Nat.mod_eq_of_lt (by omega)]
        rw [L2.out, HT1.out rfl, E3.out, e]
        exact (str_append _ [hd n]).trans (by simp))
      generalize str (hx _ i) = t at *
      go_enter Try.func19, Try.ntmps19
      go_wp2_with fail
      refine (HS.out _).mono ?_
      rintro e w1 ⟨rfl, rfl⟩
      go_wp2_with fail
      refine (hex_ok n _ (by omega)).mono ?_
      rintro e w1 ⟨rfl, rfl⟩
      go_wp2
      go_ret
      exact ⟨by rw [← HT.out]; rfl, HB.out⟩
end Go.Proofs.Ytjjfkakjkkpgaaa
