/- The contract of frame.content: bytes. -/
import Derived.Test.YtjjfkakjkkpgaaaCt
namespace Go.Proofs.Ytjjfkakjkkpgaaa
open Go.RowKit

theorem set12 {w wr : World} {B g : Nat} (h : Below B w wr) (hg : B ≤ g) (v0 v1 v2 v3 v4 v5 v6 v7 v8 v9 v10 v11 : Value) : Below B w ((((((((((((wr.setCell ⟨g, 0, none⟩ v0).setCell ⟨g, 1, none⟩ v1).setCell ⟨g, 2, none⟩ v2).setCell ⟨g, 3, none⟩ v3).setCell ⟨g, 4, none⟩ v4).setCell ⟨g, 5, none⟩ v5).setCell ⟨g, 6, none⟩ v6).setCell ⟨g, 7, none⟩ v7).setCell ⟨g, 8, none⟩ v8).setCell ⟨g, 9, none⟩ v9).setCell ⟨g, 10, none⟩ v10).setCell ⟨g, 11, none⟩ v11) :=
  (Below.setCell (Below.setCell (Below.setCell (Below.setCell (Below.setCell (Below.setCell (Below.setCell (Below.setCell (Below.setCell (Below.setCell (Below.setCell (Below.setCell h (p := ⟨g, 0, none⟩) hg v0) (p := ⟨g, 1, none⟩) hg v1) (p := ⟨g, 2, none⟩) hg v2) (p := ⟨g, 3, none⟩) hg v3) (p := ⟨g, 4, none⟩) hg v4) (p := ⟨g, 5, none⟩) hg v5) (p := ⟨g, 6, none⟩) hg v6) (p := ⟨g, 7, none⟩) hg v7) (p := ⟨g, 8, none⟩) hg v8) (p := ⟨g, 9, none⟩) hg v9) (p := ⟨g, 10, none⟩) hg v10) (p := ⟨g, 11, none⟩) hg v11)

set_option maxHeartbeats 1600000 in
theorem content_data (l : List UInt8) (w : World) (hne : ∀ t, l ≠ 82 :: t) (h2 : l.length % 2 = 0) (h16 : l.length ≤ 16) :
    Calls Try.prog 35 #[.string (str l)] w fun e w' => ((∀ c ∈ l, hok c = true) ∧ e = .returned (.tuple #[(frp l (l.length / 2)).val, .bool true]) ∨ (¬ ∀ c ∈ l, hok c = true) ∧ e = .returned (.tuple #[Fr.zero.val, .bool false])) ∧ Below w.heap.size w w' := by
  obtain ⟨n, hln⟩ : ∃ n, l.length = 2 * n := ⟨l.length / 2, by omega⟩
  have hn8 : n ≤ 8 := by omega
  have hs := str_size l
  have HC := Lib.hid (cutp_no l · (by omega) hne)
  have HE := Lib.hid (str_extract l)
  have HL := Lib.hid hln
  have hsz : (str l).size = 2 * n := by omega
  have HF := Lib.hid (show frp l 0 = ⟨0, false, false, (n : Int), fun _ => 0⟩ by unfold frp; rw [hln, show 2 * n / 2 = n by omega]; rfl)
  have HFL := Lib.hid (show ∀ k, (frp l k).len = (n : Int) from fun k => by unfold frp; rw [hln, show 2 * n / 2 = n by omega])
  generalize str l = s at *
  have hsi : (s.size : Int) = 2 * (n : Int) := by omega
  have hsd : (s.size : Int) / 2 = (n : Int) := by omega
  have hsm : ((s.size : Int) % 2 != 0) = false := by simp; omega
  have hsb : decide (16 < (s.size : Int)) = false := by simp; omega
  have hsb2 : (s.size : Int) ≤ 16 := by omega
  have HSI := Lib.hid hsi
  have HSZ := Lib.hid hsz
  clear hs hsi hsz h2 h16 hne hln
  have A0 := Lib.hid (fb_two1 w Fr.zero (frp l 0))
  have A1 := Lib.hid (fb_two2 w Fr.zero (frp l 0))
  have A2 := Lib.hid (alloc2 w (.cells Fr.zero.cells 24) (.cells (frp l 0).cells 24))
  rw [HF.out] at A0 A1 A2
  go_enter Try.func35, Try.ntmps35
  go_wp2_with fail
  refine (HC.out _).mono ?_
  rintro e w' ⟨rfl, rfl⟩
  go_wp2
  go_loopw [46] (fun i wr => ∃ k : Nat, k ≤ n ∧ i = .int .i64 k ∧ (∀ j, j < k → ∀ c ∈ pr l j, hok c = true) ∧ Fb wr w.heap.size Fr.zero ∧ Fb wr (w.heap.size + 1) (frp l k) ∧ Below w.heap.size w wr) (fun i _ => n - (intOf i).toNat)
  case atStart => exact ⟨0, Nat.zero_le _, rfl, fun j hj => by omega, A0.out, by rw [HF.out]; exact A1.out, A2.out⟩
  case round =>
    obtain ⟨k, hk, rfl, hp, hz, hfb, hbel⟩ := hrel
    clear hsd hsm hsb
    have HZ := Lib.hid hz; have HFB := Lib.hid hfb; have HP := Lib.hid hp
    obtain ⟨c0, c1, c2, c3, c4, c5, c6, c7, c8, c9, c10, c11⟩ := hz.bx
    obtain ⟨b0, b1, b2, b3, b4, b5, b6, b7, b8, b9, b10, b11⟩ := hfb.bx
    have fz := fun i => hz.frozen i
    have fy := fun i => hfb.frozen i
    rw [HFL.out k] at b3
    clear hp hz hfb
    by_cases hlt : k < n
    · have hlt' : (k : Int) < (n : Int) := by omega
      have HX := Lib.hid (show s.extract (k * 2) ((k + 1) * 2) = str (pr l k) from HE.out _ _)
      have i1 : ((k : Int) + 1) * 2 ≤ (s.size : Int) := by have := HSI.out; omega
      have i2 : (k : Int) * 2 ≤ ((k : Int) + 1) * 2 := by omega
      have hpl : (pr l k).length = 2 := pr_len (by have := HL.out; omega)
      have HPL := Lib.hid hpl
      clear hpl
      by_cases hall : ∀ c ∈ pr l k, hok c = true
      · have HA := Lib.hid hall
        clear hall
        have hv1 : hval (pr l k) < 256 := by
          have := hval_lt (pr l k); rw [HPL.out] at this; exact this
        have HST := Lib.hid (frp_step l k)
        obtain ⟨v, hv0⟩ : ∃ v, hval (pr l k) = v := ⟨_, rfl⟩
        rw [hv0] at hv1
        have HV := Lib.hid hv0
        clear hv0
        have dcell := HFB.out.bx.data k (by omega)
        have i3 : (k : Int) < 8 := by omega
        have i4 : (v : Int) < 256 := by omega
        generalize (frp l k).d k = y at dcell
        go_wp2_with fail
        rw [HX.out]
        refine (number_ok _ _ (by rw [HPL.out]; omega) HA.out).mono ?_
        rintro e w' ⟨rfl, rfl⟩
        rw [HV.out]
        go_wp2
        go_roundw
        case rel =>
          refine ⟨k + 1, by omega, by go_num, fun j hj => ?_, HZ.out.away (by omega), ?_, hbel.setCell (by simp) _⟩
          · rcases Nat.lt_or_ge j k with h | h
            · exact HP.out j h
            · rw [show j = k by omega]; exact HA.out
          · rw [← HST.out, HV.out]; exact HFB.out.put k (by omega) _
        case measure => simp [intOf]; omega
      · have HA := Lib.hid hall
        clear hall
        go_wp2_with fail
        rw [HX.out]
        refine (number_bad _ _ (by rw [HPL.out]; omega) HA.out).mono ?_
        rintro e w' ⟨rfl, rfl⟩
        go_wp2
        refine bodyPost_ret (v := .tuple #[Fr.zero.val, .bool false]) (by rw [results_cell_tmp rfl]; go_simp; decide) rfl ⟨.inr ⟨fun h => HA.out (fun c hc => h c (pr_sub hc)), rfl⟩, ?_⟩
        exact set12 hbel (Nat.le_refl _) _ _ _ _ _ _ _ _ _ _ _ _
    · go_wp2
      have ek : l.length / 2 = k := by have := HL.out; omega
      refine bodyPost_ret (v := .tuple #[(frp l k).val, .bool true]) (by rw [results_cell_tmp rfl]; go_simp; exact (HFL.out k).symm) rfl ⟨.inl ⟨pr_all HL.out (fun j hj => HP.out j (by omega)), by rw [ek]⟩, ?_⟩
      exact set12 hbel (Nat.le_refl _) _ _ _ _ _ _ _ _ _ _ _ _
end Go.Proofs.Ytjjfkakjkkpgaaa
