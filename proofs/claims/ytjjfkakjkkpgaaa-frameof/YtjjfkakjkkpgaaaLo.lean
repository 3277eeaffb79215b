/- The walk of the law FrameOf. -/
import Derived.Test.YtjjfkakjkkpgaaaOf
import Derived.Test.YtjjfkakjkkpgaaaRc
import Derived.Test.YtjjfkakjkkpgaaaAw
namespace Go.Proofs.Ytjjfkakjkkpgaaa
open Go.RowKit

set_option maxHeartbeats 3200000 in
theorem law_of (i : Int) (A : Option Addr) (n cap : Nat) (zs : List Int) (x : Bool) (w : World) (hr : Bl w A n zs) :
    Calls Try.prog 6 #[.int .i64 i, .slice A n cap, .bool x] w fun e w' => e = .returned (.bool true) ∧ Below w.heap.size w w' := by
  have h22 := eq22
  by_cases hn : 12 < n
  · have hn' : (12 : Int) < (n : Int) := by omega
    go_enter Try.func6, Try.ntmps6
    go_wp2_with fail
    refine (awake_ok _).mono ?_
    rintro e wa ⟨rfl, hba⟩
    go_wp2
    go_ret
    exact ⟨rfl, hba⟩
  have hn' : decide ((12 : Int) < (n : Int)) = false := by simp; omega
  by_cases h8 : 8 < n
  · have h8' : (8 : Int) < (n : Int) := by omega
    go_enter Try.func6, Try.ntmps6
    go_wp2_with fail
    refine (frof_long i x A n cap _ h8).mono ?_
    rintro e w1 ⟨rfl, hb1⟩
    go_wp2_with fail
    refine (awake_ok _).mono ?_
    rintro e wa ⟨rfl, hba⟩
    go_wp2
    go_ret
    exact ⟨rfl, nxt (nxt hb1 (boxed Fr.zero w1)) hba⟩
  have h8' : decide ((8 : Int) < (n : Int)) = false := by simp; omega
  have HR := Lib.hid hr
  have HK0 := Lib.hid (show fdk i x zs 0 = ⟨i, x, false, (n : Int), fun _ => 0⟩ by unfold fdk; rw [hr.1]; rfl)
  have HKE := Lib.hid (show fdk i x zs n = fd i x zs by rw [← fdk_end, hr.1])
  have HST := Lib.hid (fdk_step i x zs)
  have HFO := Lib.hid (show ((fd i x zs).may = true ∧ fo i x zs = fd i x zs ∧ (fd i x zs).err = 0) ∨ ((fd i x zs).may = false ∧ fo i x zs = Fr.zero ∧ (fd i x zs).err = 14) by
    unfold fo
    cases hm : (fd i x zs).may
    · exact .inr ⟨rfl, by simp, err_no hm⟩
    · exact .inl ⟨rfl, by simp, err_ok hm⟩)
  have HOF := Lib.hid (frof_any i x A n cap zs w hr (by omega))
  obtain ⟨F, hF⟩ : ∃ F, fd i x zs = F := ⟨_, rfl⟩
  obtain ⟨G, hG⟩ : ∃ G, fo i x zs = G := ⟨_, rfl⟩
  rw [hF, hG] at HFO HOF
  rw [hF] at HKE
  clear hr hn hF hG
  go_enter Try.func6, Try.ntmps6
  go_wp2_with fail
  refine HOF.out.mono ?_
  rintro e w1 ⟨rfl, hb1⟩
  have A0 := Lib.hid (fb_two1 w1 G ⟨i, x, false, (n : Int), fun _ => 0⟩)
  have A1 := Lib.hid (fb_two2 w1 G ⟨i, x, false, (n : Int), fun _ => 0⟩)
  have A2 := Lib.hid (nxt hb1 (alloc2 w1 (.cells G.cells 24) (.cells (Fr.cells ⟨i, x, false, (n : Int), fun _ => 0⟩) 24)))
  have A3 := Lib.hid hb1.size
  clear hb1 HOF
  go_wp2
  go_loopw [10] (fun j wr => ∃ k : Nat, k ≤ n ∧ j = .int .i64 k ∧ Fb wr w1.heap.size G ∧ Fb wr (w1.heap.size + 1) (fdk i x zs k) ∧ Below w.heap.size w wr) (fun j _ => n - (intOf j).toNat)
  case atStart => exact ⟨0, Nat.zero_le _, rfl, A0.out, by rw [HK0.out]; exact A1.out, A2.out⟩
  case round =>
    obtain ⟨k, hk, rfl, hg, hfb, hbel⟩ := hrel
    have HG := Lib.hid hg; have HFB := Lib.hid hfb
    clear A0 A1 A2 hg hfb
    by_cases hlt : k < n
    · obtain ⟨ad, rfl, hcell⟩ := (HR.out.below hbel).at_ hlt
      have dcell := HFB.out.bx.data k (by omega)
      have fy := fun i => HFB.out.frozen i
      have i3 : (k : Int) < 8 := by omega
      have hlt' : (k : Int) < (n : Int) := by omega
      have HS := Lib.hid (HST.out k)
      generalize zs.getD k 0 = v at hcell HS
      generalize (fdk i x zs k).d k = y at dcell
      go_wp2
      go_roundw
      case rel => exact ⟨k + 1, by omega, by go_num, HG.out.away (by omega), by rw [← HS.out]; exact HFB.out.put k (by omega) _, hbel.setCell (by have := A3.out; show w.heap.size ≤ w1.heap.size + 1; omega) _⟩
      case measure => simp [intOf]; omega
    · have ek : k = n := by omega
      subst ek
      rw [HKE.out] at HFB
      obtain ⟨b0, b1, b2, b3, b4, b5, b6, b7, b8, b9, b10, b11⟩ := HFB.out.bx
      go_wp2_with fail
      refine (rcheck_any F _).mono ?_
      rintro e w5 ⟨rfl, hb5⟩
      have HG5 := Lib.hid (HG.out.below hb5 HG.out.lt)
      have HF5 := Lib.hid (HFB.out.below hb5 HFB.out.lt)
      have HB5 := Lib.hid (nxt hbel hb5)
      clear b0 b1 b2 b3 b4 b5 b6 b7 b8 b9 b10 b11
      clear HFB HG hb5
      rcases HFO.out with ⟨_, h1, h2⟩ | ⟨_, h1, h2⟩
      · rw [h2]
        rw [h1] at HG5
        obtain ⟨c0, c1, c2, c3, c4, c5, c6, c7, c8, c9, c10, c11⟩ := HG5.out.bx
        obtain ⟨b0, b1, b2, b3, b4, b5, b6, b7, b8, b9, b10, b11⟩ := HF5.out.bx
        clear h1 h2
        go_wp2_with fail
        refine (awake_ok _).mono ?_
        rintro e wa ⟨rfl, hba⟩
        go_wp2
        go_ret
        exact ⟨rfl, nxt HB5.out hba⟩
      · rw [h2]
        rw [h1] at HG5
        have hz := HG5.out.bx
        simp [Bx, Fr.zero] at hz
        obtain ⟨c0, c1, c2, c3, c4, c5, c6, c7, c8, c9, c10, c11⟩ := hz
        obtain ⟨b0, b1, b2, b3, b4, b5, b6, b7, b8, b9, b10, b11⟩ := HF5.out.bx
        clear h1 h2
        go_wp2_with fail
        refine (awake_ok _).mono ?_
        rintro e wa ⟨rfl, hba⟩
        go_wp2
        go_ret
        exact ⟨rfl, nxt HB5.out hba⟩
end Go.Proofs.Ytjjfkakjkkpgaaa
