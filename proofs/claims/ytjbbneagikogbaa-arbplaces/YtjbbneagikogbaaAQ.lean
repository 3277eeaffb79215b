/- arb.Order of a frame that may not be; the contract of arb.Winner. -/
import Derived.Test.YtjbbneagikogbaaAO
namespace Go.Proofs.Ytjbbneagikogbaa
open Go.RowKit

set_option maxRecDepth 100000 in
set_option maxHeartbeats 1600000 in
theorem order_bad (fs : Nat → Fr) (A : Option Addr) (n cap : Nat) (w : World) (hr : Fl w A n fs) (hn : n ≤ 12) (hbad : ∃ i, i < n ∧ (fs i).may = false) :
    Calls Try.prog 16 #[.slice A n cap] w fun e w' => e = .returned (.tuple #[.slice none 0 0, .int .i64 14]) ∧ Below w.heap.size w w' := by
  have HBAD := Lib.hid hbad
  have hmk := make22 n (by omega)
  have HB1 := Lib.hid ((Below.refl w.heap.size w).alloc (Nat.le_refl _) (.cells #[.slice A n cap] 33))
  have HS := Lib.hid (show Sees (w.alloc (.cells #[.slice A n cap] 33)) w.heap.size A n cap fs from ⟨by simp, hr.below HB1.out⟩)
  clear hr hbad
  go_enter Try.func16, Try.ntmps16
  go_wp2
  have HO := Lib.hid (Own.lit (w.alloc (.cells #[.slice A n cap] 33)) (w.heap.size + 1) (List.replicate n 0) (by simp) (by simp; omega))
  have HB2 := Lib.hid ((Below.refl (w.heap.size + 1) (w.alloc (.cells #[.slice A n cap] 33))).alloc (by simp) (.cells (Array.replicate n (Value.int .i64 0)) 3))
  have HZ := Lib.hid (show (w.alloc (.cells #[.slice A n cap] 33)).heap.size = w.heap.size + 1 by simp)
  rw [HZ.out, List.length_replicate, ← asI_zero, show ((asI (pl n 0)).map (Value.int .i64)).toArray = Array.replicate n (Value.int .i64 0) by rw [asI_zero]; simp] at HO
  generalize w.alloc (.cells #[.slice A n cap] 33) = w1 at *
  generalize w1.alloc (.cells (Array.replicate n (Value.int .i64 0)) 3) = w2 at *
  go_loopw [14] (fun vi wr => ∃ k : Nat, k ≤ n ∧ vi = .int .i64 k ∧ (∀ i, i < k → (fs i).may = true) ∧ Below (w.heap.size + 1) w1 wr ∧ Own wr (w.heap.size + 1) (.slice (some ⟨w.heap.size + 1, 0, none⟩) n n) (asI (pl n k))) (fun vi _ => n - (intOf vi).toNat)
  case atStart => exact ⟨0, Nat.zero_le _, rfl, fun i hi => by omega, HB2.out, HO.out⟩
  case round =>
    obtain ⟨k, hk, rfl, hmay, hbk, hok⟩ := hrel
    have HBK := Lib.hid hbk; have HOK := Lib.hid hok; have HM := Lib.hid hmay
    clear hbk hok hmay
    by_cases hlt : k < n
    · have hbz : Below w1.heap.size w1 wr := by rw [HZ.out]; exact HBK.out
      obtain ⟨ad, rfl, hl, c0, c1, c2, c3, c4, c5, c6, c7, c8, c9, c10, c11⟩ := (HS.out.below hbz).row.at_ hlt
      have hlt' : (k : Int) < (n : Int) := by omega
      cases hm : (fs k).may with
      | true =>
        have HE := Lib.hid (err_ok hm)
        have HM2 := Lib.hid (show ∀ i, i < k + 1 → (fs i).may = true from fun i hi => by
          rcases Nat.lt_or_ge i k with h | h
          · exact HM.out i h
          · rw [show i = k by omega]; exact hm)
        clear hbz hl hm
        go_wp2_with fail
        refine (fcheck_any (fs k) _).mono ?_
        rintro e w3 ⟨rfl, hb3⟩
        rw [HE.out]
        have HB3 := Lib.hid (nxt (boxed (fs k) wr) hb3)
        have HO3 := Lib.hid (HOK.out.below HB3.out)
        have c := HO3.out.cell (j := k) (by rw [asI_len, pl_len (by omega)]; exact hlt)
        have f := HO3.out.frozen k
        have HOS := Lib.hid (HO3.out.put k (k : Int))
        rw [asI_set, pl_step hlt] at HOS
        have HBS := Lib.hid (((HBK.out.trans (HB3.out.mono (by rw [← HZ.out]; exact HBK.out.size))) : Below (w.heap.size + 1) w1 w3).setCell (p := ⟨w.heap.size + 1, k, none⟩) (Nat.le_refl _) (.int .i64 (k : Int)))
        clear hb3 c0 c1 c2 c3 c4 c5 c6 c7 c8 c9 c10 c11
        go_wp2
        go_roundw
        case rel => exact ⟨k + 1, by omega, by go_num, HM2.out, HBS.out, HOS.out⟩
        case measure => simp [intOf]; omega
      | false =>
        have HE := Lib.hid (err_no hm)
        have HBZ := Lib.hid hbz
        clear hbz hl hm
        go_wp2_with fail
        refine (fcheck_any (fs k) _).mono ?_
        rintro e w3 ⟨rfl, hb3⟩
        rw [HE.out]
        have HB3 := Lib.hid (nxt (boxed (fs k) wr) hb3)
        clear hb3 c0 c1 c2 c3 c4 c5 c6 c7 c8 c9 c10 c11
        go_wp2
        go_ret2
        exact ⟨rfl, nxt (nxt HB1.out HBZ.out) HB3.out⟩
    · exfalso
      obtain ⟨i, hi, hm⟩ := HBAD.out
      rw [HM.out i (by omega)] at hm
      cases hm

theorem winner_none (A : Option Addr) (cap : Nat) (w : World) :
    Calls Try.prog 15 #[.slice A 0 cap] w fun e w' => e = .returned (.tuple #[.int .i64 0, .int .i64 16]) ∧ w = w' := by
  go_enter Try.func15, Try.ntmps15
  go_wp2
  go_ret2
  exact ⟨rfl, rfl⟩
theorem winner_bad (fs : Nat → Fr) (A : Option Addr) (n cap : Nat) (w : World) (hr : Fl w A n fs) (hn : n ≤ 12) (hbad : ∃ i, i < n ∧ (fs i).may = false) :
    Calls Try.prog 15 #[.slice A n cap] w fun e w' => e = .returned (.tuple #[.int .i64 0, .int .i64 14]) ∧ Below w.heap.size w w' := by
  have HO := Lib.hid (order_bad fs A n cap w hr hn hbad)
  have h0 : ¬ n = 0 := by obtain ⟨i, hi, _⟩ := hbad; omega
  have h1 : ((n : Int) == 0) = false := by simp; omega
  clear hr hbad
  go_enter Try.func15, Try.ntmps15
  go_wp2_with fail
  refine HO.out.mono ?_
  rintro e w2 ⟨rfl, hb⟩
  go_wp2
  go_ret2
  exact ⟨rfl, hb⟩

/-- What Winner answers, of frames that may be. -/
def WinRes (fs : Nat → Fr) (n : Nat) (w : World) (e : Ending) (w' : World) : Prop :=
  Below w.heap.size w w' ∧ ((e = .returned (.tuple #[.int .i64 0, .int .i64 23]) ∧ ∃ a b, a < b ∧ b < n ∧ (fs a).plc = (fs b).plc) ∨
    ∃ ps, e = .returned (.tuple #[.int .i64 (ps.getD 0 0 : Nat), .int .i64 0]) ∧ Srt (fun i => (fs i).plc) n ps)
theorem winner_in (fs : Nat → Fr) (A : Option Addr) (n cap : Nat) (w : World) (hr : Fl w A n fs) (hn : n ≤ 12) (h0 : 0 < n) (hmay : ∀ i, i < n → (fs i).may = true) :
    Calls Try.prog 15 #[.slice A n cap] w (WinRes fs n w) := by
  have HO := Lib.hid (order_in fs A n cap w hr hn hmay)
  have h1 : ((n : Int) == 0) = false := by simp; omega
  have h2 : ¬ n = 0 := by omega
  clear hr hmay
  go_enter Try.func15, Try.ntmps15
  go_wp2_with fail
  refine HO.out.mono ?_
  rintro e w2 ⟨hb, h | h⟩
  · obtain ⟨rfl, hs⟩ := h
    have HR := Lib.hid hs; have HB := Lib.hid hb
    clear hs hb
    go_wp2
    go_ret2
    exact ⟨HB.out, .inl ⟨rfl, HR.out⟩⟩
  · obtain ⟨g, c, ps, rfl, hs, ho⟩ := h
    have c0 := ho.cell (j := 0) (by rw [asI_len, hs.len]; exact h0)
    rw [asI_getD] at c0
    have HR := Lib.hid hs; have HB := Lib.hid hb
    clear hs hb ho
    obtain ⟨p, hp⟩ : ∃ p, ps.getD 0 0 = p := ⟨_, rfl⟩
    rw [hp] at c0
    have HP := Lib.hid hp
    clear hp
    go_wp2
    go_ret2
    refine ⟨HB.out, .inr ⟨ps, ?_, HR.out⟩⟩
    rw [HP.out]; rfl
end Go.Proofs.Ytjbbneagikogbaa
