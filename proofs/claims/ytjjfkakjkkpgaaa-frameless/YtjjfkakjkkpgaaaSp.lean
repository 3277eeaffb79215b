/- The contract of frame.spell. -/
import Derived.Test.YtjjfkakjkkpgaaaNm
namespace Go.Proofs.Ytjjfkakjkkpgaaa
open Go.RowKit

def dig (n i : Nat) : Int := ((hd (n / 16 ^ i % 16)).toNat : Int)
def FillH (n width k : Nat) (zs : List Int) : Prop := zs.length = width ∧ ∀ j, width - k ≤ j → j < width → zs.getD j 0 = dig n (width - 1 - j)
theorem FillH.step {n width k : Nat} {zs : List Int} (h : FillH n width k zs) (hk : k < width) : FillH n width (k + 1) (zs.set (width - 1 - k) (dig n k)) := by
  refine ⟨by rw [List.length_set]; exact h.1, fun j h1 h2 => ?_⟩
  have hl := h.1
  rcases Nat.lt_or_ge (width - 1 - k) j with hlt | hge
  · have := h.2 j (by omega) h2
    rw [← this]
    simp [List.getD, List.getElem?_set_ne (show width - 1 - k ≠ j by omega)]
  · have e : j = width - 1 - k := by omega
    subst e
    simp [List.getD, List.getElem?_set_self (show width - 1 - k < zs.length by omega)]
    congr 1; omega
theorem hx_at : ∀ (w n j : Nat), j < w → (hx w n)[j]? = some (hd (n / 16 ^ (w - 1 - j) % 16)) := by
  intro w
  induction w with
  | zero => intro n j h; omega
  | succ w ih =>
    intro n j h
    rw [hx]
    rcases Nat.lt_or_ge j w with hlt | hge
    · rw [List.getElem?_append_left (by rw [hx_len]; exact hlt), ih _ _ hlt, Nat.div_div_eq_div_mul, show w + 1 - 1 - j = (w - 1 - j) + 1 by omega, Nat.pow_succ']
    · have e : j = w := by omega
      subst e
      rw [List.getElem?_append_right (by rw [hx_len]; exact Nat.le_refl _), hx_len]
      simp
theorem FillH.all {n width k : Nat} {zs : List Int} (h : FillH n width k zs) (hk : width ≤ k) : zs = (hx width n).map fun c => (c.toNat : Int) := by
  apply List.ext_getElem?
  intro j
  rcases Nat.lt_or_ge j width with hlt | hge
  · have := h.2 j (by omega) hlt
    rw [List.getElem?_map, hx_at _ _ _ hlt, getD_some zs j (by rw [h.1]; exact hlt), this]
    rfl
  · rw [List.getElem?_eq_none (by rw [h.1]; exact hge), List.getElem?_eq_none (by rw [List.length_map, hx_len]; exact hge)]
theorem nums_str (l : List UInt8) : strOfNums (l.map fun c => (c.toNat : Int)) = str l := by
  apply ByteArray.ext
  simp [strOfNums, str, Function.comp_def]
theorem div_next (n k : Nat) : ((n / 16 ^ k : Nat) : Int) / 16 = ((n / 16 ^ (k + 1) : Nat) : Int) := by
  rw [Nat.pow_succ, ← Nat.div_div_eq_div_mul]; simp

set_option maxHeartbeats 800000 in
theorem spell_ok (n width : Nat) (w : World) (hn : n ≤ 536870911) (hw : width ≤ 8) :
    Calls Try.prog 30 #[.int .i64 n, .int .i64 width] w fun e w' => e = .returned (.string (str (hx width n))) ∧ Below w.heap.size w w' := by
  have hmk := make47 width (by omega)
  have HB := Lib.hid (Arr.new w .u8 5 (List.replicate width 0))
  generalize ((List.replicate width 0).map (Value.int .u8)).toArray = cs at hmk HB
  have hn' : (n : Int) ≤ 536870911 := by omega
  go_enter Try.func30, Try.ntmps30
  go_wp2
  go_loopw [0, 10] (fun a i wr => ∃ (k : Nat) (zs : List Int), k ≤ width ∧ i = .int .i64 k ∧ a = .int .i64 ((n / 16 ^ k : Nat) : Int) ∧ Arr .u8 5 wr w.heap.size zs ∧ FillH n width k zs ∧ Below w.heap.size w wr) (fun _ i _ => width - (intOf i).toNat)
  case atStart => exact ⟨0, List.replicate width 0, Nat.zero_le _, rfl, by simp, HB.out, ⟨by simp, fun j h1 h2 => by omega⟩, (Below.refl _ _).alloc (Nat.le_refl _) _⟩
  case round =>
    obtain ⟨k, zs, hk, rfl, rfl, ha, hf, hbel⟩ := hrel
    by_cases hlt : k < width
    · have hc := ha.cell (i := width - 1 - k) (by have := hf.1; omega)
      have hz := ha.frozen (width - 1 - k)
      have HA := Lib.hid ha; have HF := Lib.hid (hf.step hlt)
      have HD := Lib.hid (div_next n k)
      have hm : n / 16 ^ k ≤ 536870911 := Nat.le_trans (Nat.div_le_self _ _) hn
      have HG := Lib.hid (show ∀ h : n / 16 ^ k % 16 < dgs.size, ((dgs[n / 16 ^ k % 16].toNat : Nat) : Int) = dig n k from fun h => by rw [dgs_at _ (Nat.mod_lt _ (by omega)) h]; rfl)
      clear ha hf
      generalize zs.getD (width - 1 - k) 0 = x at hc
      generalize n / 16 ^ k = m at *
      have hm' : (m : Int) ≤ 536870911 := by omega
      have h16 : (m : Int) % 16 < 16 := by omega
      have h17 : 0 ≤ (m : Int) % 16 := by omega
      go_wp2
      go_roundw
      case rel =>
        rw [HG.out _]
        exact ⟨k + 1, _, by omega, by go_num, by rw [HD.out], HA.out.put _ _, HF.out, hbel.setCell (Nat.le_refl _) _⟩
      case measure => simp [intOf]; omega
    · have e := hf.all (show width ≤ k by omega)
      subst e
      have hcv := conv47 ha
      rw [List.length_map, hx_len, nums_str] at hcv
      have HA := Lib.hid ha
      clear ha hf
      generalize n / 16 ^ k = m
      obtain ⟨r, hr⟩ : ∃ r, str (hx width n) = r := ⟨_, rfl⟩
      rw [hr] at hcv
      have HR := Lib.hid hr
      clear hr
      go_wp2
      go_ret
      exact ⟨by rw [HR.out]; rfl, hbel⟩
end Go.Proofs.Ytjjfkakjkkpgaaa
