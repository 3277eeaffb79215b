/- The reference's number, of however many digits. -/
import Derived.Test.YtjjfkakjkkpgaaaRt
namespace Go.Proofs.Ytjjfkakjkkpgaaa
open Go.RowKit

/-- What digits are worth as a number of 64 bits. -/
def hw (l : List UInt8) : Int := l.foldl (fun a c => wrap64 (wrap64 (16 * a) + hv c)) 0
theorem hw_step (l : List UInt8) (k : Nat) (c : UInt8) (h : l[k]? = some c) : hw (l.take (k + 1)) = wrap64 (wrap64 (16 * hw (l.take k)) + hv c) := by
  rw [List.take_add_one, h]; simp [hw]

set_option maxHeartbeats 800000 in
theorem rnum_hw (l : List UInt8) (w : World) (hn : l.length ≤ 100) (hl : ∀ c ∈ l, hok c = true) :
    Calls Try.prog 36 #[.string (str l)] w fun e w' => e = .returned (.int .i64 (hw l)) ∧ w = w' := by
  have HL := Lib.hid hl
  clear hl
  have hs := str_size l
  have HS := Lib.hid hs
  have hsz : (str l).size ≤ 100 := by omega
  have HA := Lib.hid (str_at l)
  clear hs
  generalize str l = s at *
  go_enter Try.func36, Try.ntmps36
  go_wp2
  go_loop [3, 4] (fun a i => ∃ (k : Nat), k ≤ s.size ∧ i = .int .i64 k ∧ a = .int .i64 (hw (l.take k))) (fun _ i => s.size - (intOf i).toNat)
  case atStart => exact ⟨0, Nat.zero_le _, rfl, rfl⟩
  case round =>
    obtain ⟨k, hk, rfl, rfl⟩ := hrel
    by_cases hlt : k < s.size
    · have hc := HA.out k hlt
      have hb := hv_range s[k]
      have h0 : 0 ≤ hv s[k] := by
        have := HL.out _ (List.mem_of_getElem? hc)
        simpa [hok] using this
      have HD := Lib.hid (digit_any s[k] w)
      have hlt' : (k : Int) < (s.size : Int) := by omega
      have HE := Lib.hid (hw_step l k s[k] hc)
      generalize hv s[k] = v at *
      generalize hw (l.take k) = z at *
      clear hc
      have d0 : decide (v < 0) = false := by simpa using h0
      go_wp2_with fail
      refine HD.out.mono ?_
      rintro e w' ⟨rfl, rfl⟩
      go_wp2
      go_round
      case rel => exact ⟨k + 1, by omega, by go_num, by rw [HE.out]⟩
      case measure => simp [intOf]; omega
    · go_wp2
      go_ret
      exact ⟨ret_int (by rw [show l.take k = l from List.take_of_length_le (by have := HS.out; omega)]), rfl⟩

end Go.Proofs.Ytjjfkakjkkpgaaa
