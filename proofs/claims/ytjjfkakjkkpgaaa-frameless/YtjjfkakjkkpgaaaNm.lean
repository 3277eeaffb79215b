/- The contracts of frame.number and frame.spell. -/
import Derived.Test.YtjjfkakjkkpgaaaSt
import Derived.Test.YtjjfkakjkkpgaaaD
namespace Go.Proofs.Ytjjfkakjkkpgaaa
open Go.RowKit

theorem back8 (c : UInt8) : ((c.toNat : Int)).toNat.toUInt8 = c := by
  rw [Int.toNat_natCast]; exact UInt8.ofNat_toNat
theorem pow16_8 : (16 : Nat) ^ 8 = 4294967296 := by decide

set_option maxHeartbeats 800000 in
theorem number_ok (l : List UInt8) (w : World) (hn : l.length ≤ 8) (hl : ∀ c ∈ l, hok c = true) :
    Calls Try.prog 34 #[.string (str l)] w fun e w' => e = .returned (.tuple #[.int .i64 (hval l), .bool true]) ∧ w = w' := by
  have hs := str_size l
  have HS := Lib.hid hs
  have hsz : (str l).size ≤ 8 := by omega
  have HL := Lib.hid hl
  have HA := Lib.hid (str_at l)
  clear hs hl
  generalize str l = s at *
  go_enter Try.func34, Try.ntmps34
  go_wp2
  go_loop [4, 9] (fun a i => ∃ k : Nat, k ≤ s.size ∧ i = .int .i64 k ∧ a = .int .i64 (hval (l.take k))) (fun _ i => s.size - (intOf i).toNat)
  case atStart => exact ⟨0, Nat.zero_le _, rfl, rfl⟩
  case round =>
    obtain ⟨k, hk, rfl, rfl⟩ := hrel
    by_cases hlt : k < s.size
    · have hc := HA.out k hlt
      have h1 := hval_take_lt l k 7 (by omega)
      have hb := hv_range s[k]
      have h0 : 0 ≤ hv s[k] := by
        have := HL.out _ (List.mem_of_getElem? hc)
        simpa [hok] using this
      have HE := Lib.hid (hval_step l k s[k] hc)
      have hlt' : (k : Int) < (s.size : Int) := by omega
      have h2 : (hval (l.take k) : Int) < 268435456 := by
        have : (16 : Nat) ^ 7 = 268435456 := by decide
        omega
      have HF := Lib.hid (show firstIdx dgs ((s[k].toNat : Int)).toNat.toUInt8 = hv s[k] by rw [back8]; exact fidx_digits _)
      generalize hv s[k] = v at *
      generalize hval (l.take k) = m at *
      clear hc h1
      have d0 : decide (v < 0) = false := by simpa using h0
      have e1 : 0 ≤ (m : Int) * 16 + v := by omega
      have e2 : (m : Int) * 16 + v < 9223372036854775808 := by omega
      go_wp2_with fail
      refine (ibyte_any _ _ _).mono ?_
      rintro e w' ⟨rfl, rfl⟩
      rw [HF.out]
      go_wp2
      go_round
      case rel => exact ⟨k + 1, by omega, by go_num, by rw [HE.out]; congr 1; omega⟩
      case measure => simp [intOf]; omega
    · go_wp2
      go_ret2
      exact ⟨by rw [show l.take k = l from List.take_of_length_le (by have := HS.out; omega)]; rfl, rfl⟩

set_option maxHeartbeats 800000 in
theorem number_bad (l : List UInt8) (w : World) (hn : l.length ≤ 8) (hl : ¬ ∀ c ∈ l, hok c = true) :
    Calls Try.prog 34 #[.string (str l)] w fun e w' => e = .returned (.tuple #[.int .i64 0, .bool false]) ∧ w = w' := by
  have hs := str_size l
  have HS := Lib.hid hs
  have hsz : (str l).size ≤ 8 := by omega
  have HL := Lib.hid hl
  have HA := Lib.hid (str_at l)
  clear hs hl
  generalize str l = s at *
  go_enter Try.func34, Try.ntmps34
  go_wp2
  go_loop [4, 9] (fun a i => ∃ k : Nat, k ≤ s.size ∧ i = .int .i64 k ∧ k ≤ led hok l ∧ a = .int .i64 (hval (l.take k))) (fun _ i => s.size - (intOf i).toNat)
  case atStart => exact ⟨0, Nat.zero_le _, rfl, Nat.zero_le _, rfl⟩
  case round =>
    obtain ⟨k, hk, rfl, hld, rfl⟩ := hrel
    by_cases hlt : k < s.size
    · have hc := HA.out k hlt
      have h1 := hval_take_lt l k 7 (by omega)
      have hb := hv_range s[k]
      have HE := Lib.hid (hval_step l k s[k] hc)
      have hlt' : (k : Int) < (s.size : Int) := by omega
      have h2 : (hval (l.take k) : Int) < 268435456 := by
        have : (16 : Nat) ^ 7 = 268435456 := by decide
        omega
      have HF := Lib.hid (show firstIdx dgs ((s[k].toNat : Int)).toNat.toUInt8 = hv s[k] by rw [back8]; exact fidx_digits _)
      have HK := Lib.hid (fun (h : 0 ≤ hv s[k]) => led_succ hok l k s[k] hld hc (by simpa [hok] using h))
      generalize hv s[k] = v at *
      generalize hval (l.take k) = m at *
      clear hc h1 hld
      by_cases h0 : v < 0
      · go_wp2_with fail
        refine (ibyte_any _ _ _).mono ?_
        rintro e w' ⟨rfl, rfl⟩
        rw [HF.out]
        go_wp2
        go_ret2
        exact ⟨rfl, rfl⟩
      · have d0 : decide (v < 0) = false := by simpa using h0
        have e1 : 0 ≤ (m : Int) * 16 + v := by omega
        have e2 : (m : Int) * 16 + v < 9223372036854775808 := by omega
        go_wp2_with fail
        refine (ibyte_any _ _ _).mono ?_
        rintro e w' ⟨rfl, rfl⟩
        rw [HF.out]
        go_wp2
        go_round
        case rel => exact ⟨k + 1, by omega, by go_num, HK.out (by omega), by rw [HE.out]; congr 1; omega⟩
        case measure => simp [intOf]; omega
    · exact absurd (led_all hok l (by have := HS.out; omega)) HL.out
end Go.Proofs.Ytjjfkakjkkpgaaa
