/- The contracts of the reference's hex, hexes, digit and number. -/
import Derived.Test.YtjjfkakjkkpgaaaSp
namespace Go.Proofs.Ytjjfkakjkkpgaaa
open Go.RowKit

theorem dgs_cut (n : Nat) (h : n < 16) : dgs.extract n (n + 1) = ⟨#[hd n]⟩ := by
  have : ∀ n, n < 16 → dgs.extract n (n + 1) = ⟨#[hd n]⟩ := by decide +kernel
  exact this n h
theorem hex_ok (n : Nat) (w : World) (hn : n < 16) : Calls Try.prog 32 #[.int .i64 n] w fun e w' => e = .returned (.string ⟨#[hd n]⟩) ∧ w = w' := by
  have h1 : (n : Int) < 16 := by omega
  have h2 : (n : Int) + 1 ≤ 16 := by omega
  have HC := Lib.hid (dgs_cut n hn)
  go_enter Try.func32, Try.ntmps32
  go_wp2
  go_ret
  exact ⟨by rw [← HC.out]; rfl, rfl⟩

set_option maxHeartbeats 800000 in
theorem hexes_ok : ∀ (k n : Nat) (w : World), k ≤ 8 → n ≤ 536870911 → Calls Try.prog 31 #[.int .i64 n, .int .i64 k] w fun e w' => e = .returned (.string (str (hx k n))) ∧ w = w' := by
  intro k
  induction k with
  | zero =>
    intro n w _ _
    go_enter Try.func31, Try.ntmps31
    go_wp2
    go_ret
    exact ⟨rfl, rfl⟩
  | succ k ih =>
    intro n w hk hn
    have HI := Lib.hid (ih (n / 16) · (by omega) (by omega))
    have HX := Lib.hid (hex_ok (n % 16) · (by omega))
    have HS := Lib.hid (show str (hx k (n / 16)) ++ (⟨#[hd (n % 16)]⟩ : ByteArray) = str (hx (k + 1) n) from str_append _ [hd (n % 16)])
    have hk1 : ((k : Int) + 1 == 0) = false := by simp; omega
    have e1 : ((k : Int) + 1) - 1 = (k : Int) := by omega
    have e2 : (n : Int) / 16 = ((n / 16 : Nat) : Int) := by omega
    have e3 : (n : Int) % 16 = ((n % 16 : Nat) : Int) := by omega
    have hkk : (k : Int) ≤ 8 := by omega
    have hnn : (n : Int) ≤ 536870911 := by omega
    have hsz : (str (hx k (n / 16))).size ≤ 8 := by rw [str_size, hx_len]; omega
    clear ih
    generalize str (hx k (n / 16)) = t at *
    generalize hd (n % 16) = b at *
    generalize n % 16 = r at *
    generalize n / 16 = m at *
    go_enter Try.func31, Try.ntmps31
    go_wp2_with fail
    refine (HI.out _).mono ?_
    rintro e w1 ⟨rfl, rfl⟩
    go_wp2_with fail
    refine (HX.out _).mono ?_
    rintro e w1 ⟨rfl, rfl⟩
    go_wp2
    go_ret
    exact ⟨by rw [← HS.out]; rfl, rfl⟩

theorem hv_none {c : UInt8} (h : ∀ j, j < 16 → hd j ≠ c) : hv c = -1 := by
  have h1 := hv_range c
  rcases Int.lt_or_le (hv c) 0 with h2 | h2
  · omega
  · have h3 : hok c = true := by simpa [hok] using h2
    exact absurd (hd_hv c h3) (h _ (by omega))

set_option maxHeartbeats 800000 in
theorem digit_any (c : UInt8) (w : World) : Calls Try.prog 37 #[.int .u8 (c.toNat : Int)] w fun e w' => e = .returned (.int .i64 (hv c)) ∧ w = w' := by
  go_enter Try.func37, Try.ntmps37
  go_wp2
  go_loop [3] (fun i => ∃ k : Nat, k ≤ 16 ∧ i = .int .i64 k ∧ ∀ j, j < k → hd j ≠ c) (fun i => 16 - (intOf i).toNat)
  case atStart => exact ⟨0, Nat.zero_le _, rfl, fun j hj => by omega⟩
  case round =>
    obtain ⟨k, hk, rfl, hz⟩ := hrel
    have HZ := Lib.hid hz
    clear hz
    by_cases hlt : k < 16
    · have hlt' : (k : Int) < 16 := by omega
      have HD := Lib.hid (show hd k = hd k from rfl)
      have HV := Lib.hid (hv_hd k hlt)
      obtain ⟨b, hb⟩ : ∃ b, hd k = b := ⟨_, rfl⟩
      have HX := Lib.hid (hex_ok k w hlt)
      rw [hb] at HX HV
      have HB := Lib.hid hb
      clear hb HD
      cases hc : ((b.toNat : Int) == (c.toNat : Int))
      · have hne : b ≠ c := fun h => by rw [h] at hc; simp at hc
        have HN := Lib.hid hne
        have hc' : ((((⟨#[b]⟩ : ByteArray)[0]'(Nat.zero_lt_one)).toNat : Int) == (c.toNat : Int)) = false := hc
        clear hne
        go_wp2_with fail
        refine HX.out.mono ?_
        rintro e w1 ⟨rfl, rfl⟩
        go_wp2
        go_round
        case rel => exact ⟨k + 1, by omega, by go_num, fun j hj => by
          rcases Nat.lt_or_ge j k with h | h
          · exact HZ.out j h
          · rw [show j = k by omega, HB.out]; exact HN.out⟩
        case measure => simp [intOf]; omega
      · have heq : b = c := by
          have := eq_of_beq hc
          apply UInt8.toNat_inj.1; omega
        have hc' : ((((⟨#[b]⟩ : ByteArray)[0]'(Nat.zero_lt_one)).toNat : Int) == (c.toNat : Int)) = true := hc
        rw [heq] at HV
        have HV2 := Lib.hid HV.out
        clear heq HV
        go_wp2_with fail
        refine HX.out.mono ?_
        rintro e w1 ⟨rfl, rfl⟩
        go_wp2
        go_ret
        exact ⟨ret_int HV2.out.symm, rfl⟩
    · go_wp2
      go_ret
      exact ⟨ret_int (hv_none (fun j hj => HZ.out j (by omega))).symm, rfl⟩

set_option maxHeartbeats 800000 in
theorem rnum_ok (l : List UInt8) (w : World) (hn : l.length ≤ 15) (hl : ∀ c ∈ l, hok c = true) :
    Calls Try.prog 36 #[.string (str l)] w fun e w' => e = .returned (.int .i64 (hval l)) ∧ w = w' := by
  have HL := Lib.hid hl
  clear hl
  have hs := str_size l
  have HS := Lib.hid hs
  have hsz : (str l).size ≤ 15 := by omega
  have HA := Lib.hid (str_at l)
  clear hs
  generalize str l = s at *
  go_enter Try.func36, Try.ntmps36
  go_wp2
  go_loop [3, 4] (fun a i => ∃ k : Nat, k ≤ s.size ∧ i = .int .i64 k ∧ a = .int .i64 (hval (l.take k))) (fun _ i => s.size - (intOf i).toNat)
  case atStart => exact ⟨0, Nat.zero_le _, rfl, rfl⟩
  case round =>
    obtain ⟨k, hk, rfl, rfl⟩ := hrel
    by_cases hlt : k < s.size
    · have hc := HA.out k hlt
      have h1 := hval_take_lt l k 14 (by omega)
      have hb := hv_range s[k]
      have h0 : 0 ≤ hv s[k] := by
        have := HL.out _ (List.mem_of_getElem? hc)
        simpa [hok] using this
      have HE := Lib.hid (hval_step l k s[k] hc)
      have HD := Lib.hid (digit_any s[k] w)
      have hlt' : (k : Int) < (s.size : Int) := by omega
      have h2 : (hval (l.take k) : Int) < 72057594037927936 := by
        have : (16 : Nat) ^ 14 = 72057594037927936 := by decide
        omega
      generalize hv s[k] = v at *
      generalize hval (l.take k) = m at *
      clear hc h1
      have d0 : decide (v < 0) = false := by simpa using h0
      have e1 : 0 ≤ 16 * (m : Int) + v := by omega
      have e2 : 16 * (m : Int) + v < 9223372036854775808 := by omega
      go_wp2_with fail
      refine HD.out.mono ?_
      rintro e w' ⟨rfl, rfl⟩
      go_wp2
      go_round
      case rel => exact ⟨k + 1, by omega, by go_num, by rw [HE.out]; congr 1; omega⟩
      case measure => simp [intOf]; omega
    · go_wp2
      go_ret
      exact ⟨ret_int (by rw [show l.take k = l from List.take_of_length_le (by have := HS.out; omega)]), rfl⟩

set_option maxHeartbeats 800000 in
theorem rnum_some (l : List UInt8) (w : World) (hn : l.length ≤ 100) (hl : ∀ c ∈ l, hok c = true) :
    Calls Try.prog 36 #[.string (str l)] w fun e w' => (∃ z, e = .returned (.int .i64 z)) ∧ w = w' := by
  have HL := Lib.hid hl
  clear hl
  have hs := str_size l
  have HS := Lib.hid hs
  have hsz : (str l).size ≤ 100 := by omega
  have HA := Lib.hid (str_at l)
  clear hs
  generalize str l = s at *
  go_enter Try.func36, Try.ntmps36
  go_wp2
  go_loop [3, 4] (fun a i => ∃ (k : Nat) (z : Int), k ≤ s.size ∧ i = .int .i64 k ∧ a = .int .i64 z) (fun _ i => s.size - (intOf i).toNat)
  case atStart => exact ⟨0, 0, Nat.zero_le _, rfl, rfl⟩
  case round =>
    obtain ⟨k, z, hk, rfl, rfl⟩ := hrel
    by_cases hlt : k < s.size
    · have hc := HA.out k hlt
      have hb := hv_range s[k]
      have h0 : 0 ≤ hv s[k] := by
        have := HL.out _ (List.mem_of_getElem? hc)
        simpa [hok] using this
      have HD := Lib.hid (digit_any s[k] w)
      have hlt' : (k : Int) < (s.size : Int) := by omega
      generalize hv s[k] = v at *
      clear hc
      have d0 : decide (v < 0) = false := by simpa using h0
      go_wp2_with fail
      refine HD.out.mono ?_
      rintro e w' ⟨rfl, rfl⟩
      go_wp2
      go_round
      case rel => exact ⟨k + 1, _, by omega, by go_num, rfl⟩
      case measure => simp [intOf]; omega
    · go_wp2
      go_ret
      exact ⟨⟨z, rfl⟩, rfl⟩

set_option maxHeartbeats 800000 in
theorem rnum_bad (l : List UInt8) (w : World) (hn : l.length ≤ 100) (hl : ¬ ∀ c ∈ l, hok c = true) :
    Calls Try.prog 36 #[.string (str l)] w fun e w' => e = .returned (.int .i64 (-1)) ∧ w = w' := by
  have HL := Lib.hid hl
  clear hl
  have hs := str_size l
  have HS := Lib.hid hs
  have hsz : (str l).size ≤ 100 := by omega
  have HA := Lib.hid (str_at l)
  clear hs
  generalize str l = s at *
  go_enter Try.func36, Try.ntmps36
  go_wp2
  go_loop [3, 4] (fun a i => ∃ (k : Nat) (z : Int), k ≤ s.size ∧ i = .int .i64 k ∧ k ≤ led hok l ∧ a = .int .i64 z) (fun _ i => s.size - (intOf i).toNat)
  case atStart => exact ⟨0, 0, Nat.zero_le _, rfl, Nat.zero_le _, rfl⟩
  case round =>
    obtain ⟨k, z, hk, rfl, hld, rfl⟩ := hrel
    by_cases hlt : k < s.size
    · have hc := HA.out k hlt
      have hb := hv_range s[k]
      have HK := Lib.hid (fun (h : 0 ≤ hv s[k]) => led_succ hok l k s[k] hld hc (by simpa [hok] using h))
      have HD := Lib.hid (digit_any s[k] w)
      have hlt' : (k : Int) < (s.size : Int) := by omega
      generalize hv s[k] = v at *
      clear hc hld
      by_cases h0 : v < 0
      · go_wp2_with fail
        refine HD.out.mono ?_
        rintro e w' ⟨rfl, rfl⟩
        go_wp2
        go_ret
        exact ⟨rfl, rfl⟩
      · have d0 : decide (v < 0) = false := by simpa using h0
        go_wp2_with fail
        refine HD.out.mono ?_
        rintro e w' ⟨rfl, rfl⟩
        go_wp2
        go_round
        case rel => exact ⟨k + 1, _, by omega, by go_num, HK.out (by omega), rfl⟩
        case measure => simp [intOf]; omega
    · exact absurd (led_all hok l (by have := HS.out; omega)) HL.out
end Go.Proofs.Ytjjfkakjkkpgaaa
