/- The contracts of strings.IndexByte, strings.Cut at '#', strings.CutPrefix at 'R'. -/
import Derived.Test.YtjjfkakjkkpgaaaHx
import Derived.Deep.QuietTactic
import Derived.BigQuiet
namespace Go.Proofs.Ytjjfkakjkkpgaaa
open Go.RowKit

theorem run47 (s : ByteArray) (c : Int) (w : World) : (callFunc 47 #[.string s, .int .u8 c]).run Try.prog w = .ok (.value (.int .i64 (firstIdx s c.toNat.toUInt8))) w := by
  rw [run_callFunc_indexByte Try.func47 (by kernel_rfl) (by kernel_rfl) (by kernel_rfl) (by kernel_rfl), run_indexByte_string]
  rfl

theorem lbyte_any (s : ByteArray) (c : Int) (w : World) :
    Calls Try.prog 42 #[.string s, .int .u8 c] w fun e w' => e = .returned (.int .i64 (firstIdx s c.toNat.toUInt8)) ∧ w = w' := by
  have h := run47 s c
  go_enter Try.func42, Try.ntmps42
  go_wp2
  go_ret
  exact ⟨rfl, rfl⟩

theorem ibyte_any (s : ByteArray) (c : Int) (w : World) :
    Calls Try.prog 39 #[.string s, .int .u8 c] w fun e w' => e = .returned (.int .i64 (firstIdx s c.toNat.toUInt8)) ∧ w = w' := by
  go_enter Try.func39, Try.ntmps39
  go_wp2_with fail
  refine (lbyte_any _ _ _).mono ?_
  rintro e w' ⟨rfl, rfl⟩
  go_wp2
  go_ret
  exact ⟨rfl, rfl⟩

theorem fidx_lone {s : ByteArray} (h : ([35] == s.toList) = true) : firstIdx s 35 = 0 := by
  have e : s = ⟨#[35]⟩ := by
    have := eq_of_beq h
    apply ByteArray.ext
    apply Array.toList_inj.1
    rw [← bytes_list, ← this]
  subst e
  decide
set_option maxHeartbeats 800000 in
theorem lindex_any (s : ByteArray) (w : World) :
    Calls Try.prog 41 #[.string s, .string ⟨#[35]⟩] w fun e w' => e = .returned (.int .i64 (firstIdx s 35)) ∧ w = w' := by
  cases hs : ([35] == s.toList)
  · go_enter Try.func41, Try.ntmps41
    go_wp2_with fail
    refine (lbyte_any s 35 w).mono ?_
    rintro e w' ⟨rfl, rfl⟩
    go_wp2
    go_ret
    exact ⟨rfl, rfl⟩
  · rw [fidx_lone hs]
    go_enter Try.func41, Try.ntmps41
    go_wp2
    go_ret
    exact ⟨rfl, rfl⟩

set_option maxHeartbeats 800000 in
theorem cut_none (s : ByteArray) (w : World) (h : firstIdx s 35 < 0) :
    Calls Try.prog 33 #[.string s, .string ⟨#[35]⟩] w fun e w' => e = .returned (.tuple #[.string s, .string ⟨#[]⟩, .bool false]) ∧ w = w' := by
  generalize hi : firstIdx s 35 = i at h
  have HI := Lib.hid hi
  clear hi
  have h1 : Calls Try.prog 38 #[.string s, .string ⟨#[35]⟩] w fun e w' => e = .returned (.tuple #[.string s, .string ⟨#[]⟩, .bool false]) ∧ w = w' := by
    go_enter Try.func38, Try.ntmps38
    go_wp2_with fail
    refine (lindex_any s w).mono ?_
    rintro e w' ⟨rfl, rfl⟩
    rw [HI.out]
    have h2 : decide (0 ≤ i) = false := by simpa using h
    go_wp2
    go_ret3
    exact ⟨rfl, rfl⟩
  go_enter Try.func33, Try.ntmps33
  go_wp2_with fail
  refine h1.mono ?_
  rintro e w' ⟨rfl, rfl⟩
  go_wp2
  go_ret3
  exact ⟨rfl, rfl⟩

set_option maxHeartbeats 800000 in
theorem cut_at (s : ByteArray) (i : Nat) (w : World) (h : firstIdx s 35 = i) (hi : i < s.size) (hn : s.size ≤ 100000) :
    Calls Try.prog 33 #[.string s, .string ⟨#[35]⟩] w fun e w' => e = .returned (.tuple #[.string (s.extract 0 i), .string (s.extract (i + 1) s.size), .bool true]) ∧ ∃ n, w' = w.drewN n := by
  have HI := Lib.hid h
  clear h
  have h1 : Calls Try.prog 38 #[.string s, .string ⟨#[35]⟩] w fun e w' => e = .returned (.tuple #[.string (s.extract 0 i), .string (s.extract (i + 1) s.size), .bool true]) ∧ ∃ n, w' = w.drewN n := by
    go_enter Try.func38, Try.ntmps38
    go_wp2_with fail
    refine (lindex_any s w).mono ?_
    rintro e w' ⟨rfl, rfl⟩
    rw [HI.out]
    have i1 : (i : Int) < (s.size : Int) := by omega
    have i2 : (i : Int) + 1 ≤ (s.size : Int) := by omega
    have i3 : (s.size : Int) ≤ 100000 := by omega
    have i4 : (i : Int) ≤ (s.size : Int) := by omega
    go_wp2
    go_quiet (fail)
    go_wp2
    go_ret3
    exact ⟨rfl, _, rfl⟩
  go_enter Try.func33, Try.ntmps33
  go_wp2_with fail
  refine h1.mono ?_
  rintro e w' ⟨rfl, n, rfl⟩
  go_wp2
  go_ret3
  exact ⟨rfl, _, rfl⟩

set_option maxHeartbeats 800000 in
theorem cutp_yes (l : List UInt8) (w : World) (hn : l.length ≤ 100000) :
    Calls Try.prog 40 #[.string (str (82 :: l)), .string ⟨#[82]⟩] w fun e w' => e = .returned (.tuple #[.string (str l), .bool true]) ∧ w = w' := by
  have hs : (str (82 :: l)).size = l.length + 1 := by rw [str_size]; rfl
  have hx0 : (str (82 :: l)).extract 0 1 = ⟨#[82]⟩ := by rw [str_extract]; rfl
  have hx1 : (str (82 :: l)).extract 1 (l.length + 1) = str l := by
    rw [str_extract]; simp
  generalize str (82 :: l) = s at *
  have hp : Calls Try.prog 48 #[.string s, .string ⟨#[82]⟩] w fun e w' => e = .returned (.bool true) ∧ w = w' := by
    go_enter Try.func48, Try.ntmps48
    go_wp2
    go_ret
    exact ⟨rfl, rfl⟩
  have h1 : Calls Try.prog 43 #[.string s, .string ⟨#[82]⟩] w fun e w' => e = .returned (.tuple #[.string (str l), .bool true]) ∧ w = w' := by
    go_enter Try.func43, Try.ntmps43
    go_wp2_with fail
    refine hp.mono ?_
    rintro e w' ⟨rfl, rfl⟩
    go_wp2
    go_ret2
    exact ⟨rfl, rfl⟩
  go_enter Try.func40, Try.ntmps40
  go_wp2_with fail
  refine h1.mono ?_
  rintro e w' ⟨rfl, rfl⟩
  go_wp2
  go_ret2
  exact ⟨rfl, rfl⟩

set_option maxHeartbeats 800000 in
theorem cutp_no (l : List UInt8) (w : World) (hn : l.length ≤ 100000) (h : ∀ t, l ≠ 82 :: t) :
    Calls Try.prog 40 #[.string (str l), .string ⟨#[82]⟩] w fun e w' => e = .returned (.tuple #[.string (str l), .bool false]) ∧ w = w' := by
  have hp : Calls Try.prog 48 #[.string (str l), .string ⟨#[82]⟩] w fun e w' => e = .returned (.bool false) ∧ w = w' := by
    match l, h with
    | [], _ =>
      go_enter Try.func48, Try.ntmps48
      go_wp2
      go_ret
      exact ⟨rfl, rfl⟩
    | c :: t, h =>
      have hs : (str (c :: t)).size = t.length + 1 := by rw [str_size]; rfl
      have hx0 : (str (c :: t)).extract 0 1 = ⟨#[c]⟩ := by rw [str_extract]; rfl
      have hc : (c == 82) = false := by
        cases h' : (c == 82)
        · rfl
        · exact absurd (by rw [eq_of_beq h']) (h t)
      generalize str (c :: t) = s at *
      go_enter Try.func48, Try.ntmps48
      go_wp2
      go_ret
      exact ⟨rfl, rfl⟩
  generalize str l = s at *
  have h1 : Calls Try.prog 43 #[.string s, .string ⟨#[82]⟩] w fun e w' => e = .returned (.tuple #[.string s, .bool false]) ∧ w = w' := by
    go_enter Try.func43, Try.ntmps43
    go_wp2_with fail
    refine hp.mono ?_
    rintro e w' ⟨rfl, rfl⟩
    go_wp2
    go_ret2
    exact ⟨rfl, rfl⟩
  go_enter Try.func40, Try.ntmps40
  go_wp2_with fail
  refine h1.mono ?_
  rintro e w' ⟨rfl, rfl⟩
  go_wp2
  go_ret2
  exact ⟨rfl, rfl⟩
end Go.Proofs.Ytjjfkakjkkpgaaa
