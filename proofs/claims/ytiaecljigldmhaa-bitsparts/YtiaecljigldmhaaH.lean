/- The contracts of bits.Longest, and of awake: the chapter's examples. -/
import Derived.Test.YtiaecljigldmhaaG
namespace Go.Proofs.Ytiaecljigldmhaa
open Go.RowKit

theorem most_step (rs : List Int) (k : Nat) (z : Int) (h : rs[k]? = some z) : most (rs.take (k + 1)) = max (most (rs.take k)) z := by
  rw [List.take_add_one, h]; exact most_snoc _ _
theorem runs_len (zs : List Int) : (runs zs).length ≤ zs.length := by
  rw [runs_cnt]
  suffices h : ∀ (l : List Int) (p : Option Int), cnt p l ≤ l.length from h zs none
  intro l
  induction l with
  | nil => intro p; simp [cnt]
  | cons x l ih => intro p; have := ih (some x); simp only [cnt, List.length_cons]; split <;> omega

set_option maxHeartbeats 400000 in
theorem longest_ok (A : Option Addr) (n cap : Nat) (zs : List Int) (w : World) (hr : Il w A n zs) (hn : n ≤ 100000) :
    Calls Try.prog 22 #[.slice A n cap] w fun e w' => e = .returned (.int .i64 (most (runs zs))) ∧ Below w.heap.size w w' := by
  have hrl := runs_len zs
  rw [hr.1] at hrl
  go_enter Try.func22, Try.ntmps22
  go_wp2_with (go_at_call 21; (with_reducible refine (runs_ok _ _ _ _ _ hr (by omega)).mono ?_); rintro e w1 ⟨A1, cap1, rfl, hi1, hb1⟩)
  have HR := Lib.hid hr; have HI := Lib.hid hi1
  clear hr hi1
  generalize hrs : runs zs = rs at *
  have HQ := Lib.hid hrs
  clear hrs
  go_loop [3, 9] (fun v i => ∃ k : Nat, k ≤ rs.length ∧ i = .int .i64 k ∧ v = .int .i64 (most (rs.take k))) (fun _ i => rs.length - (intOf i).toNat)
  case atStart => exact ⟨0, Nat.zero_le _, rfl, rfl⟩
  case round =>
    obtain ⟨k, hk, rfl, rfl⟩ := hrel
    by_cases hlt : k < rs.length
    · obtain ⟨ad, z, rfl, hz, hc⟩ := HI.out.at_ hlt
      have HS := Lib.hid (most_step rs k z hz)
      have HZ := Lib.hid hz
      clear hz
      generalize most (rs.take k) = m at *
      go_wp2
      go_round
      case rel => exact ⟨k + 1, by omega, by go_num, val_int (by rw [HS.out]; split <;> omega)⟩
      case measure => simp [intOf]; omega
    · have HS := Lib.hid (show rs.take k = rs from List.take_of_length_le (by omega))
      go_wp2
      go_ret
      exact ⟨ret_int (by rw [HS.out, HQ.out]), hb1⟩
theorem ints_b (A B : Option Addr) (n m cap cap' : Nat) (xs ys : List Int) (w : World) (ha : Il w A n xs) (hb : Il w B m ys) (hn : n ≤ 100000) :
    Calls Try.prog 16 #[.slice A n cap, .slice B m cap'] w fun e w' => e = .returned (.bool (xs == ys)) ∧ Below w.heap.size w w' :=
  (ints_any A B n m cap cap' xs ys w ha hb hn).mono fun _ _ ⟨he, q, hq⟩ => ⟨he, by rw [hq]; exact belowN (Below.refl _ _) q⟩

theorem of54 (w : World) : Calls Try.prog 15 #[.int .u64 5, .int .i64 4] w (SlOk [0, 1, 0, 1] w) := by
  have h := of_ok 5 4 w (by omega) (by omega)
  rw [show ofB 5 4 = [0, 1, 0, 1] from by decide] at h
  exact h
theorem lvl0101 : ∀ z ∈ ([0, 1, 0, 1] : List Int), lvl z = true := by decide
theorem txt0101 : txt [0, 1, 0, 1] = ⟨#[48, 49, 48, 49]⟩ := by
  apply ByteArray.ext; decide
theorem mis01x : mis [48, 49, 120] = 2 := by decide
theorem parse01x (w : World) : Calls Try.prog 14 #[.string ⟨#[48, 49, 120]⟩] w fun e w' => e = .returned (.tuple #[.slice none 0 0, .int .i64 2, .int .i64 11]) ∧ w = w' := by
  have h := parse_bad ⟨#[48, 49, 120]⟩ w (by decide) (by decide)
  have e : mis (⟨#[48, 49, 120]⟩ : ByteArray).data.toList = 2 := by decide
  rw [e] at h
  exact h
theorem runs110 : runs [1, 1, 0] = [2, 1] := by decide

theorem value5 (A : Option Addr) (cap : Nat) (w : World) (h : Il w A 4 [0, 1, 0, 1]) : Calls Try.prog 18 #[.slice A 4 cap] w fun e w' => e = .returned (.tuple #[.int .u64 5, .int .i64 0]) ∧ w = w' := by
  have h := value_ok A 4 cap _ w h (by omega) lvl0101
  rw [show val [0, 1, 0, 1] = 5 from by decide] at h
  exact h
theorem text5 (A : Option Addr) (cap : Nat) (w : World) (h : Il w A 4 [0, 1, 0, 1]) : Calls Try.prog 11 #[.slice A 4 cap] w fun e w' => e = .returned (.tuple #[.string ⟨#[48, 49, 48, 49]⟩, .int .i64 0, .int .i64 0]) ∧ Below w.heap.size w w' := by
  have h := text_ok A 4 cap _ w h (by omega) lvl0101
  rw [txt0101] at h
  exact h

set_option maxHeartbeats 400000 in
theorem awake_ok (w : World) : Calls Try.prog 9 #[] w fun e w' => e = .returned (.bool true) ∧ Below w.heap.size w w' := by
  go_enter Try.func9, Try.ntmps9
  go_wp2_with fail
  refine (of54 _).mono ?_
  rintro e w1 ⟨A, cap, rfl, hi, hb1⟩
  have hi' : Il w1 A 4 [0, 1, 0, 1] := hi
  have HI := Lib.hid hi'
  clear hi hi'
  go_wp2_with fail
  refine (value5 _ _ _ HI.out).mono ?_
  rintro e w1 ⟨rfl, rfl⟩
  go_wp2_with fail
  refine (text5 _ _ _ HI.out).mono ?_
  rintro e w2 ⟨rfl, hb2⟩
  go_wp2_with fail
  refine (parse01x _).mono ?_
  rintro e w2 ⟨rfl, rfl⟩
  go_wp2_with fail
  have H1 := Lib.hid (((HI.out.below hb2).alloc (.cells #[.int .i64 0, .int .i64 1, .int .i64 0, .int .i64 1] 3)))
  have H2 := Lib.hid (Arr.new w2 .i64 3 [0, 1, 0, 1]).il
  refine (ints_b _ _ _ _ _ _ _ _ _ H1.out H2.out (by omega)).mono ?_
  rintro e w3 ⟨rfl, hb3⟩
  have hbb : Below w.heap.size w w3 := ((hb1.trans (hb2.mono hb1.size)).alloc (Nat.le_trans hb1.size hb2.size) _).trans (hb3.mono (by have := hb1.size; have := hb2.size; simp; omega))
  clear hb1 hb2 hb3 H1 H2 HI
  rw [show (([0, 1, 0, 1] : List Int) == [0, 1, 0, 1]) = true from rfl]
  go_wp2_with fail
  have H1 := Lib.hid (Arr.new w3 .i64 3 [1, 1, 0]).il
  refine (runs_ok _ _ _ _ _ H1.out (by simp)).mono ?_
  rintro e w4 ⟨A4, cap4, rfl, hi4, hb4⟩
  rw [runs110] at hi4 ⊢
  have hbc : Below w.heap.size w w4 := (hbb.alloc hbb.size _).trans (hb4.mono (by have := hbb.size; simp; omega))
  have hi5 : Il w4 A4 2 [2, 1] := hi4
  have HI := Lib.hid hi5
  clear hi4 hi5 hb4 hbb H1
  go_wp2_with fail
  have H2 := Lib.hid (Arr.new w4 .i64 3 [2, 1]).il
  refine (ints_b _ _ _ _ _ _ _ _ _ (HI.out.alloc _) H2.out (by omega)).mono ?_
  rintro e w5 ⟨rfl, hb5⟩
  have hbd : Below w.heap.size w w5 := (hbc.alloc hbc.size _).trans (hb5.mono (by have := hbc.size; simp; omega))
  clear hbc hb5 HI H2
  rw [show (([2, 1] : List Int) == [2, 1]) = true from rfl]
  go_wp2
  go_ret
  exact ⟨rfl, hbd⟩
end Go.Proofs.Ytiaecljigldmhaa
