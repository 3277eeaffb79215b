/- The contract of frame.Text. -/
import Derived.Test.YtjjfkakjkkpgaaaSp
import Derived.Test.YtjjfkakjkkpgaaaAr
namespace Go.Proofs.Ytjjfkakjkkpgaaa
open Go.RowKit

/-- The data of a frame are bytes. -/
def Fr.wf (f : Fr) : Prop := ∀ k, k < 8 → 0 ≤ f.d k ∧ f.d k ≤ 255
/-- The pairs of digits of the first n bytes. -/
def prs (d : Nat → Int) : Nat → List UInt8
  | 0 => []
  | n + 1 => prs d n ++ hx 2 (d n).toNat
theorem prs_len (d : Nat → Int) : ∀ n, (prs d n).length = 2 * n := by
  intro n
  induction n with
  | zero => rfl
  | succ n ih => rw [prs, List.length_append, ih, hx_len]; omega
def Fr.head (f : Fr) : List UInt8 := hx (if f.ext then 8 else 3) f.id.toNat ++ [35]
def Fr.tail (f : Fr) : List UInt8 := if f.rtr then 82 :: hx 1 f.len.toNat else prs f.d f.len.toNat
/-- The text of a frame. -/
def Fr.text (f : Fr) : List UInt8 := f.head ++ f.tail
theorem head_len (f : Fr) : f.head.length ≤ 9 := by
  unfold Fr.head; rw [List.length_append, hx_len]; split <;> simp
theorem Bx.lt {w : World} {g : Nat} {f : Fr} (h : Bx w g f) : g < w.heap.size := World.block_lt_of_cell? w ⟨g, 0, none⟩ h.1
theorem Bx.data {w : World} {g : Nat} {f : Fr} (h : Bx w g f) (k : Nat) (hk : k < 8) : w.cell? ⟨g, 4 + k, none⟩ = some (.int .u8 (f.d k)) := by
  obtain ⟨c0, c1, c2, c3, c4, c5, c6, c7, c8, c9, c10, c11⟩ := h
  match k, hk with
  | 0, _ => exact c4
  | 1, _ => exact c5
  | 2, _ => exact c6
  | 3, _ => exact c7
  | 4, _ => exact c8
  | 5, _ => exact c9
  | 6, _ => exact c10
  | 7, _ => exact c11

set_option maxHeartbeats 400000 in
theorem text_bad (f : Fr) (w : World) (h : f.may = false) :
    Calls Try.prog 18 #[f.val] w fun e w' => e = .returned (.tuple #[.string ⟨#[]⟩, .int .i64 14]) ∧ Below w.heap.size w w' := by
  go_enter Try.func18, Try.ntmps18
  go_wp2_with fail
  refine (check_any f _).mono ?_
  rintro e w1 ⟨rfl, hb1⟩
  rw [err_no h]
  go_wp2
  go_ret2
  exact ⟨rfl, nxt (boxed f w) hb1⟩

theorem app_35 (l : List UInt8) : str l ++ (⟨#[35]⟩ : ByteArray) = str (l ++ [35]) := str_append l [35]
theorem app_82 (l : List UInt8) : str l ++ (⟨#[82]⟩ : ByteArray) = str (l ++ [82]) := str_append l [82]

set_option maxHeartbeats 1600000 in
theorem text_ok (f : Fr) (w : World) (h : f.may = true) (hwf : f.wf) :
    Calls Try.prog 18 #[f.val] w fun e w' => e = .returned (.tuple #[.string (str f.text), .int .i64 0]) ∧ Below w.heap.size w w' := by
  obtain ⟨h0, h1, h2, h3, -⟩ := may_parts h
  have HM := Lib.hid h
  have HB := Lib.hid (boxed f w)
  have HW := Lib.hid hwf
  have HH := Lib.hid (head_len f)
  obtain ⟨i, hi⟩ := Int.eq_ofNat_of_zero_le h0
  obtain ⟨n, hn⟩ := Int.eq_ofNat_of_zero_le h2
  have hmax : i ≤ 536870911 := by
    have : f.id ≤ 536870911 := by revert h1; simp only [Fr.most]; split <;> omega
    omega
  have hn8 : n ≤ 8 := by omega
  have hn8' : (n : Int) ≤ 8 := by omega
  have E1 := Lib.hid hi; have E2 := Lib.hid hn
  obtain ⟨wd, hwd, hw8⟩ : ∃ wd : Nat, (if f.ext then 8 else 3) = wd ∧ wd ≤ 8 := ⟨_, rfl, by split <;> omega⟩
  have E3 := Lib.hid (show f.head = hx wd i ++ [35] by unfold Fr.head; rw [hwd, hi]; rfl)
  have E4 : (f.ext = false ∧ wd = 3) ∨ (f.ext = true ∧ wd = 8) := by
    cases hx : f.ext <;> simp [hx] at hwd <;> simp [← hwd]
  have E4 := Lib.hid E4
  clear h h0 h1 h2 h3 hi hn hwd hwf
  go_enter Try.func18, Try.ntmps18
  go_wp2_with fail
  refine (check_any f _).mono ?_
  rintro e w1 ⟨rfl, hb1⟩
  rw [err_ok HM.out]
  have HB1 := Lib.hid (nxt HB.out hb1)
  have HX1 := Lib.hid (bx_past hb1)
  have hs1 := hb1.size
  simp at hs1
  obtain ⟨c0, c1, c2, c3, c4, c5, c6, c7, c8, c9, c10, c11⟩ := HX1.out
  clear hb1 HB
  rw [E1.out] at c0
  rw [E2.out] at c3
  rcases E4.out with ⟨hxt, hwd⟩ | ⟨hxt, hwd⟩
  all_goals
    rw [hxt] at c1
    have HWD := Lib.hid hwd
    clear hwd
    have hsp := spell_ok i wd w1 hmax hw8
    rw [HWD.out] at hsp
    go_wp2_with fail
    refine hsp.mono ?_
    rw [← HWD.out]
    clear hsp
    rintro e w2 ⟨rfl, hb2⟩
    have HB2 := Lib.hid (nxt HB1.out hb2)
    have HX2 := Lib.hid (HX1.out.below hb2 (by omega))
    have hs2 := hb2.size
    clear c0 c1 c2 c3 c4 c5 c6 c7 c8 c9 c10 c11
    clear hb2 HX1 HB1
    obtain ⟨c0, c1, c2, c3, c4, c5, c6, c7, c8, c9, c10, c11⟩ := HX2.out
    rw [E2.out] at c3
    have L1 := Lib.hid (app_35 (hx wd i))
    have hz1 : (str (hx wd i)).size ≤ 8 := by rw [str_size, hx_len]; exact hw8
    have L2 := Lib.hid E3.out
    generalize str (hx wd i) = t at *
    cases hr : f.rtr
    · rw [hr] at c2
      have ET := Lib.hid (show ∀ k, k = n → f.text = f.head ++ prs f.d k from fun k hk => by
        unfold Fr.text Fr.tail; rw [hr, E2.out, hk]; rfl)
      have D0 := Lib.hid (show (t ++ (⟨#[35]⟩ : ByteArray)) = str (f.head ++ prs f.d 0) by rw [L1.out, E3.out]; simp [prs])
      clear hr
      go_wp2
      go_loopw [6, 34] (fun a j wr => ∃ k : Nat, k ≤ n ∧ j = .int .i64 k ∧ a = .string (str (f.head ++ prs f.d k)) ∧ Bx wr w.heap.size f ∧ Below w.heap.size w wr) (fun _ j _ => n - (intOf j).toNat)
      case atStart => exact ⟨0, Nat.zero_le _, rfl, by rw [D0.out], HX2.out, HB2.out⟩
      case round =>
        obtain ⟨k, hk, rfl, rfl, hbx, hbel⟩ := hrel
        have HX := Lib.hid hbx
        have hsz : (str (f.head ++ prs f.d k)).size ≤ 25 := by
          rw [str_size, List.length_append, prs_len]; have := HH.out; omega
        clear c0 c1 c2 c3 c4 c5 c6 c7 c8 c9 c10 c11
        by_cases hlt : k < n
        · have hcell := hbx.data k (by omega)
          have hlt' : (k : Int) < (n : Int) := by omega
          obtain ⟨v, hv, hv2⟩ : ∃ v : Nat, f.d k = (v : Int) ∧ v ≤ 255 := ⟨(f.d k).toNat, by have := HW.out k (by omega); omega, by have := HW.out k (by omega); omega⟩
          rw [hv] at hcell
          have HP := Lib.hid (show str (f.head ++ prs f.d k) ++ str (hx 2 v) = str (f.head ++ prs f.d (k + 1)) by rw [str_append, List.append_assoc, prs, hv]; rfl)
          have hz2 : (str (hx 2 v)).size = 2 := by rw [str_size, hx_len]
          have hv3 : (v : Int) ≤ 255 := by omega
          generalize str (f.head ++ prs f.d k) = u at *
          clear hbx hv
          go_wp2_with fail
          refine (spell_ok v 2 _ (by omega) (by omega)).mono ?_
          rintro e w3 ⟨rfl, hb3⟩
          generalize str (hx 2 v) = q at *
          go_wp2
          go_roundw
          case rel => exact ⟨k + 1, by omega, by go_num, by rw [HP.out], HX.out.below hb3 HX.out.lt, nxt hbel hb3⟩
          case measure => simp [intOf]; omega
        · go_wp2
          go_ret2
          exact ⟨by rw [ET.out k (by omega)]; rfl, hbel⟩
    · rw [hr] at c2
      have ET := Lib.hid (show (t ++ (⟨#[35]⟩ : ByteArray)) ++ (⟨#[82]⟩ : ByteArray) ++ str (hx 1 n) = str f.text by
        rw [L1.out, app_82, str_append, ← E3.out]
        unfold Fr.text Fr.tail; rw [hr, E2.out]; simp)
      clear hr
      have hz2 : (str (hx 1 n)).size = 1 := by rw [str_size, hx_len]
      go_wp2_with fail
      refine (spell_ok n 1 _ (by omega) (by omega)).mono ?_
      rintro e w3 ⟨rfl, hb3⟩
      generalize str (hx 1 n) = q at *
      go_wp2
      go_ret2
      exact ⟨by rw [← ET.out]; rfl, nxt HB2.out hb3⟩
end Go.Proofs.Ytjjfkakjkkpgaaa
