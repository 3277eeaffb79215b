/- Rows of bytes; the contract of frame.Of. -/
import Derived.Test.YtjjfkakjkkpgaaaPa
import Derived.Laws.CopyOwn
namespace Go.Proofs.Ytjjfkakjkkpgaaa
open Go.RowKit

/-- The slice value '.slice A n c' holds the bytes zs. -/
def Bl (w : World) (A : Option Addr) (n : Nat) (zs : List Int) : Prop :=
  zs.length = n ∧ (0 < n → ∃ ad, A = some ad ∧ ad.block < w.heap.size ∧ ∀ j, j < n → w.cell? (ad.add j) = some (.int .u8 (zs.getD j 0)))
theorem Bl.below {w w' : World} {A : Option Addr} {n : Nat} {zs : List Int} (h : Bl w A n zs) (hb : Below w.heap.size w w') : Bl w' A n zs :=
  ⟨h.1, fun hn => by
    obtain ⟨ad, e, hl, hc⟩ := h.2 hn
    exact ⟨ad, e, Nat.lt_of_lt_of_le hl hb.size, fun j hj => (hb.cell (by rw [block_of_add]; exact hl)).trans (hc j hj)⟩⟩
theorem Bl.at_ {w : World} {A : Option Addr} {n k : Nat} {zs : List Int} (h : Bl w A n zs) (hk : k < n) :
    ∃ ad, A = some ad ∧ w.cell? (ad.add k) = some (.int .u8 (zs.getD k 0)) := by
  obtain ⟨ad, e, _, hc⟩ := h.2 (by omega)
  exact ⟨ad, e, hc k hk⟩

/-- The frame of an identifier, and bytes. -/
def fdk (i : Int) (x : Bool) (zs : List Int) (k : Nat) : Fr := ⟨i, x, false, (zs.length : Int), fun j => if j < k then zs.getD j 0 else 0⟩
def fd (i : Int) (x : Bool) (zs : List Int) : Fr := ⟨i, x, false, (zs.length : Int), fun j => zs.getD j 0⟩
theorem fdk_end (i : Int) (x : Bool) (zs : List Int) : fdk i x zs zs.length = fd i x zs := by
  unfold fdk fd
  simp only [Fr.mk.injEq, true_and]
  funext j
  by_cases h : j < zs.length
  · rw [if_pos h]
  · rw [if_neg h]; simp [List.getD, List.getElem?_eq_none (Nat.le_of_not_lt h)]
theorem fdk_step (i : Int) (x : Bool) (zs : List Int) (k : Nat) : (fdk i x zs k).put k (zs.getD k 0) = fdk i x zs (k + 1) := by
  unfold Fr.put fdk
  simp only [Fr.mk.injEq, true_and]
  funext j
  rcases Nat.lt_trichotomy j k with h | h | h
  · rw [if_neg (by omega), if_pos h, if_pos (by omega)]
  · subst h; rw [if_pos rfl, if_pos (by omega)]
  · rw [if_neg (by omega), if_neg (by omega), if_neg (by omega)]
theorem fd_splice (i : Int) (x : Bool) (zs : List Int) (h : zs.length ≤ 8) : (splice (fdk i x zs 0).cells.toList 4 (zs.map (Value.int .u8))).toArray = (fd i x zs).cells :=
  match zs, h with
  | [], _ => rfl
  | [_], _ => rfl
  | [_, _], _ => rfl
  | [_, _, _], _ => rfl
  | [_, _, _, _], _ => rfl
  | [_, _, _, _, _], _ => rfl
  | [_, _, _, _, _, _], _ => rfl
  | [_, _, _, _, _, _, _], _ => rfl
  | [_, _, _, _, _, _, _, _], _ => rfl
def fo (i : Int) (x : Bool) (zs : List Int) : Fr := if (fd i x zs).may then fd i x zs else Fr.zero

set_option maxHeartbeats 800000 in
theorem frof_long (i : Int) (x : Bool) (A : Option Addr) (n cap : Nat) (w : World) (hn : 8 < n) :
    Calls Try.prog 22 #[.int .i64 i, .bool x, .slice A n cap] w fun e w' => e = .returned (.tuple #[Fr.zero.val, .int .i64 12]) ∧ Below w.heap.size w w' := by
  have hn' : (8 : Int) < (n : Int) := by omega
  go_enter Try.func22, Try.ntmps22
  go_wp2
  refine bodyPost_ret (v := .tuple #[Fr.zero.val, .int .i64 12]) (by rw [results_cell_tmp rfl]; go_simp; decide) rfl ⟨rfl, ?_⟩
  exact (Below.refl _ _).alloc (Nat.le_refl _) _

theorem bytes_one (zs : List Int) : ∀ v ∈ zs.map (Value.int .u8), v.oneCell' = true := by
  intro v hv
  obtain ⟨z, _, rfl⟩ := List.mem_map.1 hv
  rfl
theorem bl_src {w : World} {A : Option Addr} {n : Nat} {zs : List Int} {g : Nat} (h : Bl w A n zs) : 0 < (zs.map (Value.int .u8)).length → (some ⟨g, 4, none⟩ : Option Addr) = some ⟨g, 4, none⟩ ∧ ∃ ad, A = some ad ∧ ∀ j v, (zs.map (Value.int .u8))[j]? = some v → w.cell? (ad.add j) = some v := by
  intro h0
  rw [List.length_map, h.1] at h0
  obtain ⟨ad, e, _, hc⟩ := h.2 h0
  refine ⟨rfl, ad, e, fun j v hv => ?_⟩
  have hj : j < zs.length := by
    rcases Nat.lt_or_ge j zs.length with h | h
    · exact h
    · rw [List.getElem?_eq_none (by simp; exact h)] at hv; cases hv
  rw [hc j (by rw [← h.1]; exact hj)]
  rw [List.getElem?_map, getD_some zs j hj] at hv
  simpa using hv

/-- copy into a frame's bytes. -/
theorem copy_run (g : Nat) (A : Option Addr) (n cap : Nat) (zs : List Int) (i : Int) (x : Bool) (W : World) (hr : Bl W A n zs) (hn : n ≤ 8) (hf : Fb W g ⟨i, x, false, (n : Int), fun _ => 0⟩) :
    ∃ W', (Builtin.copy_ #[42, 42] 3 #[.slice (some ⟨g, 4, none⟩) 8 8, .slice A n cap]).run Try.prog W = .ok (.int .i64 (n : Int)) W' ∧ Fb W' g (fd i x zs) ∧ Below g W W' := by
  have hzl := hr.1
  have hs : (Try.prog.info? 5).map (·.size) = some 1 := by kernel_rfl
  have hk : fdk i x zs 0 = ⟨i, x, false, (n : Int), fun _ => 0⟩ := by unfold fdk; rw [hzl]; rfl
  rw [← hk] at hf
  have hsp := fd_splice i x zs (by omega)
  rcases Nat.eq_zero_or_pos n with h0 | h0
  · subst h0
    have hnil : zs = [] := List.eq_nil_of_length_eq_zero hzl
    subst hnil
    exact ⟨W, run_copy_none W _ _ _ 5 _ _ 8 8 0 cap Try.underlying42 hs rfl, hf, Below.refl _ _⟩
  · obtain ⟨_, ad, rfl, hsrc⟩ := bl_src (g := g) hr (by rw [List.length_map]; omega)
    have hrun := run_copy_row (P := Try.prog) W 42 42 3 5 g 4 8 8 ad n cap (fdk i x zs 0).cells 24 (zs.map (Value.int .u8)) Try.underlying42 hs hf (by rw [List.length_map, hzl]; exact (Nat.min_eq_left hn).symm) hsrc (by rw [List.length_map, hzl]; show 4 + n ≤ 12; omega) (bytes_one zs)
    rw [List.length_map, hzl] at hrun
    refine ⟨_, hrun, ?_, below_setRow (Below.refl _ _) (Nat.le_refl _) _⟩
    have h1 := setRow_heap W g _ ((fdk i x zs 0).cells.toList.take 4 ++ (zs.map (Value.int .u8)) ++ (fdk i x zs 0).cells.toList.drop (4 + n)).toArray _ _ hf
    unfold splice at hsp
    rw [List.length_map, hzl, ← List.append_assoc] at hsp
    rw [hsp] at h1
    rw [hsp]
    exact h1

set_option maxHeartbeats 1600000 in
theorem frof_any (i : Int) (x : Bool) (A : Option Addr) (n cap : Nat) (zs : List Int) (w : World) (hr : Bl w A n zs) (hn : n ≤ 8) :
    Calls Try.prog 22 #[.int .i64 i, .bool x, .slice A n cap] w fun e w' => e = .returned (.tuple #[(fo i x zs).val, .int .i64 (fd i x zs).err]) ∧ Below w.heap.size w w' := by
  have hn' : decide ((8 : Int) < (n : Int)) = false := by simp; omega
  have A0 := Lib.hid (fb_two1 w Fr.zero ⟨i, x, false, (n : Int), fun _ => 0⟩)
  have A2 := Lib.hid (alloc2 w (.cells Fr.zero.cells 24) (.cells (Fr.cells ⟨i, x, false, (n : Int), fun _ => 0⟩) 24))
  have HCR := Lib.hid (copy_run (w.heap.size + 1) A n cap zs i x ((w.alloc (.cells #[.int .i64 0, .bool false, .bool false, .int .i64 0, .int .u8 0, .int .u8 0, .int .u8 0, .int .u8 0, .int .u8 0, .int .u8 0, .int .u8 0, .int .u8 0] 24)).alloc (.cells #[.int .i64 i, .bool x, .bool false, .int .i64 (n : Int), .int .u8 0, .int .u8 0, .int .u8 0, .int .u8 0, .int .u8 0, .int .u8 0, .int .u8 0, .int .u8 0] 24)) (hr.below A2.out) hn (fb_two2 w Fr.zero ⟨i, x, false, (n : Int), fun _ => 0⟩))
  have HFO := Lib.hid (show ((fd i x zs).may = true ∧ fo i x zs = fd i x zs ∧ (fd i x zs).err = 0) ∨ ((fd i x zs).may = false ∧ fo i x zs = Fr.zero ∧ (fd i x zs).err = 14) by
    unfold fo
    cases hm : (fd i x zs).may
    · exact .inr ⟨rfl, by simp, err_no hm⟩
    · exact .inl ⟨rfl, by simp, err_ok hm⟩)
  clear hr
  go_enter Try.func22, Try.ntmps22
  go_wp2_with fail
  obtain ⟨w4, hrun, hfb, hb4⟩ := HCR.out
  rw [hrun]
  have HZ := Lib.hid (A0.out.below hb4 (by omega))
  have HB4 := Lib.hid (A2.out.trans (hb4.mono (by omega)))
  have HG := Lib.hid hfb
  clear HCR hrun hfb hb4 A0 A2
  obtain ⟨F, hF⟩ : ∃ F, fd i x zs = F := ⟨_, rfl⟩
  obtain ⟨G, hG⟩ : ∃ G, fo i x zs = G := ⟨_, rfl⟩
  rw [hF, hG] at HFO
  rw [hF] at HG
  have EF := Lib.hid hF; have EG := Lib.hid hG
  clear hF hG
  obtain ⟨b0, b1, b2, b3, b4, b5, b6, b7, b8, b9, b10, b11⟩ := HG.out.bx
  go_wp2_with fail
  refine (check_any F _).mono ?_
  rintro e w5 ⟨rfl, hb5⟩
  have HZ5 := Lib.hid (HZ.out.below hb5 HZ.out.lt)
  have HG5 := Lib.hid (HG.out.below hb5 HG.out.lt)
  have HB5 := Lib.hid (nxt HB4.out hb5)
  clear b0 b1 b2 b3 b4 b5 b6 b7 b8 b9 b10 b11
  clear HZ HG HB4 hb5
  obtain ⟨c0, c1, c2, c3, c4, c5, c6, c7, c8, c9, c10, c11⟩ := HZ5.out.bx
  obtain ⟨b0, b1, b2, b3, b4, b5, b6, b7, b8, b9, b10, b11⟩ := HG5.out.bx
  have fz := fun i => HZ5.out.frozen i
  rcases HFO.out with ⟨_, h1, h2⟩ | ⟨_, h1, h2⟩
  · rw [h2]
    have H1 := Lib.hid h1; have H2 := Lib.hid h2
    clear h1 h2
    go_wp2
    refine bodyPost_ret (v := .tuple #[F.val, .int .i64 0]) (by rw [results_cell_tmp rfl]; go_simp) rfl ⟨by rw [EF.out, EG.out, H1.out, H2.out], ?_⟩
    exact set12 HB5.out (Nat.le_refl _) _ _ _ _ _ _ _ _ _ _ _ _
  · rw [h2]
    have H1 := Lib.hid h1; have H2 := Lib.hid h2
    clear h1 h2
    go_wp2
    refine bodyPost_ret (v := .tuple #[Fr.zero.val, .int .i64 14]) (by rw [results_cell_tmp rfl]; go_simp; decide) rfl ⟨by rw [EF.out, EG.out, H1.out, H2.out], ?_⟩
    exact set12 HB5.out (Nat.le_refl _) _ _ _ _ _ _ _ _ _ _ _ _
end Go.Proofs.Ytjjfkakjkkpgaaa
