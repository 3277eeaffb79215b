/- The contract of the reference's Arb. -/
import Derived.Test.YtldhnbohpnkcpaaRd
import Derived.Deep.RegionHeld3
namespace Go.Proofs.Ytldhnbohpnkcpaa
open Go.RowKit

def RowOk (zs : List Int) (w : World) (e : Ending) (w' : World) : Prop :=
  ∃ A cap, e = .returned (.slice A zs.length cap) ∧ Il w' A zs.length zs ∧ Below w.heap.size w w'

theorem arb_short {f : Fr} {i : Nat} (hx : f.ext = false) (hi : f.id = (i : Int)) : ofB i 11 ++ [(f.rtr.toNat : Int), 0] = ofB f.num f.wid := by
  have e1 : f.num = i * 4 + f.rtr.toNat * 2 := by simp [Fr.num, hx, hi]
  have e2 : f.wid = 11 + 2 := by simp [Fr.wid, hx]
  rw [e1, e2, ofB_split]
  have hr : f.rtr.toNat ≤ 1 := by cases f.rtr <;> decide
  rw [show (i * 4 + f.rtr.toNat * 2) / 2 ^ 2 = i by omega]
  congr 1
  rw [ofB_snoc, ofB_snoc, ofB_zero]
  simp
  omega
theorem arb_long {f : Fr} {i : Nat} (hx : f.ext = true) (hi : f.id = (i : Int)) : ofB (i / 262144) 11 ++ [1, 1] ++ ofB (i % 262144) 18 ++ [(f.rtr.toNat : Int)] = ofB f.num f.wid := by
  have e1 : f.num = (i / 262144 * 4 + 3) * 524288 + i % 262144 * 2 + f.rtr.toNat := by simp [Fr.num, hx, hi]
  have e2 : f.wid = (11 + 2) + (18 + 1) := by simp [Fr.wid, hx]
  have hr : f.rtr.toNat ≤ 1 := by cases f.rtr <;> decide
  rw [e1, e2, ofB_split]
  rw [show ((i / 262144 * 4 + 3) * 524288 + i % 262144 * 2 + f.rtr.toNat) / 2 ^ (18 + 1) = i / 262144 * 4 + 3 by omega]
  rw [ofB_split (i / 262144 * 4 + 3) 11 2, show (i / 262144 * 4 + 3) / 2 ^ 2 = i / 262144 by omega]
  rw [ofB_snoc ((i / 262144 * 4 + 3) * 524288 + i % 262144 * 2 + f.rtr.toNat) 18]
  have e3 : ofB (i / 262144 * 4 + 3) 2 = [1, 1] := by
    rw [ofB_snoc, ofB_snoc, ofB_zero]; simp; omega
  have e4 : ofB (((i / 262144 * 4 + 3) * 524288 + i % 262144 * 2 + f.rtr.toNat) / 2) 18 = ofB (i % 262144) 18 := by
    rw [show ((i / 262144 * 4 + 3) * 524288 + i % 262144 * 2 + f.rtr.toNat) / 2 = (i / 262144 * 4 + 3) * 2 ^ 18 + i % 262144 by omega]
    unfold ofB
    apply List.map_congr_left
    intro j hj
    rw [List.mem_range] at hj
    unfold bit
    generalize i / 262144 * 4 + 3 = A
    obtain ⟨q, hq⟩ : ∃ q, 18 - 1 - j = q ∧ q < 18 := ⟨_, rfl, by omega⟩
    rw [hq.1]
    rw [show A * 2 ^ 18 = A * 2 ^ (17 - q) * 2 * 2 ^ q by
      rw [Nat.mul_assoc A, Nat.mul_assoc A, ← Nat.pow_succ, ← Nat.pow_add]; congr 2; omega]
    rw [Nat.add_comm, Nat.add_mul_div_right _ _ (Nat.two_pow_pos q), Nat.add_mul_mod_self_right]
  rw [e3, e4]
  rw [show ((i / 262144 * 4 + 3) * 524288 + i % 262144 * 2 + f.rtr.toNat) % 2 = f.rtr.toNat by omega]
  simp

theorem cell_alloc {w : World} {p : Addr} {v : Value} (h : w.cell? p = some v) (o : Obj) : (w.alloc o).cell? p = some v := (World.cell?_alloc_some w p o (by rw [h]; rfl)).trans h

set_option maxRecDepth 100000 in
set_option maxHeartbeats 1600000 in
theorem rarb_short (f : Fr) (w : World) (hm : f.may = true) (hx : f.ext = false) :
    Calls Try.prog 35 #[f.val] w (RowOk (ofB f.num f.wid) w) := by
  obtain ⟨h0, h1, _⟩ := may_parts hm
  obtain ⟨i, hi⟩ := Int.eq_ofNat_of_zero_le h0
  have hmax : i ≤ 536870911 := by
    have : f.id ≤ 536870911 := by revert h1; simp only [Fr.most]; split <;> omega
    omega
  have HE := Lib.hid (arb_short hx hi)
  have HB := Lib.hid (boxed f w)
  have hb0 : Bx (w.alloc (.cells f.cells 34)) w.heap.size f := bx_new w f
  have HX := Lib.hid hb0
  have hl : (ofB i 11).length = 11 := ofB_len _ _
  have HID := Lib.hid hi; have HEX := Lib.hid hx
  obtain ⟨gid, ext, r, n, d⟩ := f
  obtain rfl : gid = (i : Int) := hi
  obtain rfl : ext = false := hx
  clear hm h0 h1 hb0
  obtain ⟨rb, hrb⟩ : ∃ rb : Int, (r.toNat : Int) = rb := ⟨_, rfl⟩
  have HRB := Lib.hid hrb
  clear hrb
  have c0 := Lib.hid HX.out.1
  have c2 := Lib.hid HX.out.2.2.1
  go_enter Try.func35, Try.ntmps35
  go_wp2_with fail
  go_region_held3 (fun w' => w'.cell? ⟨w.heap.size, 0, none⟩ = some (.int .i64 (i : Int)) ∧ w'.cell? ⟨w.heap.size, 2, none⟩ = some (.bool r))
    (first
      | exact k4.out
      | exact k3.out
      | exact k1.out
      | exact ⟨c0.out, c2.out⟩
      | fail)
    (first
      | (go_at_call 42; (refine (digits_ok 11 i _ (by omega) hmax).mono ?_); rintro e w1 ⟨v1, rfl, ho1, hb1⟩; have HO := Lib.hid (show Own w1 (w.heap.size + 1) v1 (ofB i 11) from by simpa using ho1); have k1 := Lib.hid (And.intro ((hb1.cell (p := ⟨w.heap.size, 0, none⟩) (by simp)).trans c0.out) ((hb1.cell (p := ⟨w.heap.size, 2, none⟩) (by simp)).trans c2.out)); have hb1' := hb1.mono (show w.heap.size + 1 ≤ _ by simp); have HN := Lib.hid (Arr.new w1 .i64 3 [rb, 0]).il; have hs1 := hb1.size; have k3 := Lib.hid (And.intro (cell_alloc k1.out.1 (.cells (([rb, 0] : List Int).map (Value.int .i64)).toArray 3)) (cell_alloc k1.out.2 (.cells (([rb, 0] : List Int).map (Value.int .i64)).toArray 3))); clear ho1)
      | (go_at_call 43; (refine (flag_any r _).mono ?_); rintro e w2 ⟨rfl, rfl⟩; rw [HRB.out])
      | (refine step_append_ints2 _ (by rfl) (.tmp 9) (.tmp 13) (by rfl) (w.heap.size + 1) v1 (ofB i 11) (by rfl) (by exact HO.out.alloc _) (some ⟨w1.heap.size, 0, none⟩) 2 2 [rb, 0] (by rfl) (by exact HN.out) (by omega) (by simp at hs1; simp; omega) ?_; intro v4 w4 ho4 hg4 _; have hb4 := push_lit hb1' (by simp at hs1; omega) HO.out hg4; have k4 := Lib.hid (And.intro ((hb4.cell (p := ⟨w.heap.size, 0, none⟩) (by simp)).trans c0.out) ((hb4.cell (p := ⟨w.heap.size, 2, none⟩) (by simp)).trans c2.out)); have HO4 := Lib.hid ho4; clear ho4 hg4)
      | fail)
  obtain ⟨A4, cap4, rfl, hi4, _⟩ := HO4.out.il2
  have HB4 := Lib.hid (nxt (belowN HB.out 1) (hb4.mono (by simp)))
  go_wp2
  go_ret
  rw [← HE.out, HRB.out]
  exact ⟨A4, cap4, rfl, hi4, HB4.out⟩

set_option maxHeartbeats 1600000 in
theorem rarb_long (f : Fr) (w : World) (hm : f.may = true) (hx : f.ext = true) :
    Calls Try.prog 35 #[f.val] w (RowOk (ofB f.num f.wid) w) := by
  obtain ⟨h0, h1, _⟩ := may_parts hm
  obtain ⟨i, hi⟩ := Int.eq_ofNat_of_zero_le h0
  have hmax : i ≤ 536870911 := by
    have : f.id ≤ 536870911 := by revert h1; simp only [Fr.most]; split <;> omega
    omega
  have HE := Lib.hid (arb_long hx hi)
  have HB := Lib.hid (boxed f w)
  have HX := Lib.hid (bx_new w f)
  obtain ⟨gid, ext, r, n, d⟩ := f
  obtain rfl : gid = (i : Int) := hi
  obtain rfl : ext = true := hx
  clear hm h0 h1
  have c0 := Lib.hid HX.out.1
  have c2 := Lib.hid HX.out.2.2.1
  obtain ⟨q, hq⟩ : ∃ q, i / 262144 = q := ⟨_, rfl⟩
  obtain ⟨m, hmd⟩ : ∃ m, i % 262144 = m := ⟨_, rfl⟩
  have e1 : (i : Int) / 262144 = (q : Int) := by omega
  have e2 : (i : Int) % 262144 = (m : Int) := by omega
  have HD1 := Lib.hid (digits_ok 11 q · (by omega) (by omega))
  have HD2 := Lib.hid (digits_ok 18 m · (by omega) (by omega))
  rw [hq, hmd] at HE
  obtain ⟨rb, hrb⟩ : ∃ rb : Int, (r.toNat : Int) = rb := ⟨_, rfl⟩
  have hl1 : (ofB q 11).length = 11 := ofB_len _ _
  have hl2 : (ofB m 18).length = 18 := ofB_len _ _
  have HRB := Lib.hid hrb
  have HL1 := Lib.hid hl1; have HL2 := Lib.hid hl2
  generalize ofB q 11 = l1 at *
  generalize ofB m 18 = l2 at *
  have hi' : (i : Int) ≤ 536870911 := by omega
  clear hrb hq hmd hl1 hl2
  go_enter Try.func35, Try.ntmps35
  go_wp2_with fail
  refine (HD1.out _).mono ?_
  rintro e w1 ⟨v1, rfl, ho1, hb1⟩
  have HO1 := Lib.hid (show Own w1 (w.heap.size + 1) v1 l1 from by simpa using ho1)
  have hb1' := hb1.mono (show w.heap.size + 1 ≤ _ by simp)
  have HN1 := Lib.hid (Arr.new w1 .i64 3 [1, 1]).il
  have hs1 : w.heap.size + 1 ≤ w1.heap.size := by have := hb1.size; simpa using this
  clear ho1 hb1
  go_wp2_with (first
    | (at_builtin; (refine append_ints2 _ rfl (.tmp 18) (.tmp 19) rfl (w.heap.size + 1) v1 l1 rfl (HO1.out.alloc _) _ 2 2 [1, 1] rfl HN1.out (by have := HL1.out; omega) (by simp; omega) ?_); intro v2 w2 ho2 hg2 _; have hb2 := push_lit hb1' hs1 HO1.out hg2; have HO2 := Lib.hid ho2; obtain ⟨k0, k2⟩ := And.intro ((hb2.cell (p := ⟨w.heap.size, 0, none⟩) (by simp)).trans c0.out) ((hb2.cell (p := ⟨w.heap.size, 2, none⟩) (by simp)).trans c2.out); clear ho2 hg2)
    | fail)
  refine (HD2.out _).mono ?_
  rintro e w3 ⟨v3, rfl, ho3, hb3⟩
  obtain ⟨A3, cap3, rfl, hi3, _⟩ := ho3.il2
  have HI3 := Lib.hid hi3
  have HO23 := Lib.hid (HO2.out.below hb3)
  have hb23 := hb2.trans (hb3.mono (show w.heap.size + 1 ≤ w2.heap.size by have := hb2.size; simp at this; omega))
  have hs3 : w.heap.size + 1 ≤ w3.heap.size := by have := hb23.size; simp at this; omega
  rw [HL2.out] at HI3 ⊢
  clear ho3 hi3 hb3 k0 k2
  go_wp2_with (first
    | (at_builtin; (refine append_ints2 _ rfl (.tmp 21) (.tmp 25) rfl (w.heap.size + 1) v2 (l1 ++ [1, 1]) rfl HO23.out A3 18 cap3 l2 rfl HI3.out (by have := HL1.out; simp; omega) hs3 ?_); intro v4 w4 ho4 hg4 _; have hb4 := hb23.grown hg4 hs3 HO23.out.row; have HO4 := Lib.hid ho4; obtain ⟨k0, k2⟩ := And.intro ((hb4.cell (p := ⟨w.heap.size, 0, none⟩) (by simp)).trans c0.out) ((hb4.cell (p := ⟨w.heap.size, 2, none⟩) (by simp)).trans c2.out); clear ho4 hg4)
    | fail)
  refine (flag_any r _).mono ?_
  rintro e w4' ⟨rfl, rfl⟩
  rw [HRB.out]
  have HN4 := Lib.hid (Arr.new w4 .i64 3 [rb]).il
  have hs4 : w.heap.size + 1 ≤ w4.heap.size := by have := hb4.size; simp at this; omega
  go_wp2_with (first
    | (at_builtin; (refine append_ints2 _ rfl (.tmp 27) (.tmp 31) rfl (w.heap.size + 1) v4 (l1 ++ [1, 1] ++ l2) rfl (HO4.out.alloc _) _ 1 1 [rb] rfl HN4.out (by have := HL1.out; have := HL2.out; simp; omega) (by simp; omega) ?_); intro v5 w5 ho5 hg5 _; have hb5 := push_lit hb4 hs4 HO4.out hg5; have HO5 := Lib.hid ho5; clear ho5 hg5)
    | fail)
  obtain ⟨A5, cap5, rfl, hi5, _⟩ := HO5.out.il2
  go_ret
  rw [← HE.out, HRB.out]
  exact ⟨A5, cap5, rfl, hi5, HB.out.trans (hb5.mono (by simp))⟩

theorem rarb_ok (f : Fr) (w : World) (hm : f.may = true) : Calls Try.prog 35 #[f.val] w (RowOk (ofB f.num f.wid) w) := by
  cases hx : f.ext
  · exact rarb_short f w hm hx
  · exact rarb_long f w hm hx
end Go.Proofs.Ytldhnbohpnkcpaa
