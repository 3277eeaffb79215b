/- The chapter's examples. -/
import Derived.Test.YtldhnbohpnkcpaaQO
namespace Go.Proofs.Ytldhnbohpnkcpaa
open Go.RowKit
set_option linter.unusedSimpArgs false

theorem aw1 : pE 3 (smp 5) [] = 0 ∧ pL 3 (smp 5) [] = [smp 5] := ⟨by decide, rfl⟩
theorem aw2 : pE 3 (smp 3) [smp 5] = 0 ∧ pL 3 (smp 3) [smp 5] = [smp 3, smp 5] := ⟨by decide, rfl⟩
theorem aw3 : pE 3 (smp 4) [smp 3, smp 5] = 0 ∧ pL 3 (smp 4) [smp 3, smp 5] = [smp 3, smp 4, smp 5] := ⟨by decide, rfl⟩
theorem aw4 : dE (smp 4) [smp 3, smp 4, smp 5] = 0 ∧ drp (smp 4) [smp 3, smp 4, smp 5] = [smp 3, smp 5] := ⟨by decide, rfl⟩
theorem aw5 : pE 1 (smp 1) [] = 0 ∧ pL 1 (smp 1) [] = [smp 1] := ⟨by decide, rfl⟩
theorem aw6 : pE 1 (smp 0) [smp 1] = 15 ∧ pL 1 (smp 0) [smp 1] = [smp 1] := ⟨by decide, rfl⟩
theorem ok_put {m : Int} {f : Fr} {gs ys : List Fr} (h : Okq gs) (e : pL m f gs = ys) : Okq ys := by rw [← e]; exact pL_ok h
theorem lit_two (w : World) (f g : Fr) : Fown (w.alloc (.cells (fcs [f, g]).toArray 34)) w.heap.size (.slice (some ⟨w.heap.size, 0, none⟩) 2 2) [f, g] :=
  ⟨rfl, .inr ⟨_, 2, _, rfl, Nat.le_refl _, heap_alloc_new w _, Nat.le_refl _, by unfold maxLen; omega, rfl, rfl⟩⟩

set_option maxHeartbeats 3200000 in
set_option maxRecDepth 100000 in
theorem awake9 (w : World) : Calls Try.prog 8 #[] w fun e w' => e = .returned (.bool true) ∧ Below w.heap.size w w' := by
  go_enter Try.func8, Try.ntmps8
  go_wp2_with fail
  refine (new_ok 3 w (by omega) (by omega)).mono ?_
  rintro e w1 ⟨rfl, hq1, hb1⟩
  have hl1 := hb1.size
  go_wp2_with fail
  refine (new_ok 1 w1 (by omega) (by omega)).mono ?_
  rintro e w2 ⟨rfl, hp2, hb2⟩
  have hB2 := nxt hb1 hb2
  have hql := hq1.lt
  obtain ⟨k, hk⟩ : ∃ k, w1.heap.size = k := ⟨_, rfl⟩
  have hne : k ≠ w.heap.size := by omega
  have HQ := Lib.hid (show Que w2 w.heap.size w.heap.size _ 3 [] from hq1.next hb2)
  have HP := Lib.hid (show Que w2 w.heap.size k _ 1 [] from by rw [hk] at hp2; exact hp2.base (by omega))
  rw [hk]
  have HB := Lib.hid hB2
  have HS := Lib.hid (show Sep (.slice none 0 0) (.slice none 0 0) from .inl rfl)
  clear hb1 hq1 hb2 hp2 hB2 hl1 hk hql
  go_wp2_with fail
  refine (put_s 5 HQ.out ok_nil (by simp) HB.out.size).mono ?_
  rintro e w3 ⟨u3, rfl, hx, ht⟩
  rw [aw1.1]
  rw [aw1.2] at hx
  obtain ⟨hy, hs⟩ := ht.other HQ.out HP.out hne (HS.out.symm)
  have hB := HB.out.trans (ht.que HQ.out HB.out.size)
  clear HQ HP HB HS ht
  have HQ := Lib.hid hx; have HP := Lib.hid hy; have HB := Lib.hid hB; have HS := Lib.hid (hs.symm)
  clear hx hy hB hs
  go_wp2_with fail
  refine (put_s 3 HQ.out (ok_put ok_nil aw1.2) (by simp) HB.out.size).mono ?_
  rintro e w4 ⟨u4, rfl, hx, ht⟩
  rw [aw2.1]
  rw [aw2.2] at hx
  obtain ⟨hy, hs⟩ := ht.other HQ.out HP.out hne (HS.out.symm)
  have hB := HB.out.trans (ht.que HQ.out HB.out.size)
  clear HQ HP HB HS ht
  have HQ := Lib.hid hx; have HP := Lib.hid hy; have HB := Lib.hid hB; have HS := Lib.hid (hs.symm)
  clear hx hy hB hs
  go_wp2_with fail
  refine (put_s 4 HQ.out (ok_put (ok_put ok_nil aw1.2) aw2.2) (by simp) HB.out.size).mono ?_
  rintro e w5 ⟨u5, rfl, hx, ht⟩
  rw [aw3.1]
  rw [aw3.2] at hx
  obtain ⟨hy, hs⟩ := ht.other HQ.out HP.out hne (HS.out.symm)
  have hB := HB.out.trans (ht.que HQ.out HB.out.size)
  clear HQ HP HB HS ht
  have HQ := Lib.hid hx; have HP := Lib.hid hy; have HB := Lib.hid hB; have HS := Lib.hid (hs.symm)
  clear hx hy hB hs
  go_wp2_with fail
  refine (drop_s 4 HQ.out (by simp)).mono ?_
  rintro e w6 ⟨u6, rfl, hx, ht⟩
  rw [aw4.1]
  rw [aw4.2] at hx
  obtain ⟨hy, hs⟩ := ht.other HQ.out HP.out hne (HS.out.symm)
  have hB := HB.out.trans (ht.que HQ.out HB.out.size)
  clear HQ HP HB HS ht
  have HQ := Lib.hid hx; have HP := Lib.hid hy; have HB := Lib.hid hB; have HS := Lib.hid (hs.symm)
  clear hx hy hB hs
  go_wp2_with fail
  refine (put_s 1 HP.out ok_nil (by simp) HB.out.size).mono ?_
  rintro e w7 ⟨u7, rfl, hx, ht⟩
  rw [aw5.1]
  rw [aw5.2] at hx
  obtain ⟨hy, hs⟩ := ht.other HP.out HQ.out hne.symm (HS.out)
  have hB := HB.out.trans (ht.que HP.out HB.out.size)
  clear HQ HP HB HS ht
  have HP := Lib.hid hx; have HQ := Lib.hid hy; have HB := Lib.hid hB; have HS := Lib.hid (hs)
  clear hx hy hB hs
  go_wp2_with fail
  refine (all_q HQ.out (by simp)).mono ?_
  rintro e w8 ⟨u8, rfl, hu8, hb8⟩
  have HP8 := Lib.hid (HP.out.next hb8)
  have HB8 := Lib.hid (nxt HB.out hb8)
  have HU8 := Lib.hid hu8
  clear hu8 hb8
  go_wp2_with fail
  have hbl : Below w8.heap.size w8 (w8.alloc (.cells (fcs [smp 3, smp 5]).toArray 34)) := (Below.refl _ _).alloc (Nat.le_refl _) _
  refine (same_self (HU8.out.below hbl) (lit_two w8 (smp 3) (smp 5)) (by simp)).mono ?_
  rintro e w9 ⟨rfl, hb9⟩
  have HP9 := Lib.hid ((HP8.out.next hbl).next hb9)
  have HB9 := Lib.hid (nxt (nxt HB8.out hbl) hb9)
  clear HP8 HB8 HU8 hb9 hbl
  go_wp2_with fail
  refine (put_s 0 HP9.out (ok_put ok_nil aw5.2) (by simp) HB9.out.size).mono ?_
  rintro e w10 ⟨u10, rfl, hx, ht⟩
  rw [aw6.1]
  have HF := Lib.hid (HB9.out.trans (ht.que HP9.out HB9.out.size))
  clear hx ht
  go_wp2
  go_ret
  exact ⟨rfl, HF.out⟩
end Go.Proofs.Ytldhnbohpnkcpaa
