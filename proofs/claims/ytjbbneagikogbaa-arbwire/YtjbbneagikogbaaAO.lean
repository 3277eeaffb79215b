/- The contracts of arb.Order and arb.Winner. -/
import Derived.Test.YtjbbneagikogbaaAP
namespace Go.Proofs.Ytjbbneagikogbaa
open Go.RowKit

/-- The first k places, zeros behind. -/
def pl (n k : Nat) : List Nat := List.range k ++ List.replicate (n - k) 0
theorem pl_len {n k : Nat} (h : k ≤ n) : (pl n k).length = n := by simp [pl]; omega
theorem pl_step {n k : Nat} (h : k < n) : (pl n k).set k k = pl n (k + 1) := by
  unfold pl
  rw [List.set_append_right _ _ (by simp), List.length_range, Nat.sub_self, show n - k = (n - (k + 1)) + 1 by omega, List.replicate_succ, List.set_cons_zero, List.range_succ]
  simp
theorem pl_all (n : Nat) : pl n n = List.range n := by simp [pl]
theorem asI_zero (n : Nat) : asI (pl n 0) = List.replicate n (0 : Int) := by simp [pl, asI]

section
variable {κ : Nat → Nat} {n : Nat} {qs : List Nat}
theorem adj_same (hp : qs.Perm (List.range n)) {i : Nat} (hi : i + 1 < n) (h : κ (qs.getD i 0) = κ (qs.getD (i + 1) 0)) : ∃ a b, a < b ∧ b < n ∧ κ a = κ b := by
  have hl : qs.length = n := by rw [hp.length_eq, List.length_range]
  have hd : qs.Nodup := hp.nodup_iff.2 List.nodup_range
  have m1 := List.mem_range.1 (hp.mem_iff.1 (getD_mem (ps := qs) (j := i) (by omega)))
  have m2 := List.mem_range.1 (hp.mem_iff.1 (getD_mem (ps := qs) (j := i + 1) (by omega)))
  have hne : qs.getD i 0 ≠ qs.getD (i + 1) 0 := by
    intro e
    have h1 : i < qs.length := by omega
    have h2 : i + 1 < qs.length := by omega
    simp only [List.getD, List.getElem?_eq_getElem h1, List.getElem?_eq_getElem h2, Option.getD_some] at e
    have := List.pairwise_iff_getElem.1 hd i (i + 1) h1 h2 (by omega)
    exact this e
  rcases Nat.lt_or_gt_of_ne hne with hl | hl
  · exact ⟨_, _, hl, m2, h⟩
  · exact ⟨_, _, hl, m1, h.symm⟩
theorem up_srt (hp : qs.Perm (List.range n)) (hu : Up κ qs n) (h : ∀ i, i + 1 < n → κ (qs.getD i 0) ≠ κ (qs.getD (i + 1) 0)) : Srt κ n qs := by
  refine ⟨hp, fun a b hab hb => ?_⟩
  obtain ⟨c, rfl⟩ : ∃ c, b = c + 1 := ⟨b - 1, by omega⟩
  have h1 := hu c (c + 1) (by omega) hb
  have h2 := h c hb
  by_cases e : a = c
  · subst e; omega
  · have := hu a c (by omega) (by omega)
    omega
end

/-- What Order answers, of frames that may be. -/
def OrdRes (fs : Nat → Fr) (n : Nat) (w : World) (e : Ending) (w' : World) : Prop :=
  Below w.heap.size w w' ∧ ((e = .returned (.tuple #[.slice none 0 0, .int .i64 23]) ∧ ∃ a b, a < b ∧ b < n ∧ (fs a).plc = (fs b).plc) ∨
    ∃ g c ps, e = .returned (.tuple #[.slice (some ⟨g, 0, none⟩) n c, .int .i64 0]) ∧ Srt (fun i => (fs i).plc) n ps ∧ Own w' w.heap.size (.slice (some ⟨g, 0, none⟩) n c) (asI ps))

set_option maxRecDepth 100000 in
set_option maxHeartbeats 3200000 in
theorem order_in (fs : Nat → Fr) (A : Option Addr) (n cap : Nat) (w : World) (hr : Fl w A n fs) (hn : n ≤ 12) (hmay : ∀ i, i < n → (fs i).may = true) :
    Calls Try.prog 16 #[.slice A n cap] w (OrdRes fs n w) := by
  have HM := Lib.hid hmay
  have hmk := make22 n (by omega)
  have hmf : ∀ (fn : Fn) (first cap : Array Value) (w : World), (Instr.makeFunc fn first cap).run Try.prog w = .ok (.func fn first cap) w := fun _ _ _ _ => rfl
  have HB1 := Lib.hid ((Below.refl w.heap.size w).alloc (Nat.le_refl _) (.cells #[.slice A n cap] 33))
  have HS := Lib.hid (show Sees (w.alloc (.cells #[.slice A n cap] 33)) w.heap.size A n cap fs from ⟨by simp, hr.below HB1.out⟩)
  clear hr hmay
  go_enter Try.func16, Try.ntmps16
  go_wp2
  have HO := Lib.hid (Own.lit (w.alloc (.cells #[.slice A n cap] 33)) (w.heap.size + 1) (List.replicate n 0) (by simp) (by simp; omega))
  have HB2 := Lib.hid ((Below.refl (w.heap.size + 1) (w.alloc (.cells #[.slice A n cap] 33))).alloc (by simp) (.cells (Array.replicate n (Value.int .i64 0)) 3))
  have HZ := Lib.hid (show (w.alloc (.cells #[.slice A n cap] 33)).heap.size = w.heap.size + 1 by simp)
  rw [HZ.out, List.length_replicate, ← asI_zero, show ((asI (pl n 0)).map (Value.int .i64)).toArray = Array.replicate n (Value.int .i64 0) by rw [asI_zero]; simp] at HO
  generalize w.alloc (.cells #[.slice A n cap] 33) = w1 at *
  generalize w1.alloc (.cells (Array.replicate n (Value.int .i64 0)) 3) = w2 at *
  have HSORT := Lib.hid (fun w' hb ho => sort_any fs w.heap.size A n cap w1 HS.out hn HM.out (w.heap.size + 1) n (List.range n) (by simp) (by simp) w' hb ho (by rw [HZ.out]; exact Nat.le_refl _))
  rw [HZ.out] at HSORT
  go_loopw [14] (fun vi wr => ∃ k : Nat, k ≤ n ∧ vi = .int .i64 k ∧ Below (w.heap.size + 1) w1 wr ∧ Own wr (w.heap.size + 1) (.slice (some ⟨w.heap.size + 1, 0, none⟩) n n) (asI (pl n k))) (fun vi _ => n - (intOf vi).toNat)
  case atStart => exact ⟨0, Nat.zero_le _, rfl, HB2.out, HO.out⟩
  case round =>
    obtain ⟨k, hk, rfl, hbk, hok⟩ := hrel
    have HBK := Lib.hid hbk; have HOK := Lib.hid hok
    clear hbk hok
    by_cases hlt : k < n
    · have hbz : Below w1.heap.size w1 wr := by rw [HZ.out]; exact HBK.out
      obtain ⟨ad, rfl, hl, c0, c1, c2, c3, c4, c5, c6, c7, c8, c9, c10, c11⟩ := (HS.out.below hbz).row.at_ hlt
      have hlt' : (k : Int) < (n : Int) := by omega
      have HE := Lib.hid (err_ok (HM.out k hlt))
      clear hbz hl
      go_wp2_with fail
      refine (fcheck_any (fs k) _).mono ?_
      rintro e w3 ⟨rfl, hb3⟩
      rw [HE.out]
      have HB3 := Lib.hid (nxt (boxed (fs k) wr) hb3)
      have HO3 := Lib.hid (HOK.out.below HB3.out)
      have c := HO3.out.cell (j := k) (by rw [asI_len, pl_len (by omega)]; exact hlt)
      have f := HO3.out.frozen k
      have HOS := Lib.hid (HO3.out.put k (k : Int))
      rw [asI_set, pl_step hlt] at HOS
      have HBS := Lib.hid (((HBK.out.trans (HB3.out.mono (by rw [← HZ.out]; exact HBK.out.size))) : Below (w.heap.size + 1) w1 w3).setCell (p := ⟨w.heap.size + 1, k, none⟩) (Nat.le_refl _) (.int .i64 (k : Int)))
      clear hb3 c0 c1 c2 c3 c4 c5 c6 c7 c8 c9 c10 c11
      go_wp2
      go_roundw
      case rel => exact ⟨k + 1, by omega, by go_num, HBS.out, HOS.out⟩
      case measure => simp [intOf]; omega
    · obtain rfl : n = k := by omega
      have HOA := Lib.hid HOK.out
      rw [pl_all] at HOA
      clear HOK
      rename World => wo
      go_wp2_with fail
      refine (HSORT.out _ HBK.out HOA.out).mono ?_
      rintro e w4 ⟨rfl, hb4, qs, hq, hu, ho4⟩
      have HB4 := Lib.hid (show Below w1.heap.size w1 w4 by rw [HZ.out]; exact hb4); have HQ := Lib.hid hq; have HU := Lib.hid hu; have HO4 := Lib.hid ho4
      clear hb4 hq hu ho4
      go_wp2
      go_loopw [8] (fun vi wr => ∃ i : Nat, vi = .int .i64 i ∧ 1 ≤ i ∧ (i ≤ n ∨ n = 0 ∧ i = 1) ∧ (∀ m, m + 1 < i → (fs (qs.getD m 0)).plc ≠ (fs (qs.getD (m + 1) 0)).plc) ∧ Below w1.heap.size w1 wr ∧ Own wr (w.heap.size + 1) (.slice (some ⟨w.heap.size + 1, 0, none⟩) n n) (asI qs)) (fun vi _ => n + 1 - (intOf vi).toNat)
      case atStart => exact ⟨1, rfl, Nat.le_refl _, by omega, fun m hm => by omega, HB4.out, HO4.out⟩
      case round =>
        obtain ⟨i, rfl, hi1, hi2, hne, hbj, hoj⟩ := hrel
        have HNE := Lib.hid hne; have HBJ := Lib.hid hbj; have HOJ := Lib.hid hoj; have HI2 := Lib.hid hi2
        clear hne hbj hoj hi2
        by_cases hin : i < n
        · obtain ⟨j, rfl⟩ : ∃ j, i = j + 1 := ⟨i - 1, by omega⟩
          obtain ⟨ad, rfl, _, _⟩ := (HS.out.below HBJ.out).row (by omega)
          have HLQ := Lib.hid (show qs.length = n by rw [HQ.out.length_eq, List.length_range])
          have hln := HLQ.out
          obtain ⟨a, ha⟩ : ∃ a, qs.getD j 0 = a := ⟨_, rfl⟩
          obtain ⟨b, hb⟩ : ∃ b, qs.getD (j + 1) 0 = b := ⟨_, rfl⟩
          have HCA := Lib.hid (show ∀ w' : World, Own w' (w.heap.size + 1) (.slice (some ⟨w.heap.size + 1, 0, none⟩) n n) (asI qs) → w'.cell? ⟨w.heap.size + 1, j, none⟩ = some (.int .i64 a) from fun w' h => by rw [← ha, ← asI_getD]; exact h.cell (by rw [asI_len]; omega))
          have HCB := Lib.hid (show ∀ w' : World, Own w' (w.heap.size + 1) (.slice (some ⟨w.heap.size + 1, 0, none⟩) n n) (asI qs) → w'.cell? ⟨w.heap.size + 1, j + 1, none⟩ = some (.int .i64 b) from fun w' h => by rw [← hb, ← asI_getD]; exact h.cell (by rw [asI_len]; omega))
          have han : a < n := by rw [← ha]; exact List.mem_range.1 (HQ.out.mem_iff.1 (getD_mem (by omega)))
          have hbn : b < n := by rw [← hb]; exact List.mem_range.1 (HQ.out.mem_iff.1 (getD_mem (by omega)))
          have HA := Lib.hid ha; have HBB := Lib.hid hb
          clear ha hb hln
          have q1 : (0 : Int) ≤ (j : Int) + 1 := by omega
          have q2 : (j : Int) + 1 < (n : Int) := by omega
          have q3 : IntKind.i64.wrap (j : Int) = (j : Int) := by rw [IntKind.wrap_i64]; omega
          have q4 : j < n := by omega
          by_cases heq : (fs a).plc = (fs b).plc
          · have HC := Lib.hid (show ((fs a).plc == (fs b).plc) = true by simpa using heq)
            have HR := Lib.hid (adj_same (κ := fun i => (fs i).plc) HQ.out (i := j) (by omega) (by rw [HA.out, HBB.out]; exact heq))
            clear heq
            go_wp2_with fail
            refine wp_region_held_drew (S := fun w' => Below w1.heap.size w1 w' ∧ Own w' (w.heap.size + 1) (.slice (some ⟨w.heap.size + 1, 0, none⟩) n n) (asI qs)) (by kernel_rfl) (⟨belowN HBJ.out 1, HOJ.out⟩) (fun hHeld => ?_)
            refine takeH (i := 0) (v := .slice (some ad) n cap) rfl (by kernel_rfl) (by kernel_rfl) (by kernel_rfl) (fun _ _ _ h => h) (Or.inl ⟨by rfl, fun w hSw => ?_⟩) hHeld ?_
            · (have c := (HS.out.below hSw.1).box; clear hSw; go_simp)
            simp only [Act.put, List.setIfInBounds_toArray, List.set_cons_zero, List.set_cons_succ]
            refine takeH (i := 1) (v := (.slice (some ⟨w.heap.size + 1, 0, none⟩) n n)) rfl (by kernel_rfl) (by kernel_rfl) (by kernel_rfl) (fun _ _ _ h => h) (Or.inl ⟨by rfl, fun w hSw => ?_⟩) hHeld ?_
            · (clear hSw; go_simp)
            simp only [Act.put, List.setIfInBounds_toArray, List.set_cons_zero, List.set_cons_succ]
            refine takeH (i := 2) (v := .int .i64 (j + 1 : Nat)) rfl (by kernel_rfl) (by kernel_rfl) (by kernel_rfl) (fun _ _ _ h => h) (Or.inl ⟨by rfl, fun w hSw => ?_⟩) hHeld ?_
            · (clear hSw; go_simp)
            simp only [Act.put, List.setIfInBounds_toArray, List.set_cons_zero, List.set_cons_succ]
            refine takeH (i := 3) (v := .int .i64 j) rfl (by kernel_rfl) (by kernel_rfl) (by kernel_rfl) (fun _ _ _ h => h) (Or.inl ⟨by rfl, fun w hSw => ?_⟩) hHeld ?_
            · (clear hSw; go_simp)
            simp only [Act.put, List.setIfInBounds_toArray, List.set_cons_zero, List.set_cons_succ]
            refine takeH (i := 4) (v := .pointer (some ⟨w.heap.size + 1, j, none⟩)) rfl (by kernel_rfl) (by kernel_rfl) (by kernel_rfl) (fun _ _ _ h => h) (Or.inl ⟨by rfl, fun w hSw => ?_⟩) hHeld ?_
            · (clear hSw; go_simp)
            simp only [Act.put, List.setIfInBounds_toArray, List.set_cons_zero, List.set_cons_succ]
            refine takeH (i := 5) (v := .int .i64 a) rfl (by kernel_rfl) (by kernel_rfl) (by kernel_rfl) (fun _ _ _ h => h) (Or.inl ⟨by rfl, fun w hSw => ?_⟩) hHeld ?_
            · (have ca := HCA.out _ hSw.2; clear hSw; go_simp)
            simp only [Act.put, List.setIfInBounds_toArray, List.set_cons_zero, List.set_cons_succ]
            refine takeH (i := 6) (v := .pointer (some (ad.add (a * 12)))) rfl (by kernel_rfl) (by kernel_rfl) (by kernel_rfl) (fun _ _ _ h => h) (Or.inl ⟨by rfl, fun w hSw => ?_⟩) hHeld ?_
            · (clear hSw; go_simp)
            simp only [Act.put, List.setIfInBounds_toArray, List.set_cons_zero, List.set_cons_succ]
            refine takeH (i := 7) (v := (fs a).val) rfl (by kernel_rfl) (by kernel_rfl) (by kernel_rfl) (fun _ _ _ h => h) (Or.inl ⟨by rfl, fun w hSw => ?_⟩) hHeld ?_
            · (obtain ⟨c0, c1, c2, c3, c4, c5, c6, c7, c8, c9, c10, c11⟩ := (HS.out.below hSw.1).cells han; clear hSw; go_simp)
            simp only [Act.put, List.setIfInBounds_toArray, List.set_cons_zero, List.set_cons_succ]
            refine takeH (i := 8) (v := .slice (some ad) n cap) rfl (by kernel_rfl) (by kernel_rfl) (by kernel_rfl) (fun _ _ _ h => h) (Or.inl ⟨by rfl, fun w hSw => ?_⟩) hHeld ?_
            · (have c := (HS.out.below hSw.1).box; clear hSw; go_simp)
            simp only [Act.put, List.setIfInBounds_toArray, List.set_cons_zero, List.set_cons_succ]
            refine takeH (i := 9) (v := (.slice (some ⟨w.heap.size + 1, 0, none⟩) n n)) rfl (by kernel_rfl) (by kernel_rfl) (by kernel_rfl) (fun _ _ _ h => h) (Or.inl ⟨by rfl, fun w hSw => ?_⟩) hHeld ?_
            · (clear hSw; go_simp)
            simp only [Act.put, List.setIfInBounds_toArray, List.set_cons_zero, List.set_cons_succ]
            refine takeH (i := 10) (v := .int .i64 (j + 1 : Nat)) rfl (by kernel_rfl) (by kernel_rfl) (by kernel_rfl) (fun _ _ _ h => h) (Or.inl ⟨by rfl, fun w hSw => ?_⟩) hHeld ?_
            · (clear hSw; go_simp)
            simp only [Act.put, List.setIfInBounds_toArray, List.set_cons_zero, List.set_cons_succ]
            refine takeH (i := 11) (v := .pointer (some ⟨w.heap.size + 1, j + 1, none⟩)) rfl (by kernel_rfl) (by kernel_rfl) (by kernel_rfl) (fun _ _ _ h => h) (Or.inl ⟨by rfl, fun w hSw => ?_⟩) hHeld ?_
            · (clear hSw; go_simp)
            simp only [Act.put, List.setIfInBounds_toArray, List.set_cons_zero, List.set_cons_succ]
            refine takeH (i := 12) (v := .int .i64 b) rfl (by kernel_rfl) (by kernel_rfl) (by kernel_rfl) (fun _ _ _ h => h) (Or.inl ⟨by rfl, fun w hSw => ?_⟩) hHeld ?_
            · (have cb := HCB.out _ hSw.2; clear hSw; go_simp)
            simp only [Act.put, List.setIfInBounds_toArray, List.set_cons_zero, List.set_cons_succ]
            refine takeH (i := 13) (v := .pointer (some (ad.add (b * 12)))) rfl (by kernel_rfl) (by kernel_rfl) (by kernel_rfl) (fun _ _ _ h => h) (Or.inl ⟨by rfl, fun w hSw => ?_⟩) hHeld ?_
            · (clear hSw; go_simp)
            simp only [Act.put, List.setIfInBounds_toArray, List.set_cons_zero, List.set_cons_succ]
            refine takeH (i := 14) (v := (fs b).val) rfl (by kernel_rfl) (by kernel_rfl) (by kernel_rfl) (fun _ _ _ h => h) (Or.inl ⟨by rfl, fun w hSw => ?_⟩) hHeld ?_
            · (obtain ⟨c0, c1, c2, c3, c4, c5, c6, c7, c8, c9, c10, c11⟩ := (HS.out.below hSw.1).cells hbn; clear hSw; go_simp)
            simp only [Act.put, List.setIfInBounds_toArray, List.set_cons_zero, List.set_cons_succ]
            refine wpAnyH_ready (rs := [15]) (by kernel_rfl) (by simp) ?_
            refine AllReadyH.cons rfl (fun K hK => ?_) AllReadyH.nil
            go_simp
            refine (rival_yes (fs a) (fs b) _ (HM.out a han) (HM.out b hbn)).mono ?_
            rintro e w5 ⟨rfl, hb5⟩
            rw [HC.out]
            clear hHeld
            dsimp only
            refine hK.out _ _ (⟨nxt (belowN HBJ.out 1) hb5, HOJ.out.below (nxt (belowN (Below.refl _ _) 1) hb5)⟩) (fun hHeld => ?_)
            clear hK K
            try simp only [Act.put, List.setIfInBounds_toArray, List.set_cons_zero, List.set_cons_succ]
            refine wpAnyH_done (by kernel_rfl) ?_ _
            clear hHeld
            go_wp2
            go_ret2
            exact ⟨nxt (HB1.out.trans ((belowN HBJ.out 1).mono HB1.out.size)) hb5, .inl ⟨rfl, HR.out⟩⟩
          · have HC := Lib.hid (show ((fs a).plc == (fs b).plc) = false by simpa using heq)
            have HR := Lib.hid (show ∀ m, m + 1 < j + 1 + 1 → (fs (qs.getD m 0)).plc ≠ (fs (qs.getD (m + 1) 0)).plc from fun m hm => by
              rcases Nat.lt_or_ge (m + 1) (j + 1) with h | h
              · exact HNE.out m h
              · rw [show m = j by omega, HA.out, HBB.out]; exact heq)
            clear heq
            go_wp2_with fail
            refine wp_region_held_drew (S := fun w' => Below w1.heap.size w1 w' ∧ Own w' (w.heap.size + 1) (.slice (some ⟨w.heap.size + 1, 0, none⟩) n n) (asI qs)) (by kernel_rfl) (⟨belowN HBJ.out 1, HOJ.out⟩) (fun hHeld => ?_)
            refine takeH (i := 0) (v := .slice (some ad) n cap) rfl (by kernel_rfl) (by kernel_rfl) (by kernel_rfl) (fun _ _ _ h => h) (Or.inl ⟨by rfl, fun w hSw => ?_⟩) hHeld ?_
            · (have c := (HS.out.below hSw.1).box; clear hSw; go_simp)
            simp only [Act.put, List.setIfInBounds_toArray, List.set_cons_zero, List.set_cons_succ]
            refine takeH (i := 1) (v := (.slice (some ⟨w.heap.size + 1, 0, none⟩) n n)) rfl (by kernel_rfl) (by kernel_rfl) (by kernel_rfl) (fun _ _ _ h => h) (Or.inl ⟨by rfl, fun w hSw => ?_⟩) hHeld ?_
            · (clear hSw; go_simp)
            simp only [Act.put, List.setIfInBounds_toArray, List.set_cons_zero, List.set_cons_succ]
            refine takeH (i := 2) (v := .int .i64 (j + 1 : Nat)) rfl (by kernel_rfl) (by kernel_rfl) (by kernel_rfl) (fun _ _ _ h => h) (Or.inl ⟨by rfl, fun w hSw => ?_⟩) hHeld ?_
            · (clear hSw; go_simp)
            simp only [Act.put, List.setIfInBounds_toArray, List.set_cons_zero, List.set_cons_succ]
            refine takeH (i := 3) (v := .int .i64 j) rfl (by kernel_rfl) (by kernel_rfl) (by kernel_rfl) (fun _ _ _ h => h) (Or.inl ⟨by rfl, fun w hSw => ?_⟩) hHeld ?_
            · (clear hSw; go_simp)
            simp only [Act.put, List.setIfInBounds_toArray, List.set_cons_zero, List.set_cons_succ]
            refine takeH (i := 4) (v := .pointer (some ⟨w.heap.size + 1, j, none⟩)) rfl (by kernel_rfl) (by kernel_rfl) (by kernel_rfl) (fun _ _ _ h => h) (Or.inl ⟨by rfl, fun w hSw => ?_⟩) hHeld ?_
            · (clear hSw; go_simp)
            simp only [Act.put, List.setIfInBounds_toArray, List.set_cons_zero, List.set_cons_succ]
            refine takeH (i := 5) (v := .int .i64 a) rfl (by kernel_rfl) (by kernel_rfl) (by kernel_rfl) (fun _ _ _ h => h) (Or.inl ⟨by rfl, fun w hSw => ?_⟩) hHeld ?_
            · (have ca := HCA.out _ hSw.2; clear hSw; go_simp)
            simp only [Act.put, List.setIfInBounds_toArray, List.set_cons_zero, List.set_cons_succ]
            refine takeH (i := 6) (v := .pointer (some (ad.add (a * 12)))) rfl (by kernel_rfl) (by kernel_rfl) (by kernel_rfl) (fun _ _ _ h => h) (Or.inl ⟨by rfl, fun w hSw => ?_⟩) hHeld ?_
            · (clear hSw; go_simp)
            simp only [Act.put, List.setIfInBounds_toArray, List.set_cons_zero, List.set_cons_succ]
            refine takeH (i := 7) (v := (fs a).val) rfl (by kernel_rfl) (by kernel_rfl) (by kernel_rfl) (fun _ _ _ h => h) (Or.inl ⟨by rfl, fun w hSw => ?_⟩) hHeld ?_
            · (obtain ⟨c0, c1, c2, c3, c4, c5, c6, c7, c8, c9, c10, c11⟩ := (HS.out.below hSw.1).cells han; clear hSw; go_simp)
            simp only [Act.put, List.setIfInBounds_toArray, List.set_cons_zero, List.set_cons_succ]
            refine takeH (i := 8) (v := .slice (some ad) n cap) rfl (by kernel_rfl) (by kernel_rfl) (by kernel_rfl) (fun _ _ _ h => h) (Or.inl ⟨by rfl, fun w hSw => ?_⟩) hHeld ?_
            · (have c := (HS.out.below hSw.1).box; clear hSw; go_simp)
            simp only [Act.put, List.setIfInBounds_toArray, List.set_cons_zero, List.set_cons_succ]
            refine takeH (i := 9) (v := (.slice (some ⟨w.heap.size + 1, 0, none⟩) n n)) rfl (by kernel_rfl) (by kernel_rfl) (by kernel_rfl) (fun _ _ _ h => h) (Or.inl ⟨by rfl, fun w hSw => ?_⟩) hHeld ?_
            · (clear hSw; go_simp)
            simp only [Act.put, List.setIfInBounds_toArray, List.set_cons_zero, List.set_cons_succ]
            refine takeH (i := 10) (v := .int .i64 (j + 1 : Nat)) rfl (by kernel_rfl) (by kernel_rfl) (by kernel_rfl) (fun _ _ _ h => h) (Or.inl ⟨by rfl, fun w hSw => ?_⟩) hHeld ?_
            · (clear hSw; go_simp)
            simp only [Act.put, List.setIfInBounds_toArray, List.set_cons_zero, List.set_cons_succ]
            refine takeH (i := 11) (v := .pointer (some ⟨w.heap.size + 1, j + 1, none⟩)) rfl (by kernel_rfl) (by kernel_rfl) (by kernel_rfl) (fun _ _ _ h => h) (Or.inl ⟨by rfl, fun w hSw => ?_⟩) hHeld ?_
            · (clear hSw; go_simp)
            simp only [Act.put, List.setIfInBounds_toArray, List.set_cons_zero, List.set_cons_succ]
            refine takeH (i := 12) (v := .int .i64 b) rfl (by kernel_rfl) (by kernel_rfl) (by kernel_rfl) (fun _ _ _ h => h) (Or.inl ⟨by rfl, fun w hSw => ?_⟩) hHeld ?_
            · (have cb := HCB.out _ hSw.2; clear hSw; go_simp)
            simp only [Act.put, List.setIfInBounds_toArray, List.set_cons_zero, List.set_cons_succ]
            refine takeH (i := 13) (v := .pointer (some (ad.add (b * 12)))) rfl (by kernel_rfl) (by kernel_rfl) (by kernel_rfl) (fun _ _ _ h => h) (Or.inl ⟨by rfl, fun w hSw => ?_⟩) hHeld ?_
            · (clear hSw; go_simp)
            simp only [Act.put, List.setIfInBounds_toArray, List.set_cons_zero, List.set_cons_succ]
            refine takeH (i := 14) (v := (fs b).val) rfl (by kernel_rfl) (by kernel_rfl) (by kernel_rfl) (fun _ _ _ h => h) (Or.inl ⟨by rfl, fun w hSw => ?_⟩) hHeld ?_
            · (obtain ⟨c0, c1, c2, c3, c4, c5, c6, c7, c8, c9, c10, c11⟩ := (HS.out.below hSw.1).cells hbn; clear hSw; go_simp)
            simp only [Act.put, List.setIfInBounds_toArray, List.set_cons_zero, List.set_cons_succ]
            refine wpAnyH_ready (rs := [15]) (by kernel_rfl) (by simp) ?_
            refine AllReadyH.cons rfl (fun K hK => ?_) AllReadyH.nil
            go_simp
            refine (rival_yes (fs a) (fs b) _ (HM.out a han) (HM.out b hbn)).mono ?_
            rintro e w5 ⟨rfl, hb5⟩
            rw [HC.out]
            clear hHeld
            dsimp only
            refine hK.out _ _ (⟨nxt (belowN HBJ.out 1) hb5, HOJ.out.below (nxt (belowN (Below.refl _ _) 1) hb5)⟩) (fun hHeld => ?_)
            clear hK K
            try simp only [Act.put, List.setIfInBounds_toArray, List.set_cons_zero, List.set_cons_succ]
            refine wpAnyH_done (by kernel_rfl) ?_ _
            clear hHeld
            go_wp2
            go_roundw
            case rel => exact ⟨j + 1 + 1, by go_num, by omega, by omega, HR.out, nxt (belowN HBJ.out 1) hb5, HOJ.out.below (nxt (belowN (Below.refl _ _) 1) hb5)⟩
            case measure => simp [intOf]; omega
        · have HR := Lib.hid (up_srt (κ := fun i => (fs i).plc) HQ.out HU.out (fun m hm => HNE.out m (by omega)))
          go_wp2
          go_ret2
          exact ⟨HB1.out.trans (HBJ.out.mono HB1.out.size), .inr ⟨_, _, qs, rfl, HR.out, HOJ.out.mono (Nat.le_succ _)⟩⟩
end Go.Proofs.Ytjbbneagikogbaa
