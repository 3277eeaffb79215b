/- The reference's join; joined, Levels, change. -/
import Derived.Test.YtalpbnfebcafgaaGreatY9
import Derived.Test.YtalpbnfebcafgaaGreatY0
import Derived.Test.YtalpbnfebcafgaaGreatY7
import Derived.Test.YtalpbnfebcafgaaGreatY6
import Derived.Test.YtalpbnfebcafgaaGreatY1
namespace Go.Proofs.YtalpbnfebcafgaaGreat
set_option maxRecDepth 20000
open Go.RowKit
set_option linter.unusedSimpArgs false

set_option maxHeartbeats 1600000 in
theorem rjoin_first {w : World} {B : Nat} {v : Value} (h : Gown rnT w B v []) (hB : B ≤ w.heap.size) (r : Rn) : Calls Tryz.prog 40 #[v, r.v] w (JoinP w B v (joinR [] r)) := by
  obtain ⟨A, cap, rfl, -⟩ := h.len
  rw [join_nil]
  have HH := Lib.hid h
  have HLEN := Lib.hid (show ([] : List Rn).length + 1 ≤ 1000000 by decide)
  have HBX := Lib.hid ((Below.refl w.heap.size w).alloc (Nat.le_refl _) (.cells (Rn.c r) 50))
  clear h
  go_enter Tryz.func40, Tryz.ntmps40
  go_wp2_with fail
  go_quiet (fail)
  have HB1 := Lib.hid (belowN HBX.out nq)
  have hv1 : ((w.alloc (.cells (Rn.c r) 50)).drewN nq).heap[w.heap.size]? = some (.cells (Rn.c r) 50) := heap_alloc_new w _
  obtain ⟨w1, hw1⟩ : ∃ w1, (w.alloc (.cells (Rn.c r) 50)).drewN nq = w1 := ⟨_, rfl⟩
  rw [hw1] at hv1 HB1 ⊢
  clear hw1
  obtain ⟨rn, rb, rd⟩ := r
  have q0 := cell_of_row _ _ 0 _ _ (0, 0) hv1
  have q1 := cell_of_row _ _ 1 _ _ (0, 0) hv1
  have q2 := cell_of_row _ _ 2 _ _ (0, 0) hv1
  have HAL := Lib.hid (HB1.out.alloc HB1.out.size (.cells (Rn.c ⟨rn, rb, rd⟩) 50))
  have HG := Lib.hid (HH.out.below HAL.out)
  have HS := Lib.hid (show Gs rnT (w1.alloc (.cells (Rn.c ⟨rn, rb, rd⟩) 50)) (some ⟨w1.heap.size, 0, none⟩) 1 [⟨rn, rb, rd⟩] from Gown.lit1 rnT w1 ⟨rn, rb, rd⟩)
  have HBB := Lib.hid (show B ≤ (w1.alloc (.cells (Rn.c ⟨rn, rb, rd⟩) 50)).heap.size by have := HB1.out.size; simp; omega)
  clear hv1
  go_wp2_with (first | (at_builtin; refine append_E11 rnT _ (by rfl) _ _ rfl B _ _ rfl HG.out _ 1 1 [⟨rn, rb, rd⟩] rfl HS.out HLEN.out HBB.out ?_; intro v3 w3 h1 h2 h3) | fail)
  have HF := Lib.hid (And.intro h1 ((Moves.of_below HAL.out (own11 _)).trans (Moves.row h2 h3)))
  obtain ⟨A3, c3, hv3, -⟩ := h1.len
  obtain ⟨n3, hn3⟩ : ∃ n3, ([] ++ [(⟨rn, rb, rd⟩ : Rn)]).length = n3 := ⟨_, rfl⟩
  rw [hn3] at hv3
  clear hn3 h1 h2 h3
  subst hv3
  go_wp2
  go_ret
  exact ⟨_, rfl, HF.out.1, HF.out.2⟩
set_option maxHeartbeats 1600000 in
theorem rjoin_bus {w : World} {B : Nat} {v : Value} {rs : List Rn} {y : Rn} (h : Gown rnT w B v (rs ++ [y])) (hB : B ≤ w.heap.size) (r : Rn) (hb : y.b ≠ r.b) (hn : rs.length ≤ 900000) : Calls Tryz.prog 40 #[v, r.v] w (JoinP w B v (rs ++ [y, r])) := by
  obtain ⟨A, cap, rfl, -⟩ := h.len
  have HH := Lib.hid h
  have HLEN := Lib.hid (show (rs ++ [y]).length + 1 ≤ 1000000 by rw [List.length_append, List.length_singleton]; omega)
  have HBX := Lib.hid ((Below.refl w.heap.size w).alloc (Nat.le_refl _) (.cells (Rn.c r) 50))
  obtain ⟨ad, rfl, had, y0, y1, y2⟩ := (h.gs.below HBX.out).rn (j := rs.length) (r := y) (by rw [List.getElem?_append_right (Nat.le_refl _), Nat.sub_self]; rfl)
  obtain ⟨n, hn'⟩ : ∃ n, rs.length = n := ⟨_, rfl⟩
  have hln : (rs ++ [y]).length = n + 1 := by rw [List.length_append, List.length_singleton, hn']
  rw [hln]
  rw [hln] at HH
  rw [hn'] at y0 y1 y2 hn
  have HN' := Lib.hid hn'
  obtain ⟨yn, yb, yd⟩ := y
  have hn0 : decide ((0 : Int) < (n : Int) + 1) = true := by simp
  simp only at y0 y1 y2 hb
  have hb' : (yb == r.b) = false := by simpa using hb
  clear h hn' hln hb
  go_enter Tryz.func40, Tryz.ntmps40
  go_wp2_with fail
  go_quiet (fail)
  have HB1 := Lib.hid (belowN HBX.out nq)
  have hv1 : ((w.alloc (.cells (Rn.c r) 50)).drewN nq).heap[w.heap.size]? = some (.cells (Rn.c r) 50) := heap_alloc_new w _
  obtain ⟨w1, hw1⟩ : ∃ w1, (w.alloc (.cells (Rn.c r) 50)).drewN nq = w1 := ⟨_, rfl⟩
  rw [hw1] at hv1 HB1 ⊢
  clear hw1
  obtain ⟨rn, rb, rd⟩ := r
  have q0 := cell_of_row _ _ 0 _ _ (0, 0) hv1
  have q1 := cell_of_row _ _ 1 _ _ (0, 0) hv1
  have q2 := cell_of_row _ _ 2 _ _ (0, 0) hv1
  have HAL := Lib.hid (HB1.out.alloc HB1.out.size (.cells (Rn.c ⟨rn, rb, rd⟩) 50))
  have HG := Lib.hid (HH.out.below HAL.out)
  have HS := Lib.hid (show Gs rnT (w1.alloc (.cells (Rn.c ⟨rn, rb, rd⟩) 50)) (some ⟨w1.heap.size, 0, none⟩) 1 [⟨rn, rb, rd⟩] from Gown.lit1 rnT w1 ⟨rn, rb, rd⟩)
  have HBB := Lib.hid (show B ≤ (w1.alloc (.cells (Rn.c ⟨rn, rb, rd⟩) 50)).heap.size by have := HB1.out.size; simp; omega)
  clear hv1
  go_wp2_with (first | (at_builtin; refine append_E11 rnT _ (by rfl) _ _ rfl B _ _ rfl HG.out _ 1 1 [⟨rn, rb, rd⟩] rfl HS.out HLEN.out HBB.out ?_; intro v3 w3 h1 h2 h3) | fail)
  have HF := Lib.hid (And.intro h1 ((Moves.of_below HAL.out (own11 _)).trans (Moves.row h2 h3)))
  obtain ⟨A3, c3, hv3, -⟩ := h1.len
  obtain ⟨n3, hn3⟩ : ∃ n3, (rs ++ [(⟨yn, yb, yd⟩ : Rn)] ++ [(⟨rn, rb, rd⟩ : Rn)]).length = n3 := ⟨_, rfl⟩
  rw [hn3] at hv3
  clear hn3 h1 h2 h3
  subst hv3
  go_wp2
  go_ret
  exact ⟨_, rfl, by have h := HF.out.1; rw [List.append_assoc] at h; exact h, HF.out.2⟩
set_option maxHeartbeats 1600000 in
theorem rjoin_drive {w : World} {B : Nat} {v : Value} {rs : List Rn} {y : Rn} (h : Gown rnT w B v (rs ++ [y])) (hB : B ≤ w.heap.size) (r : Rn) (hb : y.b = r.b) (hd : y.d ≠ r.d) (hn : rs.length ≤ 900000) : Calls Tryz.prog 40 #[v, r.v] w (JoinP w B v (rs ++ [y, r])) := by
  obtain ⟨A, cap, rfl, -⟩ := h.len
  have HH := Lib.hid h
  have HLEN := Lib.hid (show (rs ++ [y]).length + 1 ≤ 1000000 by rw [List.length_append, List.length_singleton]; omega)
  have HBX := Lib.hid ((Below.refl w.heap.size w).alloc (Nat.le_refl _) (.cells (Rn.c r) 50))
  obtain ⟨ad, rfl, had, y0, y1, y2⟩ := (h.gs.below HBX.out).rn (j := rs.length) (r := y) (by rw [List.getElem?_append_right (Nat.le_refl _), Nat.sub_self]; rfl)
  obtain ⟨n, hn'⟩ : ∃ n, rs.length = n := ⟨_, rfl⟩
  have hln : (rs ++ [y]).length = n + 1 := by rw [List.length_append, List.length_singleton, hn']
  rw [hln]
  rw [hln] at HH
  rw [hn'] at y0 y1 y2 hn
  have HN' := Lib.hid hn'
  obtain ⟨yn, yb, yd⟩ := y
  have hn0 : decide ((0 : Int) < (n : Int) + 1) = true := by simp
  simp only at y0 y1 y2 hb hd
  have hb' : (yb == r.b) = true := by simpa using hb
  have hd' : (((yd : Nat) : Int) == ((r.d : Nat) : Int)) = false := by simp; omega
  clear h hn' hln hb hd
  go_enter Tryz.func40, Tryz.ntmps40
  go_wp2_with fail
  go_quiet (fail)
  have HB1 := Lib.hid (belowN HBX.out nq)
  have hv1 : ((w.alloc (.cells (Rn.c r) 50)).drewN nq).heap[w.heap.size]? = some (.cells (Rn.c r) 50) := heap_alloc_new w _
  obtain ⟨w1, hw1⟩ : ∃ w1, (w.alloc (.cells (Rn.c r) 50)).drewN nq = w1 := ⟨_, rfl⟩
  rw [hw1] at hv1 HB1 ⊢
  clear hw1
  obtain ⟨rn, rb, rd⟩ := r
  have q0 := cell_of_row _ _ 0 _ _ (0, 0) hv1
  have q1 := cell_of_row _ _ 1 _ _ (0, 0) hv1
  have q2 := cell_of_row _ _ 2 _ _ (0, 0) hv1
  have HAL := Lib.hid (HB1.out.alloc HB1.out.size (.cells (Rn.c ⟨rn, rb, rd⟩) 50))
  have HG := Lib.hid (HH.out.below HAL.out)
  have HS := Lib.hid (show Gs rnT (w1.alloc (.cells (Rn.c ⟨rn, rb, rd⟩) 50)) (some ⟨w1.heap.size, 0, none⟩) 1 [⟨rn, rb, rd⟩] from Gown.lit1 rnT w1 ⟨rn, rb, rd⟩)
  have HBB := Lib.hid (show B ≤ (w1.alloc (.cells (Rn.c ⟨rn, rb, rd⟩) 50)).heap.size by have := HB1.out.size; simp; omega)
  clear hv1
  go_wp2_with (first | (at_builtin; refine append_E11 rnT _ (by rfl) _ _ rfl B _ _ rfl HG.out _ 1 1 [⟨rn, rb, rd⟩] rfl HS.out HLEN.out HBB.out ?_; intro v3 w3 h1 h2 h3) | fail)
  have HF := Lib.hid (And.intro h1 ((Moves.of_below HAL.out (own11 _)).trans (Moves.row h2 h3)))
  obtain ⟨A3, c3, hv3, -⟩ := h1.len
  obtain ⟨n3, hn3⟩ : ∃ n3, (rs ++ [(⟨yn, yb, yd⟩ : Rn)] ++ [(⟨rn, rb, rd⟩ : Rn)]).length = n3 := ⟨_, rfl⟩
  rw [hn3] at hv3
  clear hn3 h1 h2 h3
  subst hv3
  go_wp2
  go_ret
  exact ⟨_, rfl, by have h := HF.out.1; rw [List.append_assoc] at h; exact h, HF.out.2⟩
set_option maxHeartbeats 1600000 in
theorem rjoin_same {w : World} {B : Nat} {v : Value} {rs : List Rn} {y : Rn} (h : Gown rnT w B v (rs ++ [y])) (_hB : B ≤ w.heap.size) (r : Rn) (hb : y.b = r.b) (hd : y.d = r.d) (hn : rs.length ≤ 900000) (hy : 0 ≤ y.n ∧ y.n ≤ 2000000 ∧ 0 ≤ r.n ∧ r.n ≤ 2000000) : Calls Tryz.prog 40 #[v, r.v] w (JoinP w B v (rs ++ [⟨y.n + r.n, y.b, y.d⟩])) := by
  obtain ⟨A, cap, rfl, -⟩ := h.len
  have HH := Lib.hid h
  have HLEN := Lib.hid (show (rs ++ [y]).length + 1 ≤ 1000000 by rw [List.length_append, List.length_singleton]; omega)
  have HBX := Lib.hid ((Below.refl w.heap.size w).alloc (Nat.le_refl _) (.cells (Rn.c r) 50))
  obtain ⟨ad, rfl, had, y0, y1, y2⟩ := (h.gs.below HBX.out).rn (j := rs.length) (r := y) (by rw [List.getElem?_append_right (Nat.le_refl _), Nat.sub_self]; rfl)
  obtain ⟨n, hn'⟩ : ∃ n, rs.length = n := ⟨_, rfl⟩
  have hln : (rs ++ [y]).length = n + 1 := by rw [List.length_append, List.length_singleton, hn']
  rw [hln]
  rw [hln] at HH
  rw [hn'] at y0 y1 y2 hn
  have HN' := Lib.hid hn'
  obtain ⟨yn, yb, yd⟩ := y
  have hn0 : decide ((0 : Int) < (n : Int) + 1) = true := by simp
  simp only at y0 y1 y2 hb hd
  have hb' : (yb == r.b) = true := by simpa using hb
  have hd' : (((yd : Nat) : Int) == ((r.d : Nat) : Int)) = true := by simp; omega
  clear h hn' hln hb hd
  go_enter Tryz.func40, Tryz.ntmps40
  go_wp2_with fail
  go_quiet (fail)
  have HB1 := Lib.hid (belowN HBX.out nq)
  have hv1 : ((w.alloc (.cells (Rn.c r) 50)).drewN nq).heap[w.heap.size]? = some (.cells (Rn.c r) 50) := heap_alloc_new w _
  obtain ⟨w1, hw1⟩ : ∃ w1, (w.alloc (.cells (Rn.c r) 50)).drewN nq = w1 := ⟨_, rfl⟩
  rw [hw1] at hv1 HB1 ⊢
  clear hw1
  obtain ⟨g, rfl⟩ := row_addr HH.out
  have hz : (⟨g, 0, none⟩ : Addr).add (n * 3) = ⟨g, n * 3, none⟩ := by rw [add_zero_off]
  obtain ⟨rn, rb, rd⟩ := r
  have q0 := cell_of_row _ _ 0 _ _ (0, 0) hv1
  have h1 := HH.out.below HB1.out
  have y0 : w1.cell? ⟨g, n * 3, none⟩ = some (.int .i64 yn) := by
    have h := World.ownsRow.cells h1 (g := g) rfl (n * 3) (.int .i64 yn) (by
      rw [rnT.f_app, rnT.f_one, List.getElem?_append_right (by rw [rnT.f_len, HN'.out]; exact Nat.le_refl _), rnT.f_len, HN'.out, show n * rnT.k = n * 3 from rfl, Nat.sub_self]; rfl)
    rwa [add_zero_off] at h
  have f0 := row_frozen h1 (n * 3)
  have HY := Lib.hid hy
  have hyr : (0 : Int) ≤ yn + rn ∧ yn + rn ≤ 4000000 := by simp only at hy; omega
  have hP := row_put h1 (n * 3) (.int .i64 (yn + rn))
  have hls := last_set rs ⟨yn, yb, yd⟩ (yn + rn)
  rw [HN'.out] at hls
  rw [hls] at hP
  have HP := Lib.hid (show Gown rnT (w1.setCell ⟨g, n * 3, none⟩ (.int .i64 (yn + rn))) B (.slice (some ⟨g, 0, none⟩) (n + 1) cap) (rs ++ [⟨yn + rn, yb, yd⟩]) by unfold Gown; simp only [List.length_append, List.length_singleton] at hP ⊢; exact hP)
  have HO := Lib.hid ((Moves.of_below HB1.out (own11 (.slice (some ⟨g, 0, none⟩) (n + 1) cap))).trans (.only ((Only.refl g w1).set (i := n * 3) (v := .int .i64 (yn + rn))) (rfl)))
  clear hv1 h1 hP hls hy
  rw [hz]
  clear hz
  go_wp2_with fail
  go_region
  go_wp2
  go_ret
  exact ⟨_, rfl, HP.out, HO.out.drew⟩
theorem rjoinR_any {w : World} {B : Nat} {v : Value} {rs : List Rn} (h : Gown rnT w B v rs) (hB : B ≤ w.heap.size) (r : Rn) (hn : rs.length ≤ 900000) (hy : ∀ y ∈ rs, 0 ≤ y.n ∧ y.n ≤ 2000000) (hr : 0 ≤ r.n ∧ r.n ≤ 2000000) :
    Calls Tryz.prog 40 #[v, r.v] w (JoinP w B v (joinR rs r)) := by
  rcases List.eq_nil_or_concat rs with rfl | ⟨ss, y, rfl⟩
  · exact rjoin_first h hB r
  · simp only [List.concat_eq_append] at *
    have hl : ss.length ≤ 900000 := by simp at hn; omega
    have hyy := hy y (by simp)
    rw [join_snoc]
    by_cases hb : y.b = r.b
    · by_cases hd : y.d = r.d
      · rw [if_pos ⟨hb, hd⟩]
        exact rjoin_same h hB r hb hd hl ⟨hyy.1, hyy.2, hr.1, hr.2⟩
      · rw [if_neg fun h => hd h.2]
        have := rjoin_drive h hB r hb hd hl
        simpa using this
    · rw [if_neg fun h => hb h.1]
      have := rjoin_bus h hB r hb hl
      simpa using this

/-- All runs, joined. -/
def joinsR (rs : List Rn) : List Rn := rs.foldl joinR []
theorem joinsR_snoc (rs : List Rn) (r : Rn) : joinsR (rs ++ [r]) = joinR (joinsR rs) r := by unfold joinsR; rw [List.foldl_append]; rfl
theorem joinsR_ok : ∀ (rs : List Rn), (∀ r ∈ rs, r.n = 1) → (joinsR rs).length ≤ rs.length ∧ ∀ y ∈ joinsR rs, 0 ≤ y.n ∧ y.n ≤ (rs.length : Int) := by
  intro rs
  induction rs using snocI with
  | h0 => intro _; exact ⟨Nat.le_refl _, fun y hy => by cases hy⟩
  | h l r ih =>
    intro h
    obtain ⟨h1, h2⟩ := ih fun x hx => h x (by simp [hx])
    rw [joinsR_snoc]
    refine ⟨?_, ?_⟩
    · have := joinR_len (joinsR l) r
      simp; omega
    · have := joinR_n h2 (h r (by simp)) (by omega)
      intro y hy
      have := this y hy
      simp; omega
set_option maxHeartbeats 3200000 in
theorem joined_any11 {w : World} {B : Nat} {A : Option Addr} {m c : Nat} {rs : List Rn} (h : Gown rnT w B (.slice A m c) rs) (hm : rs.length = m) (hm2 : m ≤ 5000) (h1 : ∀ r ∈ rs, r.n = 1) :
    Calls Tryz.prog 24 #[.slice A m c] w fun e w' => ∃ v, e = .returned v ∧ Gown rnT w' w.heap.size v (joinsR rs) ∧ Below w.heap.size w w' := by
  have HG := Lib.hid h
  have HM := Lib.hid hm
  have H1 := Lib.hid h1
  clear h hm h1
  go_enter Tryz.func24, Tryz.ntmps24
  go_wp2
  go_loopw [3, 4] (fun v i wr => ∃ k : Nat, k ≤ m ∧ i = .int .i64 k ∧ Gown rnT wr w.heap.size v (joinsR (rs.take k)) ∧ Below w.heap.size w wr) (fun _ i _ => m - (intOf i).toNat)
  case atStart => exact ⟨0, Nat.zero_le _, rfl, Gown.nil _ _ _, Below.refl _ _⟩
  case round =>
    obtain ⟨k, hk, rfl, hg, hb⟩ := hrel
    have HB := Lib.hid hb
    obtain ⟨Av, cv, hv, -⟩ := hg.len
    obtain ⟨nv, hnv⟩ : ∃ nv, (joinsR (rs.take k)).length = nv := ⟨_, rfl⟩
    rw [hnv] at hv
    subst hv
    have HGV := Lib.hid hg
    by_cases hlt : k < m
    · have hlt' : (k : Int) < (m : Int) := by omega
      have hkl : k < rs.length := by rw [HM.out]; exact hlt
      have hx : rs[k]? = some rs[k] := List.getElem?_eq_getElem hkl
      obtain ⟨r, hr⟩ : ∃ r, rs[k] = r := ⟨_, rfl⟩
      rw [hr] at hx
      have hr1 := H1.out r (List.mem_of_getElem? hx)
      have HTK := Lib.hid (show joinsR (rs.take (k + 1)) = joinR (joinsR (rs.take k)) r by rw [List.take_add_one, hx]; exact joinsR_snoc _ _)
      have hok := joinsR_ok (rs.take k) fun x hx => H1.out x (List.mem_of_mem_take hx)
      have hkk : (rs.take k).length ≤ k := by rw [List.length_take]; omega
      obtain ⟨ad, rfl, hal, a0, a1, a2⟩ := ((HG.out.gs).below hb).rn hx
      have HJ := Lib.hid (rjoinR_any hg hb.size r (by omega) (fun y hy => by have := hok.2 y hy; omega) (by rw [hr1]; omega))
      obtain ⟨rn, rb, rd⟩ := r
      simp only at a0 a1 a2
      clear hx hr hb hkl hg hok hkk hr1 hnv
      go_wp2_with fail
      refine HJ.out.mono ?_
      rintro e w2 ⟨v2, rfl, g2, m2⟩
      have HG2 := Lib.hid g2
      have HB2 := Lib.hid (moves_below m2 (own_ge HGV.out) HB.out)
      rw [← HTK.out] at HG2
      obtain ⟨A2, c2, hv2, -⟩ := HG2.out.len
      obtain ⟨n2, hn2⟩ : ∃ n2, (joinsR (rs.take (k + 1))).length = n2 := ⟨_, rfl⟩
      rw [hn2] at hv2
      subst hv2
      clear g2 m2 hn2
      go_wp2
      go_roundw
      case rel => exact ⟨k + 1, by omega, by go_num, HG2.out, HB2.out⟩
      case measure => simp [intOf]; omega
    · have hlt' : ¬ (k : Int) < (m : Int) := by omega
      have : k = m := by omega
      subst this
      rw [List.take_of_length_le (by rw [HM.out]; exact Nat.le_refl _)] at hg
      have HF := Lib.hid hg
      clear hg hb hnv HGV
      go_wp2
      go_ret
      exact ⟨_, rfl, HF.out, HB.out⟩
theorem change_any (n a b : Int) (w : World) : Calls Tryz.prog 19 #[.int .i64 n, .int .i64 a, .int .i64 b] w fun e w' => e = .returned (.int .i64 (if n = a then b else if n = b then a else n)) ∧ w = w' := by
  by_cases h1 : n = a
  · subst h1
    go_enter Tryz.func19, Tryz.ntmps19
    go_wp2
    go_ret
    simp
  · have h1' : (n == a) = false := by simpa using h1
    by_cases h2 : n = b
    · subst h2
      go_enter Tryz.func19, Tryz.ntmps19
      go_wp2
      go_ret
      simp [h1]
    · have h2' : (n == b) = false := by simpa using h2
      go_enter Tryz.func19, Tryz.ntmps19
      go_wp2
      go_ret
      simp [h1, h2]
end Go.Proofs.YtalpbnfebcafgaaGreat

/- The chapter's example. -/
namespace Go.Proofs.YtalpbnfebcafgaaGreat
set_option maxRecDepth 20000
open Go.RowKit
set_option linter.unusedSimpArgs false

def ex11 : List Ac := [⟨0, 0, false, Fr.zero⟩]
def exRs : List Rn := [⟨11, 1, 4294967295⟩, ⟨5, 0, 4294967294⟩, ⟨1, 1, 4294967295⟩, ⟨5, 0, 4294967294⟩, ⟨1, 1, 4294967295⟩, ⟨5, 0, 4294967294⟩, ⟨1, 1, 4294967295⟩, ⟨5, 0, 4294967294⟩, ⟨1, 1, 4294967295⟩, ⟨5, 0, 4294967294⟩, ⟨1, 1, 4294967295⟩, ⟨5, 0, 4294967294⟩, ⟨1, 1, 4294967295⟩, ⟨4, 0, 4294967294⟩, ⟨1, 1, 4294967295⟩, ⟨1, 0, 4294967293⟩, ⟨11, 1, 4294967295⟩]
def exEs : List Be := [(59, 1, 2, Fr.zero), (60, 0, 1, Fr.zero)]
set_option maxRecDepth 100000 in
theorem ex_rs : (plays 2 ex11 64).rs = exRs := by kernel_rfl
set_option maxRecDepth 100000 in
theorem ex_es : (plays 2 ex11 64).es.map becs = exEs.map becs := by kernel_rfl
theorem ex_len : (lvls exRs).length = 64 ∧ (enc Fr.zero true).length = 50 := by exact ⟨by kernel_rfl, by kernel_rfl⟩
theorem ex_lv : ∀ i, i < 50 → (lvls exRs).getD (11 + i) 0 = (enc Fr.zero true).getD i 0 := of_decide_eq_true (by kernel_rfl)
theorem ex_n : ∀ r ∈ exRs, 0 ≤ r.n := by
  intro r hr
  simp only [exRs, List.mem_cons, List.not_mem_nil, or_false] at hr
  rcases hr with rfl | rfl | rfl | rfl | rfl | rfl | rfl | rfl | rfl | rfl | rfl | rfl | rfl | rfl | rfl | rfl | rfl <;> simp
theorem beveq (t n : Int) (e : Ev) (w : World) : (binOp .eql 41 (.agg #[.int .i64 t, .int .i64 n, .int .i64 e.1, .int .i64 e.2.id, .bool e.2.ext, .bool e.2.rtr, .int .i64 e.2.len, .int .u8 (e.2.d 0), .int .u8 (e.2.d 1), .int .u8 (e.2.d 2), .int .u8 (e.2.d 3), .int .u8 (e.2.d 4), .int .u8 (e.2.d 5), .int .u8 (e.2.d 6), .int .u8 (e.2.d 7)]) (.agg #[.int .i64 t, .int .i64 n, .int .i64 e.1, .int .i64 e.2.id, .bool e.2.ext, .bool e.2.rtr, .int .i64 e.2.len, .int .u8 (e.2.d 0), .int .u8 (e.2.d 1), .int .u8 (e.2.d 2), .int .u8 (e.2.d 3), .int .u8 (e.2.d 4), .int .u8 (e.2.d 5), .int .u8 (e.2.d 6), .int .u8 (e.2.d 7)])).run Tryz.prog w = .ok (.bool true) w := by
  have h33 := eq33
  go_simp
theorem zero_may11 : Fr.zero.may = true := by decide
theorem zero_wf11 : Fr.zero.wf := fun _ _ => ⟨Int.le_refl _, by show (0 : Int) ≤ 255; omega⟩
set_option maxHeartbeats 4000000 in
set_option maxRecDepth 100000 in
theorem awake11 (w : World) : Calls Tryz.prog 6 #[] w fun e w' => e = .returned (.bool true) ∧ Below w.heap.size w w' := by
  have HB1 := Lib.hid ((Below.refl w.heap.size w).alloc (Nat.le_refl _) (.cells (accs ⟨0, 0, false, Fr.zero⟩).toArray 35))
  have HP := Lib.hid (play_any (c := 1) (Gown.lit1 acT w ⟨0, 0, false, Fr.zero⟩) (by omega) 2 (by omega) (by omega) (by decide) (fun a ha => by
    rw [List.mem_singleton.1 ha]; exact ⟨zero_wf11, by decide⟩) 64 (by omega))
  have e1 := beveq 59 1 (2, Fr.zero)
  have e2 := beveq 60 0 (1, Fr.zero)
  go_enter Tryz.func6, Tryz.ntmps6
  go_wp2_with fail
  refine HP.out.mono ?_
  rintro e w2 ⟨u, v, rfl, hu, hv, hb2⟩
  have hu' : Gown rnT w2 w.heap.size u exRs := by rw [← ex_rs]; exact hu.base HB1.out.size
  have HB2 := Lib.hid (nxt HB1.out hb2)
  obtain ⟨Au, cu, rfl, -⟩ := hu'.len
  obtain ⟨Av, cv, hvv, -⟩ := hv.len
  have hlen : (plays 2 [⟨0, 0, false, Fr.zero⟩] 64).es.length = 2 := by have := congrArg List.length ex_es; rw [List.length_map, List.length_map] at this; exact this
  rw [hlen] at hvv
  subst hvv
  have hgv := hv.gs
  rw [hlen] at hgv
  obtain ⟨adv, rfl, -⟩ := hgv.2 (by omega)
  obtain ⟨gv, rfl⟩ := row_addr hv
  have HV := Lib.hid (hgv.same ex_es)
  have HU := Lib.hid hu'.gs
  rw [show exRs.length = 17 from rfl] at HU ⊢
  have HLV := Lib.hid (levels_any (c := cu) HU.out (by omega) ex_n (by rw [ex_len.1]; omega))
  clear hu hu' hv hb2 hgv hlen HP
  go_wp2_with fail
  refine HLV.out.mono ?_
  rintro e w3 ⟨v3, rfl, ho3, hb3⟩
  have HB3 := Lib.hid (nxt HB2.out hb3)
  have HV3 := Lib.hid (HV.out.below hb3)
  obtain ⟨A3, c3, hv3, hi3, -⟩ := ho3.il2
  rw [ex_len.1] at hv3 hi3
  subst hv3
  have HI3 := Lib.hid hi3
  clear hb3 hi3 ho3 HLV HV HU
  go_wp2_with fail
  refine (encode_ok Fr.zero true _ zero_may11 zero_wf11).mono ?_
  rintro e w4 ⟨v4, rfl, ho4, hb4⟩
  have HB4 := Lib.hid (nxt HB3.out hb4)
  have HV4 := Lib.hid (HV3.out.below hb4)
  have HI34 := Lib.hid (HI3.out.below hb4)
  obtain ⟨A4, c4, hv4, hi4, -⟩ := ho4.il2
  rw [ex_len.2] at hv4 hi4
  subst hv4
  have HI4 := Lib.hid hi4
  clear hb4 hi4 ho4 HV3 HI3
  go_wp2
  go_loopw [7] (fun i wr => ∃ k : Nat, k ≤ 50 ∧ i = .int .i64 k ∧ Below w4.heap.size w4 wr) (fun i _ => 50 - (intOf i).toNat)
  case atStart => exact ⟨0, by omega, rfl, Below.refl _ _⟩
  case round =>
    obtain ⟨k, hk, rfl, hb⟩ := hrel
    have HB := Lib.hid hb
    by_cases hlt : k < 50
    · have hlt' : (k : Int) < 50 := by omega
      have h11a : (0 : Int) ≤ 11 + (k : Int) := by omega
      have h11b : (11 : Int) + (k : Int) < 64 := by omega
      have h11c : ((11 : Int) + (k : Int)).toNat = 11 + k := by omega
      obtain ⟨ad3, z3, rfl, hz3, r3⟩ := (HI34.out.below hb).at_ (k := 11 + k) (by omega)
      obtain ⟨ad4, z4, rfl, hz4, r4⟩ := (HI4.out.below hb).at_ (k := k) (by omega)
      have hzz : (z3 != z4) = false := by
        have h := ex_lv k hlt
        rw [List.getD, List.getD, hz3, hz4] at h
        simpa using h
      clear hz3 hz4 hb
      go_wp2_with fail
      go_quiet (fail)
      go_wp2
      go_roundw
      case rel => exact ⟨k + 1, by omega, by go_num, belowN HB.out _⟩
      case measure => simp [intOf]; omega
    · have hlt' : ¬ (k : Int) < 50 := by omega
      have h5 := HV4.out.below hb
      obtain ⟨ad, hA0, hal, a0, a1, a2, a3, a4, a5, a6, a7, a8, a9, a10, a11, a12, a13, a14⟩ := h5.ev (j := 0) (e := (59, 1, 2, Fr.zero)) rfl
      obtain ⟨ad', hA, hal', c0, c1, c2, c3, c4, c5, c6, c7, c8, c9, c10, c11, c12, c13, c14⟩ := h5.ev (j := 1) (e := (60, 0, 1, Fr.zero)) rfl
      injection hA with hA
      injection hA0 with hA0
      subst hA; subst hA0
      simp only [add_zero_off, Nat.zero_mul, Nat.one_mul, Nat.zero_add] at a0 a1 a2 a3 a4 a5 a6 a7 a8 a9 a10 a11 a12 a13 a14 c0 c1 c2 c3 c4 c5 c6 c7 c8 c9 c10 c11 c12 c13 c14
      simp only [Fr.zero] at e1 e2 a3 a4 a5 a6 a7 a8 a9 a10 a11 a12 a13 a14 c3 c4 c5 c6 c7 c8 c9 c10 c11 c12 c13 c14
      clear h5 hb
      go_wp2
      go_ret
      exact ⟨rfl, nxt HB4.out HB.out⟩
end Go.Proofs.YtalpbnfebcafgaaGreat

/- The contract of Clone. -/
namespace Go.Proofs.YtalpbnfebcafgaaGreat
set_option maxRecDepth 20000
open Go.RowKit
set_option linter.unusedSimpArgs false

theorem bclone_nil (w : World) : Calls Tryz.prog 22 #[.pointer none] w fun e w' => e = .returned (.pointer none) ∧ w = w' := by
  go_enter Tryz.func22, Tryz.ntmps22
  go_wp2
  go_ret
  exact ⟨rfl, rfl⟩
set_option maxHeartbeats 6400000 in
set_option maxRecDepth 100000 in
theorem bclone_any {w : World} {B : Nat} {p : BP} {b : Bs} (hl : BLay w B p b) (hL : b.L.length ≤ 32) (hsh : ∀ n ∈ b.L, n.q.length ≤ 1000000 ∧ n.own.length ≤ 100000 ∧ n.outL.length ≤ 100000) :
    Calls Tryz.prog 22 #[.pointer (some ⟨p.g, 0, none⟩)] w fun e w' => ∃ p', e = .returned (.pointer (some ⟨p'.g, 0, none⟩)) ∧ BLay w' w.heap.size p' b ∧ Below w.heap.size w w' := by
  obtain ⟨g, pv, ps0⟩ := p
  obtain ⟨A0, cap0, hv0, -, hps0⟩ := hl.sl
  simp only at hv0 hps0
  subst hv0
  have c0 := hl.c0
  have c1 := hl.c1
  simp only at c0 c1
  have HOLT := Lib.hid (fun j hj => hl.fp_lt j hj)
  obtain ⟨t, ht⟩ : ∃ t, b.t = t := ⟨_, rfl⟩
  have HT := Lib.hid ht
  rw [ht] at c1
  have HV0 := Lib.hid (heap_alloc_new w (.cells #[.slice none 0 0, .int .i64 (t : Nat)] 84))
  have HB0 := Lib.hid ((Below.refl w.heap.size w).alloc (Nat.le_refl _) (.cells #[.slice none 0 0, .int .i64 (t : Nat)] 84))
  obtain ⟨N, hN⟩ : ∃ N, b.L.length = N := ⟨_, rfl⟩
  have HN := Lib.hid hN
  have c0a := (hl.next HB0.out).c0
  simp only at c0a
  rw [hN] at c0 c0a hL
  have HOL := Lib.hid hl
  have HPS := Lib.hid hps0
  have HSL := Lib.hid hsh
  clear hl hps0 hsh ht hN
  go_enter Tryz.func22, Tryz.ntmps22
  go_wp2
  go_loopw [18] (fun i wr => ∃ (k : Nat) (p : BP), k ≤ N ∧ i = .int .i64 k ∧ p.g = w.heap.size ∧ BLay wr w.heap.size p ⟨b.L.take k, t⟩ ∧ Below w.heap.size w wr) (fun i _ => N - (intOf i).toNat)
  case atStart =>
    exact ⟨0, ⟨w.heap.size, .slice none 0 0, []⟩, Nat.zero_le _, rfl, rfl, ⟨HV0.out, World.ownsRow_nil _ _ _ _, rfl, fun i q m h => by simp at h, fun i j q r h => by simp at h, Nat.le_refl _⟩, HB0.out⟩
  case round =>
    obtain ⟨k, ⟨pg, pv, ps⟩, hk, rfl, hpg, hl, hbw⟩ := hrel
    simp only at hpg
    subst hpg
    obtain ⟨A, cap, hv, -⟩ := hl.sl
    simp only [List.length_take, HN.out, Nat.min_eq_left hk] at hv
    subst hv
    have HBW := Lib.hid hbw
    have HL := Lib.hid hl.drew
    have c0r : wr.drew.cell? ⟨w.heap.size, 0, none⟩ = some (.slice A k cap) := hl.drew.c0
    by_cases hlt : k < N
    · have hlt' : (k : Int) < (N : Int) := by omega
      have hkL : k < b.L.length := by rw [HN.out]; exact hlt
      obtain ⟨q0, hq0, hq1, hlq0⟩ := HOL.out.get hkL
      simp only at hq0
      obtain ⟨ad, rfl, had, hrow⟩ := HPS.out k q0 hq0
      have HO := Lib.hid (show BLay wr.drew B ⟨g, .slice (some ad) N cap0, ps0⟩ b by have h := (HOL.out.next hbw).drew; rw [HN.out] at h; exact h)
      have HROW := Lib.hid (show ∀ W, BLay W B ⟨g, .slice (some ad) N cap0, ps0⟩ b → W.cell? (ad.add k) = some (.pointer (some ⟨q0.g, 0, none⟩)) from fun W hW => by
        obtain ⟨A', cap', e, -, h⟩ := hW.sl
        simp only at e h
        injection e with e1 _ _
        subst e1
        obtain ⟨ad', e', _, h'⟩ := h k q0 hq0
        injection e' with e'
        subst e'
        exact h')
      have HLK := Lib.hid (show Lay wr.drew B q0 (b.L.getD k Nd.new) from (hlq0.next hbw).drew)
      have HSH := Lib.hid (HSL.out _ (List.mem_of_getElem? hq1))
      have HTK := Lib.hid (show b.L.take (k + 1) = b.L.take k ++ [b.L.getD k Nd.new] by rw [List.take_add_one, hq1]; rfl)
      clear hl hbw hlq0 hrow had hq0 hq1
      go_wp2_with fail
      refine wp_region_held_drew (S := fun w' => BLay w' B ⟨g, .slice (some ad) N cap0, ps0⟩ b) (by kernel_rfl) (HO.out) (fun hHeld => ?_)
      refine takeH (i := 0) (v := .pointer (some ⟨w.heap.size, 0, none⟩)) rfl (by kernel_rfl) (by kernel_rfl) (by kernel_rfl) (fun _ _ _ h => h) (Or.inl ⟨by rfl, fun w' hSw => ?_⟩) hHeld ?_
      · (clear hSw; go_simp)
      simp only [Act.put, List.setIfInBounds_toArray, List.set_cons_zero, List.set_cons_succ]
      refine takeH (i := 1) (v := .pointer (some ⟨w.heap.size, 0, none⟩)) rfl (by kernel_rfl) (by kernel_rfl) (by kernel_rfl) (fun _ _ _ h => h) (Or.inl ⟨by rfl, fun w' hSw => ?_⟩) hHeld ?_
      · (clear hSw; go_simp)
      simp only [Act.put, List.setIfInBounds_toArray, List.set_cons_zero, List.set_cons_succ]
      refine takeH (i := 2) (v := .pointer (some ⟨w.heap.size, 0, none⟩)) rfl (by kernel_rfl) (by kernel_rfl) (by kernel_rfl) (fun _ _ _ h => h) (Or.inl ⟨by rfl, fun w' hSw => ?_⟩) hHeld ?_
      · (clear hSw; go_simp)
      simp only [Act.put, List.setIfInBounds_toArray, List.set_cons_zero, List.set_cons_succ]
      refine takeH (i := 3) (v := .pointer (some ⟨w.heap.size, 0, none⟩)) rfl (by kernel_rfl) (by kernel_rfl) (by kernel_rfl) (fun _ _ _ h => h) (Or.inl ⟨by rfl, fun w' hSw => ?_⟩) hHeld ?_
      · (clear hSw; go_simp)
      simp only [Act.put, List.setIfInBounds_toArray, List.set_cons_zero, List.set_cons_succ]
      refine takeH (i := 5) (v := .pointer (some ⟨g, 0, none⟩)) rfl (by kernel_rfl) (by kernel_rfl) (by kernel_rfl) (fun _ _ _ h => h) (Or.inl ⟨by rfl, fun w' hSw => ?_⟩) hHeld ?_
      · (clear hSw; go_simp)
      simp only [Act.put, List.setIfInBounds_toArray, List.set_cons_zero, List.set_cons_succ]
      refine takeH (i := 6) (v := .pointer (some ⟨g, 0, none⟩)) rfl (by kernel_rfl) (by kernel_rfl) (by kernel_rfl) (fun _ _ _ h => h) (Or.inl ⟨by rfl, fun w' hSw => ?_⟩) hHeld ?_
      · (clear hSw; go_simp)
      simp only [Act.put, List.setIfInBounds_toArray, List.set_cons_zero, List.set_cons_succ]
      refine takeH (i := 7) (v := .pointer (some ⟨g, 0, none⟩)) rfl (by kernel_rfl) (by kernel_rfl) (by kernel_rfl) (fun _ _ _ h => h) (Or.inl ⟨by rfl, fun w' hSw => ?_⟩) hHeld ?_
      · (clear hSw; go_simp)
      simp only [Act.put, List.setIfInBounds_toArray, List.set_cons_zero, List.set_cons_succ]
      refine takeH (i := 8) (v := .slice (some ad) N cap0) rfl (by kernel_rfl) (by kernel_rfl) (by kernel_rfl) (fun _ _ _ h => h) (Or.inl ⟨by rfl, fun w' hSw => ?_⟩) hHeld ?_
      · (have r0 := hSw.c0; simp only at r0; clear hSw; go_simp)
      simp only [Act.put, List.setIfInBounds_toArray, List.set_cons_zero, List.set_cons_succ]
      refine takeH (i := 9) (v := .int .i64 k) rfl (by kernel_rfl) (by kernel_rfl) (by kernel_rfl) (fun _ _ _ h => h) (Or.inl ⟨by rfl, fun w' hSw => ?_⟩) hHeld ?_
      · (clear hSw; go_simp)
      simp only [Act.put, List.setIfInBounds_toArray, List.set_cons_zero, List.set_cons_succ]
      refine takeH (i := 10) (v := .pointer (some (ad.add k))) rfl (by kernel_rfl) (by kernel_rfl) (by kernel_rfl) (fun _ _ _ h => h) (Or.inl ⟨by rfl, fun w' hSw => ?_⟩) hHeld ?_
      · (clear hSw; go_simp)
      simp only [Act.put, List.setIfInBounds_toArray, List.set_cons_zero, List.set_cons_succ]
      refine takeH (i := 11) (v := .pointer (some ⟨q0.g, 0, none⟩)) rfl (by kernel_rfl) (by kernel_rfl) (by kernel_rfl) (fun _ _ _ h => h) (Or.inl ⟨by rfl, fun w' hSw => ?_⟩) hHeld ?_
      · (have r1 := HROW.out w' hSw; clear hSw; go_simp)
      simp only [Act.put, List.setIfInBounds_toArray, List.set_cons_zero, List.set_cons_succ]
      refine wpAnyH_ready (rs := [4, 12]) (by kernel_rfl) (by simp) ?_
      refine AllReadyH.cons rfl (fun K hK => ?_) (AllReadyH.cons rfl (fun K hK => ?_) AllReadyH.nil)
      · go_simp
        refine hK.out _ _ (hHeld) (fun hHeld => ?_)
        clear hK K
        try simp only [Act.put, List.setIfInBounds_toArray, List.set_cons_zero, List.set_cons_succ]
        refine wpAnyH_ready (rs := [12]) (by kernel_rfl) (by simp) ?_
        refine AllReadyH.cons rfl (fun K hK => ?_) AllReadyH.nil
        go_simp
        refine (nclone_any HLK.out HSH.out.1 HSH.out.2.1 HSH.out.2.2).mono ?_
        rintro e w3 ⟨q, rfl, hlq, hb3⟩
        have HQ := Lib.hid hlq
        have HB3 := Lib.hid hb3
        have HO3 := Lib.hid (HO.out.next hb3)
        clear hlq hb3 hHeld
        dsimp only
        refine hK.out _ _ (HO3.out) (fun hHeld => ?_)
        clear hK K
        try simp only [Act.put, List.setIfInBounds_toArray, List.set_cons_zero, List.set_cons_succ]
        refine wpAnyH_ready (rs := [13]) (by kernel_rfl) (by simp) ?_
        refine AllReadyH.cons rfl (fun K hK => ?_) AllReadyH.nil
        go_simp
        refine hK.out _ _ (HO3.out.next ((Below.refl _ _).alloc (Nat.le_refl _) _)) (fun hHeld => ?_)
        clear hK K
        try simp only [Act.put, List.setIfInBounds_toArray, List.set_cons_zero, List.set_cons_succ]
        refine wpAnyH_ready (rs := [14]) (by kernel_rfl) (by simp) ?_
        refine AllReadyH.cons rfl (fun K hK => ?_) AllReadyH.nil
        have HAL := Lib.hid (HB3.out.alloc HB3.out.size (.cells #[q.ptr] 85))
        have HGW := Lib.hid (HL.out.grow.below HAL.out)
        refine step_append_E11 ptT _ (by rfl) (.tmp 25) (.tmp 34) (by rfl) w.heap.size (.slice A k cap) ps (by rfl) HGW.out (some ⟨w3.heap.size, 0, none⟩) 1 1 [q] (by rfl) (Gown.lit1 ptT w3 q) (by rw [HL.out.len]; show (b.L.take k).length + 1 ≤ 1000000; rw [List.length_take, HN.out]; omega) (by have := HB3.out.size; have := HBW.out.size; simp at *; omega) ?_
        intro v5 w5 h5 g5 l5
        obtain ⟨A5, c5, hv5, -⟩ := h5.len
        have HP := Lib.hid (HL.out.push HB3.out HQ.out g5 l5 h5)
        have h5b : w5.cell? ⟨w.heap.size, 0, none⟩ = some (.slice A k cap) ∧ w5.frozen? ⟨w.heap.size, 0, none⟩ = false := by
          have h4 := HL.out.next HAL.out
          have hk := (Moves.row g5 l5).blk h4.blk (fun e => h4.nv e)
          exact ⟨cell_of_row _ _ 0 _ _ (0, 0) hk.1, typed_frozen hk.1 0⟩
        obtain ⟨c50, f50⟩ := h5b
        have HO5 := Lib.hid (((HO.out.next HAL.out).apart (Moves.row g5 l5) fun j hj hf => by have a := HOLT.out j hj; have c := (World.ownsRow.lt HL.out.row j hf).1; omega).1)
        obtain ⟨N5, hN5⟩ : ∃ N5, (ps ++ [q]).length = N5 := ⟨_, rfl⟩
        rw [hN5] at hv5
        clear hN5 h5 g5 l5 hHeld
        subst hv5
        refine hK.out _ _ (HO5.out) (fun hHeld => ?_)
        clear hK K
        try simp only [Act.put, List.setIfInBounds_toArray, List.set_cons_zero, List.set_cons_succ]
        refine takeH (i := 15) (v := .pointer (some ⟨w.heap.size, 0, none⟩)) rfl (by kernel_rfl) (by kernel_rfl) (by kernel_rfl) (fun _ _ _ h => h) (Or.inl ⟨by rfl, fun w' hSw => ?_⟩) hHeld ?_
        · (clear hSw; go_simp)
        simp only [Act.put, List.setIfInBounds_toArray, List.set_cons_zero, List.set_cons_succ]
        refine takeH (i := 16) (v := .pointer (some ⟨w.heap.size, 0, none⟩)) rfl (by kernel_rfl) (by kernel_rfl) (by kernel_rfl) (fun _ _ _ h => h) (Or.inl ⟨by rfl, fun w' hSw => ?_⟩) hHeld ?_
        · (clear hSw; go_simp)
        simp only [Act.put, List.setIfInBounds_toArray, List.set_cons_zero, List.set_cons_succ]
        have HO6 := Lib.hid ((HO5.out.apart (.only ((Only.refl w.heap.size w5).set (i := 0) (v := .slice A5 N5 c5)) (F := fun j => j = w.heap.size) rfl) fun j hj hf => by have a := HOLT.out j hj; omega).1)
        refine wpAnyH_ready (rs := [17]) (by kernel_rfl) (by simp) ?_
        refine AllReadyH.cons rfl (fun K hK => ?_) AllReadyH.nil
        go_simp
        refine hK.out _ _ (HO6.out) (fun hHeld => ?_)
        clear hK K
        try simp only [Act.put, List.setIfInBounds_toArray, List.set_cons_zero, List.set_cons_succ]
        refine wpAnyH_done (by kernel_rfl) ?_ _
        clear hHeld
        have HPN := Lib.hid HP.out.1
        have HPB := Lib.hid HP.out.2
        clear HP
        go_wp2
        go_roundw
        case rel => exact ⟨k + 1, _, by omega, by go_num, rfl, by have h := HPN.out; simp only at h; rw [← HTK.out] at h; exact h, (below_drew HBW.out).trans HPB.out⟩
        case measure => simp [intOf]; omega
      · go_simp
        refine (nclone_any HLK.out HSH.out.1 HSH.out.2.1 HSH.out.2.2).mono ?_
        rintro e w3 ⟨q, rfl, hlq, hb3⟩
        have HQ := Lib.hid hlq
        have HB3 := Lib.hid hb3
        have HO3 := Lib.hid (HO.out.next hb3)
        clear hlq hb3 hHeld
        dsimp only
        refine hK.out _ _ (HO3.out) (fun hHeld => ?_)
        clear hK K
        try simp only [Act.put, List.setIfInBounds_toArray, List.set_cons_zero, List.set_cons_succ]
        have c30 : w3.cell? ⟨w.heap.size, 0, none⟩ = some (.slice A k cap) := (HL.out.next HB3.out).c0
        refine wpAnyH_ready (rs := [4, 13]) (by kernel_rfl) (by simp) ?_
        refine AllReadyH.cons rfl (fun K hK => ?_) (AllReadyH.cons rfl (fun K hK => ?_) AllReadyH.nil)
        · go_simp
          refine hK.out _ _ (hHeld) (fun hHeld => ?_)
          clear hK K
          try simp only [Act.put, List.setIfInBounds_toArray, List.set_cons_zero, List.set_cons_succ]
          refine wpAnyH_ready (rs := [13]) (by kernel_rfl) (by simp) ?_
          refine AllReadyH.cons rfl (fun K hK => ?_) AllReadyH.nil
          go_simp
          refine hK.out _ _ (HO3.out.next ((Below.refl _ _).alloc (Nat.le_refl _) _)) (fun hHeld => ?_)
          clear hK K
          try simp only [Act.put, List.setIfInBounds_toArray, List.set_cons_zero, List.set_cons_succ]
          refine wpAnyH_ready (rs := [14]) (by kernel_rfl) (by simp) ?_
          refine AllReadyH.cons rfl (fun K hK => ?_) AllReadyH.nil
          have HAL := Lib.hid (HB3.out.alloc HB3.out.size (.cells #[q.ptr] 85))
          have HGW := Lib.hid (HL.out.grow.below HAL.out)
          refine step_append_E11 ptT _ (by rfl) (.tmp 25) (.tmp 34) (by rfl) w.heap.size (.slice A k cap) ps (by rfl) HGW.out (some ⟨w3.heap.size, 0, none⟩) 1 1 [q] (by rfl) (Gown.lit1 ptT w3 q) (by rw [HL.out.len]; show (b.L.take k).length + 1 ≤ 1000000; rw [List.length_take, HN.out]; omega) (by have := HB3.out.size; have := HBW.out.size; simp at *; omega) ?_
          intro v5 w5 h5 g5 l5
          obtain ⟨A5, c5, hv5, -⟩ := h5.len
          have HP := Lib.hid (HL.out.push HB3.out HQ.out g5 l5 h5)
          have h5b : w5.cell? ⟨w.heap.size, 0, none⟩ = some (.slice A k cap) ∧ w5.frozen? ⟨w.heap.size, 0, none⟩ = false := by
            have h4 := HL.out.next HAL.out
            have hk := (Moves.row g5 l5).blk h4.blk (fun e => h4.nv e)
            exact ⟨cell_of_row _ _ 0 _ _ (0, 0) hk.1, typed_frozen hk.1 0⟩
          obtain ⟨c50, f50⟩ := h5b
          have HO5 := Lib.hid (((HO.out.next HAL.out).apart (Moves.row g5 l5) fun j hj hf => by have a := HOLT.out j hj; have c := (World.ownsRow.lt HL.out.row j hf).1; omega).1)
          obtain ⟨N5, hN5⟩ : ∃ N5, (ps ++ [q]).length = N5 := ⟨_, rfl⟩
          rw [hN5] at hv5
          clear hN5 h5 g5 l5 hHeld
          subst hv5
          refine hK.out _ _ (HO5.out) (fun hHeld => ?_)
          clear hK K
          try simp only [Act.put, List.setIfInBounds_toArray, List.set_cons_zero, List.set_cons_succ]
          refine takeH (i := 15) (v := .pointer (some ⟨w.heap.size, 0, none⟩)) rfl (by kernel_rfl) (by kernel_rfl) (by kernel_rfl) (fun _ _ _ h => h) (Or.inl ⟨by rfl, fun w' hSw => ?_⟩) hHeld ?_
          · (clear hSw; go_simp)
          simp only [Act.put, List.setIfInBounds_toArray, List.set_cons_zero, List.set_cons_succ]
          refine takeH (i := 16) (v := .pointer (some ⟨w.heap.size, 0, none⟩)) rfl (by kernel_rfl) (by kernel_rfl) (by kernel_rfl) (fun _ _ _ h => h) (Or.inl ⟨by rfl, fun w' hSw => ?_⟩) hHeld ?_
          · (clear hSw; go_simp)
          simp only [Act.put, List.setIfInBounds_toArray, List.set_cons_zero, List.set_cons_succ]
          have HO6 := Lib.hid ((HO5.out.apart (.only ((Only.refl w.heap.size w5).set (i := 0) (v := .slice A5 N5 c5)) (F := fun j => j = w.heap.size) rfl) fun j hj hf => by have a := HOLT.out j hj; omega).1)
          refine wpAnyH_ready (rs := [17]) (by kernel_rfl) (by simp) ?_
          refine AllReadyH.cons rfl (fun K hK => ?_) AllReadyH.nil
          go_simp
          refine hK.out _ _ (HO6.out) (fun hHeld => ?_)
          clear hK K
          try simp only [Act.put, List.setIfInBounds_toArray, List.set_cons_zero, List.set_cons_succ]
          refine wpAnyH_done (by kernel_rfl) ?_ _
          clear hHeld
          have HPN := Lib.hid HP.out.1
          have HPB := Lib.hid HP.out.2
          clear HP
          go_wp2
          go_roundw
          case rel => exact ⟨k + 1, _, by omega, by go_num, rfl, by have h := HPN.out; simp only at h; rw [← HTK.out] at h; exact h, (below_drew HBW.out).trans HPB.out⟩
          case measure => simp [intOf]; omega
        · go_simp
          refine hK.out _ _ (HO3.out.next ((Below.refl _ _).alloc (Nat.le_refl _) _)) (fun hHeld => ?_)
          clear hK K
          try simp only [Act.put, List.setIfInBounds_toArray, List.set_cons_zero, List.set_cons_succ]
          have c40 : (w3.alloc (.cells #[q.ptr] 85)).cell? ⟨w.heap.size, 0, none⟩ = some (.slice A k cap) := (HL.out.next (HB3.out.alloc HB3.out.size (.cells #[q.ptr] 85))).c0
          refine wpAnyH_ready (rs := [4]) (by kernel_rfl) (by simp) ?_
          refine AllReadyH.cons rfl (fun K hK => ?_) AllReadyH.nil
          go_simp
          refine hK.out _ _ (hHeld) (fun hHeld => ?_)
          clear hK K
          try simp only [Act.put, List.setIfInBounds_toArray, List.set_cons_zero, List.set_cons_succ]
          refine wpAnyH_ready (rs := [14]) (by kernel_rfl) (by simp) ?_
          refine AllReadyH.cons rfl (fun K hK => ?_) AllReadyH.nil
          have HAL := Lib.hid (HB3.out.alloc HB3.out.size (.cells #[q.ptr] 85))
          have HGW := Lib.hid (HL.out.grow.below HAL.out)
          refine step_append_E11 ptT _ (by rfl) (.tmp 25) (.tmp 34) (by rfl) w.heap.size (.slice A k cap) ps (by rfl) HGW.out (some ⟨w3.heap.size, 0, none⟩) 1 1 [q] (by rfl) (Gown.lit1 ptT w3 q) (by rw [HL.out.len]; show (b.L.take k).length + 1 ≤ 1000000; rw [List.length_take, HN.out]; omega) (by have := HB3.out.size; have := HBW.out.size; simp at *; omega) ?_
          intro v5 w5 h5 g5 l5
          obtain ⟨A5, c5, hv5, -⟩ := h5.len
          have HP := Lib.hid (HL.out.push HB3.out HQ.out g5 l5 h5)
          have h5b : w5.cell? ⟨w.heap.size, 0, none⟩ = some (.slice A k cap) ∧ w5.frozen? ⟨w.heap.size, 0, none⟩ = false := by
            have h4 := HL.out.next HAL.out
            have hk := (Moves.row g5 l5).blk h4.blk (fun e => h4.nv e)
            exact ⟨cell_of_row _ _ 0 _ _ (0, 0) hk.1, typed_frozen hk.1 0⟩
          obtain ⟨c50, f50⟩ := h5b
          have HO5 := Lib.hid (((HO.out.next HAL.out).apart (Moves.row g5 l5) fun j hj hf => by have a := HOLT.out j hj; have c := (World.ownsRow.lt HL.out.row j hf).1; omega).1)
          obtain ⟨N5, hN5⟩ : ∃ N5, (ps ++ [q]).length = N5 := ⟨_, rfl⟩
          rw [hN5] at hv5
          clear hN5 h5 g5 l5 hHeld
          subst hv5
          refine hK.out _ _ (HO5.out) (fun hHeld => ?_)
          clear hK K
          try simp only [Act.put, List.setIfInBounds_toArray, List.set_cons_zero, List.set_cons_succ]
          refine takeH (i := 15) (v := .pointer (some ⟨w.heap.size, 0, none⟩)) rfl (by kernel_rfl) (by kernel_rfl) (by kernel_rfl) (fun _ _ _ h => h) (Or.inl ⟨by rfl, fun w' hSw => ?_⟩) hHeld ?_
          · (clear hSw; go_simp)
          simp only [Act.put, List.setIfInBounds_toArray, List.set_cons_zero, List.set_cons_succ]
          refine takeH (i := 16) (v := .pointer (some ⟨w.heap.size, 0, none⟩)) rfl (by kernel_rfl) (by kernel_rfl) (by kernel_rfl) (fun _ _ _ h => h) (Or.inl ⟨by rfl, fun w' hSw => ?_⟩) hHeld ?_
          · (clear hSw; go_simp)
          simp only [Act.put, List.setIfInBounds_toArray, List.set_cons_zero, List.set_cons_succ]
          have HO6 := Lib.hid ((HO5.out.apart (.only ((Only.refl w.heap.size w5).set (i := 0) (v := .slice A5 N5 c5)) (F := fun j => j = w.heap.size) rfl) fun j hj hf => by have a := HOLT.out j hj; omega).1)
          refine wpAnyH_ready (rs := [17]) (by kernel_rfl) (by simp) ?_
          refine AllReadyH.cons rfl (fun K hK => ?_) AllReadyH.nil
          go_simp
          refine hK.out _ _ (HO6.out) (fun hHeld => ?_)
          clear hK K
          try simp only [Act.put, List.setIfInBounds_toArray, List.set_cons_zero, List.set_cons_succ]
          refine wpAnyH_done (by kernel_rfl) ?_ _
          clear hHeld
          have HPN := Lib.hid HP.out.1
          have HPB := Lib.hid HP.out.2
          clear HP
          go_wp2
          go_roundw
          case rel => exact ⟨k + 1, _, by omega, by go_num, rfl, by have h := HPN.out; simp only at h; rw [← HTK.out] at h; exact h, (below_drew HBW.out).trans HPB.out⟩
          case measure => simp [intOf]; omega
    · have hlt' : ¬ (k : Int) < (N : Int) := by omega
      have hkn : k = N := by omega
      subst hkn
      have HL0 := Lib.hid (show BLay wr w.heap.size ⟨w.heap.size, .slice A k cap, ps⟩ b by have h := hl; rw [List.take_of_length_le (by rw [HN.out]; exact Nat.le_refl _), ← HT.out] at h; exact h)
      clear hl hbw
      go_wp2
      go_ret
      exact ⟨_, rfl, HL0.out, HBW.out⟩
end Go.Proofs.YtalpbnfebcafgaaGreat

/- For BusSteps: a bus that is stepped by hand, its first one, and how acts and sizes that came in are opened. -/
namespace Go.Proofs.YtalpbnfebcafgaaGreat
set_option maxRecDepth 20000
open Go.ChangeShapes Go.WideShapes Go.ChangeAt Go.RowKit
set_option linter.unusedSimpArgs false

/-- The runs of a play, tick by tick. -/
def rawR (N : Nat) (l : List Ac) : Nat → List Rn
  | 0 => []
  | k + 1 => rawR N l k ++ [((plays N l k).b.dos (atT l k)).1.run 0 4294967295]
theorem rawR_len (N : Nat) (l : List Ac) : ∀ k, (rawR N l k).length = k
  | 0 => rfl
  | k + 1 => by rw [rawR, List.length_append, rawR_len N l k]; rfl
theorem rawR_n (N : Nat) (l : List Ac) : ∀ k, ∀ r ∈ rawR N l k, r.n = 1
  | 0 => fun r h => by cases h
  | k + 1 => fun r h => by
    rw [rawR] at h
    rcases List.mem_append.1 h with h | h
    · exact rawR_n N l k r h
    · rw [List.mem_singleton.1 h]; rfl
theorem plays_t (N : Nat) (l : List Ac) : ∀ k, (plays N l k).b.t = k
  | 0 => rfl
  | k + 1 => by
    show ((plays N l k).b.dos _).1.t + 1 = k + 1
    rw [dos_t, plays_t N l k]
theorem rawR_joins (N : Nat) (l : List Ac) : ∀ k, joinsR (rawR N l k) = (plays N l k).rs
  | 0 => rfl
  | k + 1 => by
    rw [rawR, joinsR_snoc, rawR_joins N l k]
    show _ = joinR (plays N l k).rs _
    rw [plays_t]
theorem set_ow {T i : Nat} {L : List Nd} {n : Nd} (hS : ∀ n ∈ L, Ow T n) (hn : Ow T n) : ∀ m ∈ L.set i n, Ow T m := fun m hm => by
  rcases List.mem_or_eq_of_mem_set hm with h | rfl
  · exact hS m h
  · exact hn
theorem Ow.more {T U : Nat} {n : Nd} (h : Ow T n) (hU : T ≤ U) : Ow U n := ⟨h.s.more hU, h.l⟩
theorem getD_ow {T i : Nat} {L : List Nd} (hS : ∀ n ∈ L, Ow T n) : Ow T (L.getD i Nd.new) := by
  by_cases h : i < L.length
  · rw [List.getD, List.getElem?_eq_getElem h]; exact hS _ (List.getElem_mem h)
  · rw [List.getD, List.getElem?_eq_none (by omega)]; exact ow_new.more (by omega)
theorem dos_ow {T : Nat} {b : Bs} (hS : ∀ n ∈ b.L, Ow T n) (l : List Ac) (hwf : ∀ a ∈ l, a.f.wf) : ∀ n ∈ (b.dos l).1.L, Ow T n := by
  induction l using snocI with
  | h0 => exact hS
  | h l a ih =>
    have ih := ih fun x hx => hwf x (by simp [hx])
    rw [dos_snoc]
    unfold Bs.do1
    split
    · exact ih
    · exact set_ow ih ((getD_ow ih).put _ (hwf a (by simp)))
theorem plays_ow {N : Nat} {l : List Ac} (hwf : ∀ a ∈ l, a.f.wf) : ∀ k, ∀ n ∈ (plays N l k).b.L, Ow k n
  | 0 => fun n hn => by
      have : n = Nd.new := by simp [plays, Bs.new] at hn; exact hn.2
      rw [this]; exact ow_new
  | k + 1 => by
    have ih := dos_ow (plays_ow (N := N) hwf k) (atT l (plays N l k).b.t) fun a ha => hwf a (List.mem_filter.1 ha).1
    intro n hn
    have hn : n ∈ sees (lvO (drvO ((plays N l k).b.dos (atT l (plays N l k).b.t)).1.L 0 4294967295)) ((plays N l k).b.dos (atT l (plays N l k).b.t)).2 0 ((plays N l k).b.dos (atT l (plays N l k).b.t)).1.L ((plays N l k).b.dos (atT l (plays N l k).b.t)).1.L.length := hn
    generalize ((plays N l k).b.dos (atT l (plays N l k).b.t)) = bx at *
    obtain ⟨⟨L, t⟩, x⟩ := bx
    simp only at hn ih
    obtain ⟨i, hi, rfl⟩ := List.getElem_of_mem hn
    have hi' := hi
    rw [sees_len] at hi'
    have h1 : L[i]? = some L[i] := List.getElem?_eq_getElem hi'
    have h2 := sees_get (l := lvO (drvO L 0 4294967295)) (x := x) (m := 0) (Nat.le_refl _) h1
    rw [List.getElem?_eq_getElem hi, if_pos hi'] at h2
    injection h2 with h2
    rw [h2]
    have hs := ih _ (List.getElem_mem hi')
    unfold act1
    split
    · exact hs.more (by omega)
    · exact hs.stp (by split; exact oth_01 _; exact lvO_01 _)
theorem atT_snoc (l : List Ac) (a : Ac) (k : Nat) : atT (l ++ [a]) k = if a.t = (k : Int) then atT l k ++ [a] else atT l k := by
  unfold atT
  rw [List.filter_append]
  by_cases h : a.t = (k : Int)
  · rw [if_pos h, List.filter_cons_of_pos (by simpa using h)]; rfl
  · rw [if_neg h, List.filter_cons_of_neg (by simpa using h)]; simp
/-- A bus that is stepped by hand, and what it told. -/
structure Sst (w0 w : World) (p : BP) (u v : Value) (b : Bs) (rs : List Rn) (es : List Be) : Prop where
  bus : BLay w w0.heap.size p b
  runs : Gown rnT w w0.heap.size u rs
  evs : Gown evT w w0.heap.size v es
  bel : Below w0.heap.size w0 w
section
variable {w0 w w' : World} {p p' : BP} {u v u' v' : Value} {b b' : Bs} {rs rs' : List Rn} {es es' : List Be}
theorem Sst.next (h : Sst w0 w p u v b rs es) (hb : Below w.heap.size w w') : Sst w0 w' p u v b rs es :=
  ⟨h.bus.next hb, h.runs.below hb, h.evs.below hb, nxt h.bel hb⟩
theorem Sst.turn (h : Sst w0 w p u v b rs es) (hm : Moves p.fp p'.fp w w') (hb : BLay w' w0.heap.size p' b') : Sst w0 w' p' u v b' rs es :=
  ⟨hb, (h.runs.moves hm (h.bus.typed h.runs (by decide) (by decide) (by decide) (by decide) (by decide) (by decide))).1, (h.evs.moves hm (h.bus.typed h.evs (by decide) (by decide) (by decide) (by decide) (by decide) (by decide))).1, moves_below hm h.bus.fp_ge h.bel⟩
theorem Sst.run (h : Sst w0 w p u v b rs es) (hm : Moves (own11 u) (own11 u') w w') (hu : Gown rnT w' w0.heap.size u' rs') : Sst w0 w' p u' v b rs' es :=
  ⟨(h.bus.apart hm fun k hk hf => h.bus.typed h.runs (by decide) (by decide) (by decide) (by decide) (by decide) (by decide) k hf hk).1, hu, (h.evs.moves hm (rows_ne h.evs h.runs (by decide))).1, moves_below hm (own_ge h.runs) h.bel⟩
theorem Sst.ev (h : Sst w0 w p u v b rs es) (hm : Moves (own11 v) (own11 v') w w') (hv : Gown evT w' w0.heap.size v' es') : Sst w0 w' p u v' b rs es' :=
  ⟨(h.bus.apart hm fun k hk hf => h.bus.typed h.evs (by decide) (by decide) (by decide) (by decide) (by decide) (by decide) k hf hk).1, (h.runs.moves hm (rows_ne h.runs h.evs (by decide))).1, hv, moves_below hm (own_ge h.evs) h.bel⟩
end
/-- The first bus: the one that is stepped, till it is cloned. -/
structure Fst (w : World) (gf : Nat) (p : BP) (at_ : Int) (k : Nat) : Prop where
  gone : 0 ≤ at_ ∧ at_ < (k : Int) → (∃ v, w.heap[gf]? = some (.cells #[v, .int .i64 at_] 84)) ∧ ¬ p.fp gf
  same : ¬ (0 ≤ at_ ∧ at_ < (k : Int)) → p.g = gf
section
variable {w w' : World} {gf k : Nat} {p p' : BP} {at_ : Int}
theorem Fst.next (h : Fst w gf p at_ k) (hb : Below w.heap.size w w') : Fst w' gf p at_ k :=
  ⟨fun hc => by obtain ⟨⟨v, h1⟩, h2⟩ := h.gone hc; exact ⟨⟨v, (hb.block _ (typed_lt h1)).trans h1⟩, h2⟩, h.same⟩
theorem Fst.turn (h : Fst w gf p at_ k) (hm : Moves p.fp p'.fp w w') (hg : p'.g = p.g) : Fst w' gf p' at_ k :=
  ⟨fun hc => by obtain ⟨⟨v, h1⟩, h2⟩ := h.gone hc; obtain ⟨h3, h4⟩ := hm.blk h1 h2; exact ⟨⟨v, h3⟩, h4⟩, fun hc => hg.trans (h.same hc)⟩
theorem Fst.row {B n s : Nat} {e : TypeId} {u u' : Value} {xs : List Value} (h : Fst w gf p at_ k) (ho : w.ownsRow B e s u n xs) (hT : 84 ≠ e) (hm : Moves (own11 u) (own11 u') w w') : Fst w' gf p at_ k :=
  ⟨fun hc => by obtain ⟨⟨v, h1⟩, h2⟩ := h.gone hc; exact ⟨⟨v, (hm.blk h1 fun hf => owns_ne ho h1 hT hf).1⟩, h2⟩, h.same⟩
theorem Fst.wait (h : Fst w gf p at_ k) (hne : at_ ≠ (k : Int)) : Fst w gf p at_ (k + 1) :=
  ⟨fun hc => h.gone ⟨hc.1, by have := hc.2; omega⟩, fun hc => h.same fun hd => hc ⟨hd.1, by have := hd.2; omega⟩⟩
theorem Fst.clone {B : Nat} {b : Bs} (h : Fst w gf p at_ k) (he : at_ = (k : Int)) (hl : BLay w B p b) (ht : b.t = k) (hb : Below w.heap.size w w') (hp : ∀ j, p'.fp j → w.heap.size ≤ j) : Fst w' gf p' at_ (k + 1) := by
  have hg := h.same fun hc => by have := hc.2; omega
  refine ⟨fun _ => ⟨⟨p.v, ?_⟩, fun hf => ?_⟩, fun hc => absurd ⟨by omega, by omega⟩ hc⟩
  · rw [← hg, he, ← ht]
    exact (hb.block _ hl.lt).trans hl.blk
  · have := hp _ hf
    have := hl.lt
    omega
end
theorem tick_at {w : World} {g : Nat} {v : Value} {t : Int} (h : w.heap[g]? = some (.cells #[v, .int .i64 t] 84)) : Calls Tryz.prog 21 #[.pointer (some ⟨g, 0, none⟩)] w fun e w' => e = .returned (.int .i64 t) ∧ w = w' := by
  have c1 : w.cell? ⟨g, 1, none⟩ = some (.int .i64 t) := cell_of_row w g 1 _ _ (0, 0) h
  clear h
  go_enter Tryz.func21, Tryz.ntmps21
  go_wp2
  go_ret
  exact ⟨rfl, rfl⟩
section
variable {H : Type} {enc : TypeId × Value → H} {W : World} {m : Nat} {x : DataW H × List MemPlace}
theorem ac_cells {cs : List Value} (hf : DataW.trod enc Tryz.prog W 0 (fun _ => true) true m 35 cs = some x) : ∃ a : Ac, (a.f.wf ∧ (Lit.int .i64 a.t).wf = true) ∧ cs = accs a := by
  obtain ⟨xs, n, _, _, hl, hxl, hg⟩ := DataW.trod_struct Tryz.underlying35 hf
  rw [show Tryz.prog.cellsOf 35 = 15 by kernel_rfl] at hl
  have hxl' : xs.length = 4 := hxl
  match cs, hl with
  | [c0, c1, c2, c3, c4, c5, c6, c7, c8, c9, c10, c11, c12, c13, c14], _ =>
    have t0 : DataW.trod enc Tryz.prog W 0 (fun _ => true) true n 3 (List.take (Tryz.prog.cellsOf 3) (List.drop 0 [c0, c1, c2, c3, c4, c5, c6, c7, c8, c9, c10, c11, c12, c13, c14])) = xs[0]? := hg 0 _ rfl
    have t1 : DataW.trod enc Tryz.prog W 0 (fun _ => true) true n 3 (List.take (Tryz.prog.cellsOf 3) (List.drop 1 [c0, c1, c2, c3, c4, c5, c6, c7, c8, c9, c10, c11, c12, c13, c14])) = xs[1]? := hg 1 _ rfl
    have t2 : DataW.trod enc Tryz.prog W 0 (fun _ => true) true n 4 (List.take (Tryz.prog.cellsOf 4) (List.drop 2 [c0, c1, c2, c3, c4, c5, c6, c7, c8, c9, c10, c11, c12, c13, c14])) = xs[2]? := hg 2 _ rfl
    have t3 : DataW.trod enc Tryz.prog W 0 (fun _ => true) true n 31 (List.take (Tryz.prog.cellsOf 31) (List.drop 3 [c0, c1, c2, c3, c4, c5, c6, c7, c8, c9, c10, c11, c12, c13, c14])) = xs[3]? := hg 3 _ rfl
    rw [List.getElem?_eq_getElem (by omega)] at t0 t1 t2 t3
    simp only [show Tryz.prog.cellsOf 3 = 1 by kernel_rfl, List.drop_zero, List.take_succ_cons, List.take_zero] at t0
    simp only [show Tryz.prog.cellsOf 3 = 1 by kernel_rfl, List.drop_succ_cons, List.drop_zero, List.take_succ_cons, List.take_zero] at t1
    simp only [show Tryz.prog.cellsOf 4 = 1 by kernel_rfl, List.drop_succ_cons, List.drop_zero, List.take_succ_cons, List.take_zero] at t2
    simp only [show Tryz.prog.cellsOf 31 = 12 by kernel_rfl, List.drop_succ_cons, List.drop_zero, List.take_succ_cons, List.take_zero] at t3
    obtain ⟨z0, h0, w0⟩ := DataW.trod_int Tryz.underlying3 t0
    obtain ⟨z1, h1, _⟩ := DataW.trod_int Tryz.underlying3 t1
    obtain ⟨r, h2, _⟩ := DataW.trod_bool Tryz.underlying4 t2
    obtain ⟨f, hc, hw⟩ := frame_cells t3
    simp at h0 h1 h2
    refine ⟨⟨z0, z1, r, f⟩, ⟨hw, w0.2⟩, ?_⟩
    have e : [c0, c1, c2, c3, c4, c5, c6, c7, c8, c9, c10, c11, c12, c13, c14] = c0 :: c1 :: c2 :: [c3, c4, c5, c6, c7, c8, c9, c10, c11, c12, c13, c14] := rfl
    rw [e, hc, h0, h1, h2]
theorem acs_in {c : Value} (hf : DataW.trod enc Tryz.prog W 0 (fun _ => true) true m 25 [c] = some x) : ∃ a len cap l, c = .slice a len cap ∧ Gs acT W a len l ∧ ∀ y ∈ l, y.f.wf ∧ (Lit.int .i64 y.t).wf = true := by
  rcases Go.Deep.open_slice Tryz.underlying25 hf with ⟨hcs, _⟩ | ⟨ad, l, c', m', n, D, Pl, hcs, _, hl, hm, hmm, _, hel⟩
  · simp at hcs
    exact ⟨none, 0, 0, [], hcs, ⟨rfl, fun h => by omega⟩, fun y hy => by cases hy⟩
  · simp at hcs
    have hlm : l ≤ m' := by rw [hmm]; split <;> omega
    obtain ⟨ts, hts⟩ := Go.Deep.choose_lt (α := Ac) (n := l) (p := fun i a => (a.f.wf ∧ (Lit.int .i64 a.t).wf = true) ∧ W.cells? 0 (ad.add (i * 15)) 15 = some (accs a)) (fun i hi => by
      obtain ⟨cs', h1, h2⟩ := hel i (by omega)
      rw [show Tryz.prog.cellsOf 35 = 15 by kernel_rfl] at h1
      obtain ⟨t, hw, hc⟩ := ac_cells h2
      exact ⟨t, hw, by rw [h1, hc]⟩)
    refine ⟨some ad, l, c', (List.range l).map ts, hcs, ⟨by simp, fun hn => ⟨ad, rfl, ?_, fun j u hu => ?_⟩⟩, fun y hy => ?_⟩
    · obtain ⟨_, _, hc⟩ := World.cells?_some (hts 0 hn).2
      have h0 : W.cell? ((ad.add (0 * 15)).add 0) = some (.int .i64 (ts 0).t) := hc 0 (by omega)
      have hb := World.block_lt_of_cell? W _ h0
      rwa [block_of_add, block_of_add] at hb
    · have hjl : j < l * 15 := by
        have := (List.getElem?_eq_some_iff.1 hu).1
        rw [acT.f_len, List.length_map, List.length_range] at this
        exact this
      have hq : j / 15 < l := by omega
      obtain ⟨_, _, hc⟩ := World.cells?_some (hts (j / 15) hq).2
      have hr : j % 15 < 15 := Nat.mod_lt _ (by omega)
      have h1 := hc (j % 15) hr
      rw [add_add, show j / 15 * 15 + j % 15 = j by omega] at h1
      have h2 := acT.f_get ((List.range l).map ts) (j / 15) (j % 15) (ts (j / 15)) ((accs (ts (j / 15)))[j % 15]) (by simp [hq]) (List.getElem?_eq_getElem (show j % 15 < (accs (ts (j / 15))).length from hr))
      rw [show j / 15 * acT.k + j % 15 = j by show j / 15 * 15 + j % 15 = j; omega] at h2
      rw [hu] at h2
      injection h2 with h2
      rw [h1, List.getElem?_eq_getElem (show j % 15 < (accs (ts (j / 15))).length from hr), h2]
    · obtain ⟨i, hi, rfl⟩ := List.mem_map.1 hy
      exact (hts i (List.mem_range.1 hi)).1
theorem size_in {v : Value} {d : DataW H} {p : List MemPlace} {base : Nat} (hv : Value.okWide Tryz.prog W .any base 61 v) (h : DataW.Trod enc Tryz.prog W 0 (fun _ => true) true 61 v d p) : ∃ n t, v = .agg #[.int .i64 n, .int .i64 t] := by
  obtain ⟨cs, rfl, _⟩ := okWide_struct Tryz.underlying61 hv
  obtain ⟨fuel, hf⟩ := h
  obtain ⟨xs, n, _, _, hl, hxl, hg⟩ := DataW.trod_struct Tryz.underlying61 hf
  rw [show Tryz.prog.cellsOf 61 = 2 by kernel_rfl] at hl
  have hxl' : xs.length = 2 := hxl
  obtain ⟨cs⟩ := cs
  match cs, hl with
  | [c0, c1], _ =>
    have t0 : DataW.trod enc Tryz.prog W 0 (fun _ => true) true n 3 (List.take (Tryz.prog.cellsOf 3) (List.drop 0 [c0, c1])) = xs[0]? := hg 0 _ rfl
    have t1 : DataW.trod enc Tryz.prog W 0 (fun _ => true) true n 3 (List.take (Tryz.prog.cellsOf 3) (List.drop 1 [c0, c1])) = xs[1]? := hg 1 _ rfl
    rw [List.getElem?_eq_getElem (by omega)] at t0 t1
    simp only [show Tryz.prog.cellsOf 3 = 1 by kernel_rfl, List.drop_zero, List.take_succ_cons, List.take_zero] at t0
    simp only [show Tryz.prog.cellsOf 3 = 1 by kernel_rfl, List.drop_succ_cons, List.drop_zero, List.take_succ_cons, List.take_zero] at t1
    obtain ⟨z0, h0, _⟩ := DataW.trod_int Tryz.underlying3 t0
    obtain ⟨z1, h1, _⟩ := DataW.trod_int Tryz.underlying3 t1
    simp at h0 h1
    exact ⟨z0, z1, by rw [h0, h1]⟩
end
end Go.Proofs.YtalpbnfebcafgaaGreat

