/- The walk of the law CountApart. -/
import Derived.Test.YtmffiakdoklaaaaKU
import Derived.Test.YtmffiakdoklaaaaKO
import Derived.StillTailTactics
namespace Go.Proofs.Ytmffiakdoklaaaa
open Go.RowKit

/-- What comes lies in block g, that is just it. -/
def Xc (w : World) (g : Nat) (k x : Int) : Prop := w.heap[g]? = some (.cells #[.int .i64 k, .int .i64 x] 25)
theorem Xc.cx {w : World} {g : Nat} {k x : Int} (h : Xc w g k x) : w.cell? ⟨g, 0, none⟩ = some (.int .i64 k) ∧ w.cell? ⟨g, 1, none⟩ = some (.int .i64 x) := by
  unfold Xc at h
  exact ⟨cell_of_row w g 0 _ _ (0, 0) h, cell_of_row w g 1 _ _ (0, 0) h⟩
theorem Xc.next {w w' : World} {g : Nat} {k x : Int} (h : Xc w g k x) (hb : Below w.heap.size w w') : Xc w' g k x := (hb.block g (World.block_lt_of_cell? w ⟨g, 0, none⟩ h.cx.1)).trans h
theorem xc_new (w : World) (k x : Int) : Xc (w.alloc (.cells #[.int .i64 k, .int .i64 x] 25)) w.heap.size k x := heap_alloc_new w _
theorem Xc.away {w : World} {g g' : Nat} {k x : Int} (h : Xc w g k x) (hne : g' ≠ g) (u v z : Value) : Xc (((w.setCell ⟨g', 0, none⟩ u).setCell ⟨g', 1, none⟩ v).setCell ⟨g', 2, none⟩ z) g k x := by
  unfold Xc at h ⊢
  simp [World.setCell, Array.getElem?_modify, h, hne]

/-- The three blocks of the law: the counts, a and b. -/
def Tri (w wr : World) (c a b : Ct) : Prop := Below w.heap.size w wr ∧ Cb wr w.heap.size c ∧ Cb wr (w.heap.size + 1) a ∧ Cb wr (w.heap.size + 1 + 1) b
theorem Tri.drew {w wr : World} {c a b : Ct} (h : Tri w wr c a b) : Tri w wr.drew c a b := ⟨h.1.drew, h.2.1, h.2.2.1, h.2.2.2⟩
theorem Tri.next {w wr w' : World} {c a b : Ct} (h : Tri w wr c a b) (hb : Below wr.heap.size wr w') : Tri w w' c a b := ⟨nxt h.1 hb, h.2.1.next hb, h.2.2.1.next hb, h.2.2.2.next hb⟩
theorem Tri.putA {w wr : World} {c a b : Ct} (h : Tri w wr c a b) (d : Ct) : Tri w (((wr.setCell ⟨w.heap.size + 1, 0, none⟩ (.int .i64 d.t)).setCell ⟨w.heap.size + 1, 1, none⟩ (.int .i64 d.r)).setCell ⟨w.heap.size + 1, 2, none⟩ (.bool d.o)) c d b :=
  ⟨set3 h.1 (Nat.le_succ _) _ _ _, h.2.1.away (by omega) _ _ _, h.2.2.1.put d, h.2.2.2.away (by omega) _ _ _⟩
theorem Tri.putB {w wr : World} {c a b : Ct} (h : Tri w wr c a b) (d : Ct) : Tri w (((wr.setCell ⟨w.heap.size + 1 + 1, 0, none⟩ (.int .i64 d.t)).setCell ⟨w.heap.size + 1 + 1, 1, none⟩ (.int .i64 d.r)).setCell ⟨w.heap.size + 1 + 1, 2, none⟩ (.bool d.o)) c a d :=
  ⟨set3 h.1 (by omega) _ _ _, h.2.1.away (by omega) _ _ _, h.2.2.1.away (by omega) _ _ _, h.2.2.2.put d⟩
theorem tri_new (w : World) (c : Ct) : Tri w (((w.alloc (.cells c.cells 23)).alloc (.cells c.cells 23)).alloc (.cells c.cells 23)) c c c :=
  ⟨below3 w _ _ _, ((cb_new w c).next (below1 _ _)).next (below1 _ _), (cb_next w (.cells c.cells 23) c).next (below1 _ _), cb_next2 w _ _ c⟩

set_option maxRecDepth 100000 in
set_option maxHeartbeats 3200000 in
theorem capart_long (c : Ct) (A B : Option Addr) (n n' m m' : Nat) (w : World) (h : 100 < n ∨ 100 < m) :
    Calls Try.prog 7 #[c.val, .slice A n n', .slice B m m'] w fun e w' => e = .returned (.bool true) ∧ Below w.heap.size w w' := by
  have HB := Lib.hid (below1 w (.cells c.cells 23))
  obtain ⟨t, r, o⟩ := c
  by_cases hn : 100 < n
  · have g0 : (100 : Int) < (n : Int) := by omega
    clear h
    go_enter Try.func7, Try.ntmps7
    go_wp2_with fail
    refine (awake8 _).mono ?_
    rintro e w1 ⟨rfl, hb1⟩
    have HF := Lib.hid (nxt HB.out hb1)
    clear hb1
    go_wp2
    go_ret
    exact ⟨rfl, HF.out⟩
  · have g0 : decide ((100 : Int) < (n : Int)) = false := by simp; omega
    have g1 : (100 : Int) < (m : Int) := by omega
    clear h
    go_enter Try.func7, Try.ntmps7
    go_wp2_with fail
    refine (awake8 _).mono ?_
    rintro e w1 ⟨rfl, hb1⟩
    have HF := Lib.hid (nxt HB.out hb1)
    clear hb1
    go_wp2
    go_ret
    exact ⟨rfl, HF.out⟩

set_option maxRecDepth 100000 in
set_option maxHeartbeats 6400000 in
theorem capart_short (c : Ct) (bs : Nat → Bool) (f : Nat → Int × Int) (A B : Option Addr) (n n' m m' : Nat) (w : World) (hn : n ≤ 100) (hm : m ≤ 100) (hA : Bl w A n bs) (hB : Cl w B m f) :
    Calls Try.prog 7 #[c.val, .slice A n n', .slice B m m'] w fun e w' => e = .returned (.bool true) ∧ Below w.heap.size w w' := by
  have HA := Lib.hid hA; have HB := Lib.hid hB
  have HT := Lib.hid (tri_new w c)
  have g0 : decide ((100 : Int) < (n : Int)) = false := by simp; omega
  have g1 : decide ((100 : Int) < (m : Int)) = false := by simp; omega
  have HOFF := Lib.hid (apart_off c bs n)
  have HSAME := Lib.hid (apart_same c bs f n m)
  clear hA hB
  obtain ⟨oc, hoc⟩ : ∃ oc, c.ones bs = oc := ⟨_, rfl⟩
  have HONE := Lib.hid (show ∀ k, oc (k + 1) = (oc k).one (bs k) from fun k => by rw [← hoc]; rfl)
  have HZ := Lib.hid (show oc 0 = c from by rw [← hoc]; rfl)
  rw [hoc] at HOFF HSAME
  clear hoc
  obtain ⟨t, r, o⟩ := c
  go_enter Try.func7, Try.ntmps7
  go_wp2
  go_loopw [9] (fun vi wr => ∃ k : Nat, k ≤ n ∧ vi = .int .i64 k ∧ Tri w wr ⟨t, r, o⟩ (oc k) ⟨t, r, o⟩) (fun vi _ => n - (intOf vi).toNat)
  case atStart => exact ⟨0, Nat.zero_le _, rfl, by rw [HZ.out]; exact HT.out⟩
  case round =>
    clear HT
    obtain ⟨k, hk, rfl, ht⟩ := hrel
    have HT1 := Lib.hid ht
    clear ht
    by_cases hlt : k < n
    · have hlt' : (k : Int) < (n : Int) := by omega
      obtain ⟨ad, rfl, hl, x0⟩ := (HA.out.below HT1.out.1).at_ hlt
      obtain ⟨bk, hbk⟩ : ∃ bk, bs k = bk := ⟨_, rfl⟩
      rw [hbk] at x0
      have HN := Lib.hid (HONE.out k)
      rw [hbk] at HN
      clear hl hbk
      obtain ⟨u, hu⟩ : ∃ u, oc k = u := ⟨_, rfl⟩
      obtain ⟨v, hv⟩ : ∃ v, oc (k + 1) = v := ⟨_, rfl⟩
      have HV := Lib.hid hv
      rw [hu] at HT1
      rw [hu, hv] at HN
      clear hu hv
      obtain ⟨ut, ur, uo⟩ := u
      obtain ⟨vt, vr, vo⟩ := v
      obtain ⟨a0, a1, a2⟩ := HT1.out.2.2.1.cx
      simp only at a0 a1 a2
      go_wp2_with fail
      go_still_tail 5, (by kernel_rfl)
      go_wp2_with fail
      refine (one_any ⟨ut, ur, uo⟩ bk _).mono ?_
      rintro e w2 ⟨rfl, hb2⟩
      rw [← HN.out]
      have HT2 := Lib.hid (Tri.next (wr := wr.drew) HT1.out.drew hb2)
      clear hb2 a0 a1 a2 x0 HT1
      obtain ⟨a0, a1, a2⟩ := HT2.out.2.2.1.cx
      have f0 := HT2.out.2.2.1.frozen 0
      have f1 := HT2.out.2.2.1.frozen 1
      have f2 := HT2.out.2.2.1.frozen 2
      simp only at a0 a1 a2
      have HT3 := Lib.hid (HT2.out.putA ⟨vt, vr, vo⟩)
      clear HT2
      go_wp2
      go_roundw
      case rel => exact ⟨k + 1, by omega, by go_num, by rw [HV.out]; exact HT3.out⟩
      case measure => simp [intOf]; omega
    · obtain rfl : n = k := by omega
      obtain ⟨a, ha⟩ : ∃ a, oc n = a := ⟨_, rfl⟩
      rw [ha] at HT1 HOFF HSAME
      clear ha
      obtain ⟨at', ar, ao⟩ := a
      obtain ⟨a0, a1, a2⟩ := HT1.out.2.2.1.cx
      obtain ⟨c0, c1, c2⟩ := HT1.out.2.1.cx
      simp only at a0 a1 a2 c0 c1 c2
      by_cases ho : ao = o
      · subst ho
        have HSM := Lib.hid (HSAME.out rfl)
        clear HOFF HSAME
        rename World => wo
        have HNA0 := Lib.hid (show ∀ k, Ct.rxs ⟨at', ar, ao⟩ f (k + 1) = (Ct.rxs ⟨at', ar, ao⟩ f k).rx1 (f k) from fun _ => rfl)
        have HNB0 := Lib.hid (show ∀ k, Ct.rxs ⟨t, r, ao⟩ f (k + 1) = (Ct.rxs ⟨t, r, ao⟩ f k).rx1 (f k) from fun _ => rfl)
        go_wp2
        go_loopw [10] (fun vi wr => ∃ k : Nat, k ≤ m ∧ vi = .int .i64 k ∧ Tri w wr ⟨t, r, ao⟩ (Ct.rxs ⟨at', ar, ao⟩ f k) (Ct.rxs ⟨t, r, ao⟩ f k)) (fun vi _ => m - (intOf vi).toNat)
        case atStart => exact ⟨0, Nat.zero_le _, rfl, HT1.out⟩
        case round =>
          clear HT1 a0 a1 a2 c0 c1 c2 hk hlt
          obtain ⟨k, hk, rfl, ht⟩ := hrel
          have HT2 := Lib.hid ht
          clear ht
          by_cases hlt : k < m
          · have hlt' : (k : Int) < (m : Int) := by omega
            have HTA := Lib.hid (HT2.out.next (below1 wr (.cells #[.int .i64 1, .int .i64 0] 25)))
            obtain ⟨ad, hAD, hl, x0, x1⟩ := (HB.out.below HTA.out.1).at_ hlt
            subst hAD
            obtain ⟨wh, hwh⟩ : ∃ wh, (f k).1 = wh := ⟨_, rfl⟩
            obtain ⟨wg, hwg⟩ : ∃ wg, (f k).2 = wg := ⟨_, rfl⟩
            rw [hwh] at x0; rw [hwg] at x1
            have HWH := Lib.hid hwh; have HWG := Lib.hid hwg
            have HNA := Lib.hid (HNA0.out k); have HNB := Lib.hid (HNB0.out k)
            clear hl hwh hwg
            obtain ⟨u, hu⟩ : ∃ u, Ct.rxs ⟨at', ar, ao⟩ f k = u := ⟨_, rfl⟩
            obtain ⟨v, hv⟩ : ∃ v, Ct.rxs ⟨at', ar, ao⟩ f (k + 1) = v := ⟨_, rfl⟩
            obtain ⟨p, hp⟩ : ∃ u, Ct.rxs ⟨t, r, ao⟩ f k = u := ⟨_, rfl⟩
            obtain ⟨q, hq⟩ : ∃ u, Ct.rxs ⟨t, r, ao⟩ f (k + 1) = u := ⟨_, rfl⟩
            have HV := Lib.hid hv; have HQV := Lib.hid hq
            rw [hu, hp] at HT2 HTA
            rw [hu, hv] at HNA
            rw [hp, hq] at HNB
            clear hu hv hp hq
            obtain ⟨ut, ur, uo⟩ := u
            obtain ⟨vt, vr, vo⟩ := v
            obtain ⟨pt, pr, po⟩ := p
            obtain ⟨qt, qr, qo⟩ := q
            obtain ⟨a0, a1, a2⟩ := HTA.out.2.2.1.cx
            obtain ⟨b0, b1, b2⟩ := HTA.out.2.2.2.cx
            simp only at a0 a1 a2 b0 b1 b2
            by_cases hw1 : wh = 1
            · subst hw1
              have HP := Lib.hid (show Ct.come ⟨ut, ur, uo⟩ 1 0 = ⟨vt, vr, vo⟩ from by have h := HNA.out; unfold Ct.rx1 at h; rw [if_pos HWH.out] at h; exact h.symm)
              have HQ := Lib.hid (show Ct.come ⟨pt, pr, po⟩ 1 0 = ⟨qt, qr, qo⟩ from by have h := HNB.out; unfold Ct.rx1 at h; rw [if_pos HWH.out] at h; exact h.symm)
              clear HNA HNB
              have HW3 := Lib.hid (HT2.out.next (below1 wr (.cells #[.int .i64 1, .int .i64 0] 25)))
              have HX3 := Lib.hid (xc_new wr 1 0)
              go_wp2_with fail
              refine (behind_any ⟨ut, ur, uo⟩ 1 0 _).mono ?_
              rintro e w3 ⟨rfl, hb3⟩
              rw [HP.out]
              have HT3 := Lib.hid (HW3.out.next hb3)
              have HX4 := Lib.hid (HX3.out.next hb3)
              have hgx : wr.heap.size ≠ w.heap.size + 1 := by have := HT2.out.2.2.1.lt; omega
              have hgy : wr.heap.size ≠ w.heap.size + 1 + 1 := by have := HT2.out.2.2.2.lt; omega
              clear hb3 a0 a1 a2 b0 b1 b2 x0 x1 HW3 HX3 HT2 HTA
              obtain ⟨a0, a1, a2⟩ := HT3.out.2.2.1.cx
              obtain ⟨b0, b1, b2⟩ := HT3.out.2.2.2.cx
              obtain ⟨x0, x1⟩ := HX4.out.cx
              have f0 := HT3.out.2.2.1.frozen 0
              have f1 := HT3.out.2.2.1.frozen 1
              have f2 := HT3.out.2.2.1.frozen 2
              simp only at a0 a1 a2 b0 b1 b2
              obtain ⟨wx, hwx⟩ : ∃ wx, ((w3.setCell ⟨w.heap.size + 1, 0, none⟩ (.int .i64 vt)).setCell ⟨w.heap.size + 1, 1, none⟩ (.int .i64 vr)).setCell ⟨w.heap.size + 1, 2, none⟩ (.bool vo) = wx := ⟨_, rfl⟩
              have HT4 := Lib.hid (show Tri w wx ⟨t, r, ao⟩ ⟨vt, vr, vo⟩ ⟨pt, pr, po⟩ by rw [← hwx]; exact HT3.out.putA ⟨vt, vr, vo⟩)
              have HX5 := Lib.hid (show Xc wx wr.heap.size 1 0 by rw [← hwx]; exact HX4.out.away (Ne.symm hgx) _ _ _)
              clear HT3 HX4
              obtain ⟨d0, d1, d2⟩ := HT4.out.2.2.2.cx
              obtain ⟨y0, y1⟩ := HX5.out.cx
              simp only at d0 d1 d2
              go_wp2_with fail
              refine (behind_any ⟨pt, pr, po⟩ 1 0 _).mono ?_
              rintro e w4 ⟨rfl, hb4⟩
              rw [HQ.out]
              have HT5 := Lib.hid (HT4.out.next hb4)
              clear hb4 hwx a0 a1 a2 b0 b1 b2 x0 x1 f0 f1 f2 d0 d1 d2 y0 y1 HT4 HX5
              obtain ⟨b0, b1, b2⟩ := HT5.out.2.2.2.cx
              have f0 := HT5.out.2.2.2.frozen 0
              have f1 := HT5.out.2.2.2.frozen 1
              have f2 := HT5.out.2.2.2.frozen 2
              simp only at b0 b1 b2
              have HT6 := Lib.hid (HT5.out.putB ⟨qt, qr, qo⟩)
              clear HT5
              go_wp2
              go_roundw
              case rel => exact ⟨k + 1, by omega, by go_num, by rw [HV.out, HQV.out]; exact HT6.out⟩
              case measure => simp [intOf]; omega
            · have HP := Lib.hid (show Ct.come ⟨ut, ur, uo⟩ 3 wg = ⟨vt, vr, vo⟩ from by have h := HNA.out; unfold Ct.rx1 at h; rw [if_neg (by rw [HWH.out]; exact hw1)] at h; rw [HWG.out] at h; exact h.symm)
              have HQ := Lib.hid (show Ct.come ⟨pt, pr, po⟩ 3 wg = ⟨qt, qr, qo⟩ from by have h := HNB.out; unfold Ct.rx1 at h; rw [if_neg (by rw [HWH.out]; exact hw1)] at h; rw [HWG.out] at h; exact h.symm)
              clear HNA HNB
              have e1 : (wh == 1) = false := by simpa using hw1
              have HTC := Lib.hid (HT2.out.next (below1 wr (.cells #[.int .i64 3, .int .i64 wg] 25)))
              obtain ⟨y0, y1, y2⟩ := HTC.out.2.2.1.cx
              obtain ⟨z0, z1, z2⟩ := HTC.out.2.2.2.cx
              simp only at y0 y1 y2 z0 z1 z2
              have HW3 := Lib.hid (HT2.out.next (below1 wr (.cells #[.int .i64 3, .int .i64 wg] 25)))
              have HX3 := Lib.hid (xc_new wr 3 wg)
              go_wp2_with fail
              refine (behind_any ⟨ut, ur, uo⟩ 3 wg _).mono ?_
              rintro e w3 ⟨rfl, hb3⟩
              rw [HP.out]
              have HT3 := Lib.hid (HW3.out.next hb3)
              have HX4 := Lib.hid (HX3.out.next hb3)
              have hgx : wr.heap.size ≠ w.heap.size + 1 := by have := HT2.out.2.2.1.lt; omega
              have hgy : wr.heap.size ≠ w.heap.size + 1 + 1 := by have := HT2.out.2.2.2.lt; omega
              clear hb3 a0 a1 a2 b0 b1 b2 x0 x1 y0 y1 y2 z0 z1 z2 HTC HW3 HX3 HT2 HTA
              obtain ⟨a0, a1, a2⟩ := HT3.out.2.2.1.cx
              obtain ⟨b0, b1, b2⟩ := HT3.out.2.2.2.cx
              obtain ⟨x0, x1⟩ := HX4.out.cx
              have f0 := HT3.out.2.2.1.frozen 0
              have f1 := HT3.out.2.2.1.frozen 1
              have f2 := HT3.out.2.2.1.frozen 2
              simp only at a0 a1 a2 b0 b1 b2
              obtain ⟨wx, hwx⟩ : ∃ wx, ((w3.setCell ⟨w.heap.size + 1, 0, none⟩ (.int .i64 vt)).setCell ⟨w.heap.size + 1, 1, none⟩ (.int .i64 vr)).setCell ⟨w.heap.size + 1, 2, none⟩ (.bool vo) = wx := ⟨_, rfl⟩
              have HT4 := Lib.hid (show Tri w wx ⟨t, r, ao⟩ ⟨vt, vr, vo⟩ ⟨pt, pr, po⟩ by rw [← hwx]; exact HT3.out.putA ⟨vt, vr, vo⟩)
              have HX5 := Lib.hid (show Xc wx wr.heap.size 3 wg by rw [← hwx]; exact HX4.out.away (Ne.symm hgx) _ _ _)
              clear HT3 HX4
              obtain ⟨d0, d1, d2⟩ := HT4.out.2.2.2.cx
              obtain ⟨y0, y1⟩ := HX5.out.cx
              simp only at d0 d1 d2
              go_wp2_with fail
              refine (behind_any ⟨pt, pr, po⟩ 3 wg _).mono ?_
              rintro e w4 ⟨rfl, hb4⟩
              rw [HQ.out]
              have HT5 := Lib.hid (HT4.out.next hb4)
              clear hb4 hwx a0 a1 a2 b0 b1 b2 x0 x1 f0 f1 f2 d0 d1 d2 y0 y1 HT4 HX5
              obtain ⟨b0, b1, b2⟩ := HT5.out.2.2.2.cx
              have f0 := HT5.out.2.2.2.frozen 0
              have f1 := HT5.out.2.2.2.frozen 1
              have f2 := HT5.out.2.2.2.frozen 2
              simp only at b0 b1 b2
              have HT6 := Lib.hid (HT5.out.putB ⟨qt, qr, qo⟩)
              clear HT5
              go_wp2
              go_roundw
              case rel => exact ⟨k + 1, by omega, by go_num, by rw [HV.out, HQV.out]; exact HT6.out⟩
              case measure => simp [intOf]; omega
          · obtain rfl : m = k := by omega
            rename World => wp
            obtain ⟨fa, hfa⟩ : ∃ fa, Ct.rxs ⟨at', ar, ao⟩ f m = fa := ⟨_, rfl⟩
            obtain ⟨fb, hfb⟩ : ∃ fb, Ct.rxs ⟨t, r, ao⟩ f m = fb := ⟨_, rfl⟩
            rw [hfa, hfb] at HT2 HSM
            have HONB := Lib.hid (show ∀ k, Ct.ones fb bs (k + 1) = (Ct.ones fb bs k).one (bs k) from fun _ => rfl)
            clear hfa hfb hk hlt HNA0 HNB0 HONE HZ
            obtain ⟨xt, xr, xo⟩ := fa
            go_wp2
            go_loopw [12] (fun vi wr => ∃ k : Nat, k ≤ n ∧ vi = .int .i64 k ∧ Tri w wr ⟨t, r, ao⟩ ⟨xt, xr, xo⟩ (Ct.ones fb bs k)) (fun vi _ => n - (intOf vi).toNat)
            case atStart => exact ⟨0, Nat.zero_le _, rfl, HT2.out⟩
            case round =>
              clear HT2
              obtain ⟨k, hk, rfl, ht⟩ := hrel
              have HT1 := Lib.hid ht
              clear ht
              by_cases hlt : k < n
              · have hlt' : (k : Int) < (n : Int) := by omega
                obtain ⟨ad, hAD, hl, x0⟩ := (HA.out.below HT1.out.1).at_ hlt
                subst hAD
                obtain ⟨bk, hbk⟩ : ∃ bk, bs k = bk := ⟨_, rfl⟩
                rw [hbk] at x0
                have HN := Lib.hid (HONB.out k)
                rw [hbk] at HN
                clear hl hbk
                obtain ⟨u, hu⟩ : ∃ u, Ct.ones fb bs k = u := ⟨_, rfl⟩
                obtain ⟨v, hv⟩ : ∃ v, Ct.ones fb bs (k + 1) = v := ⟨_, rfl⟩
                have HV := Lib.hid hv
                rw [hu] at HT1
                rw [hu, hv] at HN
                clear hu hv
                obtain ⟨ut, ur, uo⟩ := u
                obtain ⟨vt, vr, vo⟩ := v
                obtain ⟨a0, a1, a2⟩ := HT1.out.2.2.2.cx
                simp only at a0 a1 a2
                go_wp2_with fail
                go_still_tail 5, (by kernel_rfl)
                go_wp2_with fail
                refine (one_any ⟨ut, ur, uo⟩ bk _).mono ?_
                rintro e w2 ⟨rfl, hb2⟩
                rw [← HN.out]
                have HT2 := Lib.hid (Tri.next (wr := wr.drew) HT1.out.drew hb2)
                clear hb2 a0 a1 a2 x0 HT1
                obtain ⟨a0, a1, a2⟩ := HT2.out.2.2.2.cx
                have f0 := HT2.out.2.2.2.frozen 0
                have f1 := HT2.out.2.2.2.frozen 1
                have f2 := HT2.out.2.2.2.frozen 2
                simp only at a0 a1 a2
                have HT3 := Lib.hid (HT2.out.putB ⟨vt, vr, vo⟩)
                clear HT2
                go_wp2
                go_roundw
                case rel => exact ⟨k + 1, by omega, by go_num, by rw [HV.out]; exact HT3.out⟩
                case measure => simp [intOf]; omega
              · obtain rfl : n = k := by omega
                rw [← HSM.out] at HT1
                obtain ⟨a0, a1, a2⟩ := HT1.out.2.2.1.cx
                obtain ⟨b0, b1, b2⟩ := HT1.out.2.2.2.cx
                simp only at a0 a1 a2 b0 b1 b2
                go_wp2_with fail
                refine (awake8 _).mono ?_
                rintro e w3 ⟨rfl, hb3⟩
                have HF := Lib.hid (nxt HT1.out.1 hb3)
                clear hb3
                go_wp2
                go_ret
                exact ⟨rfl, HF.out⟩
      · obtain ⟨h1, h2⟩ := HOFF.out ho
        simp only at h1 h2
        subst h1 h2
        have HS := Lib.hid (show Ct.st ⟨at', ar, true⟩ = 2 from rfl)
        go_wp2_with fail
        refine (state_any ⟨at', ar, true⟩ _).mono ?_
        rintro e w2 ⟨rfl, hb2⟩
        rw [HS.out]
        have HB2 := Lib.hid (nxt HT1.out.1 hb2)
        clear hb2 a0 a1 a2 c0 c1 c2
        go_wp2_with fail
        refine (awake8 _).mono ?_
        rintro e w3 ⟨rfl, hb3⟩
        have HF := Lib.hid (nxt HB2.out hb3)
        clear hb3
        go_wp2
        go_ret
        exact ⟨rfl, HF.out⟩
theorem capart_any (c : Ct) (bs : Nat → Bool) (f : Nat → Int × Int) (A B : Option Addr) (n n' m m' : Nat) (w : World) (hA : Bl w A n bs) (hB : Cl w B m f) :
    Calls Try.prog 7 #[c.val, .slice A n n', .slice B m m'] w fun e w' => e = .returned (.bool true) ∧ Below w.heap.size w w' := by
  by_cases h : n ≤ 100 ∧ m ≤ 100
  · exact capart_short c bs f A B n n' m m' w h.1 h.2 hA hB
  · exact capart_long c A B n n' m m' w (by omega)
end Go.Proofs.Ytmffiakdoklaaaa
