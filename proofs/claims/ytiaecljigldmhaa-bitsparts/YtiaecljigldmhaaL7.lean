/- The walk of the law BitsParts. -/
import Derived.Test.YtiaecljigldmhaaL8
import Derived.Deep.RegionHeld3
import Derived.Deep.DrawnRows
namespace Go.Proofs.Ytiaecljigldmhaa
open Go.RowKit

attribute [local go_sem ↓] Go.wp_at_zero Go.wp_at_succ

theorem own_box (w : World) (o : Obj) : Own ((w.alloc o).alloc (.cells #[] 3)) (w.heap.size + 1) (.slice (some ⟨w.heap.size + 1, 0, none⟩) 0 0) [] := by
  have h := Own.lit (w.alloc o) (w.heap.size + 1) [] (by simp) (by simp)
  simpa using h
theorem below_box {w w' : World} {o o' : Obj} {n c : Nat} (h : ((w.alloc o).alloc o').drew.grownBy w' (Value.slice (some ⟨w.heap.size + 1, 0, none⟩) n c).ownBlock) : Below (w.heap.size + 1) (w.alloc o) w' :=
  (((Below.refl _ _).alloc (by simp) _).drew).grown h (by simp) (by intro j hj; injection hj with hj; subst hj; simp)
theorem box_cells (w : World) (u v : Value) (t : TypeId) : (w.alloc (.cells #[u, v] t)).cell? ⟨w.heap.size, 0, none⟩ = some u ∧ (w.alloc (.cells #[u, v] t)).cell? ⟨w.heap.size, 1, none⟩ = some v := by
  constructor <;> simp

theorem cnt_nil_left {xs ys ls rs ra rb : List Int} (h0 : xs.length = 0) (hls : [] ++ xs ++ ys = ls) (hr : rs.length = cnt none ls) (ha : ra.length = cnt none xs) (hb : rb.length = cnt none ys) :
    ((rs.length : Int) == (ra.length : Int) + (rb.length : Int)) = true := by
  have e : xs = [] := List.eq_nil_of_length_eq_zero h0
  subst e; subst hls
  rw [hr, ha, hb]; simp [cnt]
theorem cnt_nil_right {xs ys ls rs ra rb : List Int} (h0 : ys.length = 0) (hls : [] ++ xs ++ ys = ls) (hr : rs.length = cnt none ls) (ha : ra.length = cnt none xs) (hb : rb.length = cnt none ys) :
    ((rs.length : Int) == (ra.length : Int) + (rb.length : Int)) = true := by
  have e : ys = [] := List.eq_nil_of_length_eq_zero h0
  subst e; subst hls
  rw [hr, ha, hb]; simp [cnt]
theorem cnt_both {xs ys ls rs ra rb : List Int} {n : Nat} {x y : Int} (hn : xs.length = n) (hx : xs[n - 1]? = some x) (hy : ys[0]? = some y) (hls : [] ++ xs ++ ys = ls) (hr : rs.length = cnt none ls) (ha : ra.length = cnt none xs) (hb : rb.length = cnt none ys) :
    rs.length + (if x = y then 1 else 0) = ra.length + rb.length := by
  subst hls
  obtain ⟨a, rfl⟩ : ∃ a, xs = a ++ [x] := by
    refine ⟨xs.dropLast, ?_⟩
    have hne : xs ≠ [] := by rintro rfl; simp at hx
    have h := List.dropLast_concat_getLast hne
    rw [List.getLast_eq_getElem] at h
    have hl : xs.length - 1 < xs.length := by have := List.length_pos_iff.2 hne; omega
    subst hn
    rw [List.getElem?_eq_getElem hl] at hx
    injection hx with hx
    rw [hx] at h
    exact h.symm
  match ys, hy with
  | z :: b, hy =>
    simp at hy; subst hy
    rw [hr, ha, hb, List.nil_append]
    exact cnt_joint a b x z
theorem cnt_apart {xs ys ls rs ra rb : List Int} {n : Nat} {x y : Int} (hn : xs.length = n) (hx : xs[n - 1]? = some x) (hy : ys[0]? = some y) (hls : [] ++ xs ++ ys = ls) (hr : rs.length = cnt none ls) (ha : ra.length = cnt none xs) (hb : rb.length = cnt none ys)
    (hxy : (x == y) = false) : ((rs.length : Int) == (ra.length : Int) + (rb.length : Int)) = true := by
  have h := cnt_both hn hx hy hls hr ha hb
  rw [if_neg (by simpa using hxy)] at h
  simp; omega
theorem cnt_alike {xs ys ls rs ra rb : List Int} {n : Nat} {x y : Int} (hn : xs.length = n) (hx : xs[n - 1]? = some x) (hy : ys[0]? = some y) (hls : [] ++ xs ++ ys = ls) (hr : rs.length = cnt none ls) (ha : ra.length = cnt none xs) (hb : rb.length = cnt none ys)
    (hxy : (x == y) = true) : ((rs.length : Int) == (ra.length : Int) + (rb.length : Int) - 1) = true := by
  have h := cnt_both hn hx hy hls hr ha hb
  rw [if_pos (by simpa using hxy)] at h
  simp; omega

theorem Il.cell_at {w : World} {ad : Addr} {n k : Nat} {zs : List Int} {z : Int} (h : Il w (some ad) n zs) (hz : zs[k]? = some z) : w.cell? (ad.add k) = some (.int .i64 z) := by
  have hk : k < n := by
    rcases Nat.lt_or_ge k zs.length with h' | h'
    · rw [← h.1]; exact h'
    · rw [List.getElem?_eq_none h'] at hz; cases hz
  obtain ⟨ad', z', e, hz', hc⟩ := h.at_ hk
  injection e with e
  subst e
  rw [hz] at hz'
  injection hz' with hz'
  subst hz'
  exact hc
theorem run_at {ls : List Int} {p q j : Nat} {x : Int} (h : ∀ j, p ≤ j → j < p + q → ls.getD j 0 = ls.getD p 0) (hx : ls[p]? = some x) (h1 : p ≤ j) (h2 : j < p + q) (h3 : j < ls.length) : ls[j]? = some x := by
  have e := h j h1 h2
  simp only [List.getD, hx] at e
  rw [List.getElem?_eq_getElem h3] at e ⊢
  simpa using e

/-- A run begins at p, behind the first one: its number is not the one ahead's. -/
def Edge (ls : List Int) (p k : Nat) : Prop := k = 0 ∨ (0 < p ∧ (p < ls.length → ls.getD p 0 ≠ ls.getD (p - 1) 0))
theorem from_step {ls rs : List Int} {p k : Nat} {r : Int} (h : From ls p (rs.drop k)) (hr : rs[k]? = some r) :
    ∃ q : Nat, 1 ≤ q ∧ p + q ≤ ls.length ∧ (∀ j, p ≤ j → j < p + q → ls.getD j 0 = ls.getD p 0) ∧ (From ls (p + q) (rs.drop (k + 1)) ∧ Edge ls (p + q) (k + 1)) ∧ r = (q : Int) := by
  have hk : k < rs.length := by
    rcases Nat.lt_or_ge k rs.length with h | h
    · exact h
    · rw [List.getElem?_eq_none h] at hr; cases hr
  have e : rs.drop k = r :: rs.drop (k + 1) := by
    rw [List.drop_eq_getElem_cons hk]
    rw [List.getElem?_eq_getElem hk] at hr
    injection hr with hr
    rw [hr]
  rw [e] at h
  obtain ⟨h1, h2, h3, h4, h5⟩ := h
  exact ⟨r.toNat, by omega, h2, h3, ⟨h5, .inr ⟨by omega, h4⟩⟩, by omega⟩

theorem takeH {P : Program} {md : Region.Mode} {l : List Oper} {Q : Exit → Act → World → Prop} {S : World → Prop} {i : Nat} {oi : Oper} {v : Value} {fuel : Nat} {listed : Array Bool} {a : Act} {w : World} (hi : l[i]? = some oi)
    (hs : Region.noSelect l.toArray = true) (hf : Region.free md l.toArray listed i = true) (hr : (Region.ready md l.toArray listed).contains i = true)
    (hQ : ∀ c a w, Q (.panic c) (a.put oi.dst v) w → Q (.panic c) a w) (hy : YieldsIf P l.toArray S oi v a) (hS : S w)
    (h : wpAnyH P md l.toArray Q S fuel (listed.setIfInBounds i true) (a.put oi.dst v) w) : wpAnyH P md l.toArray Q S (fuel + 1) listed a w :=
  wpAnyH_take (by simpa using hi) hs hf hr hQ hy hS h

set_option maxRecDepth 100000 in
set_option maxHeartbeats 1600000 in
theorem law7 (A B : Option Addr) (n m cap cap' : Nat) (xs ys : List Int) (w : World) (ha : Il w A n xs) (hb : Il w B m ys) :
    Calls Try.prog 7 #[.agg #[.slice A n cap, .slice B m cap']] w fun e w' => e = .returned (.bool true) ∧ Below w.heap.size w w' := by
  have HA := Lib.hid ha; have HB := Lib.hid hb
  clear ha hb
  by_cases hn : 150 < n
  · have g0 : decide ((150 : Int) < (n : Int)) = true := by simp; omega
    go_enter Try.func7, Try.ntmps7
    go_wp2_with (go_at_call 9; (refine (awake_ok _).mono ?_); rintro e w1 ⟨rfl, hb1⟩)
    go_ret
    exact ⟨rfl, nxt ((Below.refl _ _).alloc (Nat.le_refl _) _) hb1⟩
  have g0 : decide ((150 : Int) < (n : Int)) = false := by simp; omega
  by_cases hm : 150 < m
  · have g1 : decide ((150 : Int) < (m : Int)) = true := by simp; omega
    go_enter Try.func7, Try.ntmps7
    go_wp2_with (go_at_call 9; (refine (awake_ok _).mono ?_); rintro e w1 ⟨rfl, hb1⟩)
    go_ret
    exact ⟨rfl, nxt ((Below.refl _ _).alloc (Nat.le_refl _) _) hb1⟩
  have g1 : decide ((150 : Int) < (m : Int)) = false := by simp; omega
  go_enter Try.func7, Try.ntmps7
  go_wp2_with fail
  have HO := Lib.hid (own_box w (.cells #[.slice A n cap, .slice B m cap'] 44))
  have HA1 := Lib.hid (HA.out.alloc (.cells #[.slice A n cap, .slice B m cap'] 44)); have HB1 := Lib.hid (HB.out.alloc (.cells #[.slice A n cap, .slice B m cap'] 44))
  have HC := Lib.hid (box_cells w (.slice A n cap) (.slice B m cap') 44)
  have hxl : xs.length ≤ 150 := by rw [HA.out.1]; omega
  have hyl : ys.length ≤ 150 := by rw [HB.out.1]; omega
  go_region_held3 (fun w' => w'.cell? ⟨w.heap.size, 0, none⟩ = some (.slice A n cap) ∧ w'.cell? ⟨w.heap.size, 1, none⟩ = some (.slice B m cap'))
    (first
      | go_keep
      | (go_split_ands
         exact ⟨(hb5.cell (p := ⟨w.heap.size, 0, none⟩) (by simp)).trans HC.out.1, (hb5.cell (p := ⟨w.heap.size, 1, none⟩) (by simp)).trans HC.out.2⟩)
      | (go_split_ands
         exact ⟨(hb4.cell (p := ⟨w.heap.size, 0, none⟩) (by simp)).trans HC.out.1, (hb4.cell (p := ⟨w.heap.size, 1, none⟩) (by simp)).trans HC.out.2⟩))
    (first
      | (refine step_append_ints _ (by rfl) (.tmp 22) (.tmp 24) (by rfl) (w.heap.size + 1) (.slice (some ⟨w.heap.size + 1, 0, none⟩) 0 0) [] (by rfl) (by exact HO.out) A n cap xs (by rfl) (by exact HA1.out.alloc _) (by simp; omega) (by simp) ?_; intro v4 w4 ho4 hg4; have hb4 := below_box hg4; clear hg4; have HO4 := Lib.hid ho4; clear ho4)
      | (refine step_append_ints _ (by rfl) (.tmp 25) (.tmp 27) (by rfl) (w.heap.size + 1) v4 ([] ++ xs) (by rfl) (by exact HO4.out) B m cap' ys (by rfl) (by exact HB1.out.below (by simpa using hb4)) (by simp; omega) (by have := hb4.size; simp at this; omega) ?_; intro v5 w5 ho5 hg5; have hb5 := hb4.grown hg5 (by have := hb4.size; simp at this; omega) HO4.out.row; have HO5 := Lib.hid ho5.il; clear ho5 hg5))
  obtain ⟨A5, cap5, rfl, hi5⟩ := HO5.out
  have hbx : Below (w.heap.size + 1) (w.alloc (.cells #[.slice A n cap, .slice B m cap'] 44)) w5 := hb5
  have HL := Lib.hid hi5
  have hll : ([] ++ xs ++ ys).length ≤ 300 := by simp; omega
  generalize hls : [] ++ xs ++ ys = ls at *
  have HLS := Lib.hid hls
  clear hi5 hls HO5 HO4 HO HA1 HB1 hb4 hb5
  generalize hbw : w.alloc (.cells #[.slice A n cap, .slice B m cap'] 44) = wb at *
  have hwb : w.heap.size + 1 = wb.heap.size := by rw [← hbw]; simp
  have HWB := Lib.hid hbw; have HWS := Lib.hid hwb
  clear hbw
  rw [hwb] at hbx
  clear hwb
  go_wp2_with fail
  refine (runs_ok _ _ _ _ _ HL.out (by omega)).mono ?_
  rintro e w6 ⟨A6, cap6, rfl, hi6, hb6⟩
  have hbx6 := nxt hbx hb6
  have HR := Lib.hid hi6; have HL6 := Lib.hid (HL.out.below hb6)
  have HF := Lib.hid (runs_from ls); have HK := Lib.hid (runs_cnt ls); have hrl := runs_len ls
  clear hi6 hb6 hbx HL
  generalize hrs : runs ls = rs at *
  have HQ := Lib.hid hrs
  clear hrs
  go_wp2
  go_loopw [5, 6] (fun a i wx => ∃ (p k : Nat), k ≤ rs.length ∧ i = .int .i64 k ∧ a = .int .i64 p ∧ p ≤ 300 ∧ From ls p (rs.drop k) ∧ Edge ls p k ∧ Below w6.heap.size w6 wx) (fun _ i _ => rs.length - (intOf i).toNat)
  case atStart => exact ⟨0, 0, Nat.zero_le _, rfl, rfl, by omega, HF.out, .inl rfl, Below.refl _ _⟩
  case round =>
    obtain ⟨p, k, hk, rfl, rfl, hp, hfr, hed, hbw⟩ := hrel
    have HFr := Lib.hid hfr; have HEd := Lib.hid hed
    clear hfr hed
    by_cases hlt : k < rs.length
    · obtain ⟨ad, r, hA6, hr, hcr⟩ := (HR.out.below hbw).at_ hlt
      subst hA6
      obtain ⟨q, hq1, hq2, hq3, hq4, rfl⟩ := from_step HFr.out hr
      obtain ⟨bd, x, hA5, hx, hcx⟩ := (HL6.out.below hbw).at_ (show p < ls.length by omega)
      subst hA5
      have HLr := Lib.hid (HL6.out.below hbw)
      obtain ⟨M, hM⟩ : ∃ M, most (runs ls) = M := ⟨_, rfl⟩
      have hqM : (q : Int) ≤ M := by rw [← hM, HQ.out]; exact most_ge rs _ (List.mem_of_getElem? hr)
      have HM := Lib.hid hM
      have HRk := Lib.hid hr; have HXp := Lib.hid hx; have HQ3 := Lib.hid hq3; have HQ4 := Lib.hid hq4
      have LT1 := Lib.hid (World.block_lt_of_cell? wr _ hcr); have LT2 := Lib.hid (World.block_lt_of_cell? wr _ hcx)
      have HC1 := Lib.hid hcr; have HC2 := Lib.hid hcx
      clear hM hr hx hq3 hq4
      have b1 : decide ((q : Int) < 1) = false := by simp; omega
      have b2 : decide (M < (q : Int)) = false := by simp; omega
      have b3 : decide ((ls.length : Int) < (p : Int) + (q : Int)) = false := by simp; omega
      have i1 : (k : Int) < (rs.length : Int) := by omega
      have i2 : (p : Int) < (ls.length : Int) := by omega
      have i3 : (0 : Int) ≤ (k : Int) := by omega
      have i4 : (0 : Int) ≤ (p : Int) := by omega
      have e1 : IntKind.i64.wrap ((p : Int) + (q : Int)) = (p : Int) + (q : Int) := IntWalk.i64_in _ (by omega)
      rcases Nat.eq_zero_or_pos k with hk0 | hk0
      · have b4 : decide (0 < k) = false := by simp; omega
        have b4' : decide ((0 : Int) < (k : Int)) = false := by simp; omega
        clear hk0
        go_wp2
        refine wp_region_held_drew (S := fun w' => w'.cell? (ad.add k) = some (.int .i64 q) ∧ w'.cell? (bd.add p) = some (.int .i64 x)) (by kernel_rfl) ⟨HC1.out, HC2.out⟩ (fun hHeld => ?_)
        refine takeH (i := 0) (v := .slice (some ad) rs.length cap6) rfl (by kernel_rfl) (by kernel_rfl) (by kernel_rfl) (fun _ _ _ h => h) (Or.inl ⟨by rfl, fun w hSw => ?_⟩) hHeld ?_
        · (have s1 := hSw.1; clear hSw; go_simp)
        simp only [Act.put, List.setIfInBounds_toArray, List.set_cons_zero, List.set_cons_succ]
        refine takeH (i := 1) (v := .int .i64 k) rfl (by kernel_rfl) (by kernel_rfl) (by kernel_rfl) (fun _ _ _ h => h) (Or.inl ⟨by rfl, fun w hSw => ?_⟩) hHeld ?_
        · (have s1 := hSw.1; clear hSw; go_simp)
        simp only [Act.put, List.setIfInBounds_toArray, List.set_cons_zero, List.set_cons_succ]
        refine takeH (i := 2) (v := .pointer (some (ad.add k))) rfl (by kernel_rfl) (by kernel_rfl) (by kernel_rfl) (fun _ _ _ h => h) (Or.inl ⟨by rfl, fun w hSw => ?_⟩) hHeld ?_
        · (have s1 := hSw.1; clear hSw; go_simp)
        simp only [Act.put, List.setIfInBounds_toArray, List.set_cons_zero, List.set_cons_succ]
        refine takeH (i := 3) (v := .int .i64 q) rfl (by kernel_rfl) (by kernel_rfl) (by kernel_rfl) (fun _ _ _ h => h) (Or.inl ⟨by rfl, fun w hSw => ?_⟩) hHeld ?_
        · (have s1 := hSw.1; clear hSw; go_simp)
        simp only [Act.put, List.setIfInBounds_toArray, List.set_cons_zero, List.set_cons_succ]
        refine takeH (i := 4) (v := .bool false) rfl (by kernel_rfl) (by kernel_rfl) (by kernel_rfl) (fun _ _ _ h => h) (Or.inl ⟨by rfl, fun w hSw => ?_⟩) hHeld ?_
        · (have s1 := hSw.1; clear hSw; go_simp)
        simp only [Act.put, List.setIfInBounds_toArray, List.set_cons_zero, List.set_cons_succ]
        refine takeH (i := 5) (v := .bool false) rfl (by kernel_rfl) (by kernel_rfl) (by kernel_rfl) (fun _ _ _ h => h) (Or.inl ⟨by rfl, fun w hSw => ?_⟩) hHeld ?_
        · (have s1 := hSw.1; clear hSw; go_simp)
        simp only [Act.put, List.setIfInBounds_toArray, List.set_cons_zero, List.set_cons_succ]
        refine takeH (i := 6) (v := .slice (some ad) rs.length cap6) rfl (by kernel_rfl) (by kernel_rfl) (by kernel_rfl) (fun _ _ _ h => h) (Or.inl ⟨by rfl, fun w hSw => ?_⟩) hHeld ?_
        · (have s1 := hSw.1; clear hSw; go_simp)
        simp only [Act.put, List.setIfInBounds_toArray, List.set_cons_zero, List.set_cons_succ]
        refine takeH (i := 7) (v := .int .i64 k) rfl (by kernel_rfl) (by kernel_rfl) (by kernel_rfl) (fun _ _ _ h => h) (Or.inl ⟨by rfl, fun w hSw => ?_⟩) hHeld ?_
        · (have s1 := hSw.1; clear hSw; go_simp)
        simp only [Act.put, List.setIfInBounds_toArray, List.set_cons_zero, List.set_cons_succ]
        refine takeH (i := 8) (v := .pointer (some (ad.add k))) rfl (by kernel_rfl) (by kernel_rfl) (by kernel_rfl) (fun _ _ _ h => h) (Or.inl ⟨by rfl, fun w hSw => ?_⟩) hHeld ?_
        · (have s1 := hSw.1; clear hSw; go_simp)
        simp only [Act.put, List.setIfInBounds_toArray, List.set_cons_zero, List.set_cons_succ]
        refine takeH (i := 9) (v := .int .i64 q) rfl (by kernel_rfl) (by kernel_rfl) (by kernel_rfl) (fun _ _ _ h => h) (Or.inl ⟨by rfl, fun w hSw => ?_⟩) hHeld ?_
        · (have s1 := hSw.1; clear hSw; go_simp)
        simp only [Act.put, List.setIfInBounds_toArray, List.set_cons_zero, List.set_cons_succ]
        refine takeH (i := 10) (v := .slice (some bd) ls.length cap5) rfl (by kernel_rfl) (by kernel_rfl) (by kernel_rfl) (fun _ _ _ h => h) (Or.inl ⟨by rfl, fun w hSw => ?_⟩) hHeld ?_
        · (have s1 := hSw.1; clear hSw; go_simp)
        simp only [Act.put, List.setIfInBounds_toArray, List.set_cons_zero, List.set_cons_succ]
        refine wpAnyH_ready (rs := [11]) (by kernel_rfl) (by simp) ?_
        refine AllReadyH.cons rfl (fun K hK => ?_) AllReadyH.nil
        go_simp
        refine (longest_ok _ _ _ _ _ (by exact HLr.out) (by omega)).mono ?_
        rintro e w7 ⟨rfl, hb7⟩
        rw [HM.out]
        clear hHeld
        dsimp only
        refine hK.out _ _ ⟨(hb7.cell (p := ad.add k) LT1.out).trans HC1.out, (hb7.cell (p := bd.add p) LT2.out).trans HC2.out⟩ (fun hHeld => ?_)
        clear hK K
        try simp only [Act.put, List.setIfInBounds_toArray, List.set_cons_zero, List.set_cons_succ]
        refine takeH (i := 12) (v := .bool false) rfl (by kernel_rfl) (by kernel_rfl) (by kernel_rfl) (fun _ _ _ h => h) (Or.inl ⟨by rfl, fun w hSw => ?_⟩) hHeld ?_
        · (have s1 := hSw.1; clear hSw; go_simp)
        simp only [Act.put, List.setIfInBounds_toArray, List.set_cons_zero, List.set_cons_succ]
        refine takeH (i := 13) (v := .bool false) rfl (by kernel_rfl) (by kernel_rfl) (by kernel_rfl) (fun _ _ _ h => h) (Or.inl ⟨by rfl, fun w hSw => ?_⟩) hHeld ?_
        · (have s1 := hSw.1; clear hSw; go_simp)
        simp only [Act.put, List.setIfInBounds_toArray, List.set_cons_zero, List.set_cons_succ]
        refine takeH (i := 14) (v := .bool false) rfl (by kernel_rfl) (by kernel_rfl) (by kernel_rfl) (fun _ _ _ h => h) (Or.inl ⟨by rfl, fun w hSw => ?_⟩) hHeld ?_
        · (have s1 := hSw.1; clear hSw; go_simp)
        simp only [Act.put, List.setIfInBounds_toArray, List.set_cons_zero, List.set_cons_succ]
        refine takeH (i := 15) (v := .int .i64 p) rfl (by kernel_rfl) (by kernel_rfl) (by kernel_rfl) (fun _ _ _ h => h) (Or.inl ⟨by rfl, fun w hSw => ?_⟩) hHeld ?_
        · (have s1 := hSw.1; clear hSw; go_simp)
        simp only [Act.put, List.setIfInBounds_toArray, List.set_cons_zero, List.set_cons_succ]
        refine takeH (i := 16) (v := .slice (some ad) rs.length cap6) rfl (by kernel_rfl) (by kernel_rfl) (by kernel_rfl) (fun _ _ _ h => h) (Or.inl ⟨by rfl, fun w hSw => ?_⟩) hHeld ?_
        · (have s1 := hSw.1; clear hSw; go_simp)
        simp only [Act.put, List.setIfInBounds_toArray, List.set_cons_zero, List.set_cons_succ]
        refine takeH (i := 17) (v := .int .i64 k) rfl (by kernel_rfl) (by kernel_rfl) (by kernel_rfl) (fun _ _ _ h => h) (Or.inl ⟨by rfl, fun w hSw => ?_⟩) hHeld ?_
        · (have s1 := hSw.1; clear hSw; go_simp)
        simp only [Act.put, List.setIfInBounds_toArray, List.set_cons_zero, List.set_cons_succ]
        refine takeH (i := 18) (v := .pointer (some (ad.add k))) rfl (by kernel_rfl) (by kernel_rfl) (by kernel_rfl) (fun _ _ _ h => h) (Or.inl ⟨by rfl, fun w hSw => ?_⟩) hHeld ?_
        · (have s1 := hSw.1; clear hSw; go_simp)
        simp only [Act.put, List.setIfInBounds_toArray, List.set_cons_zero, List.set_cons_succ]
        refine takeH (i := 19) (v := .int .i64 q) rfl (by kernel_rfl) (by kernel_rfl) (by kernel_rfl) (fun _ _ _ h => h) (Or.inl ⟨by rfl, fun w hSw => ?_⟩) hHeld ?_
        · (have s1 := hSw.1; clear hSw; go_simp)
        simp only [Act.put, List.setIfInBounds_toArray, List.set_cons_zero, List.set_cons_succ]
        refine takeH (i := 20) (v := .int .i64 ((p : Int) + (q : Int))) rfl (by kernel_rfl) (by kernel_rfl) (by kernel_rfl) (fun _ _ _ h => h) (Or.inl ⟨by rfl, fun w hSw => ?_⟩) hHeld ?_
        · (have s1 := hSw.1; clear hSw; go_simp)
        simp only [Act.put, List.setIfInBounds_toArray, List.set_cons_zero, List.set_cons_succ]
        refine takeH (i := 21) (v := .slice (some bd) ls.length cap5) rfl (by kernel_rfl) (by kernel_rfl) (by kernel_rfl) (fun _ _ _ h => h) (Or.inl ⟨by rfl, fun w hSw => ?_⟩) hHeld ?_
        · (have s1 := hSw.1; clear hSw; go_simp)
        simp only [Act.put, List.setIfInBounds_toArray, List.set_cons_zero, List.set_cons_succ]
        refine takeH (i := 22) (v := .int .i64 ls.length) rfl (by kernel_rfl) (by kernel_rfl) (by kernel_rfl) (fun _ _ _ h => h) (Or.inl ⟨by rfl, fun w hSw => ?_⟩) hHeld ?_
        · (have s1 := hSw.1; clear hSw; go_simp)
        simp only [Act.put, List.setIfInBounds_toArray, List.set_cons_zero, List.set_cons_succ]
        refine takeH (i := 23) (v := .bool false) rfl (by kernel_rfl) (by kernel_rfl) (by kernel_rfl) (fun _ _ _ h => h) (Or.inl ⟨by rfl, fun w hSw => ?_⟩) hHeld ?_
        · (have s1 := hSw.1; clear hSw; go_simp)
        simp only [Act.put, List.setIfInBounds_toArray, List.set_cons_zero, List.set_cons_succ]
        refine takeH (i := 24) (v := .bool false) rfl (by kernel_rfl) (by kernel_rfl) (by kernel_rfl) (fun _ _ _ h => h) (Or.inl ⟨by rfl, fun w hSw => ?_⟩) hHeld ?_
        · (have s1 := hSw.1; clear hSw; go_simp)
        simp only [Act.put, List.setIfInBounds_toArray, List.set_cons_zero, List.set_cons_succ]
        refine takeH (i := 25) (v := .bool false) rfl (by kernel_rfl) (by kernel_rfl) (by kernel_rfl) (fun _ _ _ h => h) (Or.inl ⟨by rfl, fun w hSw => ?_⟩) hHeld ?_
        · (have s1 := hSw.1; clear hSw; go_simp)
        simp only [Act.put, List.setIfInBounds_toArray, List.set_cons_zero, List.set_cons_succ]
        refine takeH (i := 26) (v := .int .i64 k) rfl (by kernel_rfl) (by kernel_rfl) (by kernel_rfl) (fun _ _ _ h => h) (Or.inl ⟨by rfl, fun w hSw => ?_⟩) hHeld ?_
        · (have s1 := hSw.1; clear hSw; go_simp)
        simp only [Act.put, List.setIfInBounds_toArray, List.set_cons_zero, List.set_cons_succ]
        refine takeH (i := 27) (v := .bool false) rfl (by kernel_rfl) (by kernel_rfl) (by kernel_rfl) (fun _ _ _ h => h) (Or.inl ⟨by rfl, fun w hSw => ?_⟩) hHeld ?_
        · (have s1 := hSw.1; clear hSw; go_simp)
        simp only [Act.put, List.setIfInBounds_toArray, List.set_cons_zero, List.set_cons_succ]
        refine takeH (i := 28) (v := .bool false) rfl (by kernel_rfl) (by kernel_rfl) (by kernel_rfl) (fun _ _ _ h => h) (Or.inl ⟨by rfl, fun w hSw => ?_⟩) hHeld ?_
        · (have s1 := hSw.1; clear hSw; go_simp)
        simp only [Act.put, List.setIfInBounds_toArray, List.set_cons_zero, List.set_cons_succ]
        refine takeH (i := 29) (v := undef) rfl (by kernel_rfl) (by kernel_rfl) (by kernel_rfl) (fun _ _ _ h => h) (Or.inr ⟨by rfl, rfl⟩) hHeld ?_
        simp only [Act.put, List.setIfInBounds_toArray, List.set_cons_zero, List.set_cons_succ]
        refine takeH (i := 30) (v := undef) rfl (by kernel_rfl) (by kernel_rfl) (by kernel_rfl) (fun _ _ _ h => h) (Or.inr ⟨by rfl, rfl⟩) hHeld ?_
        simp only [Act.put, List.setIfInBounds_toArray, List.set_cons_zero, List.set_cons_succ]
        refine takeH (i := 31) (v := undef) rfl (by kernel_rfl) (by kernel_rfl) (by kernel_rfl) (fun _ _ _ h => h) (Or.inr ⟨by rfl, rfl⟩) hHeld ?_
        simp only [Act.put, List.setIfInBounds_toArray, List.set_cons_zero, List.set_cons_succ]
        refine takeH (i := 32) (v := undef) rfl (by kernel_rfl) (by kernel_rfl) (by kernel_rfl) (fun _ _ _ h => h) (Or.inr ⟨by rfl, rfl⟩) hHeld ?_
        simp only [Act.put, List.setIfInBounds_toArray, List.set_cons_zero, List.set_cons_succ]
        refine takeH (i := 33) (v := undef) rfl (by kernel_rfl) (by kernel_rfl) (by kernel_rfl) (fun _ _ _ h => h) (Or.inr ⟨by rfl, rfl⟩) hHeld ?_
        simp only [Act.put, List.setIfInBounds_toArray, List.set_cons_zero, List.set_cons_succ]
        refine takeH (i := 34) (v := undef) rfl (by kernel_rfl) (by kernel_rfl) (by kernel_rfl) (fun _ _ _ h => h) (Or.inr ⟨by rfl, rfl⟩) hHeld ?_
        simp only [Act.put, List.setIfInBounds_toArray, List.set_cons_zero, List.set_cons_succ]
        refine takeH (i := 35) (v := undef) rfl (by kernel_rfl) (by kernel_rfl) (by kernel_rfl) (fun _ _ _ h => h) (Or.inr ⟨by rfl, rfl⟩) hHeld ?_
        simp only [Act.put, List.setIfInBounds_toArray, List.set_cons_zero, List.set_cons_succ]
        refine takeH (i := 36) (v := undef) rfl (by kernel_rfl) (by kernel_rfl) (by kernel_rfl) (fun _ _ _ h => h) (Or.inr ⟨by rfl, rfl⟩) hHeld ?_
        simp only [Act.put, List.setIfInBounds_toArray, List.set_cons_zero, List.set_cons_succ]
        refine takeH (i := 37) (v := undef) rfl (by kernel_rfl) (by kernel_rfl) (by kernel_rfl) (fun _ _ _ h => h) (Or.inr ⟨by rfl, rfl⟩) hHeld ?_
        simp only [Act.put, List.setIfInBounds_toArray, List.set_cons_zero, List.set_cons_succ]
        refine takeH (i := 38) (v := undef) rfl (by kernel_rfl) (by kernel_rfl) (by kernel_rfl) (fun _ _ _ h => h) (Or.inr ⟨by rfl, rfl⟩) hHeld ?_
        simp only [Act.put, List.setIfInBounds_toArray, List.set_cons_zero, List.set_cons_succ]
        refine takeH (i := 39) (v := .bool false) rfl (by kernel_rfl) (by kernel_rfl) (by kernel_rfl) (fun _ _ _ h => h) (Or.inl ⟨by rfl, fun w hSw => ?_⟩) hHeld ?_
        · (have s1 := hSw.1; clear hSw; go_simp)
        simp only [Act.put, List.setIfInBounds_toArray, List.set_cons_zero, List.set_cons_succ]
        refine takeH (i := 40) (v := .bool false) rfl (by kernel_rfl) (by kernel_rfl) (by kernel_rfl) (fun _ _ _ h => h) (Or.inl ⟨by rfl, fun w hSw => ?_⟩) hHeld ?_
        · (have s1 := hSw.1; clear hSw; go_simp)
        simp only [Act.put, List.setIfInBounds_toArray, List.set_cons_zero, List.set_cons_succ]
        refine wpAnyH_done (by kernel_rfl) ?_ _
        clear hHeld
        have hbz : Below w6.heap.size w6 w7 := nxt hbw ⟨hb7.os, hb7.tape, hb7.output, hb7.size, hb7.block⟩
        clear hb7 hcr hcx HC1 HC2 LT1 LT2 b1 b2 b3 b4 b4' e1 i1 i2 i3 i4
        go_wp2
        go_loopw [7] (fun i wy => ∃ j : Nat, p ≤ j ∧ j ≤ p + q ∧ i = .int .i64 j ∧ Below w6.heap.size w6 wy) (fun i _ => p + q - (intOf i).toNat)
        case atStart => exact ⟨p, Nat.le_refl _, by omega, rfl, hbz⟩
        case round =>
          obtain ⟨j, hj1, hj2, rfl, hby⟩ := hrel
          have hcr := (HR.out.below hby).cell_at HRk.out
          have hcx := (HL6.out.below hby).cell_at HXp.out
          by_cases hjl : j < p + q
          · have hcj := (HL6.out.below hby).cell_at (run_at HQ3.out HXp.out hj1 hjl (by omega))
            have i1 : (j : Int) < (ls.length : Int) := by omega
            have i2 : (p : Int) < (ls.length : Int) := by omega
            go_wp2
            go_quiet (fail)
            go_wp2
            go_roundw
            case rel => exact ⟨j + 1, by omega, by omega, by go_num, belowN hby _⟩
            case measure => simp [intOf]; omega
          · go_wp2
            go_roundw
            case rel => exact ⟨p + q, k + 1, by omega, by go_num, by go_num, by omega, HQ4.out.1, HQ4.out.2, hby⟩
            case measure => simp [intOf]; omega
      · have b4 : decide (0 < k) = true := by simp; omega
        have b4' : decide ((0 : Int) < (k : Int)) = true := by simp; omega
        obtain ⟨hp0, hpe⟩ : 0 < p ∧ ls.getD p 0 ≠ ls.getD (p - 1) 0 := by
          rcases HEd.out with h | h
          · omega
          · exact ⟨h.1, h.2 (by omega)⟩
        obtain ⟨bd', y, hA', hy, hcy⟩ := (HL6.out.below hbw).at_ (show p - 1 < ls.length by omega)
        injection hA' with hA'
        subst hA'
        have b5 : (x == y) = false := by
          have h1 := HXp.out
          simp only [List.getD, h1, hy] at hpe
          simpa using hpe
        have HYp := Lib.hid hy
        have LT3 := Lib.hid (World.block_lt_of_cell? wr _ hcy)
        have HC3 := Lib.hid hcy
        clear hpe hy
        have e2 : IntKind.i64.wrap ((p : Int) - 1) = (p : Int) - 1 := IntWalk.i64_in _ (by omega)
        have e3 : ((p : Int) - 1).toNat = p - 1 := by omega
        have i5 : (1 : Int) ≤ (p : Int) := by omega
        have i6 : (0 : Int) ≤ (p : Int) - 1 := by omega
        have i7 : (p : Int) - 1 < (ls.length : Int) := by omega
        go_wp2
        go_region_held3 (fun w' => w'.cell? (ad.add k) = some (.int .i64 q) ∧ w'.cell? (bd.add p) = some (.int .i64 x) ∧ w'.cell? (bd.add (p - 1)) = some (.int .i64 y))
          (first
            | go_keep
            | (go_split_ands
               exact ⟨(hb7.cell (p := ad.add k) LT1.out).trans HC1.out, (hb7.cell (p := bd.add p) LT2.out).trans HC2.out, (hb7.cell (p := bd.add (p - 1)) LT3.out).trans HC3.out⟩))
          (first
            | (go_at_call 22; refine (longest_ok _ _ _ _ _ (by exact HLr.out) (by omega)).mono ?_; rintro e w7 ⟨rfl, hb7⟩; rw [HM.out]))
        have hbz : Below w6.heap.size w6 w7 := nxt hbw ⟨hb7.os, hb7.tape, hb7.output, hb7.size, hb7.block⟩
        clear hb7 hcr hcx HC1 HC2 LT1 LT2 b1 b2 b3 b4 b4' e1 i1 i2 i3 i4 hcy HC3 LT3 b5 e2 e3 i5 i6 i7 HYp
        go_wp2
        go_loopw [7] (fun i wy => ∃ j : Nat, p ≤ j ∧ j ≤ p + q ∧ i = .int .i64 j ∧ Below w6.heap.size w6 wy) (fun i _ => p + q - (intOf i).toNat)
        case atStart => exact ⟨p, Nat.le_refl _, by omega, rfl, hbz⟩
        case round =>
          obtain ⟨j, hj1, hj2, rfl, hby⟩ := hrel
          have hcr := (HR.out.below hby).cell_at HRk.out
          have hcx := (HL6.out.below hby).cell_at HXp.out
          by_cases hjl : j < p + q
          · have hcj := (HL6.out.below hby).cell_at (run_at HQ3.out HXp.out hj1 hjl (by omega))
            have i1 : (j : Int) < (ls.length : Int) := by omega
            have i2 : (p : Int) < (ls.length : Int) := by omega
            go_wp2
            go_quiet (fail)
            go_wp2
            go_roundw
            case rel => exact ⟨j + 1, by omega, by omega, by go_num, belowN hby _⟩
            case measure => simp [intOf]; omega
          · go_wp2
            go_roundw
            case rel => exact ⟨p + q, k + 1, by omega, by go_num, by go_num, by omega, HQ4.out.1, HQ4.out.2, hby⟩
            case measure => simp [intOf]; omega
    · have HBW := nxt hbx6 hbw
      have hbA : Below w.heap.size w wr := by
        have h := (Below.refl w.heap.size w).alloc (Nat.le_refl _) (.cells #[.slice A n cap, .slice B m cap'] 44)
        rw [HWB.out] at h
        exact h.trans (HBW.mono (by rw [← HWS.out]; omega))
      have hzz : w.heap.size < wr.heap.size := by have := HBW.size; have := HWS.out; omega
      have c0 : wr.cell? ⟨w.heap.size, 0, none⟩ = some (.slice A n cap) := (HBW.cell (p := ⟨w.heap.size, 0, none⟩) (by rw [← HWS.out]; simp)).trans HC.out.1
      have c1 : wr.cell? ⟨w.heap.size, 1, none⟩ = some (.slice B m cap') := (HBW.cell (p := ⟨w.heap.size, 1, none⟩) (by rw [← HWS.out]; simp)).trans HC.out.2
      have hpe : p = ls.length := by have h := HFr.out; rw [List.drop_eq_nil_of_le (by omega)] at h; exact h
      have hpb : ((p : Int) == (ls.length : Int)) = true := by simp [hpe]
      clear hpe
      go_wp2_with fail
      refine (runs_ok _ _ _ _ _ (HA.out.below hbA) (by omega)).mono ?_
      rintro e w8 ⟨A8, cap8, rfl, hi8, hb8⟩
      have d0 := (hb8.cell (p := ⟨w.heap.size, 0, none⟩) hzz).trans c0
      have d1 := (hb8.cell (p := ⟨w.heap.size, 1, none⟩) hzz).trans c1
      have hbB := nxt hbA hb8
      have hz8 : w.heap.size < w8.heap.size := by have := hb8.size; omega
      clear c0 c1 hi8 hzz
      go_wp2_with fail
      refine (runs_ok _ _ _ _ _ (HB.out.below hbB) (by omega)).mono ?_
      rintro e w9 ⟨A9, cap9, rfl, hi9, hb9⟩
      have f0 := (hb9.cell (p := ⟨w.heap.size, 0, none⟩) hz8).trans d0
      have f1 := (hb9.cell (p := ⟨w.heap.size, 1, none⟩) hz8).trans d1
      have hbC := nxt hbB hb9
      have hk1 := runs_len xs; have hk2 := runs_len ys
      have HJ := Lib.hid (runs_cnt xs); have HJ' := Lib.hid (runs_cnt ys)
      clear d0 d1 hi9 hz8
      generalize runs xs = ra at *
      generalize runs ys = rb at *
      have HX := Lib.hid (HA.out.below hbC); have HY := Lib.hid (HB.out.below hbC)
      rcases Nat.eq_zero_or_pos n with hn0 | hn0
      · subst hn0
        have hq : ((rs.length : Int) == (ra.length : Int) + (rb.length : Int)) = true := cnt_nil_left HA.out.1 HLS.out HK.out HJ.out HJ'.out
        go_wp2
        go_quiet (fail)
        go_wp2_with (go_at_call 9; (refine (awake_ok _).mono ?_); rintro e w10 ⟨rfl, hb10⟩)
        go_ret
        exact ⟨rfl, nxt (belowN hbC _) hb10⟩
      rcases Nat.eq_zero_or_pos m with hm0 | hm0
      · subst hm0
        have hq : ((rs.length : Int) == (ra.length : Int) + (rb.length : Int)) = true := cnt_nil_right HB.out.1 HLS.out HK.out HJ.out HJ'.out
        have q0 : decide (0 < n) = true := by simp; omega
        go_wp2
        go_quiet (fail)
        go_wp2_with (go_at_call 9; (refine (awake_ok _).mono ?_); rintro e w10 ⟨rfl, hb10⟩)
        go_ret
        exact ⟨rfl, nxt (belowN hbC _) hb10⟩
      obtain ⟨ax, x, rfl, hx, hcx⟩ := HX.out.at_ (show n - 1 < n by omega)
      obtain ⟨ay, y, rfl, hy, hcy⟩ := HY.out.at_ (show 0 < m by omega)
      have hcy0 : w9.cell? ay = some (.int .i64 y) := hcy
      have q0 : decide (0 < n) = true := by simp; omega
      have q1 : decide (0 < m) = true := by simp; omega
      have HXa := Lib.hid hx; have HYa := Lib.hid hy
      clear hx hy
      have e1 : IntKind.i64.wrap ((n : Int) - 1) = (n : Int) - 1 := IntWalk.i64_in _ (by omega)
      have e2 : ((n : Int) - 1).toNat = n - 1 := by omega
      have e3 : (1 : Int) ≤ (n : Int) := by omega
      have e4 : (0 : Int) ≤ (n : Int) - 1 := by omega
      have e5 : (n : Int) - 1 < (n : Int) := by omega
      have e6 : 1 ≤ n := by omega
      cases hxy : (x == y)
      · have hq : ((rs.length : Int) == (ra.length : Int) + (rb.length : Int)) = true := cnt_apart HA.out.1 HXa.out HYa.out HLS.out HK.out HJ.out HJ'.out hxy
        go_wp2
        go_quiet (fail)
        clear e1 e2 e3 e4 e5 e6
        go_wp2_with (go_at_call 9; (refine (awake_ok _).mono ?_); rintro e w10 ⟨rfl, hb10⟩)
        go_ret
        exact ⟨rfl, nxt (belowN hbC _) hb10⟩
      · have hq : ((rs.length : Int) == (ra.length : Int) + (rb.length : Int) - 1) = true := cnt_alike HA.out.1 HXa.out HYa.out HLS.out HK.out HJ.out HJ'.out hxy
        go_wp2
        go_quiet (fail)
        clear e1 e2 e3 e4 e5 e6
        go_wp2_with (go_at_call 9; (refine (awake_ok _).mono ?_); rintro e w10 ⟨rfl, hb10⟩)
        go_ret
        exact ⟨rfl, nxt (belowN hbC _) hb10⟩
end Go.Proofs.Ytiaecljigldmhaa
