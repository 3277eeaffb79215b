/- The reference of layer 4: Widths. -/
import Derived.Test.YtffhhegpkejdgaaX611
namespace Go.Proofs.Ytffhhegpkejdgaa
open Go.RowKit

/-- The reference's widths: as far as they are known. -/
def rW (zs : List Int) : List Nat := if zs.length < 14 then [1] else if zs.length < hEnd (hEx zs) then [1, aW (hEx zs), cW (hEx zs)] else hW zs
def nats (l : List Nat) : List Int := l.map fun n : Nat => (n : Int)
theorem nats_len (l : List Nat) : (nats l).length = l.length := by unfold nats; simp
def RowOf (zs : List Int) (w : World) (e : Ending) (w' : World) : Prop := ∃ A c, e = .returned (.slice A zs.length c) ∧ Il w' A zs.length zs ∧ Below w.heap.size w w'
theorem rowOf_lit {w0 w : World} {zs l : List Int} (he : zs = l) (hb : Below w0.heap.size w0 w) : RowOf zs w0 (.returned (.slice (some ⟨w.heap.size, 0, none⟩) (l.length : Nat) (l.length : Nat))) (w.alloc (.cells (l.map (Value.int .i64)).toArray 3)) := by
  subst he
  exact ⟨_, _, rfl, (Arr.new w .i64 3 zs).il, hb.alloc (hb.size) _⟩

set_option maxHeartbeats 800000 in
theorem rwid_ok (A : Option Addr) (n cap : Nat) (zs : List Int) (w : World) (hr : Il w A n zs) (hn : n ≤ 100000) (hcap : n ≤ cap) (hl : ∀ z ∈ zs, lvl z = true) :
    Calls Try.prog 56 #[.slice A n cap] w (RowOf (nats (rW zs)) w) := by
  have HZ := Lib.hid hr.1
  have HL := Lib.hid hl
  have HR := Lib.hid hr
  by_cases h14 : n < 14
  · have HE := Lib.hid (show nats (rW zs) = [1] by unfold rW; rw [HZ.out, if_pos h14]; rfl)
    clear hr hl
    go_enter Try.func56, Try.ntmps56
    go_wp2
    go_ret
    exact rowOf_lit HE.out (Below.refl _ _)
  · obtain ⟨ad, z13, rfl, hz13, hc13⟩ := hr.at_ (show 13 < n by omega)
    obtain ⟨ad', z12, e, hz12, hc12⟩ := hr.at_ (show 12 < n by omega)
    injection e with e
    subst e
    have hx13 := one_at hz13
    have hx12 := one_at hz12
    rw [add_pos ad (by omega)] at hc13 hc12
    cases hx : (z13 == 1)
    · have HX := Lib.hid (show hEx zs = false from hx13.trans hx)
      by_cases hE : n < 19
      · have HE := Lib.hid (show nats (rW zs) = [1, 13, 5] by unfold rW; rw [HZ.out, if_neg h14, HX.out, show hEnd false = 19 from rfl, if_pos hE]; rfl)
        clear hr hl hz13 hz12 hc12 hx12 hx13
        go_enter Try.func56, Try.ntmps56
        go_wp2
        go_ret
        exact rowOf_lit HE.out (Below.refl _ _)
      · have HS := Lib.hid (hLn_far (zs := zs) (by rw [HX.out, HZ.out]; simp [hEnd]; omega))
        rw [HX.out, show hEnd false - 4 = 15 from rfl] at HS
        have hv := val_4 (all_cut HL.out 15 4) (cutL_len (by rw [HZ.out]; omega))
        have HRT := Lib.hid (show hRt zs = (z12 == 1) by unfold hRt; rw [HX.out]; exact hx12)
        have HE := Lib.hid (show ∀ d : Nat, hDat zs = d → nats (rW zs) = [1, 13, 5, (d : Int), 15, 1, 1, 1, 7] by intro d hd; unfold rW; rw [HZ.out, if_neg h14, HX.out, show hEnd false = 19 from rfl, if_neg hE]; unfold hW; rw [HX.out, hd]; rfl)
        have HI := Lib.hid (hr.cut 15 4 (by omega))
        obtain ⟨v, hv0⟩ : ∃ v, val (cutL zs 15 4) = v := ⟨_, rfl⟩
        rw [hv0] at hv HS
        have HV := Lib.hid hv0
        have i1 : (v : Int) < 16 := by omega
        have i2 : (19 : Int) ≤ (cap : Int) := by omega
        clear hr hl hz13 hz12 hx12 hx13 hv0 hv
        go_enter Try.func56, Try.ntmps56
        go_wp2_with fail
        refine (rv4_ok _ 4 _ _ _ HI.out (by omega) (all_cut HL.out _ _)).mono ?_
        rintro e w' ⟨rfl, rfl⟩
        rw [HV.out]
        cases hr1 : (z12 == 1)
        · by_cases h8 : v > 8
          · have HD := Lib.hid (HE.out 64 (by unfold hDat; rw [HRT.out, hr1, HS.out, show min v 8 = 8 by omega]; rfl))
            go_wp2
            go_ret
            exact rowOf_lit HD.out (Below.refl _ _)
          · have HD := Lib.hid (HE.out (8 * v) (by unfold hDat; rw [HRT.out, hr1, HS.out, show min v 8 = v by omega]; simp; omega))
            rw [show ((8 * v : Nat) : Int) = 8 * (v : Int) by omega] at HD
            go_wp2
            go_ret
            exact rowOf_lit HD.out (Below.refl _ _)
        · have HD := Lib.hid (HE.out 0 (by unfold hDat; rw [HRT.out, hr1]; rfl))
          by_cases h8 : v > 8
          · go_wp2
            go_ret
            exact rowOf_lit HD.out (Below.refl _ _)
          · go_wp2
            go_ret
            exact rowOf_lit HD.out (Below.refl _ _)
    · have HX := Lib.hid (show hEx zs = true from hx13.trans hx)
      by_cases hE : n < 39
      · have HE := Lib.hid (show nats (rW zs) = [1, 32, 6] by unfold rW; rw [HZ.out, if_neg h14, HX.out, show hEnd true = 39 from rfl, if_pos hE]; rfl)
        clear hr hl hz13 hz12 hc12 hx12 hx13
        go_enter Try.func56, Try.ntmps56
        go_wp2
        go_ret
        exact rowOf_lit HE.out (Below.refl _ _)
      · obtain ⟨ad', z32, e, hz32, hc32⟩ := hr.at_ (show 32 < n by omega)
        injection e with e
        subst e
        have hx32 := one_at hz32
        rw [add_pos ad (by omega)] at hc32
        have HS := Lib.hid (hLn_far (zs := zs) (by rw [HX.out, HZ.out]; simp [hEnd]; omega))
        rw [HX.out, show hEnd true - 4 = 35 from rfl] at HS
        have hv := val_4 (all_cut HL.out 35 4) (cutL_len (by rw [HZ.out]; omega))
        have HRT := Lib.hid (show hRt zs = (z32 == 1) by unfold hRt; rw [HX.out]; exact hx32)
        have HE := Lib.hid (show ∀ d : Nat, hDat zs = d → nats (rW zs) = [1, 32, 6, (d : Int), 15, 1, 1, 1, 7] by intro d hd; unfold rW; rw [HZ.out, if_neg h14, HX.out, show hEnd true = 39 from rfl, if_neg hE]; unfold hW; rw [HX.out, hd]; rfl)
        have HI := Lib.hid (hr.cut 35 4 (by omega))
        obtain ⟨v, hv0⟩ : ∃ v, val (cutL zs 35 4) = v := ⟨_, rfl⟩
        rw [hv0] at hv HS
        have HV := Lib.hid hv0
        have i1 : (v : Int) < 16 := by omega
        have i2 : (39 : Int) ≤ (cap : Int) := by omega
        clear hr hl hz13 hz12 hz32 hx12 hx13 hx32 hv0 hv
        go_enter Try.func56, Try.ntmps56
        go_wp2_with fail
        refine (rv4_ok _ 4 _ _ _ HI.out (by omega) (all_cut HL.out _ _)).mono ?_
        rintro e w' ⟨rfl, rfl⟩
        rw [HV.out]
        cases hr1 : (z32 == 1)
        · by_cases h8 : v > 8
          · have HD := Lib.hid (HE.out 64 (by unfold hDat; rw [HRT.out, hr1, HS.out, show min v 8 = 8 by omega]; rfl))
            go_wp2
            go_ret
            exact rowOf_lit HD.out (Below.refl _ _)
          · have HD := Lib.hid (HE.out (8 * v) (by unfold hDat; rw [HRT.out, hr1, HS.out, show min v 8 = v by omega]; simp; omega))
            rw [show ((8 * v : Nat) : Int) = 8 * (v : Int) by omega] at HD
            go_wp2
            go_ret
            exact rowOf_lit HD.out (Below.refl _ _)
        · have HD := Lib.hid (HE.out 0 (by unfold hDat; rw [HRT.out, hr1]; rfl))
          by_cases h8 : v > 8
          · go_wp2
            go_ret
            exact rowOf_lit HD.out (Below.refl _ _)
          · go_wp2
            go_ret
            exact rowOf_lit HD.out (Below.refl _ _)
end Go.Proofs.Ytffhhegpkejdgaa

/- The reference of layer 4: Ahead and Next. -/
namespace Go.Proofs.Ytffhhegpkejdgaa
open Go.RowKit

theorem rW_short {zs : List Int} (h : zs.length < hEnd (hEx zs)) : (rW zs).length < 9 := by
  unfold rW
  split
  · simp
  · simp
theorem rW_full {zs : List Int} (h : ¬ zs.length < hEnd (hEx zs)) : rW zs = hW zs := by
  unfold rW
  rw [if_neg (by cases hx : hEx zs <;> rw [hx] at h <;> simp [hEnd] at h <;> omega), if_neg h]
/-- What the reference's Ahead answers. -/
def raout (zs : List Int) : Int := if zs.length < hEnd (hEx zs) then -1 else (ahead zs : Nat)

set_option maxHeartbeats 800000 in
theorem rahead_ok (A : Option Addr) (n cap : Nat) (zs : List Int) (w : World) (hr : Il w A n zs) (hn : n ≤ 100000) (hcap : n ≤ cap) (hl : ∀ z ∈ zs, lvl z = true) :
    Calls Try.prog 32 #[.slice A n cap] w fun e w' => e = .returned (.int .i64 (raout zs)) ∧ Below w.heap.size w w' := by
  have HR := Lib.hid hr; have HL := Lib.hid hl
  clear hr hl
  go_enter Try.func32, Try.ntmps32
  go_wp2_with fail
  refine (rwid_ok A n cap zs _ HR.out hn hcap HL.out).mono ?_
  rintro e w1 ⟨A1, c1, rfl, hi1, hb1⟩
  rw [nats_len] at hi1 ⊢
  by_cases hs : zs.length < hEnd (hEx zs)
  · have h9 := rW_short hs
    have HO := Lib.hid (show raout zs = -1 by unfold raout; rw [if_pos hs])
    clear hs hi1
    generalize (rW zs).length = q at *
    go_wp2
    go_ret
    exact ⟨ret_int HO.out.symm, hb1⟩
  · have hd := hDat_le zs
    have ha := aW_le (hEx zs); have hc := cW_le (hEx zs)
    have HO := Lib.hid (show raout zs = 1 + (aW (hEx zs) : Int) + (cW (hEx zs) : Int) + (hDat zs : Int) by
      unfold raout; rw [if_neg hs]; unfold ahead; rw [← hEnd_eq]; omega)
    rw [rW_full hs, show (hW zs).length = 9 from rfl, show nats (hW zs) = [1, (aW (hEx zs) : Int), (cW (hEx zs) : Int), (hDat zs : Int), 15, 1, 1, 1, 7] from rfl] at hi1
    rw [rW_full hs, show (hW zs).length = 9 from rfl]
    clear hs
    generalize aW (hEx zs) = a at *
    generalize cW (hEx zs) = c at *
    generalize hDat zs = d at *
    obtain ⟨ad, z0, rfl, hz0, k0⟩ := hi1.at_ (show 0 < 9 by omega)
    obtain ⟨_, z1, e, hz1, k1⟩ := hi1.at_ (show 1 < 9 by omega)
    injection e with e; subst e
    obtain ⟨_, z2, e, hz2, k2⟩ := hi1.at_ (show 2 < 9 by omega)
    injection e with e; subst e
    obtain ⟨_, z3, e, hz3, k3⟩ := hi1.at_ (show 3 < 9 by omega)
    injection e with e; subst e
    simp only [List.getElem?_cons_zero, List.getElem?_cons_succ, Option.some.injEq] at hz0 hz1 hz2 hz3
    subst hz0 hz1 hz2 hz3
    rw [at_zero] at k0
    rw [add_pos ad (by omega)] at k1 k2 k3
    clear hi1
    go_wp2
    go_quiet (fail)
    go_wp2
    go_ret
    exact ⟨ret_int HO.out.symm, belowN hb1 _⟩

/-- What the reference's Next answers of n levels, with these fields. -/
def rnx (o : Bool) : List Nat → Nat → Nat → Value
  | [], n, _ => if o then .tuple #[.int .i64 1, .int .i64 (n : Int)] else if 0 < n then .tuple #[.int .i64 (-1), .int .i64 0] else .tuple #[.int .i64 9, .int .i64 0]
  | w :: ws, n, k => if n < w then .tuple #[.int .i64 (k : Int), .int .i64 (n : Int)] else rnx o ws (n - w) (k + 1)
theorem rnx_hit {o : Bool} {w n : Nat} {l ws : List Nat} (k : Nat) (e : l = w :: ws) (h : n < w) : rnx o l n k = .tuple #[.int .i64 (k : Int), .int .i64 (n : Int)] := by subst e; simp [rnx, h]
theorem rnx_miss {o : Bool} {w n : Nat} {l ws : List Nat} (k : Nat) (e : l = w :: ws) (h : ¬ n < w) : rnx o l n k = rnx o ws (n - w) (k + 1) := by subst e; simp [rnx, h]
theorem nats_at {l : List Nat} {k : Nat} {z : Int} (h : (nats l)[k]? = some z) : ∃ x : Nat, z = (x : Int) ∧ l.drop k = x :: l.drop (k + 1) := by
  unfold nats at h
  rw [List.getElem?_map] at h
  cases hx : l[k]? with
  | none => rw [hx] at h; simp at h
  | some x =>
    rw [hx] at h
    simp at h
    obtain ⟨hk, e⟩ := List.getElem?_eq_some_iff.mp hx
    exact ⟨x, h.symm, by rw [List.drop_eq_getElem_cons hk, e]⟩

set_option maxHeartbeats 800000 in
theorem rnext_ok (A : Option Addr) (n cap : Nat) (zs : List Int) (w : World) (hr : Il w A n zs) (hn : n ≤ 100000) (hcap : n ≤ cap) (hl : ∀ z ∈ zs, lvl z = true) :
    Calls Try.prog 31 #[.slice A n cap] w fun e w' => e = .returned (rnx (decide ((rW zs).length = 1)) (rW zs) n 0) ∧ Below w.heap.size w w' := by
  have HR := Lib.hid hr; have HL := Lib.hid hl
  clear hr hl
  go_enter Try.func31, Try.ntmps31
  go_wp2_with fail
  refine (rwid_ok A n cap zs _ HR.out hn hcap HL.out).mono ?_
  rintro e w1 ⟨A1, c1, rfl, hi1, hb1⟩
  rw [nats_len] at hi1 ⊢
  have hq9 : (rW zs).length ≤ 9 := by
    by_cases hs : zs.length < hEnd (hEx zs)
    · have := rW_short hs; omega
    · rw [rW_full hs]; exact Nat.le_refl _
  obtain ⟨ws, hws⟩ : ∃ ws, rW zs = ws := ⟨_, rfl⟩
  rw [hws] at hi1 hq9 ⊢
  have HI := Lib.hid hi1; have HB := Lib.hid hb1
  obtain ⟨q, hq⟩ : ∃ q, ws.length = q := ⟨_, rfl⟩
  have HF := Lib.hid (show rnx (decide ((rW zs).length = 1)) (rW zs) n 0 = rnx (decide (q = 1)) ws n 0 by rw [hws, hq])
  rw [hq] at HI hq9 ⊢
  have HQ := Lib.hid hq
  clear hi1 hb1 hq hws
  go_wp2
  go_loop [5, 6] (fun v i => ∃ k m : Nat, k ≤ q ∧ m ≤ 100000 ∧ i = .int .i64 k ∧ v = .int .i64 m ∧ rnx (decide (q = 1)) ws n 0 = rnx (decide (q = 1)) (ws.drop k) m k) (fun _ i => q - (intOf i).toNat)
  case atStart => exact ⟨0, n, Nat.zero_le _, hn, rfl, rfl, rfl⟩
  case round =>
    obtain ⟨k, m, hk, hm, rfl, rfl, hnx⟩ := hrel
    have HN := Lib.hid hnx
    clear hnx
    by_cases hlt : k < q
    · obtain ⟨ad, z, rfl, hz, hc⟩ := HI.out.at_ hlt
      obtain ⟨x, rfl, hd⟩ := nats_at hz
      have HD := Lib.hid hd
      clear hz hd
      by_cases hx : m < x
      · go_wp2
        go_ret2
        exact ⟨congrArg Ending.returned (HF.out.trans (HN.out.trans (rnx_hit _ HD.out hx))).symm, HB.out⟩
      · go_wp2
        go_round
        case rel => exact ⟨k + 1, m - x, by omega, by omega, by go_num, by go_num, HN.out.trans (rnx_miss _ HD.out hx)⟩
        case measure => simp [intOf]; omega
    · have HD := Lib.hid (show ws.drop k = [] from List.drop_eq_nil_of_le (by rw [HQ.out]; omega))
      rw [HD.out] at HN
      clear HD
      by_cases h1 : q = 1
      · subst h1
        go_wp2
        go_ret2
        exact ⟨congrArg Ending.returned (HF.out.trans HN.out).symm, HB.out⟩
      · have h1i : ((q : Int) == 1) = false := by rw [beq_eq_false_iff_ne]; omega
        by_cases h0 : 0 < m
        · go_wp2
          go_ret2
          exact ⟨by rw [HF.out, HN.out]; simp [rnx, h1, h0], HB.out⟩
        · go_wp2
          go_ret2
          exact ⟨by rw [HF.out, HN.out]; simp [rnx, h1, h0], HB.out⟩

theorem rn_list : ∀ (ws : List Nat) (n k : Nat), k + ws.length = 9 →
    (∃ j m : Nat, j ≤ 9 ∧ nout ws n k = .tuple #[.int .i64 (j : Int), .int .i64 (m : Int), .int .i64 0] ∧ rnx false ws n k = .tuple #[.int .i64 (j : Int), .int .i64 (m : Int)]) ∨
    (nout ws n k = .tuple #[.int .i64 0, .int .i64 0, .int .i64 12] ∧ rnx false ws n k = .tuple #[.int .i64 (-1), .int .i64 0]) := by
  intro ws
  induction ws with
  | nil =>
    intro n k h
    simp at h
    subst h
    by_cases h0 : 0 < n
    · exact .inr ⟨by simp [nout, h0], by simp [rnx, h0]⟩
    · exact .inl ⟨9, 0, Nat.le_refl _, by simp [nout, h0], by simp [rnx, h0]⟩
  | cons w ws ih =>
    intro n k h
    simp at h
    by_cases hx : n < w
    · exact .inl ⟨k, n, by omega, nx_hit ws k hx, rnx_hit k rfl hx⟩
    · rw [nx_miss ws k hx, rnx_miss k rfl hx]
      exact ih _ _ (by omega)
theorem rn_link (zs : List Int) :
    (∃ j m : Nat, j ≤ 9 ∧ nout (hW zs) zs.length 0 = .tuple #[.int .i64 (j : Int), .int .i64 (m : Int), .int .i64 0] ∧ rnx (decide ((rW zs).length = 1)) (rW zs) zs.length 0 = .tuple #[.int .i64 (j : Int), .int .i64 (m : Int)]) ∨
    (nout (hW zs) zs.length 0 = .tuple #[.int .i64 0, .int .i64 0, .int .i64 12] ∧ rnx (decide ((rW zs).length = 1)) (rW zs) zs.length 0 = .tuple #[.int .i64 (-1), .int .i64 0]) := by
  by_cases hs : zs.length < hEnd (hEx zs)
  · left
    have e : hW zs = [1, aW (hEx zs), cW (hEx zs), hDat zs, 15, 1, 1, 1, 7] := rfl
    by_cases h14 : zs.length < 14
    · have hx : hEx zs = false := one_far (by omega)
      have er : rW zs = [1] := by unfold rW; rw [if_pos h14]
      rw [er, e, hx, show aW false = 13 from rfl]
      by_cases h1 : zs.length < 1
      · exact ⟨0, zs.length, by omega, nx_hit _ _ h1, rnx_hit _ rfl h1⟩
      · rw [nx_miss _ _ h1, rnx_miss _ rfl h1]
        exact ⟨1, zs.length - 1, by omega, nx_hit _ _ (by omega), rfl⟩
    · have er : rW zs = [1, aW (hEx zs), cW (hEx zs)] := by unfold rW; rw [if_neg h14, if_pos hs]
      have hE := hEnd_eq (hEx zs)
      rw [er, e]
      by_cases h1 : zs.length < 1
      · omega
      · rw [nx_miss _ _ h1, rnx_miss _ rfl h1]
        by_cases h2 : zs.length - 1 < aW (hEx zs)
        · exact ⟨1, zs.length - 1, by omega, nx_hit _ _ h2, rnx_hit _ rfl h2⟩
        · rw [nx_miss _ _ h2, rnx_miss _ rfl h2]
          have h3 : zs.length - 1 - aW (hEx zs) < cW (hEx zs) := by omega
          exact ⟨2, zs.length - 1 - aW (hEx zs), by omega, nx_hit _ _ h3, rnx_hit _ rfl h3⟩
  · rw [rW_full hs]
    exact rn_list (hW zs) zs.length 0 rfl
end Go.Proofs.Ytffhhegpkejdgaa

/- The reference of layer 4: Frame. -/
namespace Go.Proofs.Ytffhhegpkejdgaa
open Go.RowKit

set_option maxHeartbeats 400000 in
theorem rframe_short (A : Option Addr) (n cap : Nat) (zs : List Int) (w : World) (hr : Il w A n zs) (hn : n ≤ 100000) (hcap : n ≤ cap) (hl : ∀ z ∈ zs, lvl z = true) (hs : zs.length < hEnd (hEx zs) ∨ zs.length < ahead zs) :
    Calls Try.prog 33 #[.slice A n cap] w fun e w' => e = .returned (.tuple #[Fr.zero.val, .int .i64 13]) ∧ Below w.heap.size w w' := by
  have HZ := Lib.hid hr.1
  have hle := ahead_le zs
  have A0 := Lib.hid (fb_new w Fr.zero)
  go_enter Try.func33, Try.ntmps33
  go_wp2_with fail
  refine (rahead_ok _ _ _ _ _ (hr.below ((Below.refl _ _).alloc (Nat.le_refl _) _)) (by omega) hcap hl).mono ?_
  rintro e w1 ⟨rfl, hb1⟩
  have HB1 := Lib.hid (nxt ((Below.refl _ _).alloc (Nat.le_refl _) _) hb1)
  have B0 := A0.out.below hb1 (by simp)
  have fz := fun i => B0.frozen i
  obtain ⟨c0, c1, c2, c3, c4, c5, c6, c7, c8, c9, c10, c11⟩ := B0.bx
  clear hb1 A0 B0
  unfold raout
  by_cases h1 : zs.length < hEnd (hEx zs)
  · rw [if_pos h1]
    clear h1 hs hr hl
    go_wp2
    refine bodyPost_ret (v := .tuple #[Fr.zero.val, .int .i64 13]) (by rw [results_cell_tmp rfl]; go_simp; decide) rfl ⟨rfl, ?_⟩
    exact set12 HB1.out (Nat.le_refl _) _ _ _ _ _ _ _ _ _ _ _ _
  · rw [if_neg h1]
    have h2 : n < ahead zs := by
      rw [← HZ.out]
      rcases hs with h | h
      · exact absurd h h1
      · exact h
    clear h1 hs hr hl
    generalize ahead zs = q at *
    go_wp2
    refine bodyPost_ret (v := .tuple #[Fr.zero.val, .int .i64 13]) (by rw [results_cell_tmp rfl]; go_simp; decide) rfl ⟨rfl, ?_⟩
    exact set12 HB1.out (Nat.le_refl _) _ _ _ _ _ _ _ _ _ _ _ _

set_option maxHeartbeats 800000 in
theorem rframe_form (ad : Addr) (n cap : Nat) (zs : List Int) (w : World) (hr : Il w (some ad) n zs) (hn : n ≤ 100000) (hcap : n ≤ cap) (hl : ∀ z ∈ zs, lvl z = true)
    (h1 : hEnd (hEx zs) ≤ n) (h2 : ahead zs ≤ n) (h0 : one zs 0 = true) :
    Calls Try.prog 33 #[.slice (some ad) n cap] w fun e w' => e = .returned (.tuple #[Fr.zero.val, .int .i64 11]) ∧ Below w.heap.size w w' := by
  have HR := Lib.hid hr; have HL := Lib.hid hl; have HZ := Lib.hid hr.1
  have hpos : 0 < hEnd (hEx zs) := by cases hEx zs <;> decide
  obtain ⟨ad', z, e, hz, hc0⟩ := hr.at_ (show 0 < n by omega)
  injection e with e
  subst e
  have hz01 : z = 1 := by rw [one_at hz] at h0; simpa using h0
  subst hz01
  rw [at_zero] at hc0
  have HC0 := Lib.hid hc0
  have HAO := Lib.hid (show raout zs = (ahead zs : Nat) by unfold raout; rw [if_neg (by rw [HZ.out]; omega)])
  have hle := ahead_le zs
  obtain ⟨q, hq⟩ : ∃ q, ahead zs = q := ⟨_, rfl⟩
  rw [hq] at h2 HAO hle
  have hn0 : 0 < n := by omega
  clear hr hl h0 hz hc0 hq hpos
  have A0 := Lib.hid (fb_new w Fr.zero)
  go_enter Try.func33, Try.ntmps33
  go_wp2_with fail
  refine (rahead_ok _ _ _ _ _ (HR.out.below ((Below.refl _ _).alloc (Nat.le_refl _) _)) hn hcap HL.out).mono ?_
  rintro e w1 ⟨rfl, hb1⟩
  rw [HAO.out]
  have hbw1 := nxt ((Below.refl w.heap.size w).alloc (Nat.le_refl _) (.cells Fr.zero.cells 24)) hb1
  have B0 := A0.out.below hb1 (by simp)
  have hc1 : w1.cell? ad = some (.int .i64 1) := (hbw1.cell (by obtain ⟨a, e, hl, _⟩ := HR.out.2 (by omega); injection e with e; subst e; exact hl)).trans HC0.out
  have HB1 := Lib.hid hbw1
  have fz := fun i => B0.frozen i
  obtain ⟨c0, c1, c2, c3, c4, c5, c6, c7, c8, c9, c10, c11⟩ := B0.bx
  clear hb1 A0 B0 hbw1
  go_wp2
  refine bodyPost_ret (v := .tuple #[Fr.zero.val, .int .i64 11]) (by rw [results_cell_tmp rfl]; go_simp; decide) rfl ⟨rfl, ?_⟩
  exact set12 HB1.out (Nat.le_refl _) _ _ _ _ _ _ _ _ _ _ _ _
end Go.Proofs.Ytffhhegpkejdgaa

