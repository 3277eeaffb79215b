/- What a text is the frame of; the contract of frame.Parse. -/
import Derived.Test.YtjjfkakjkkpgaaaCd
namespace Go.Proofs.Ytjjfkakjkkpgaaa
open Go.RowKit

/-- What stands behind the mark is written as it has to be. -/
def cok (l : List UInt8) : Bool := if l.head? = some 82 then (l.length == 2 && l.tail.all hok) else (l.length % 2 == 0 && decide (l.length ≤ 16) && l.all hok)
/-- .. the frame of it, without an ID. -/
def cfr (l : List UInt8) : Fr := if l.head? = some 82 then ⟨0, false, true, hv (l.getD 1 0), fun _ => 0⟩ else frp l (l.length / 2)

theorem content_any (l : List UInt8) (w : World) (hn : l.length ≤ 200) :
    Calls Try.prog 35 #[.string (str l)] w fun e w' => ∃ g, e = .returned (.tuple #[Fr.val g, .bool (cok l)]) ∧ (cok l = true → g = cfr l) ∧ Below w.heap.size w w' := by
  by_cases hh : l.head? = some 82
  · obtain ⟨t, rfl⟩ : ∃ t, l = 82 :: t := by
      cases l with
      | nil => cases hh
      | cons c t => simp at hh; exact ⟨t, by rw [hh]⟩
    have e1 : cok (82 :: t) = (t.length == 1 && t.all hok) := by simp [cok]
    by_cases h1 : t.length = 1
    · obtain ⟨c, rfl⟩ : ∃ c, t = [c] := List.length_eq_one_iff.1 h1
      cases hc : hok c
      · have e2 : cok [82, c] = false := by rw [e1]; simp [hc]
        rw [e2]
        exact (content_r2 c w hc).mono fun e w' ⟨h1, h2⟩ => ⟨_, h1, (fun h => by cases h), h2⟩
      · have e2 : cok [82, c] = true := by rw [e1]; simp [hc]
        rw [e2]
        exact (content_r1 c w hc).mono fun e w' ⟨h1, h2⟩ => ⟨_, h1, fun _ => rfl, h2⟩
    · have e2 : cok (82 :: t) = false := by rw [e1]; simp [h1]
      rw [e2]
      exact (content_r0 t w (by simp at hn; omega) h1).mono fun e w' ⟨h1, h2⟩ => ⟨_, h1, (fun h => by cases h), h2⟩
  · have hne : ∀ t, l ≠ 82 :: t := fun t h => hh (by rw [h]; rfl)
    have e1 : cok l = (l.length % 2 == 0 && decide (l.length ≤ 16) && l.all hok) := by unfold cok; rw [if_neg hh]
    by_cases hl : l.length % 2 ≠ 0 ∨ 16 < l.length
    · have e2 : cok l = false := by
        rw [e1]
        rcases hl with h | h
        · simp [h]
        · rw [show decide (l.length ≤ 16) = false by simp; omega]; simp
      rw [e2]
      exact (content_odd l w hn hne hl).mono fun e w' ⟨h1, h2⟩ => ⟨_, h1, (fun h => by cases h), h2⟩
    · have h2 : l.length % 2 = 0 := by omega
      have h16 : l.length ≤ 16 := by omega
      refine (content_data l w hne h2 h16).mono fun e w' ⟨h1, hb⟩ => ?_
      rcases h1 with ⟨ha, he⟩ | ⟨ha, he⟩
      · have e2 : cok l = true := by rw [e1]; simp [h2, h16]; exact ha
        rw [e2]
        exact ⟨_, he, fun _ => by unfold cfr; rw [if_neg hh], hb⟩
      · have e2 : cok l = false := by
          rw [e1]
          have : l.all hok = false := by
            cases h : l.all hok
            · rfl
            · exact absurd (List.all_eq_true.1 h) ha
          rw [this]; simp
        rw [e2]
        exact ⟨_, he, (fun h => by cases h), hb⟩

theorem number_any (l : List UInt8) (w : World) (hn : l.length ≤ 8) :
    Calls Try.prog 34 #[.string (str l)] w fun e w' => e = .returned (.tuple #[.int .i64 (if l.all hok then (hval l : Int) else 0), .bool (l.all hok)]) ∧ w = w' := by
  cases h : l.all hok
  · exact number_bad l w hn (fun ha => by rw [List.all_eq_true.2 ha] at h; cases h)
  · exact number_ok l w hn (List.all_eq_true.1 h)

/-- How many bytes stand ahead of the mark. -/
def mrk (l : List UInt8) : Nat := led (fun x => !(x == 35)) l
/-- The text is written as it has to be. -/
def pfm (l : List UInt8) : Bool := decide (mrk l < l.length) && (mrk l == 3 || mrk l == 8) && (l.take (mrk l)).all hok && cok (l.drop (mrk l + 1))
/-- .. the frame of it. -/
def pfr (l : List UInt8) : Fr := { cfr (l.drop (mrk l + 1)) with id := hval (l.take (mrk l)), ext := mrk l == 8 }
def perr (l : List UInt8) : Int := if pfm l then (pfr l).err else 11
def pout (l : List UInt8) : Fr := if perr l = 0 then pfr l else Fr.zero

theorem set12a {w wr : World} {B g : Nat} (h : Below B w wr) (hg : B ≤ g) (hB : B ≤ wr.heap.size) (v0 v1 v2 v3 v4 v5 v6 v7 v8 v9 v10 v11 : Value) (o : Obj) : Below B w (((((((((((((wr.setCell ⟨g, 0, none⟩ v0).setCell ⟨g, 1, none⟩ v1).setCell ⟨g, 2, none⟩ v2).setCell ⟨g, 3, none⟩ v3).setCell ⟨g, 4, none⟩ v4).setCell ⟨g, 5, none⟩ v5).setCell ⟨g, 6, none⟩ v6).setCell ⟨g, 7, none⟩ v7).setCell ⟨g, 8, none⟩ v8).setCell ⟨g, 9, none⟩ v9).setCell ⟨g, 10, none⟩ v10).setCell ⟨g, 11, none⟩ v11).alloc o) :=
  (set12 h hg v0 v1 v2 v3 v4 v5 v6 v7 v8 v9 v10 v11).alloc (by simpa [World.setCell] using hB) o
theorem Fb.drewN {w : World} {g : Nat} {f : Fr} (h : Fb w g f) (n : Nat) : Fb (w.drewN n) g f := h

set_option maxHeartbeats 1600000 in
theorem parse_nomark (l : List UInt8) (w : World) (h : ¬ mrk l < l.length) :
    Calls Try.prog 20 #[.string (str l)] w fun e w' => e = .returned (.tuple #[Fr.zero.val, .int .i64 11]) ∧ Below w.heap.size w w' := by
  have HC := Lib.hid (cut_none (str l) · (by rw [fidx_fst, show fst (fun x => !(x == 35)) l = -1 from if_neg h]; omega))
  generalize str l = s at *
  go_enter Try.func20, Try.ntmps20
  go_wp2_with fail
  refine (HC.out _).mono ?_
  rintro e w' ⟨rfl, rfl⟩
  go_wp2
  refine bodyPost_ret (v := .tuple #[Fr.zero.val, .int .i64 11]) (by rw [results_cell_tmp rfl]; go_simp; decide) rfl ⟨rfl, ?_⟩
  exact (Below.refl _ _).alloc (Nat.le_refl _) _

theorem cut_mark (l : List UInt8) (w : World) (hn : l.length ≤ 100) (h : mrk l < l.length) :
    Calls Try.prog 33 #[.string (str l), .string ⟨#[35]⟩] w fun e w' => e = .returned (.tuple #[.string (str (l.take (mrk l))), .string (str (l.drop (mrk l + 1))), .bool true]) ∧ ∃ n, w' = w.drewN n := by
  have h1 := cut_at (str l) (mrk l) w (by rw [fidx_fst]; unfold fst; exact if_pos h) (by rw [str_size]; exact h) (by rw [str_size]; omega)
  rw [str_extract, str_size, str_extract, List.drop_zero, List.take_of_length_le (Nat.le_refl l.length)] at h1
  exact h1

set_option maxHeartbeats 1600000 in
theorem parse_off (l : List UInt8) (w : World) (hn : l.length ≤ 100) (h : mrk l < l.length) (h3 : mrk l ≠ 3) (h8 : mrk l ≠ 8) :
    Calls Try.prog 20 #[.string (str l)] w fun e w' => e = .returned (.tuple #[Fr.zero.val, .int .i64 11]) ∧ Below w.heap.size w w' := by
  have HC := Lib.hid (cut_mark l · hn h)
  have hs : (str (l.take (mrk l))).size = mrk l := by rw [str_size, List.length_take]; omega
  generalize str l = s at *
  generalize str (l.take (mrk l)) = s1 at *
  generalize str (l.drop (mrk l + 1)) = s2 at *
  have i1 : ((s1.size : Int) != 3) = true := by simp; omega
  have i2 : ((s1.size : Int) != 8) = true := by simp; omega
  clear hs
  go_enter Try.func20, Try.ntmps20
  go_wp2_with fail
  refine (HC.out _).mono ?_
  rintro e w' ⟨rfl, n, rfl⟩
  have HF := Lib.hid ((fb_new w Fr.zero).drewN n)
  go_wp2
  refine bodyPost_ret (v := .tuple #[Fr.zero.val, .int .i64 11]) (by rw [results_cell_tmp rfl]; go_simp; decide) rfl ⟨rfl, ?_⟩
  exact set12 (belowN ((Below.refl _ _).alloc (Nat.le_refl _) _) n) (Nat.le_refl _) _ _ _ _ _ _ _ _ _ _ _ _

set_option maxHeartbeats 3200000 in
theorem parse_in (l : List UInt8) (w : World) (hn : l.length ≤ 100) (h : mrk l < l.length) (h38 : mrk l = 3 ∨ mrk l = 8) :
    Calls Try.prog 20 #[.string (str l)] w fun e w' => e = .returned (.tuple #[(pout l).val, .int .i64 (perr l)]) ∧ Below w.heap.size w w' := by
  have HC := Lib.hid (cut_mark l · hn h)
  have hs : (str (l.take (mrk l))).size = mrk l := by rw [str_size, List.length_take]; omega
  have HN := Lib.hid (number_any (l.take (mrk l)) · (by rw [List.length_take]; omega))
  have HT := Lib.hid (content_any (l.drop (mrk l + 1)) · (by rw [List.length_drop]; omega))
  have HP : pfm l = ((l.take (mrk l)).all hok && cok (l.drop (mrk l + 1))) := by
    unfold pfm
    rcases h38 with h' | h' <;> rw [h'] at h ⊢ <;> simp [h]
  have hE : perr l = if (l.take (mrk l)).all hok && cok (l.drop (mrk l + 1)) then (pfr l).err else 11 := by unfold perr; rw [HP]
  have HE := Lib.hid hE
  have HO := Lib.hid (show pout l = if perr l = 0 then pfr l else Fr.zero from rfl)
  have HR := Lib.hid (show pfr l = { cfr (l.drop (mrk l + 1)) with id := hval (l.take (mrk l)), ext := mrk l == 8 } from rfl)
  have hid : hval (l.take (mrk l)) < 4294967296 := by
    have := hval_take_lt l (mrk l) 8 (by omega)
    have e : (16 : Nat) ^ 8 = 4294967296 := by decide
    omega
  generalize perr l = er at *
  generalize pout l = po at *
  generalize pfr l = pf at *
  generalize str l = s at *
  generalize str (l.take (mrk l)) = s1 at *
  generalize str (l.drop (mrk l + 1)) = s2 at *
  generalize (l.take (mrk l)).all hok = b1 at *
  generalize cok (l.drop (mrk l + 1)) = b2 at *
  generalize hval (l.take (mrk l)) = id at *
  generalize cfr (l.drop (mrk l + 1)) = cf at *
  generalize mrk l = p at *
  clear HP hE
  have h1 : ((w.alloc (.cells Fr.zero.cells 24))).heap.size = w.heap.size + 1 := by simp
  have HS1 := Lib.hid h1
  clear h1
  cases b1
  · have e1 : er = 11 := by rw [HE.out]; rfl
    have e2 : po = Fr.zero := by rw [HO.out, e1]; rfl
    subst e1 e2
    rcases h38 with rfl | rfl
    all_goals
      have i1 : (s1.size : Int) = _ := congrArg (fun (n : Nat) => (n : Int)) hs
      clear hs
      go_enter Try.func20, Try.ntmps20
      go_wp2_with fail
      refine (HC.out _).mono ?_
      rintro e w' ⟨rfl, n, rfl⟩
      have HF := Lib.hid ((fb_new w Fr.zero).drewN n)
      have HB := Lib.hid (belowN (boxed Fr.zero w) n)
      go_wp2_with fail
      refine (HN.out _).mono ?_
      rintro e w' ⟨rfl, rfl⟩
      go_wp2_with fail
      refine (HT.out _).mono ?_
      rintro e w2 ⟨g, rfl, hg, hb2⟩
      have HF2 := Lib.hid (HF.out.below hb2 (by have := HS1.out; simp))
      have HB2 := Lib.hid (nxt HB.out hb2)
      clear HF HB hg hb2
      obtain ⟨c0, c1, c2, c3, c4, c5, c6, c7, c8, c9, c10, c11⟩ := HF2.out.bx
      have fz := fun i => HF2.out.frozen i
      have hlt := HF2.out.lt
      go_wp2
      refine bodyPost_ret (v := .tuple #[Fr.zero.val, .int .i64 11]) (by rw [results_cell_tmp rfl]; go_simp; decide) rfl ⟨rfl, ?_⟩
      exact set12a HB2.out (Nat.le_refl _) HB2.out.size _ _ _ _ _ _ _ _ _ _ _ _ _
  cases b2
  · have e1 : er = 11 := by rw [HE.out]; rfl
    have e2 : po = Fr.zero := by rw [HO.out, e1]; rfl
    subst e1 e2
    rcases h38 with rfl | rfl
    all_goals
      have i1 : (s1.size : Int) = _ := congrArg (fun (n : Nat) => (n : Int)) hs
      clear hs
      go_enter Try.func20, Try.ntmps20
      go_wp2_with fail
      refine (HC.out _).mono ?_
      rintro e w' ⟨rfl, n, rfl⟩
      have HF := Lib.hid ((fb_new w Fr.zero).drewN n)
      have HB := Lib.hid (belowN (boxed Fr.zero w) n)
      go_wp2_with fail
      refine (HN.out _).mono ?_
      rintro e w' ⟨rfl, rfl⟩
      go_wp2_with fail
      refine (HT.out _).mono ?_
      rintro e w2 ⟨g, rfl, hg, hb2⟩
      have HF2 := Lib.hid (HF.out.below hb2 (by have := HS1.out; simp))
      have HB2 := Lib.hid (nxt HB.out hb2)
      clear HF HB hg hb2
      obtain ⟨c0, c1, c2, c3, c4, c5, c6, c7, c8, c9, c10, c11⟩ := HF2.out.bx
      have fz := fun i => HF2.out.frozen i
      have hlt := HF2.out.lt
      go_wp2
      refine bodyPost_ret (v := .tuple #[Fr.zero.val, .int .i64 11]) (by rw [results_cell_tmp rfl]; go_simp; decide) rfl ⟨rfl, ?_⟩
      exact set12a HB2.out (Nat.le_refl _) HB2.out.size _ _ _ _ _ _ _ _ _ _ _ _ _
  have e1 : er = pf.err := by rw [HE.out]; rfl
  cases hm : pf.may
  · have e2 : er = 14 := by rw [e1, err_no hm]
    have e3 : po = Fr.zero := by rw [HO.out, e2]; rfl
    have HM := Lib.hid (err_no hm)
    clear e1 hm
    subst e2 e3
    rcases h38 with rfl | rfl
    · have i1 : (s1.size : Int) = _ := congrArg (fun (n : Nat) => (n : Int)) hs
      clear hs
      go_enter Try.func20, Try.ntmps20
      go_wp2_with fail
      refine (HC.out _).mono ?_
      rintro e w' ⟨rfl, n, rfl⟩
      have HF := Lib.hid ((fb_new w Fr.zero).drewN n)
      have HB := Lib.hid (belowN (boxed Fr.zero w) n)
      go_wp2_with fail
      refine (HN.out _).mono ?_
      rintro e w' ⟨rfl, rfl⟩
      go_wp2_with fail
      refine (HT.out _).mono ?_
      rintro e w2 ⟨g, rfl, hg, hb2⟩
      have HF2 := Lib.hid (HF.out.below hb2 (by have := HS1.out; simp))
      have HB2 := Lib.hid (nxt HB.out hb2)
      clear HF HB hb2
      obtain ⟨c0, c1, c2, c3, c4, c5, c6, c7, c8, c9, c10, c11⟩ := HF2.out.bx
      have fz := fun i => HF2.out.frozen i
      have hlt := HF2.out.lt
      obtain rfl := hg trivial
      clear hg
      go_wp2_with fail
      have hpf : pf = ⟨id, false, g.rtr, g.len, g.d⟩ := HR.out
      have HA := Lib.hid ((boxed pf w2))
      have HG := Lib.hid (fb_new w2 pf)
      rw [hpf] at HA HG HM
      refine (check_any ⟨id, false, g.rtr, g.len, g.d⟩ _).mono ?_
      rintro e w3 ⟨rfl, hb3⟩
      rw [HM.out]
      have HF3 := Lib.hid ((HF2.out.below HA.out hlt).below hb3 (by simp; omega))
      have HG3 := Lib.hid (HG.out.below hb3 (by simp))
      have HB3 := Lib.hid (nxt (nxt HB2.out HA.out) hb3)
      clear c0 c1 c2 c3 c4 c5 c6 c7 c8 c9 c10 c11
      clear HF2 HB2 HA HG hb3 fz
      obtain ⟨c0, c1, c2, c3, c4, c5, c6, c7, c8, c9, c10, c11⟩ := HF3.out.bx
      obtain ⟨b0, b1, b2, b3, b4, b5, b6, b7, b8, b9, b10, b11⟩ := HG3.out.bx
      have fz := fun i => HF3.out.frozen i
      go_wp2
      refine bodyPost_ret (v := .tuple #[Fr.zero.val, .int .i64 14]) (by rw [results_cell_tmp rfl]; go_simp; decide) rfl ⟨rfl, ?_⟩
      exact set12 HB3.out (Nat.le_refl _) _ _ _ _ _ _ _ _ _ _ _ _
    · have i1 : (s1.size : Int) = _ := congrArg (fun (n : Nat) => (n : Int)) hs
      clear hs
      go_enter Try.func20, Try.ntmps20
      go_wp2_with fail
      refine (HC.out _).mono ?_
      rintro e w' ⟨rfl, n, rfl⟩
      have HF := Lib.hid ((fb_new w Fr.zero).drewN n)
      have HB := Lib.hid (belowN (boxed Fr.zero w) n)
      go_wp2_with fail
      refine (HN.out _).mono ?_
      rintro e w' ⟨rfl, rfl⟩
      go_wp2_with fail
      refine (HT.out _).mono ?_
      rintro e w2 ⟨g, rfl, hg, hb2⟩
      have HF2 := Lib.hid (HF.out.below hb2 (by have := HS1.out; simp))
      have HB2 := Lib.hid (nxt HB.out hb2)
      clear HF HB hb2
      obtain ⟨c0, c1, c2, c3, c4, c5, c6, c7, c8, c9, c10, c11⟩ := HF2.out.bx
      have fz := fun i => HF2.out.frozen i
      have hlt := HF2.out.lt
      obtain rfl := hg trivial
      clear hg
      go_wp2_with fail
      have hpf : pf = ⟨id, true, g.rtr, g.len, g.d⟩ := HR.out
      have HA := Lib.hid ((boxed pf w2))
      have HG := Lib.hid (fb_new w2 pf)
      rw [hpf] at HA HG HM
      refine (check_any ⟨id, true, g.rtr, g.len, g.d⟩ _).mono ?_
      rintro e w3 ⟨rfl, hb3⟩
      rw [HM.out]
      have HF3 := Lib.hid ((HF2.out.below HA.out hlt).below hb3 (by simp; omega))
      have HG3 := Lib.hid (HG.out.below hb3 (by simp))
      have HB3 := Lib.hid (nxt (nxt HB2.out HA.out) hb3)
      clear c0 c1 c2 c3 c4 c5 c6 c7 c8 c9 c10 c11
      clear HF2 HB2 HA HG hb3 fz
      obtain ⟨c0, c1, c2, c3, c4, c5, c6, c7, c8, c9, c10, c11⟩ := HF3.out.bx
      obtain ⟨b0, b1, b2, b3, b4, b5, b6, b7, b8, b9, b10, b11⟩ := HG3.out.bx
      have fz := fun i => HF3.out.frozen i
      go_wp2
      refine bodyPost_ret (v := .tuple #[Fr.zero.val, .int .i64 14]) (by rw [results_cell_tmp rfl]; go_simp; decide) rfl ⟨rfl, ?_⟩
      exact set12 HB3.out (Nat.le_refl _) _ _ _ _ _ _ _ _ _ _ _ _
  · have e2 : er = 0 := by rw [e1, err_ok hm]
    have e3 : po = pf := by rw [HO.out, e2]; rfl
    have HM := Lib.hid (err_ok hm)
    clear e1 hm
    subst e2 e3
    rcases h38 with rfl | rfl
    · have i1 : (s1.size : Int) = _ := congrArg (fun (n : Nat) => (n : Int)) hs
      clear hs
      go_enter Try.func20, Try.ntmps20
      go_wp2_with fail
      refine (HC.out _).mono ?_
      rintro e w' ⟨rfl, n, rfl⟩
      have HF := Lib.hid ((fb_new w Fr.zero).drewN n)
      have HB := Lib.hid (belowN (boxed Fr.zero w) n)
      go_wp2_with fail
      refine (HN.out _).mono ?_
      rintro e w' ⟨rfl, rfl⟩
      go_wp2_with fail
      refine (HT.out _).mono ?_
      rintro e w2 ⟨g, rfl, hg, hb2⟩
      have HF2 := Lib.hid (HF.out.below hb2 (by have := HS1.out; simp))
      have HB2 := Lib.hid (nxt HB.out hb2)
      clear HF HB hb2
      obtain ⟨c0, c1, c2, c3, c4, c5, c6, c7, c8, c9, c10, c11⟩ := HF2.out.bx
      have fz := fun i => HF2.out.frozen i
      have hlt := HF2.out.lt
      obtain rfl := hg trivial
      clear hg
      go_wp2_with fail
      have hpf : po = ⟨id, false, g.rtr, g.len, g.d⟩ := HR.out
      have HA := Lib.hid ((boxed po w2))
      have HG := Lib.hid (fb_new w2 po)
      rw [hpf] at HA HG HM
      refine (check_any ⟨id, false, g.rtr, g.len, g.d⟩ _).mono ?_
      rintro e w3 ⟨rfl, hb3⟩
      rw [HM.out]
      have HF3 := Lib.hid ((HF2.out.below HA.out hlt).below hb3 (by simp; omega))
      have HG3 := Lib.hid (HG.out.below hb3 (by simp))
      have HB3 := Lib.hid (nxt (nxt HB2.out HA.out) hb3)
      clear c0 c1 c2 c3 c4 c5 c6 c7 c8 c9 c10 c11
      clear HF2 HB2 HA HG hb3 fz
      obtain ⟨c0, c1, c2, c3, c4, c5, c6, c7, c8, c9, c10, c11⟩ := HF3.out.bx
      obtain ⟨b0, b1, b2, b3, b4, b5, b6, b7, b8, b9, b10, b11⟩ := HG3.out.bx
      have fz := fun i => HF3.out.frozen i
      go_wp2
      rw [hpf]
      refine bodyPost_ret (v := .tuple #[Fr.val ⟨id, false, g.rtr, g.len, g.d⟩, .int .i64 0]) (by rw [results_cell_tmp rfl]; go_simp) rfl ⟨rfl, ?_⟩
      exact set12 HB3.out (Nat.le_refl _) _ _ _ _ _ _ _ _ _ _ _ _
    · have i1 : (s1.size : Int) = _ := congrArg (fun (n : Nat) => (n : Int)) hs
      clear hs
      go_enter Try.func20, Try.ntmps20
      go_wp2_with fail
      refine (HC.out _).mono ?_
      rintro e w' ⟨rfl, n, rfl⟩
      have HF := Lib.hid ((fb_new w Fr.zero).drewN n)
      have HB := Lib.hid (belowN (boxed Fr.zero w) n)
      go_wp2_with fail
      refine (HN.out _).mono ?_
      rintro e w' ⟨rfl, rfl⟩
      go_wp2_with fail
      refine (HT.out _).mono ?_
      rintro e w2 ⟨g, rfl, hg, hb2⟩
      have HF2 := Lib.hid (HF.out.below hb2 (by have := HS1.out; simp))
      have HB2 := Lib.hid (nxt HB.out hb2)
      clear HF HB hb2
      obtain ⟨c0, c1, c2, c3, c4, c5, c6, c7, c8, c9, c10, c11⟩ := HF2.out.bx
      have fz := fun i => HF2.out.frozen i
      have hlt := HF2.out.lt
      obtain rfl := hg trivial
      clear hg
      go_wp2_with fail
      have hpf : po = ⟨id, true, g.rtr, g.len, g.d⟩ := HR.out
      have HA := Lib.hid ((boxed po w2))
      have HG := Lib.hid (fb_new w2 po)
      rw [hpf] at HA HG HM
      refine (check_any ⟨id, true, g.rtr, g.len, g.d⟩ _).mono ?_
      rintro e w3 ⟨rfl, hb3⟩
      rw [HM.out]
      have HF3 := Lib.hid ((HF2.out.below HA.out hlt).below hb3 (by simp; omega))
      have HG3 := Lib.hid (HG.out.below hb3 (by simp))
      have HB3 := Lib.hid (nxt (nxt HB2.out HA.out) hb3)
      clear c0 c1 c2 c3 c4 c5 c6 c7 c8 c9 c10 c11
      clear HF2 HB2 HA HG hb3 fz
      obtain ⟨c0, c1, c2, c3, c4, c5, c6, c7, c8, c9, c10, c11⟩ := HF3.out.bx
      obtain ⟨b0, b1, b2, b3, b4, b5, b6, b7, b8, b9, b10, b11⟩ := HG3.out.bx
      have fz := fun i => HF3.out.frozen i
      go_wp2
      rw [hpf]
      refine bodyPost_ret (v := .tuple #[Fr.val ⟨id, true, g.rtr, g.len, g.d⟩, .int .i64 0]) (by rw [results_cell_tmp rfl]; go_simp) rfl ⟨rfl, ?_⟩
      exact set12 HB3.out (Nat.le_refl _) _ _ _ _ _ _ _ _ _ _ _ _

theorem parse_any (l : List UInt8) (w : World) (hn : l.length ≤ 100) :
    Calls Try.prog 20 #[.string (str l)] w fun e w' => e = .returned (.tuple #[(pout l).val, .int .i64 (perr l)]) ∧ Below w.heap.size w w' := by
  by_cases h : mrk l < l.length
  · by_cases h38 : mrk l = 3 ∨ mrk l = 8
    · exact parse_in l w hn h h38
    · have e1 : perr l = 11 := by
        have : pfm l = false := by
          unfold pfm
          rw [show (mrk l == 3 || mrk l == 8) = false by simp; omega]; simp
        unfold perr; rw [this]; rfl
      have e2 : pout l = Fr.zero := by unfold pout; rw [e1]; rfl
      rw [e1, e2]
      exact parse_off l w hn h (fun h' => h38 (.inl h')) (fun h' => h38 (.inr h'))
  · have e1 : perr l = 11 := by
      have : pfm l = false := by
        unfold pfm
        rw [show decide (mrk l < l.length) = false by simpa using h]; simp
      unfold perr; rw [this]; rfl
    have e2 : pout l = Fr.zero := by unfold pout; rw [e1]; rfl
    rw [e1, e2]
    exact parse_nomark l w h
end Go.Proofs.Ytjjfkakjkkpgaaa
