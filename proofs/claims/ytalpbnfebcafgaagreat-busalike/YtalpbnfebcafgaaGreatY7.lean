/- The contracts of the bus's inner calls. -/
import Derived.Test.YtalpbnfebcafgaaGreatY6
import Derived.Laws.ShiftsVarLaws
import Derived.StillTailTactics
import Derived.Deep.DeepCutAuto
import Derived.Test.YtalpbnfebcafgaaGreatY5
import Derived.Test.YtalpbnfebcafgaaGreatY0
import Derived.BigQuiet
namespace Go.Proofs.YtalpbnfebcafgaaGreat
set_option maxRecDepth 20000
open Go.RowKit
set_option linter.unusedSimpArgs false

theorem bit_any (i : Nat) (hi : i ≤ 32) (w : World) : Calls Tryz.prog 44 #[.int .i64 (i : Int)] w fun e w' => e = .returned (.int .u32 ((2 ^ i % 4294967296 : Nat) : Int)) ∧ w = w' := by
  have h0 : (0 : Int) ≤ (i : Int) := Int.natCast_nonneg _
  have hs := u32_shl_one_var (i : Int) h0
  have he : (if (32 : Int) ≤ (i : Int) then 0 else (2 : Int) ^ ((i : Int)).toNat) = ((2 ^ i % 4294967296 : Nat) : Int) := by
    rw [Int.toNat_natCast]
    by_cases h : i = 32
    · subst h; rfl
    · have hp : 2 ^ i < 2 ^ 32 := Nat.pow_lt_pow_right (by omega) (by omega)
      rw [if_neg (by omega), Nat.mod_eq_of_lt (by omega)]
      simp
  rw [he] at hs
  go_enter Tryz.func44, Tryz.ntmps44
  go_wp2
  go_ret
  exact ⟨rfl, rfl⟩
theorem other11 (z : Int) (w : World) : Calls Tryz.prog 66 #[.int .i64 z] w fun e w' => e = .returned (.int .i64 (oth z)) ∧ w = w' := by
  by_cases hz : z = 0
  · subst hz
    go_enter Tryz.func66, Tryz.ntmps66
    go_wp2
    go_ret
    exact ⟨rfl, rfl⟩
  · rw [show oth z = 0 from if_neg hz]
    have hz' : (z == 0) = false := by simpa using hz
    go_enter Tryz.func66, Tryz.ntmps66
    go_wp2
    go_ret
    exact ⟨rfl, rfl⟩
abbrev Rn.c (r : Rn) : Array Value := #[.int .i64 r.n, .int .i64 r.b, .int .u32 (r.d : Nat)]
theorem runOf_any (d : Nat) (w : World) : Calls Tryz.prog 48 #[.int .u32 (d : Int)] w fun e w' => e = .returned (.agg (Rn.c ⟨1, lvO d, d⟩)) ∧ Below w.heap.size w w' := by
  by_cases hd : d = 4294967295
  · subst hd
    go_enter Tryz.func48, Tryz.ntmps48
    go_wp2
    refine bodyPost_ret (v := .agg (Rn.c ⟨1, 1, 4294967295⟩)) (by rw [results_cellK rfl]; go_simp) rfl ⟨by simp [lvO], alloc2 _ _ _⟩
  · rw [show lvO d = 0 from if_neg hd]
    have hd' : ((d : Int) == 4294967295) = false := by simp; omega
    go_enter Tryz.func48, Tryz.ntmps48
    go_wp2
    refine bodyPost_ret (v := .agg (Rn.c ⟨1, 0, d⟩)) (by rw [results_cellK rfl]; go_simp) rfl ⟨rfl, alloc2 _ _ _⟩
theorem everyone_any {w : World} {B : Nat} {p : BP} {b : Bs} (hl : BLay w B p b) (hL : b.L.length ≤ 32) :
    Calls Tryz.prog 47 #[.pointer (some ⟨p.g, 0, none⟩)] w fun e w' => e = .returned (.int .u32 ((2 ^ b.L.length - 1 : Nat) : Int)) ∧ w = w' := by
  obtain ⟨A, cap, hv, _, _⟩ := hl.sl
  have c0 := hl.c0
  rw [hv] at c0
  have hbit := bit_any b.L.length hL w
  obtain ⟨x, hx⟩ : ∃ x : Nat, 2 ^ b.L.length % 4294967296 = x := ⟨_, rfl⟩
  have hw : ((x : Int) - 1) % 4294967296 = ((2 ^ b.L.length - 1 : Nat) : Int) := by
    rw [← hx]
    by_cases h : b.L.length = 32
    · rw [h]; rfl
    · have hp : 2 ^ b.L.length < 2 ^ 32 := Nat.pow_lt_pow_right (by omega) (by omega)
      have h0 : 0 < 2 ^ b.L.length := Nat.pow_pos (by omega)
      rw [Nat.mod_eq_of_lt (by omega)]
      omega
  rw [hx] at hbit
  generalize 2 ^ b.L.length - 1 = y at *
  generalize b.L.length = n at *
  clear hl hx hv hL
  go_enter Tryz.func47, Tryz.ntmps47
  go_wp2_with fail
  refine hbit.mono ?_
  rintro e w1 ⟨rfl, rfl⟩
  go_wp2
  go_ret
  exact ⟨by show Ending.returned (.int .u32 (((x : Int) - 1) % 4294967296)) = _; rw [hw], rfl⟩
set_option maxHeartbeats 800000 in
theorem driven_any {w : World} {B : Nat} {p : BP} {b : Bs} (hl : BLay w B p b) (hL : b.L.length ≤ 32) (hf : ∀ n ∈ b.L, n.mode = 2 → Okf n) :
    Calls Tryz.prog 49 #[.pointer (some ⟨p.g, 0, none⟩)] w fun e w' => e = .returned (.int .u32 (dmk b.L b.L.length : Nat)) ∧ Below w.heap.size w w' := by
  obtain ⟨A, cap, hv, hcap, hps⟩ := hl.sl
  have c0 := hl.c0
  rw [hv] at c0
  have HL := Lib.hid hl
  have HF := Lib.hid hf
  have HPS := Lib.hid hps
  obtain ⟨N, hN⟩ : ∃ N, b.L.length = N := ⟨_, rfl⟩
  have HN := Lib.hid hN
  rw [hN] at c0 hL hcap
  clear hl hf hps hv
  go_enter Tryz.func49, Tryz.ntmps49
  go_wp2
  go_loopw [3, 10] (fun d i wr => ∃ k : Nat, k ≤ N ∧ i = .int .i64 k ∧ d = .int .u32 (dmk b.L k : Nat) ∧ Below w.heap.size w wr) (fun _ i _ => N - (intOf i).toNat)
  case atStart => exact ⟨0, Nat.zero_le _, rfl, rfl, Below.refl _ _⟩
  case round =>
    obtain ⟨k, hk, rfl, rfl, hb⟩ := hrel
    have HB := Lib.hid hb
    by_cases hlt : k < N
    · have hlt' : (k : Int) < (N : Int) := by omega
      obtain ⟨q, hq, hq2, hlq⟩ := HL.out.get (i := k) (by rw [HN.out]; exact hlt)
      obtain ⟨ad, rfl, had, hcell⟩ := HPS.out k q hq
      have r0 : wr.cell? ⟨p.g, 0, none⟩ = some (.slice (some ad) N cap) := (hb.cell (p := ⟨p.g, 0, none⟩) HL.out.lt).trans c0
      have r1 : wr.cell? (ad.add k) = some (.pointer (some ⟨q.g, 0, none⟩)) := (hb.cell (by rw [block_of_add]; exact had)).trans hcell
      have hdr := fun W (hW : Below w.heap.size w W) => drv_any (hlq.next hW) (HF.out _ (List.mem_of_getElem? hq2))
      have hst : dmk b.L (k + 1) = if (b.L.getD k Nd.new).drv = 0 then dmk b.L k &&& (4294967295 - 2 ^ k) else dmk b.L k := rfl
      have hdl := dmk_lt b.L k
      have hp : 2 ^ k < 4294967296 := Nat.lt_of_lt_of_le (Nat.pow_lt_pow_right (n := 32) (by omega) (by omega)) (by decide)
      have han := u32_andNot_nat (dmk b.L k) (2 ^ k) hdl hp
      have hbit := fun W => bit_any k (by omega) W
      rw [Nat.mod_eq_of_lt hp] at hbit
      generalize (b.L.getD k Nd.new).drv = z at *
      generalize dmk b.L k &&& (4294967295 - 2 ^ k) = y at *
      generalize dmk b.L k = x at *
      generalize 2 ^ k = m at *
      have HST := Lib.hid hst
      have HDR := Lib.hid hdr
      clear hst hdr hb
      by_cases hz : z = 0
      · subst hz
        go_wp2_with fail
        refine (HDR.out _ HB.out).mono ?_
        rintro e w1 ⟨rfl, hb1⟩
        have HB1 := Lib.hid (nxt HB.out hb1)
        clear hb1
        go_wp2_with fail
        refine (hbit _).mono ?_
        rintro e w2 ⟨rfl, rfl⟩
        go_wp2
        go_roundw
        case rel => exact ⟨k + 1, by omega, by go_num, by rw [HST.out]; simp, HB1.out⟩
        case measure => simp [intOf]; omega
      · have hz' : (z == 0) = false := by simpa using hz
        go_wp2_with fail
        refine (HDR.out _ HB.out).mono ?_
        rintro e w1 ⟨rfl, hb1⟩
        have HB1 := Lib.hid (nxt HB.out hb1)
        clear hb1
        go_wp2
        go_roundw
        case rel => exact ⟨k + 1, by omega, by go_num, by rw [HST.out, if_neg hz], HB1.out⟩
        case measure => simp [intOf]; omega
    · have hlt' : ¬ (k : Int) < (N : Int) := by omega
      have : k = N := by omega
      subst this
      go_wp2
      go_ret
      exact ⟨rfl, HB.out⟩
end Go.Proofs.YtalpbnfebcafgaaGreat

/- The contract of see: all nodes that are not forced see the level, and what they tell. -/
namespace Go.Proofs.YtalpbnfebcafgaaGreat
set_option maxRecDepth 20000
open Go.RowKit
set_option linter.unusedSimpArgs false

theorem mask_bit {x k : Nat} (hx : x < 4294967296) (hk : k < 32) : bits .and .u32 (x : Int) ((2 ^ k : Nat) : Int) = (((if x.testBit k then 2 ^ k else 0 : Nat) : Nat) : Int) := by
  rw [u32_and_nat x _ hx (Nat.lt_of_lt_of_le (Nat.pow_lt_pow_right (n := 32) (by omega) hk) (by decide)), nat_bit, Nat.testBit_eq_decide_div_mod_eq]
  have h2 : x / 2 ^ k % 2 = 0 ∨ x / 2 ^ k % 2 = 1 := by omega
  rcases h2 with h | h <;> rw [h] <;> simp
/-- What the i-th node tells, and the first j events of it. -/
theorem tells_len {l : Int} {x m t T : Nat} {L : List Nd} (hS : ∀ n ∈ L, Sound T n) (hl : l = 0 ∨ l = 1) : ∀ k, k ≤ L.length → (tells l x m t L k).length ≤ 3 * k
  | 0, _ => by simp [tells]
  | k + 1, hk => by
    have ih := tells_len (x := x) (m := m) (t := t) hS hl k (by omega)
    have hg : L.getD k Nd.new ∈ L := by rw [List.getD, List.getElem?_eq_getElem (by omega)]; exact List.getElem_mem _
    have h3 : (act1 l x m k (L.getD k Nd.new)).1.length ≤ 3 := by
      unfold act1
      split
      · simp
      · exact (good_stp (hS _ hg) (by split; exact oth_01 _; exact hl)).len
    rw [tells, List.length_append, List.length_map]
    omega
theorem sees_sound {l : Int} {x m T : Nat} {L : List Nd} (hS : ∀ n ∈ L, Sound T n) (hl : l = 0 ∨ l = 1) : ∀ n ∈ sees l x m L L.length, Sound (T + 1) n := by
  intro n hn
  obtain ⟨i, hi, rfl⟩ := List.getElem_of_mem hn
  have hi' := hi
  rw [sees_len] at hi'
  have h1 : L[i]? = some L[i] := List.getElem?_eq_getElem hi'
  have h2 := sees_get (l := l) (x := x) (m := m) (Nat.le_refl _) h1
  rw [List.getElem?_eq_getElem hi, if_pos hi'] at h2
  injection h2 with h2
  rw [h2]
  have hs := hS _ (List.getElem_mem hi')
  unfold act1
  split
  · exact hs.more (by omega)
  · exact (good_stp hs (by split; exact oth_01 _; exact hl)).s
theorem sees_at {l : Int} {x m : Nat} {L : List Nd} {k : Nat} (hk : k < L.length) : (sees l x m L k).getD k Nd.new = L.getD k Nd.new := by
  have h1 : L[k]? = some L[k] := List.getElem?_eq_getElem hk
  rw [List.getD, sees_get (by omega) h1, if_neg (by omega), List.getD, h1]
theorem sees_forced {l : Int} {x m : Nat} {L : List Nd} {k : Nat} (hk : k < L.length) (h : m.testBit k = true) : sees l x m L (k + 1) = sees l x m L k := by
  rw [sees]
  unfold act1
  rw [if_pos h]
  have h1 : L[k]? = some L[k] := List.getElem?_eq_getElem hk
  have h2 := sees_get (l := l) (x := x) (m := m) (k := k) (by omega) h1
  rw [if_neg (by omega)] at h2
  apply List.ext_getElem?
  intro j
  by_cases e : k = j
  · subst e
    rw [List.getElem?_set_self (by rw [sees_len]; exact hk), List.getD, h1, h2]; rfl
  · rw [List.getElem?_set_ne e]
theorem tells_forced {l : Int} {x m t : Nat} {L : List Nd} {k : Nat} (h : m.testBit k = true) : tells l x m t L (k + 1) = tells l x m t L k := by
  rw [tells]
  unfold act1
  rw [if_pos h]
  simp
/-- An event lies at p. -/
def Exa (w : World) (p : Addr) (e : Be) : Prop := w.cell? p = some (.int .i64 (e.1 : Nat)) ∧ w.cell? ⟨p.block, p.off + 1, none⟩ = some (.int .i64 (e.2.1 : Nat)) ∧ w.cell? ⟨p.block, p.off + 2, none⟩ = some (.int .i64 e.2.2.1) ∧ w.cell? ⟨p.block, p.off + 3, none⟩ = some (.int .i64 e.2.2.2.id) ∧ w.cell? ⟨p.block, p.off + 4, none⟩ = some (.bool e.2.2.2.ext) ∧ w.cell? ⟨p.block, p.off + 5, none⟩ = some (.bool e.2.2.2.rtr) ∧ w.cell? ⟨p.block, p.off + 6, none⟩ = some (.int .i64 e.2.2.2.len) ∧ w.cell? ⟨p.block, p.off + 7, none⟩ = some (.int .u8 (e.2.2.2.d 0)) ∧ w.cell? ⟨p.block, p.off + 8, none⟩ = some (.int .u8 (e.2.2.2.d 1)) ∧ w.cell? ⟨p.block, p.off + 9, none⟩ = some (.int .u8 (e.2.2.2.d 2)) ∧ w.cell? ⟨p.block, p.off + 10, none⟩ = some (.int .u8 (e.2.2.2.d 3)) ∧ w.cell? ⟨p.block, p.off + 11, none⟩ = some (.int .u8 (e.2.2.2.d 4)) ∧ w.cell? ⟨p.block, p.off + 12, none⟩ = some (.int .u8 (e.2.2.2.d 5)) ∧ w.cell? ⟨p.block, p.off + 13, none⟩ = some (.int .u8 (e.2.2.2.d 6)) ∧ w.cell? ⟨p.block, p.off + 14, none⟩ = some (.int .u8 (e.2.2.2.d 7))
theorem Gs.ev {w : World} {A : Option Addr} {m j : Nat} {es : List Be} {e : Be} (h : Gs evT w A m es) (hj : es[j]? = some e) : ∃ ad, A = some ad ∧ ad.block < w.heap.size ∧ Exa w (ad.add (j * 15)) e := by
  obtain ⟨ad, h1, hl, h0⟩ := h.at_ hj
  have g : ∀ c v, 0 < c → (becs e)[c]? = some v → w.cell? ⟨(ad.add (j * 15)).block, (ad.add (j * 15)).off + c, none⟩ = some v := fun c v hc hv => by
    rw [← add_pos _ hc]; exact h0 c v hv
  exact ⟨ad, h1, hl, h0 0 _ rfl, g 1 _ (by omega) rfl, g 2 _ (by omega) rfl, g 3 _ (by omega) rfl, g 4 _ (by omega) rfl, g 5 _ (by omega) rfl, g 6 _ (by omega) rfl, g 7 _ (by omega) rfl, g 8 _ (by omega) rfl, g 9 _ (by omega) rfl, g 10 _ (by omega) rfl, g 11 _ (by omega) rfl, g 12 _ (by omega) rfl, g 13 _ (by omega) rfl, g 14 _ (by omega) rfl⟩
/-- A node's row of events, as one of the bus's. -/
theorem eown_gown {w : World} {B : Nat} {v : Value} {es : List Ev} (h : Eown w B v es) : Gown evT w B v (es.map fun e => (0, 0, e)) := by
  have e : evT.f (es.map fun e => ((0, 0, e) : Be)) = ecs es := by
    unfold Elt.f ecs
    rw [List.flatMap_map]
    rfl
  unfold Gown
  rw [e, List.length_map]
  exact h

set_option maxHeartbeats 6400000 in
set_option maxRecDepth 100000 in
theorem see_any {w : World} {B T : Nat} {p : BP} {b : Bs} (hl : BLay w B p b) (hL : b.L.length ≤ 32) (hS : ∀ n ∈ b.L, Sound T n) (hT : T ≤ 4000000) (l : Int) (hl01 : l = 0 ∨ l = 1) (x m : Nat) (hx : x < 4294967296) (hm : m < 4294967296) :
    Calls Tryz.prog 50 #[.pointer (some ⟨p.g, 0, none⟩), .int .i64 l, .int .u32 (x : Nat), .int .u32 (m : Nat)] w fun e w' =>
      ∃ u ps', e = .returned u ∧ Gown evT w' w.heap.size u (tells l x m b.t b.L b.L.length) ∧ BLay w' B { p with ps := ps' } { b with L := sees l x m b.L b.L.length } ∧ Moves p.fp (BP.fp { p with ps := ps' }) w w' := by
  obtain ⟨g, pv, ps⟩ := p
  obtain ⟨L, t⟩ := b
  simp only at hL hS
  obtain ⟨A, cap, hv, hcap, -⟩ := hl.sl
  simp only at hv hcap
  subst hv
  have c0 := hl.c0
  have HL := Lib.hid hl
  have HS := Lib.hid hS
  have HM := Lib.hid (And.intro hx hm)
  have H01 := Lib.hid hl01
  obtain ⟨N, hN⟩ : ∃ N, L.length = N := ⟨_, rfl⟩
  have HN := Lib.hid hN
  have HT := Lib.hid hT
  have HTL := Lib.hid (fun k hk => tells_len (x := x) (m := m) (t := t) hS hl01 k hk)
  simp only [hN] at c0 hL hcap
  clear hl hS hx hm hl01 hN hT
  go_enter Tryz.func50, Tryz.ntmps50
  go_wp2
  go_loopw [9, 21] (fun v i wr => ∃ (k : Nat) (qs : List NP), k ≤ N ∧ i = .int .i64 k ∧ Gown evT wr w.heap.size v (tells l x m t L k) ∧ BLay wr B ⟨g, .slice A N cap, qs⟩ ⟨sees l x m L k, t⟩ ∧ Moves (BP.fp ⟨g, .slice A N cap, ps⟩) (fun j => BP.fp ⟨g, .slice A N cap, qs⟩ j ∨ own11 v j) w wr) (fun _ i _ => N - (intOf i).toNat)
  case atStart =>
    refine ⟨0, ps, Nat.zero_le _, rfl, Gown.nil _ _ _, ?_, ?_⟩
    · have := HL.out; simp only [HN.out] at this; exact this
    · exact (Moves.refl _ _).less fun j hj => hj.elim id fun h => by cases h
  case round =>
    obtain ⟨k, qs, hk, rfl, hg, hb, hmv⟩ := hrel
    obtain ⟨Av, cv, rfl, -⟩ := hg.len
    have HG := Lib.hid hg
    have HB := Lib.hid hb
    have HMV := Lib.hid hmv
    by_cases hlt : k < N
    · have hlt' : (k : Int) < (N : Int) := by omega
      have hkL : k < L.length := by rw [HN.out]; exact hlt
      have hp : 2 ^ k < 4294967296 := Nat.lt_of_lt_of_le (Nat.pow_lt_pow_right (n := 32) (by omega) (by omega)) (by decide)
      have hbit := fun W => bit_any k (by omega) W
      rw [Nat.mod_eq_of_lt hp] at hbit
      have hmb := mask_bit HM.out.2 (show k < 32 by omega)
      have hxb := mask_bit HM.out.1 (show k < 32 by omega)
      have hpos : 0 < 2 ^ k := Nat.pow_pos (by omega)
      generalize hP : 2 ^ k = P at *
      have HP := Lib.hid hP
      clear hP
      have r0 := hb.c0
      simp only at r0
      cases hmk : m.testBit k
      · rw [hmk, if_neg (by decide)] at hmb
        have hact : act1 l x m k (L.getD k Nd.new) = (L.getD k Nd.new).stp (if x.testBit k then oth l else l) := by unfold act1; rw [hmk]; simp
        have hsee : sees l x m L (k + 1) = (sees l x m L k).set k (act1 l x m k (L.getD k Nd.new)).2 := rfl
        have htel : tells l x m t L (k + 1) = tells l x m t L k ++ (act1 l x m k (L.getD k Nd.new)).1.map fun e => (t, k, e) := rfl
        have hmem : L.getD k Nd.new ∈ L := by rw [List.getD, List.getElem?_eq_getElem hkL]; exact List.getElem_mem _
        have hsnd := HS.out _ hmem
        obtain ⟨q, hq, -, hlq⟩ := hb.get (i := k) (by show k < (sees l x m L k).length; rw [sees_len]; exact hkL)
        simp only at hq hlq
        rw [sees_at hkL] at hlq
        obtain ⟨A', cap', hv', -, hps⟩ := hb.sl
        simp only at hv' hps
        injection hv' with e1 e2 e3
        subst e1
        obtain ⟨ad, rfl, had, r1⟩ := hps k q hq
        simp only [NP.ptr] at r1
        clear hps e2 e3
        cases hxk : x.testBit k
        · rw [hxk, if_neg (by decide)] at hxb
          rw [hxk, if_neg (by decide)] at hact
          obtain ⟨es, n', hr⟩ : ∃ es n', (L.getD k Nd.new).stp l = (es, n') := ⟨_, _, rfl⟩
          have hstep := step_any10 hlq (hsnd.fit HT.out) l (by first | exact H01.out | exact oth_01 _)
          have hle := (good_stp hsnd (z := l) (by first | exact H01.out | exact oth_01 _)).len
          rw [hr] at hact hstep hle
          rw [hact] at hsee htel
          simp only at hsee htel hle
          have HSEE := Lib.hid hsee
          have HTEL := Lib.hid htel
          have HLE := Lib.hid hle
          have HQ := Lib.hid hq
          have HSTEP := Lib.hid hstep
          have HAP := Lib.hid (hb.typed hg (by decide) (by decide) (by decide) (by decide) (by decide) (by decide))
          have HLQ := Lib.hid hlq
          clear hsee htel hle hq hstep hact hr hmv hg hb hlq
          go_wp2_with fail
          refine (hbit _).mono ?_
          rintro e wa ⟨rfl, rfl⟩
          go_wp2_with fail
          refine (hbit _).mono ?_
          rintro e wa ⟨rfl, rfl⟩
          go_wp2_with fail
          refine HSTEP.out.mono ?_
          rintro e w2 ⟨u, vo, vl, vq, rfl, hE, hL2, hm2⟩
          obtain ⟨hB2, hmB⟩ := HB.out.node (q' := ⟨q.g, q.gq, vo, vl, vq⟩) HQ.out hm2 rfl hL2
          simp only at hB2 hmB
          rw [← HSEE.out] at hB2
          have HB2 := Lib.hid hB2
          have hg2 := HG.out.moves hmB (fun j hj => HAP.out j hj)
          have HG2 := Lib.hid hg2.1
          have HAP2 := Lib.hid (show ∀ j, own11 (.slice Av (tells l x m t L k).length cv) j → ¬ BP.fp ⟨g, .slice (some ad) N cap, qs.set k ⟨q.g, q.gq, vo, vl, vq⟩⟩ j from hg2.2)
          have HMV2 := Lib.hid (HMV.out.trans (hmB.beside (own11 (.slice Av (tells l x m t L k).length cv))))
          have HU := Lib.hid (eown_gown hE)
          obtain ⟨Ae, ce, rfl, -⟩ := hE.len
          have HUS := Lib.hid (show ∀ j, (Value.slice Ae es.length ce).ownBlock = some j → ¬ own11 (.slice Av (tells l x m t L k).length cv) j from fun j hj hf => by have a := (World.ownsRow.lt hE j hj).1; have c := (World.ownsRow.lt HG.out j hf).2; omega)
          clear hE hL2 hm2 hB2 hmB hg2 HSTEP HB HG HAP HMV HLQ r0 r1 had hbit hmb hxb
          obtain ⟨E, hEE⟩ : ∃ E, es.length = E := ⟨_, rfl⟩
          simp only [hEE] at HUS HU ⊢
          have HEE := Lib.hid hEE
          clear hEE
          have hE3 : E ≤ 3 := by rw [← HEE.out]; exact HLE.out
          go_wp2
          go_loopw [9, 51] (fun v' i wi => ∃ (j : Nat), j ≤ E ∧ i = .int .i64 j ∧ Gown evT wi w.heap.size v' (tells l x m t L k ++ (es.take j).map fun e => (t, k, e)) ∧ Moves (own11 (.slice Av (tells l x m t L k).length cv)) (own11 v') w2 wi) (fun _ i _ => E - (intOf i).toNat)
          case atStart => exact ⟨0, Nat.zero_le _, rfl, by simpa using HG2.out, .refl _ _⟩
          case round =>
            rename World => wi
            obtain ⟨j, hj, rfl, hgi, hmi⟩ := hrel
            obtain ⟨hBi, hapi⟩ := HB2.out.apart hmi fun i hi hf => HAP2.out i hf hi
            by_cases hlj : j < E
            · have hlj' : (j : Int) < (E : Int) := by omega
              obtain ⟨tl, htl⟩ : ∃ tl, (tells l x m t L k ++ (es.take j).map fun e => ((t, k, e) : Be)) = tl := ⟨_, rfl⟩
              rw [htl] at hgi
              obtain ⟨Aw, cw, rfl, -⟩ := hgi.len
              have hUi := (HU.out.moves hmi HUS.out).1
              have hjl : j < es.length := by rw [HEE.out]; exact hlj
              obtain ⟨e, he⟩ : ∃ e, es[j] = e := ⟨_, rfl⟩
              have hej : es[j]? = some e := by rw [List.getElem?_eq_getElem hjl, he]
              obtain ⟨ae, rfl, hal, e0, e1, e2, e3, e4, e5, e6, e7, e8, e9, e10, e11, e12, e13, e14⟩ := hUi.gs.ev (j := j) (e := (0, 0, e)) (by rw [List.getElem?_map, hej]; rfl)
              have t1 : ∀ o, (wi.alloc o).cell? ⟨g, 1, none⟩ = some (.int .i64 (t : Nat)) := fun o => (hBi.next ((Below.refl _ _).alloc (Nat.le_refl _) o)).c1
              have hta : es.take (j + 1) = es.take j ++ [e] := by rw [List.take_succ_eq_append_getElem hjl, he]
              have HTA := Lib.hid (show (tells l x m t L k ++ (es.take (j + 1)).map fun e => ((t, k, e) : Be)) = tl ++ [(t, k, e)] by rw [hta, List.map_append, ← List.append_assoc, htl]; rfl)
              have HMi := Lib.hid hmi
              have hsz : w.heap.size ≤ wi.heap.size := Nat.le_trans HMV2.out.size hmi.size
              have HLen := Lib.hid (show tl.length + 1 ≤ 1000000 by rw [← htl, List.length_append, List.length_map, List.length_take]; have := HTL.out k (by omega); have := HLE.out; omega)
              have HAL := Lib.hid (alloc2 wi (.cells (becs (t, k, e)).toArray 41) (.cells (becs (t, k, e)).toArray 41))
              have HGA := Lib.hid (hgi.below HAL.out)
              have HBA := Lib.hid (show w.heap.size ≤ ((wi.alloc (.cells (becs (t, k, e)).toArray 41)).alloc (.cells (becs (t, k, e)).toArray 41)).heap.size by simp; omega)
              have HGS := Lib.hid (show Gs evT ((wi.alloc (.cells (becs (t, k, e)).toArray 41)).alloc (.cells (becs (t, k, e)).toArray 41)) (some ⟨wi.heap.size + 1, 0, none⟩) 1 [(t, k, e)] from by have h2 := (Gown.lit evT (wi.alloc (.cells (becs (t, k, e)).toArray 41)) 0 [(t, k, e)] (Nat.zero_le _) (by show 1 ≤ 1000000; omega)).gs; rw [show (wi.alloc (.cells (becs (t, k, e)).toArray 41)).heap.size = wi.heap.size + 1 by simp] at h2; exact h2)
              clear hta htl hgi hmi hBi hUi hapi he hej
              go_wp2_with (first | (at_builtin; refine append_E11 evT _ (by rfl) _ _ rfl w.heap.size _ _ rfl HGA.out _ 1 1 [(t, k, e)] rfl HGS.out HLen.out HBA.out ?_; intro v3 w3 h1 h2 h3) | fail)
              obtain ⟨A3, c3, rfl, -⟩ := h1.len
              have H1 := Lib.hid h1
              have H2 := Lib.hid ((HMi.out.next HAL.out).trans (Moves.row h2 h3))
              clear h1 h2 h3 e0 e1 e2 e3 e4 e5 e6 e7 e8 e9 e10 e11 e12 e13 e14 t1
              go_wp2
              go_roundw
              case rel => exact ⟨j + 1, by omega, by go_num, by rw [HTA.out]; exact H1.out, H2.out⟩
              case measure => simp [intOf]; omega
            · have hlj' : ¬ (j : Int) < (E : Int) := by omega
              have : j = E := by omega
              subst this
              rw [List.take_of_length_le (by rw [HEE.out]; exact Nat.le_refl _), ← HTEL.out] at hgi
              have HGI := Lib.hid hgi
              have HBI := Lib.hid hBi
              have HMI := Lib.hid (HMV2.out.trans (hmi.beside' _))
              clear hgi hBi hapi
              obtain ⟨Aw, cw, rfl, -⟩ := HGI.out.len
              go_wp2
              go_roundw
              case rel => exact ⟨k + 1, _, by omega, by go_num, HGI.out, HBI.out, HMI.out⟩
              case measure => simp [intOf]; omega
        · rw [hxk, if_pos rfl] at hxb
          rw [hxk, if_pos rfl] at hact
          obtain ⟨es, n', hr⟩ : ∃ es n', (L.getD k Nd.new).stp (oth l) = (es, n') := ⟨_, _, rfl⟩
          have hstep := step_any10 hlq (hsnd.fit HT.out) (oth l) (by first | exact H01.out | exact oth_01 _)
          have hle := (good_stp hsnd (z := (oth l)) (by first | exact H01.out | exact oth_01 _)).len
          rw [hr] at hact hstep hle
          rw [hact] at hsee htel
          simp only at hsee htel hle
          have HSEE := Lib.hid hsee
          have HTEL := Lib.hid htel
          have HLE := Lib.hid hle
          have HQ := Lib.hid hq
          have HSTEP := Lib.hid hstep
          have HAP := Lib.hid (hb.typed hg (by decide) (by decide) (by decide) (by decide) (by decide) (by decide))
          have HLQ := Lib.hid hlq
          clear hsee htel hle hq hstep hact hr hmv hg hb hlq
          go_wp2_with fail
          refine (hbit _).mono ?_
          rintro e wa ⟨rfl, rfl⟩
          go_wp2_with fail
          refine (hbit _).mono ?_
          rintro e wa ⟨rfl, rfl⟩
          go_wp2_with fail
          refine (other11 l _).mono ?_
          rintro e wa ⟨rfl, rfl⟩
          go_wp2_with fail
          refine HSTEP.out.mono ?_
          rintro e w2 ⟨u, vo, vl, vq, rfl, hE, hL2, hm2⟩
          obtain ⟨hB2, hmB⟩ := HB.out.node (q' := ⟨q.g, q.gq, vo, vl, vq⟩) HQ.out hm2 rfl hL2
          simp only at hB2 hmB
          rw [← HSEE.out] at hB2
          have HB2 := Lib.hid hB2
          have hg2 := HG.out.moves hmB (fun j hj => HAP.out j hj)
          have HG2 := Lib.hid hg2.1
          have HAP2 := Lib.hid (show ∀ j, own11 (.slice Av (tells l x m t L k).length cv) j → ¬ BP.fp ⟨g, .slice (some ad) N cap, qs.set k ⟨q.g, q.gq, vo, vl, vq⟩⟩ j from hg2.2)
          have HMV2 := Lib.hid (HMV.out.trans (hmB.beside (own11 (.slice Av (tells l x m t L k).length cv))))
          have HU := Lib.hid (eown_gown hE)
          obtain ⟨Ae, ce, rfl, -⟩ := hE.len
          have HUS := Lib.hid (show ∀ j, (Value.slice Ae es.length ce).ownBlock = some j → ¬ own11 (.slice Av (tells l x m t L k).length cv) j from fun j hj hf => by have a := (World.ownsRow.lt hE j hj).1; have c := (World.ownsRow.lt HG.out j hf).2; omega)
          clear hE hL2 hm2 hB2 hmB hg2 HSTEP HB HG HAP HMV HLQ r0 r1 had hbit hmb hxb
          obtain ⟨E, hEE⟩ : ∃ E, es.length = E := ⟨_, rfl⟩
          simp only [hEE] at HUS HU ⊢
          have HEE := Lib.hid hEE
          clear hEE
          have hE3 : E ≤ 3 := by rw [← HEE.out]; exact HLE.out
          go_wp2
          go_loopw [9, 51] (fun v' i wi => ∃ (j : Nat), j ≤ E ∧ i = .int .i64 j ∧ Gown evT wi w.heap.size v' (tells l x m t L k ++ (es.take j).map fun e => (t, k, e)) ∧ Moves (own11 (.slice Av (tells l x m t L k).length cv)) (own11 v') w2 wi) (fun _ i _ => E - (intOf i).toNat)
          case atStart => exact ⟨0, Nat.zero_le _, rfl, by simpa using HG2.out, .refl _ _⟩
          case round =>
            rename World => wi
            obtain ⟨j, hj, rfl, hgi, hmi⟩ := hrel
            obtain ⟨hBi, hapi⟩ := HB2.out.apart hmi fun i hi hf => HAP2.out i hf hi
            by_cases hlj : j < E
            · have hlj' : (j : Int) < (E : Int) := by omega
              obtain ⟨tl, htl⟩ : ∃ tl, (tells l x m t L k ++ (es.take j).map fun e => ((t, k, e) : Be)) = tl := ⟨_, rfl⟩
              rw [htl] at hgi
              obtain ⟨Aw, cw, rfl, -⟩ := hgi.len
              have hUi := (HU.out.moves hmi HUS.out).1
              have hjl : j < es.length := by rw [HEE.out]; exact hlj
              obtain ⟨e, he⟩ : ∃ e, es[j] = e := ⟨_, rfl⟩
              have hej : es[j]? = some e := by rw [List.getElem?_eq_getElem hjl, he]
              obtain ⟨ae, rfl, hal, e0, e1, e2, e3, e4, e5, e6, e7, e8, e9, e10, e11, e12, e13, e14⟩ := hUi.gs.ev (j := j) (e := (0, 0, e)) (by rw [List.getElem?_map, hej]; rfl)
              have t1 : ∀ o, (wi.alloc o).cell? ⟨g, 1, none⟩ = some (.int .i64 (t : Nat)) := fun o => (hBi.next ((Below.refl _ _).alloc (Nat.le_refl _) o)).c1
              have hta : es.take (j + 1) = es.take j ++ [e] := by rw [List.take_succ_eq_append_getElem hjl, he]
              have HTA := Lib.hid (show (tells l x m t L k ++ (es.take (j + 1)).map fun e => ((t, k, e) : Be)) = tl ++ [(t, k, e)] by rw [hta, List.map_append, ← List.append_assoc, htl]; rfl)
              have HMi := Lib.hid hmi
              have hsz : w.heap.size ≤ wi.heap.size := Nat.le_trans HMV2.out.size hmi.size
              have HLen := Lib.hid (show tl.length + 1 ≤ 1000000 by rw [← htl, List.length_append, List.length_map, List.length_take]; have := HTL.out k (by omega); have := HLE.out; omega)
              have HAL := Lib.hid (alloc2 wi (.cells (becs (t, k, e)).toArray 41) (.cells (becs (t, k, e)).toArray 41))
              have HGA := Lib.hid (hgi.below HAL.out)
              have HBA := Lib.hid (show w.heap.size ≤ ((wi.alloc (.cells (becs (t, k, e)).toArray 41)).alloc (.cells (becs (t, k, e)).toArray 41)).heap.size by simp; omega)
              have HGS := Lib.hid (show Gs evT ((wi.alloc (.cells (becs (t, k, e)).toArray 41)).alloc (.cells (becs (t, k, e)).toArray 41)) (some ⟨wi.heap.size + 1, 0, none⟩) 1 [(t, k, e)] from by have h2 := (Gown.lit evT (wi.alloc (.cells (becs (t, k, e)).toArray 41)) 0 [(t, k, e)] (Nat.zero_le _) (by show 1 ≤ 1000000; omega)).gs; rw [show (wi.alloc (.cells (becs (t, k, e)).toArray 41)).heap.size = wi.heap.size + 1 by simp] at h2; exact h2)
              clear hta htl hgi hmi hBi hUi hapi he hej
              go_wp2_with (first | (at_builtin; refine append_E11 evT _ (by rfl) _ _ rfl w.heap.size _ _ rfl HGA.out _ 1 1 [(t, k, e)] rfl HGS.out HLen.out HBA.out ?_; intro v3 w3 h1 h2 h3) | fail)
              obtain ⟨A3, c3, rfl, -⟩ := h1.len
              have H1 := Lib.hid h1
              have H2 := Lib.hid ((HMi.out.next HAL.out).trans (Moves.row h2 h3))
              clear h1 h2 h3 e0 e1 e2 e3 e4 e5 e6 e7 e8 e9 e10 e11 e12 e13 e14 t1
              go_wp2
              go_roundw
              case rel => exact ⟨j + 1, by omega, by go_num, by rw [HTA.out]; exact H1.out, H2.out⟩
              case measure => simp [intOf]; omega
            · have hlj' : ¬ (j : Int) < (E : Int) := by omega
              have : j = E := by omega
              subst this
              rw [List.take_of_length_le (by rw [HEE.out]; exact Nat.le_refl _), ← HTEL.out] at hgi
              have HGI := Lib.hid hgi
              have HBI := Lib.hid hBi
              have HMI := Lib.hid (HMV2.out.trans (hmi.beside' _))
              clear hgi hBi hapi
              obtain ⟨Aw, cw, rfl, -⟩ := HGI.out.len
              go_wp2
              go_roundw
              case rel => exact ⟨k + 1, _, by omega, by go_num, HGI.out, HBI.out, HMI.out⟩
              case measure => simp [intOf]; omega
      · rw [hmk, if_pos rfl] at hmb
        have hPne : ((P : Int) != 0) = true := by simp; omega
        have hse := sees_forced (l := l) (x := x) (L := L) hkL hmk
        have hte := tells_forced (l := l) (x := x) (t := t) (L := L) hmk
        clear hmv hg hb
        go_wp2_with fail
        refine (hbit _).mono ?_
        rintro e wa ⟨rfl, rfl⟩
        go_wp2
        go_roundw
        case rel => exact ⟨k + 1, qs, by omega, by go_num, by rw [hte]; exact HG.out, by rw [hse]; exact HB.out, HMV.out⟩
        case measure => simp [intOf]; omega
    · have hlt' : ¬ (k : Int) < (N : Int) := by omega
      have hN' := HN.out
      subst hN'
      have : k = L.length := by omega
      subst this
      clear hmv hg hb
      go_wp2
      go_ret
      exact ⟨_, rfl, HG.out, qs, HB.out, HMV.out.less fun j hj => .inl hj⟩
end Go.Proofs.YtalpbnfebcafgaaGreat

/- The contracts of Force, Step. -/
namespace Go.Proofs.YtalpbnfebcafgaaGreat
set_option maxRecDepth 20000
open Go.RowKit
set_option linter.unusedSimpArgs false

theorem Moves.late {F F' : Nat → Prop} {w w' w2 : World} {g : Nat} (h : Moves F F' w w') (ho : Only g w' w2) (hg : w.heap.size ≤ g) : Moves F F' w w2 :=
  ⟨ho.os.trans h.os, ho.tape.trans h.tape, ho.output.trans h.output, by rw [ho.size]; exact h.size, fun k hk hn => (ho.block k (by omega)).trans (h.block k hk hn), h.new⟩
abbrev Rn.v (r : Rn) : Value := .agg (Rn.c r)
abbrev run0 : Value := .agg #[.int .i64 0, .int .i64 0, .int .u32 0]
theorem force_nil (x m d : Nat) (w : World) : Calls Tryz.prog 36 #[.pointer none, .int .u32 (x : Nat), .int .u32 (m : Nat), .int .u32 (d : Nat)] w fun e w' => e = .returned (.tuple #[run0, .slice none 0 0, .int .i64 2]) ∧ w' = w.alloc (.cells #[.int .i64 0, .int .i64 0, .int .u32 0] 50) := by
  go_enter Tryz.func36, Tryz.ntmps36
  go_wp2
  refine bodyPost_ret (v := .tuple #[run0, .slice none 0 0, .int .i64 2]) (by rw [results_ctt rfl]; go_simp) rfl ⟨rfl, rfl⟩
theorem bstep_nil (x : Nat) (w : World) : Calls Tryz.prog 16 #[.pointer none, .int .u32 (x : Nat)] w fun e w' => e = .returned (.tuple #[run0, .slice none 0 0, .int .i64 2]) ∧ Below w.heap.size w w' := by
  have HF := Lib.hid (force_nil x 0 4294967295 (w.alloc (.cells #[.int .i64 0, .int .i64 0, .int .u32 0] 50)))
  go_enter Tryz.func16, Tryz.ntmps16
  go_wp2_with fail
  refine HF.out.mono ?_
  rintro e w2 ⟨rfl, rfl⟩
  go_wp2
  refine bodyPost_ret (v := .tuple #[run0, .slice none 0 0, .int .i64 2]) (by rw [results_ctt rfl]; go_simp) rfl ⟨rfl, ?_⟩
  exact alloc2 _ _ _
set_option maxHeartbeats 1600000 in
/-- Whatever the masks are, as long as they are of nodes. -/
theorem force_any {w : World} {B T : Nat} {p : BP} {b : Bs} (hl : BLay w B p b) (hL : b.L.length ≤ 32) (hS : ∀ n ∈ b.L, Sound T n) (hT : T ≤ 4000000) (ht : b.t ≤ 4000000) (x m d : Nat) (hx : x < 4294967296) (hm : m < 4294967296) (hd : d < 4294967296)
    (hin : (x ||| m) &&& (4294967295 - (2 ^ b.L.length - 1)) = 0) :
    Calls Tryz.prog 36 #[.pointer (some ⟨p.g, 0, none⟩), .int .u32 (x : Nat), .int .u32 (m : Nat), .int .u32 (d : Nat)] w fun e w' =>
      ∃ u ps', e = .returned (.tuple #[(b.run m d).v, u, .int .i64 0]) ∧ Gown evT w' w.heap.size u (b.evs x m d) ∧ BLay w' B { p with ps := ps' } (b.aft x m d) ∧ Moves p.fp (BP.fp { p with ps := ps' }) w w' := by
  have HB := Lib.hid ((Below.refl w.heap.size w).alloc (Nat.le_refl _) (.cells #[.int .i64 0, .int .i64 0, .int .u32 0] 50))
  have HV := Lib.hid (heap_alloc_new w (.cells #[.int .i64 0, .int .i64 0, .int .u32 0] 50))
  have HL := Lib.hid hl
  have HL1 := Lib.hid (hl.next HB.out)
  have hpw : 2 ^ b.L.length ≤ 2 ^ 32 := Nat.pow_le_pow_right (by omega) hL
  have HE := Lib.hid (everyone_any HL1.out hL)
  have HD := Lib.hid (driven_any HL1.out hL (fun n hn h2 => ((hS n hn).fit hT).inf h2 |>.f))
  have hor := u32_or_nat x m hx hm
  have hand := u32_andNot_nat (x ||| m) (2 ^ b.L.length - 1) (or_lt hx hm) (by omega)
  rw [hin] at hand
  have hdl := dmk_lt b.L b.L.length
  have h1 := u32_andNot_nat (dmk b.L b.L.length) m hdl hm
  have h2 := u32_and_nat d m hd hm
  have h3 := u32_or_nat (dmk b.L b.L.length &&& (4294967295 - m)) (d &&& m) (and_lt hdl) (and_lt hd)
  have HO := Lib.hid (show (dmk b.L b.L.length &&& (4294967295 - m)) ||| (d &&& m) = drvO b.L m d from rfl)
  rw [HO.out] at h3
  have HRUN := Lib.hid (show b.run m d = ⟨1, lvO (drvO b.L m d), drvO b.L m d⟩ from rfl)
  have HEV := Lib.hid (show b.evs x m d = tells (lvO (drvO b.L m d)) x m b.t b.L b.L.length from rfl)
  have HAF := Lib.hid (show b.aft x m d = ⟨sees (lvO (drvO b.L m d)) x m b.L b.L.length, b.t + 1⟩ from rfl)
  have HSEE := Lib.hid (fun (W : World) (h : BLay W B p b) => see_any h hL hS hT (lvO (drvO b.L m d)) (lvO_01 _) x m hx hm)
  clear hl hS HO hpw hin hdl
  generalize drvO b.L m d = dv at *
  generalize dmk b.L b.L.length &&& (4294967295 - m) = a1 at *
  generalize dmk b.L b.L.length = dm at *
  generalize d &&& m = a2 at *
  generalize x ||| m = xm at *
  generalize 2 ^ b.L.length - 1 = ev at *
  rw [HRUN.out, HEV.out, HAF.out]
  have HRO := Lib.hid (fun W : World => runOf_any dv W)
  generalize lvO dv = lv at *
  clear HRUN HEV HAF
  obtain ⟨g, pv, ps⟩ := p
  have hgl := HL.out.lt
  simp only at hgl
  go_enter Tryz.func36, Tryz.ntmps36
  go_wp2_with fail
  refine HE.out.mono ?_
  rintro e w1 ⟨rfl, rfl⟩
  go_wp2_with fail
  refine HD.out.mono ?_
  rintro e w2 ⟨rfl, hb2⟩
  have HB2 := Lib.hid (nxt HB.out hb2)
  have HV2 := Lib.hid ((hb2.block _ (by simp)).trans HV.out)
  clear hb2 HV
  go_wp2_with fail
  refine (HRO.out _).mono ?_
  rintro e w3 ⟨rfl, hb3⟩
  have HB3 := Lib.hid (nxt HB2.out hb3)
  have hlt2 : w.heap.size < w2.heap.size := typed_lt HV2.out
  have HV3 := Lib.hid ((hb3.block _ hlt2).trans HV2.out)
  clear hb3 HV2
  have HB4 := Lib.hid (HB3.out.alloc HB3.out.size (.cells (Rn.c ⟨1, lv, dv⟩) 50))
  have HV4 := Lib.hid ((heap_alloc_old w3 (.cells (Rn.c ⟨1, lv, dv⟩) 50) (r := w.heap.size) (typed_lt HV3.out)).trans HV3.out)
  have HR4 := Lib.hid (heap_alloc_new w3 (.cells (Rn.c ⟨1, lv, dv⟩) 50))
  have HS4 := Lib.hid (HSEE.out _ (HL.out.next HB4.out))
  have HL4 := Lib.hid (HL.out.next HB4.out)
  have hlt3 := typed_lt HV3.out
  go_wp2_with fail
  refine HS4.out.mono ?_
  rintro e w5 ⟨u, qs, rfl, g1, g2, g3⟩
  have HG5 := Lib.hid g1
  have HL5 := Lib.hid g2
  have HM5 := Lib.hid ((Moves.of_below HB4.out _).trans g3)
  have n8 : ¬ BP.fp ⟨g, pv, ps⟩ w.heap.size := fun h => by have := HL.out.fp_lt _ h; omega
  have n11 : ¬ BP.fp ⟨g, pv, ps⟩ w3.heap.size := fun h => by have := HL.out.fp_lt _ h; omega
  have k8 := (g3.blk HV4.out n8)
  have k11 := (g3.blk HR4.out n11)
  have t1 := g2.c1
  have t2 := g2.fz 1
  obtain ⟨Au, cu, hu, -⟩ := g1.len
  obtain ⟨nu, hnu⟩ : ∃ nu, (tells lv x m b.t b.L b.L.length).length = nu := ⟨_, rfl⟩
  rw [hnu] at hu
  subst hu
  simp only at t1 t2
  have HK8 := Lib.hid k8
  have HK11 := Lib.hid k11
  clear g1 g2 g3 n8 n11 k8 k11
  have ho := (Only.refl g w5).set (i := 1) (v := .int .i64 ((b.t : Int) + 1))
  have h11 := (ho.block w3.heap.size (by omega)).trans HK11.out.1
  have h8 := (ho.block w.heap.size (by omega)).trans HK8.out.1
  have q0 := cell_of_row _ _ 0 _ _ (0, 0) h11
  have q1 := cell_of_row _ _ 1 _ _ (0, 0) h11
  have q2 := cell_of_row _ _ 2 _ _ (0, 0) h11
  have p0 := cell_of_row _ _ 0 _ _ (0, 0) h8
  have p1 := cell_of_row _ _ 1 _ _ (0, 0) h8
  have p2 := cell_of_row _ _ 2 _ _ (0, 0) h8
  have f0 := typed_frozen h8 0
  have f1 := typed_frozen h8 1
  have f2 := typed_frozen h8 2
  have HT6 := Lib.hid (HL5.out.turn (t := b.t + 1) ho (cells_to (cells_set HL5.out.blk) (by simp)))
  have HS6 := Lib.hid (typed_lt h8)
  clear ho h11 h8
  go_wp2
  refine bodyPost_ret (v := .tuple #[.agg (Rn.c ⟨1, lv, dv⟩), .slice Au nu cu, .int .i64 0]) (by rw [results_ctt rfl]; go_simp) rfl ?_
  have hx := (((Only.refl w.heap.size (w5.setCell ⟨g, 1, none⟩ (.int .i64 ((b.t : Int) + 1)))).set (i := 0) (v := .int .i64 1)).set (i := 1) (v := .int .i64 lv)).set (i := 2) (v := .int .u32 (dv : Nat))
  have hmx : Moves (fun k => k = w.heap.size) (fun k => k = w.heap.size) _ _ := .only hx rfl
  obtain ⟨a1', a2'⟩ := HT6.out
  have hgu : Gown evT (w5.setCell ⟨g, 1, none⟩ (.int .i64 ((b.t : Int) + 1))) (w3.alloc (.cells (Rn.c ⟨1, lv, dv⟩) 50)).heap.size (.slice Au nu cu) (tells lv x m b.t b.L b.L.length) :=
    (HG5.out.moves a2' (HL5.out.typed HG5.out (by decide) (by decide) (by decide) (by decide) (by decide) (by decide))).1
  have hlu : ∀ k, (Value.slice Au nu cu).ownBlock = some k → k ≠ w.heap.size := fun k hk e => by
    have := (World.ownsRow.lt hgu k hk).1
    simp at this
    omega
  refine ⟨_, qs, rfl, ((hgu.moves hmx hlu).1.base (by simp; omega)), (a1'.apart hmx fun k hk e => HK8.out.2 (e ▸ hk)).1, (HM5.out.trans a2').late hx (Nat.le_refl _)⟩

set_option maxHeartbeats 1600000 in
/-- A tick. -/
theorem bstep_any {w : World} {B T : Nat} {p : BP} {b : Bs} (hl : BLay w B p b) (hL : b.L.length ≤ 32) (hS : ∀ n ∈ b.L, Sound T n) (hT : T ≤ 4000000) (ht : b.t ≤ 4000000) (x : Nat) (hx : x < 4294967296) (hin : x &&& (4294967295 - (2 ^ b.L.length - 1)) = 0) :
    Calls Tryz.prog 16 #[.pointer (some ⟨p.g, 0, none⟩), .int .u32 (x : Nat)] w fun e w' =>
      ∃ u ps', e = .returned (.tuple #[(b.run 0 4294967295).v, u, .int .i64 0]) ∧ Gown evT w' w.heap.size u (b.evs x 0 4294967295) ∧ BLay w' B { p with ps := ps' } (b.aft x 0 4294967295) ∧ Moves p.fp (BP.fp { p with ps := ps' }) w w' := by
  have HB := Lib.hid ((Below.refl w.heap.size w).alloc (Nat.le_refl _) (.cells #[.int .i64 0, .int .i64 0, .int .u32 0] 50))
  have HV := Lib.hid (heap_alloc_new w (.cells #[.int .i64 0, .int .i64 0, .int .u32 0] 50))
  have HF := Lib.hid (force_any (hl.next HB.out) hL hS hT ht x 0 4294967295 hx (by omega) (by omega) (by rw [Nat.or_zero]; exact hin))
  have hlt := hl.fp_lt
  have HLT := Lib.hid hlt
  obtain ⟨es, hes⟩ : ∃ es, b.evs x 0 4294967295 = es := ⟨_, rfl⟩
  obtain ⟨b', hb'⟩ : ∃ b', b.aft x 0 4294967295 = b' := ⟨_, rfl⟩
  obtain ⟨rn, hrn⟩ : ∃ rn, b.run 0 4294967295 = rn := ⟨_, rfl⟩
  rw [hes, hb', hrn] at HF ⊢
  obtain ⟨rn0, rn1, rn2⟩ := rn
  obtain ⟨g, pv, ps⟩ := p
  clear hl hS hin hlt hes hb' hrn
  go_enter Tryz.func16, Tryz.ntmps16
  go_wp2_with fail
  refine HF.out.mono ?_
  rintro e w2 ⟨u, qs, rfl, g1, g2, g3⟩
  have n8 : ¬ BP.fp ⟨g, pv, ps⟩ w.heap.size := fun h => by have := HLT.out _ h; omega
  have k8 := g3.blk HV.out n8
  have HK8 := Lib.hid k8
  have HG := Lib.hid g1
  have HL2 := Lib.hid g2
  have HM2 := Lib.hid ((Moves.of_below HB.out _).trans g3)
  obtain ⟨Au, cu, hu, -⟩ := g1.len
  obtain ⟨nu, hnu⟩ : ∃ nu, es.length = nu := ⟨_, rfl⟩
  rw [hnu] at hu
  subst hu
  have q0 := cell_of_row _ _ 0 _ _ (0, 0) k8.1
  have q1 := cell_of_row _ _ 1 _ _ (0, 0) k8.1
  have q2 := cell_of_row _ _ 2 _ _ (0, 0) k8.1
  have f0 := typed_frozen k8.1 0
  have f1 := typed_frozen k8.1 1
  have f2 := typed_frozen k8.1 2
  clear k8 n8 g1 g2 g3
  go_wp2
  refine bodyPost_ret (v := .tuple #[.agg (Rn.c ⟨rn0, rn1, rn2⟩), .slice Au nu cu, .int .i64 0]) (by rw [results_ctt rfl]; go_simp) rfl ?_
  have hx := (((Only.refl w.heap.size w2).set (i := 0) (v := .int .i64 rn0)).set (i := 1) (v := .int .i64 rn1)).set (i := 2) (v := .int .u32 (rn2 : Nat))
  have hmx : Moves (fun k => k = w.heap.size) (fun k => k = w.heap.size) _ _ := .only hx rfl
  have hlu : ∀ k, (Value.slice Au nu cu).ownBlock = some k → k ≠ w.heap.size := fun k hk e => by
    have := (World.ownsRow.lt HG.out k hk).1
    simp at this
    omega
  exact ⟨_, qs, rfl, (HG.out.moves hmx hlu).1.base (by simp), (HL2.out.apart hmx fun k hk e => HK8.out.2 (e ▸ hk)).1, HM2.out.late hx (Nat.le_refl _)⟩
end Go.Proofs.YtalpbnfebcafgaaGreat

/- The contracts of Nodes, Tick, node, Put, Look. -/
namespace Go.Proofs.YtalpbnfebcafgaaGreat
set_option maxRecDepth 20000
open Go.RowKit
set_option linter.unusedSimpArgs false

theorem results_ct {fn : Func} {p u : Tmp} {ty : TypeId} (h : fn.results = #[.cell p ty, .tmp u]) (tmps : Array Value) (P : Program) (w : World) :
    (results fn tmps).run P w =
      ((asAddr (tmps.getD p undef)).run P w).andThen fun a w₁ => ((loadVar ty a).run P w₁).andThen fun x w₂ => .ok (.tuple #[x, tmps.getD u undef]) w₂ := by
  simp only [results, h]
  simp [Sem.run_bind, Result.andThen]
theorem isOne11 (i n : Int) (w : World) : Calls Tryz.prog 38 #[.int .i64 i, .int .i64 n] w fun e w' => e = .returned (.bool (decide (0 ≤ i) && decide (i < n))) ∧ w = w' := by
  by_cases h0 : 0 ≤ i
  · have h0' : decide (0 ≤ i) = true := decide_eq_true h0
    by_cases h1 : i < n
    · go_enter Tryz.func38, Tryz.ntmps38
      go_wp2
      go_ret
      simp [h0, h1]
    · go_enter Tryz.func38, Tryz.ntmps38
      go_wp2
      go_ret
      simp [h0, h1]
  · have h0' : decide (0 ≤ i) = false := decide_eq_false h0
    go_enter Tryz.func38, Tryz.ntmps38
    go_wp2
    go_ret
    simp [h0]
theorem mayBe11 (n : Int) (w : World) : Calls Tryz.prog 32 #[.int .i64 n] w fun e w' => e = .returned (.bool (decide (1 ≤ n) && decide (n ≤ 32))) ∧ w = w' := by
  by_cases h0 : 1 ≤ n
  · have h0' : decide (1 ≤ n) = true := decide_eq_true h0
    by_cases h1 : n ≤ 32
    · go_enter Tryz.func32, Tryz.ntmps32
      go_wp2
      go_ret
      simp [h0, h1]
    · go_enter Tryz.func32, Tryz.ntmps32
      go_wp2
      go_ret
      simp [h0, h1]
  · have h0' : decide (1 ≤ n) = false := decide_eq_false h0
    go_enter Tryz.func32, Tryz.ntmps32
    go_wp2
    go_ret
    simp [h0]
theorem nodes_nil (w : World) : Calls Tryz.prog 20 #[.pointer none] w fun e w' => e = .returned (.int .i64 0) ∧ w = w' := by
  go_enter Tryz.func20, Tryz.ntmps20
  go_wp2
  go_ret
  exact ⟨rfl, rfl⟩
theorem tick_nil (w : World) : Calls Tryz.prog 21 #[.pointer none] w fun e w' => e = .returned (.int .i64 0) ∧ w = w' := by
  go_enter Tryz.func21, Tryz.ntmps21
  go_wp2
  go_ret
  exact ⟨rfl, rfl⟩
theorem bnode_nil (i : Int) (w : World) : Calls Tryz.prog 34 #[.pointer none, .int .i64 i] w fun e w' => e = .returned (.tuple #[.pointer none, .int .i64 2]) ∧ w = w' := by
  go_enter Tryz.func34, Tryz.ntmps34
  go_wp2
  go_ret2
  exact ⟨rfl, rfl⟩
section
variable {w : World} {B : Nat} {p : BP} {b : Bs}
theorem nodes_any (hl : BLay w B p b) : Calls Tryz.prog 20 #[.pointer (some ⟨p.g, 0, none⟩)] w fun e w' => e = .returned (.int .i64 (b.L.length : Nat)) ∧ w = w' := by
  obtain ⟨A, cap, hv, _, _⟩ := hl.sl
  have c0 := hl.c0
  rw [hv] at c0
  clear hl hv
  go_enter Tryz.func20, Tryz.ntmps20
  go_wp2
  go_ret
  exact ⟨rfl, rfl⟩
theorem tick_any (hl : BLay w B p b) : Calls Tryz.prog 21 #[.pointer (some ⟨p.g, 0, none⟩)] w fun e w' => e = .returned (.int .i64 (b.t : Nat)) ∧ w = w' := by
  have c1 := hl.c1
  clear hl
  go_enter Tryz.func21, Tryz.ntmps21
  go_wp2
  go_ret
  exact ⟨rfl, rfl⟩
theorem bnode_out (hl : BLay w B p b) (i : Int) (hi : ¬ (0 ≤ i ∧ i < b.L.length)) : Calls Tryz.prog 34 #[.pointer (some ⟨p.g, 0, none⟩), .int .i64 i] w fun e w' => e = .returned (.tuple #[.pointer none, .int .i64 10]) ∧ w = w' := by
  obtain ⟨A, cap, hv, _, _⟩ := hl.sl
  have c0 := hl.c0
  rw [hv] at c0
  have hone := isOne11 i (b.L.length : Nat) w
  rw [show (decide (0 ≤ i) && decide (i < ((b.L.length : Nat) : Int))) = false by simpa using fun h => by omega] at hone
  clear hl hv hi
  go_enter Tryz.func34, Tryz.ntmps34
  go_wp2_with fail
  refine hone.mono ?_
  rintro e w1 ⟨rfl, rfl⟩
  go_wp2
  go_ret2
  exact ⟨rfl, rfl⟩
theorem bnode_in (hl : BLay w B p b) {i : Nat} {q : NP} (hq : p.ps[i]? = some q) : Calls Tryz.prog 34 #[.pointer (some ⟨p.g, 0, none⟩), .int .i64 (i : Nat)] w fun e w' => e = .returned (.tuple #[.pointer (some ⟨q.g, 0, none⟩), .int .i64 0]) ∧ w = w' := by
  obtain ⟨A, cap, hv, _, hps⟩ := hl.sl
  have c0 := hl.c0
  rw [hv] at c0
  obtain ⟨ad, rfl, _, r1⟩ := hps i q hq
  have hi : i < b.L.length := by rw [← hl.len]; exact (List.getElem?_eq_some_iff.1 hq).1
  have hi' : (i : Int) < ((b.L.length : Nat) : Int) := by omega
  have hone := isOne11 (i : Nat) (b.L.length : Nat) w
  rw [show (decide (0 ≤ (i : Int)) && decide ((i : Int) < ((b.L.length : Nat) : Int))) = true by simp; omega] at hone
  simp only [NP.ptr] at r1
  clear hl hv hps
  go_enter Tryz.func34, Tryz.ntmps34
  go_wp2_with fail
  refine hone.mono ?_
  rintro e w1 ⟨rfl, rfl⟩
  go_wp2
  go_ret2
  exact ⟨rfl, rfl⟩
end
theorem bput_nil (i : Int) (f : Fr) (w : World) : Calls Tryz.prog 15 #[.pointer none, .int .i64 i, f.val] w fun e w' => e = .returned (.int .i64 2) ∧ Below w.heap.size w w' := by
  have HB := Lib.hid (boxed f w)
  go_enter Tryz.func15, Tryz.ntmps15
  go_wp2_with fail
  refine (bnode_nil i _).mono ?_
  rintro e w1 ⟨rfl, rfl⟩
  go_wp2
  go_ret
  exact ⟨rfl, HB.out⟩
section
variable {w : World} {B : Nat} {p : BP} {b : Bs}
theorem bput_out (hl : BLay w B p b) (i : Int) (hi : ¬ (0 ≤ i ∧ i < b.L.length)) (f : Fr) : Calls Tryz.prog 15 #[.pointer (some ⟨p.g, 0, none⟩), .int .i64 i, f.val] w fun e w' => e = .returned (.int .i64 10) ∧ Below w.heap.size w w' := by
  have HB := Lib.hid (boxed f w)
  have HC := Lib.hid (bnode_out (hl.next HB.out) i hi)
  clear hl hi
  go_enter Tryz.func15, Tryz.ntmps15
  go_wp2_with fail
  refine HC.out.mono ?_
  rintro e w1 ⟨rfl, rfl⟩
  go_wp2
  go_ret
  exact ⟨rfl, HB.out⟩
set_option maxHeartbeats 800000 in
theorem bput_in (hl : BLay w B p b) {i : Nat} (hi : i < b.L.length) (f : Fr) (hok : Okq (b.L.getD i Nd.new).q) (hn : (b.L.getD i Nd.new).q.length ≤ 1000) :
    Calls Tryz.prog 15 #[.pointer (some ⟨p.g, 0, none⟩), .int .i64 (i : Nat), f.val] w fun e w' =>
      ∃ ps', e = .returned (.int .i64 (pE 16 f (b.L.getD i Nd.new).q)) ∧ BLay w' B { p with ps := ps' } (b.put i f) ∧ Moves p.fp (BP.fp { p with ps := ps' }) w w' := by
  have HB := Lib.hid (boxed f w)
  obtain ⟨q, hq, _, hlq⟩ := hl.get hi
  have HL1 := Lib.hid (hl.next HB.out)
  have HC := Lib.hid (bnode_in HL1.out hq)
  have HP := Lib.hid (nput_any (hlq.next HB.out) f hok hn)
  have HFB := Lib.hid (fb_new w f)
  obtain ⟨c0, c1, c2, c3, c4, c5, c6, c7, c8, c9, c10, c11⟩ := HFB.out.bx
  have HQ := Lib.hid hq
  obtain ⟨x, hx⟩ : ∃ x, pE 16 f (b.L.getD i Nd.new).q = x := ⟨_, rfl⟩
  rw [hx] at HP ⊢
  clear hl hq hlq hok hn hx
  go_enter Tryz.func15, Tryz.ntmps15
  go_wp2_with fail
  refine HC.out.mono ?_
  rintro e w1 ⟨rfl, rfl⟩
  go_wp2_with fail
  refine HP.out.mono ?_
  rintro e w2 ⟨vq, rfl, g1, g2⟩
  obtain ⟨k1, k2⟩ := HL1.out.node (q' := { q with vq := vq }) HQ.out g2 rfl g1
  have HK := Lib.hid (And.intro k1 ((Moves.of_below HB.out p.fp).trans k2))
  clear g1 g2 k1 k2
  go_wp2
  go_ret
  exact ⟨_, rfl, HK.out.1, HK.out.2⟩
end
theorem blook_nil (i : Int) (w : World) : Calls Tryz.prog 17 #[.pointer none, .int .i64 i] w fun e w' => e = .returned (.tuple #[look0, .int .i64 2]) ∧ Below w.heap.size w w' := by
  go_enter Tryz.func17, Tryz.ntmps17
  go_wp2_with fail
  refine (bnode_nil i _).mono ?_
  rintro e w1 ⟨rfl, rfl⟩
  go_wp2
  refine bodyPost_ret (v := .tuple #[look0, .int .i64 2]) (by rw [results_ct rfl]; go_simp) rfl ⟨rfl, (Below.refl _ _).alloc (Nat.le_refl _) _⟩
set_option maxHeartbeats 800000 in
theorem blook_in {w : World} {B : Nat} {p : BP} {b : Bs} (hl : BLay w B p b) {i : Nat} (hi : i < b.L.length) :
    Calls Tryz.prog 17 #[.pointer (some ⟨p.g, 0, none⟩), .int .i64 (i : Nat)] w fun e w' => e = .returned (.tuple #[(b.L.getD i Nd.new).lookV, .int .i64 0]) ∧ Below w.heap.size w w' := by
  obtain ⟨q, hq, _, hlq⟩ := hl.get hi
  have HB := Lib.hid ((Below.refl w.heap.size w).alloc (Nat.le_refl _) (.cells #[.int .i64 0, .bool false, .int .i64 0, .int .i64 0, .bool false, .int .i64 0] 56))
  have HC := Lib.hid (bnode_in (hl.next HB.out) hq)
  have HP := Lib.hid (look_any (hlq.next HB.out))
  have HV := Lib.hid (heap_alloc_new w (.cells #[.int .i64 0, .bool false, .int .i64 0, .int .i64 0, .bool false, .int .i64 0] 56))
  obtain ⟨n, hn⟩ : ∃ n, b.L.getD i Nd.new = n := ⟨_, rfl⟩
  rw [hn] at HP ⊢
  clear hl hq hlq hn
  go_enter Tryz.func17, Tryz.ntmps17
  go_wp2_with fail
  refine HC.out.mono ?_
  rintro e w1 ⟨rfl, rfl⟩
  go_wp2_with fail
  refine HP.out.mono ?_
  rintro e w2 ⟨rfl, hb2⟩
  have h2 : w2.heap[w.heap.size]? = some (.cells #[.int .i64 0, .bool false, .int .i64 0, .int .i64 0, .bool false, .int .i64 0] 56) := (hb2.block _ (by simp)).trans HV.out
  have q0 : w2.cell? ⟨w.heap.size, 0, none⟩ = some (.int .i64 0) := cell_of_row w2 _ 0 _ _ (0, 0) h2
  have q1 : w2.cell? ⟨w.heap.size, 1, none⟩ = some (.bool false) := cell_of_row w2 _ 1 _ _ (0, 0) h2
  have q2 : w2.cell? ⟨w.heap.size, 2, none⟩ = some (.int .i64 0) := cell_of_row w2 _ 2 _ _ (0, 0) h2
  have q3 : w2.cell? ⟨w.heap.size, 3, none⟩ = some (.int .i64 0) := cell_of_row w2 _ 3 _ _ (0, 0) h2
  have q4 : w2.cell? ⟨w.heap.size, 4, none⟩ = some (.bool false) := cell_of_row w2 _ 4 _ _ (0, 0) h2
  have q5 : w2.cell? ⟨w.heap.size, 5, none⟩ = some (.int .i64 0) := cell_of_row w2 _ 5 _ _ (0, 0) h2
  have f0 := typed_frozen h2 0
  have f1 := typed_frozen h2 1
  have f2 := typed_frozen h2 2
  have f3 := typed_frozen h2 3
  have f4 := typed_frozen h2 4
  have f5 := typed_frozen h2 5
  have HB2 := Lib.hid (nxt HB.out hb2)
  clear hb2 h2
  go_wp2
  refine bodyPost_ret (v := .tuple #[n.lookV, .int .i64 0]) (by rw [results_ct rfl]; go_simp) rfl ⟨rfl, ?_⟩
  exact Below.setCell (Below.setCell (Below.setCell (Below.setCell (Below.setCell (Below.setCell HB2.out (p := ⟨w.heap.size, 0, none⟩) (Nat.le_refl _) _) (p := ⟨w.heap.size, 1, none⟩) (Nat.le_refl _) _) (p := ⟨w.heap.size, 2, none⟩) (Nat.le_refl _) _) (p := ⟨w.heap.size, 3, none⟩) (Nat.le_refl _) _) (p := ⟨w.heap.size, 4, none⟩) (Nat.le_refl _) _) (p := ⟨w.heap.size, 5, none⟩) (Nat.le_refl _) _
end Go.Proofs.YtalpbnfebcafgaaGreat

/- A bus that gets a node more; the contract of New. -/
namespace Go.Proofs.YtalpbnfebcafgaaGreat
set_option maxRecDepth 20000
open Go.RowKit
set_option linter.unusedSimpArgs false

theorem infoN : ∃ i, Tryz.prog.info? 85 = some i ∧ i.zero = some (.pointer none) ∧ i.size = 1 ∧ i.bytes = 8 := info_parts (by kernel_rfl)
def ptT : Elt NP where
  e := 85
  s := 82
  k := 1
  c := fun q => [q.ptr]
  z := .pointer none
  bytes := 8
  len := fun _ => rfl
  pos := by decide
  plain := by
    intro x u hu
    simp only [List.mem_cons, List.not_mem_nil, or_false] at hu
    rcases hu with rfl
    rfl
  und := Tryz.underlying82
  info := infoN
  zs := rfl
  by_ := by decide
theorem ptT_f : ∀ ps : List NP, ptT.f ps = ps.map NP.ptr
  | [] => rfl
  | p :: ps => by rw [ptT.f_cons, ptT_f ps]; rfl
theorem BLay.grow {w : World} {B : Nat} {p : BP} {b : Bs} (h : BLay w B p b) : Gown ptT w B p.v p.ps := by
  unfold Gown
  rw [ptT_f, h.len]
  exact h.row
theorem BLay.push {w w3 w5 : World} {B : Nat} {p : BP} {b : Bs} {q : NP} {n : Nd} {o : Obj} {v' : Value} (h : BLay w B p b) (hb : Below w.heap.size w w3) (hq : Lay w3 w.heap.size q n)
    (hg : (w3.alloc o).grownBy w5 p.v.ownBlock) (hL : Lies (w3.alloc o) p.v v') (hr : Gown ptT w5 B v' (p.ps ++ [q])) :
    BLay (w5.setCell ⟨p.g, 0, none⟩ v') B ⟨p.g, v', p.ps ++ [q]⟩ ⟨b.L ++ [n], b.t⟩ ∧ Below B w (w5.setCell ⟨p.g, 0, none⟩ v') := by
  have hb4 : Below w.heap.size w (w3.alloc o) := hb.alloc hb.size o
  have h4 := h.next hb4
  have hq4 : Lay (w3.alloc o) w.heap.size q n := hq.next ((Below.refl _ _).alloc (Nat.le_refl _) o)
  have hm := Moves.row hg hL
  have hgv : ¬ own11 p.v p.g := fun e => h4.nv e
  have hqv : ∀ k, q.fp k → ¬ own11 p.v k := fun k hk e => by
    have a := hq4.fp_ge k hk
    have c := (World.ownsRow.lt h.row k e).2
    omega
  have hB := h.size
  obtain ⟨b1, b2⟩ := hm.blk h4.blk hgv
  have hr' : w5.ownsRow B 85 1 v' (b.L ++ [n]).length ((p.ps ++ [q]).map NP.ptr) := by
    have := hr
    unfold Gown at this
    rw [ptT_f, List.length_append, h.len] at this
    rw [List.length_append]
    exact this
  have ho := (Only.refl p.g w5).set (i := 0) (v := v')
  have hm2 : Moves (fun k => k = p.g) (fun k => k = p.g) w5 (w5.setCell ⟨p.g, 0, none⟩ v') := .only ho rfl
  obtain ⟨q5, q5'⟩ := hq4.apart hm hqv
  have hqg : ∀ k, q.fp k → k ≠ p.g := fun k hk e => by
    have a := hq4.fp_ge k hk
    have c := h.lt
    omega
  have old : ∀ (i : Nat) (r : NP) (m : Nd), p.ps[i]? = some r → b.L[i]? = some m → Lay (w5.setCell ⟨p.g, 0, none⟩ v') B r m := fun i r m h1 h2 => by
    have hrm := List.mem_of_getElem? h1
    have k1 := ((h4.lay i r m h1 h2).apart hm fun k hk e => h4.nr hrm k e hk).1
    exact (k1.apart hm2 fun k hk e => h4.ng hrm (e ▸ hk)).1
  have lt : ∀ (i : Nat) (r : NP), p.ps[i]? = some r → ∀ k, r.fp k → k < w.heap.size := fun i r h1 k hk => h.fp_lt k (.inr (.inr ⟨r, List.mem_of_getElem? h1, hk⟩))
  refine ⟨⟨cells_to (cells_set b1) (by simp), (hm2.owns hr' fun k hk e => owns_ne hr' b1 (by decide) (e ▸ hk)).1, by simp [h.len], fun i r m h1 h2 => ?_, fun i j r s h1 h2 hne => ?_, h.at_⟩, ?_⟩
  · have h1 : (p.ps ++ [q])[i]? = some r := h1
    have h2 : (b.L ++ [n])[i]? = some m := h2
    by_cases hi : i < p.ps.length
    · rw [List.getElem?_append_left hi] at h1
      rw [List.getElem?_append_left (by rw [← h.len]; exact hi)] at h2
      exact old i r m h1 h2
    · have hl := (List.getElem?_eq_some_iff.1 h1).1
      simp at hl
      have hi' : i = p.ps.length := by omega
      subst hi'
      rw [List.getElem?_append_right (Nat.le_refl _), Nat.sub_self] at h1
      rw [h.len, List.getElem?_append_right (Nat.le_refl _), Nat.sub_self] at h2
      simp at h1 h2
      subst h1; subst h2
      exact ((q5.apart hm2 hqg).1).base hB
  · have h1 : (p.ps ++ [q])[i]? = some r := h1
    have h2 : (p.ps ++ [q])[j]? = some s := h2
    have part : ∀ (i : Nat) (r : NP), (p.ps ++ [q])[i]? = some r → (i < p.ps.length ∧ p.ps[i]? = some r) ∨ (i = p.ps.length ∧ r = q) := fun i r h1 => by
      by_cases hi : i < p.ps.length
      · rw [List.getElem?_append_left hi] at h1; exact .inl ⟨hi, h1⟩
      · have hl := (List.getElem?_eq_some_iff.1 h1).1
        simp at hl
        have hi' : i = p.ps.length := by omega
        subst hi'
        rw [List.getElem?_append_right (Nat.le_refl _), Nat.sub_self] at h1
        simp at h1
        exact .inr ⟨rfl, h1.symm⟩
    rcases part i r h1 with ⟨a1, a2⟩ | ⟨a1, rfl⟩ <;> rcases part j s h2 with ⟨c1, c2⟩ | ⟨c1, rfl⟩
    · exact h.dis i j r s a2 c2 hne
    · intro k hk hs
      have := lt i r a2 k hk
      have := hq4.fp_ge k hs
      omega
    · intro k hk hs
      have := lt j s c2 k hs
      have := hq4.fp_ge k hk
      omega
    · omega
  · have k1 : Below B w (w3.alloc o) := hb4.mono hB
    have k2 : Below B w w5 := k1.grown hg (Nat.le_trans hB hb4.size) fun k hk => (World.ownsRow.lt h.row k hk).1
    exact Below.setCell k2 (p := ⟨p.g, 0, none⟩) h.at_ _
/-- append onto a row of the call's own, as a step of a drawn region. -/
theorem step_append_E11 {α : Type} (E : Elt α) (w : World) {ops : Array Oper} {o : Oper} {a : Act} {K : Act → World → Prop} {Q : Exit → Act → World → Prop} {P : Prop} (hgd : o.guard = none) (s x : Operand)
    (ho : o.op = .call { callee := .builtin .append, args := #[s, x], argTypes := #[E.s, E.s] })
    (base : Nat) (v : Value) (gs : List α) (hs : a.eval s = v) (hown : Gown E w base v gs) (A : Option Addr) (m c : Nat) (ys : List α) (hx : a.eval x = .slice A m c) (hr : Gs E w A m ys)
    (hlen : gs.length + m ≤ 1000000) (hbase : base ≤ w.heap.size)
    (h : ∀ v' w', Gown E w' base v' (gs ++ ys) → w.grownBy w' v.ownBlock → Lies w v v' → K (a.put o.dst v') w') :
    if Region.wanted o (yielded ops a.tmps) = true then Oper.wp Tryz.prog o a w K Q else P := by
  have hw : Region.wanted o (yielded ops a.tmps) = true := by simp [Region.wanted, hgd]
  rw [if_pos hw]
  obtain ⟨v', w', hrun, h1, h2, h3⟩ := append_runE11 E w o.type base v gs hown A m c ys hr hlen hbase
  unfold Oper.wp execOp
  simp only [ho, resolve, invoke, builtin, Sem.run_bind, Sem.run_pure, Result.andThen_ok, List.map_toArray, List.map_cons, List.map_nil, hs, hx, hrun]
  exact h v' w' h1 h2 h3
theorem Gown.lit1 {α : Type} (E : Elt α) (w : World) (x : α) : Gs E (w.alloc (.cells (E.c x).toArray E.e)) (some ⟨w.heap.size, 0, none⟩) 1 [x] := by
  have h := (Gown.lit E w 0 [x] (Nat.zero_le _) (by show 1 ≤ 1000000; omega)).gs
  rw [E.f_one] at h
  exact h
theorem bnew_out (n : Int) (hn : ¬ (1 ≤ n ∧ n ≤ 32)) (w : World) : Calls Tryz.prog 14 #[.int .i64 n] w fun e w' => e = .returned (.tuple #[.pointer none, .int .i64 10]) ∧ w = w' := by
  have hm := mayBe11 n w
  rw [show (decide (1 ≤ n) && decide (n ≤ 32)) = false by simpa using fun h => by omega] at hm
  go_enter Tryz.func14, Tryz.ntmps14
  go_wp2_with fail
  refine hm.mono ?_
  rintro e w1 ⟨rfl, rfl⟩
  go_wp2
  go_ret2
  exact ⟨rfl, rfl⟩
end Go.Proofs.YtalpbnfebcafgaaGreat

/- The contract of join. -/
namespace Go.Proofs.YtalpbnfebcafgaaGreat
set_option maxRecDepth 20000
open Go.RowKit
set_option linter.unusedSimpArgs false

/-- A run lies at p. -/
def Rxa (w : World) (p : Addr) (r : Rn) : Prop := w.cell? p = some (.int .i64 r.n) ∧ w.cell? ⟨p.block, p.off + 1, none⟩ = some (.int .i64 r.b) ∧ w.cell? ⟨p.block, p.off + 2, none⟩ = some (.int .u32 (r.d : Nat))
theorem Gs.rn {w : World} {A : Option Addr} {m j : Nat} {rs : List Rn} {r : Rn} (h : Gs rnT w A m rs) (hj : rs[j]? = some r) : ∃ ad, A = some ad ∧ ad.block < w.heap.size ∧ Rxa w (ad.add (j * 3)) r := by
  obtain ⟨ad, h1, hl, h0⟩ := h.at_ hj
  have g : ∀ c v, 0 < c → (rncs r)[c]? = some v → w.cell? ⟨(ad.add (j * 3)).block, (ad.add (j * 3)).off + c, none⟩ = some v := fun c v hc hv => by
    rw [← add_pos _ hc]; exact h0 c v hv
  exact ⟨ad, h1, hl, h0 0 _ rfl, g 1 _ (by omega) rfl, g 2 _ (by omega) rfl⟩
theorem row_put {w : World} {B size n m cap : Nat} {e : TypeId} {g : Nat} {xs : List Value} (h : w.ownsRow B e size (.slice (some ⟨g, 0, none⟩) m cap) n xs) (j : Nat) (u : Value) : (w.setCell ⟨g, j, none⟩ u).ownsRow B e size (.slice (some ⟨g, 0, none⟩) m cap) n (xs.set j u) := by
  refine ⟨by rw [List.length_set]; exact h.1, ?_⟩
  rcases h.2 with ⟨h1, _⟩ | ⟨g', cap', cur, e, hb, hh, hnc, hm, hs, ht⟩
  · cases h1
  · injection e with e e2 e3
    injection e with e
    injection e with e
    subst e
    refine .inr ⟨g, cap', cur.setIfInBounds j u, by rw [e2, e3], hb, ?_, hnc, hm, by simpa using hs, ?_⟩
    · simp [World.setCell, Array.getElem?_modify, hh]
    · rw [← ht]
      simp [List.take_set]
theorem row_frozen {w : World} {B size n m cap : Nat} {e : TypeId} {g : Nat} {xs : List Value} (h : w.ownsRow B e size (.slice (some ⟨g, 0, none⟩) m cap) n xs) (j : Nat) : w.frozen? ⟨g, j, none⟩ = false := by
  rcases h.2 with ⟨h1, _⟩ | ⟨g', cap', cur, e, hb, hh, _⟩
  · cases h1
  · injection e with e _ _
    injection e with e
    injection e with e
    subst e
    simp [World.frozen?, hh]
theorem last_set (rs : List Rn) (y : Rn) (z : Int) : (rnT.f (rs ++ [y])).set (rs.length * 3) (.int .i64 z) = rnT.f (rs ++ [⟨z, y.b, y.d⟩]) := by
  rw [rnT.f_app, rnT.f_app, rnT.f_one, rnT.f_one, List.set_append_right _ _ (by rw [rnT.f_len]; exact Nat.le_refl _), rnT.f_len, show rs.length * rnT.k = rs.length * 3 from rfl, Nat.sub_self]
  rfl
theorem row_addr {w : World} {B size n m cap : Nat} {e : TypeId} {ad : Addr} {xs : List Value} (h : w.ownsRow B e size (.slice (some ad) m cap) n xs) : ∃ g, ad = ⟨g, 0, none⟩ := by
  rcases h.2 with ⟨h1, _⟩ | ⟨g', cap', cur, e, _⟩
  · cases h1
  · injection e with e _ _
    injection e with e
    exact ⟨g', e⟩
/-- What join leaves. -/
def JoinP (w : World) (B : Nat) (v : Value) (rs' : List Rn) : Ending → World → Prop := fun e w' =>
  ∃ v', e = .returned v' ∧ Gown rnT w' B v' rs' ∧ Moves (own11 v) (own11 v') w w'
theorem join_nil (r : Rn) : joinR [] r = [r] := rfl
theorem join_snoc (rs : List Rn) (y r : Rn) : joinR (rs ++ [y]) r = if y.b = r.b ∧ y.d = r.d then rs ++ [⟨y.n + r.n, y.b, y.d⟩] else rs ++ [y] ++ [r] := by
  unfold joinR
  simp
set_option maxHeartbeats 1600000 in
theorem join_first {w : World} {B : Nat} {v : Value} (h : Gown rnT w B v []) (hB : B ≤ w.heap.size) (r : Rn) : Calls Tryz.prog 31 #[v, r.v] w (JoinP w B v (joinR [] r)) := by
  obtain ⟨A, cap, rfl, -⟩ := h.len
  rw [join_nil]
  have HH := Lib.hid h
  have HLEN := Lib.hid (show ([] : List Rn).length + 1 ≤ 1000000 by decide)
  have HBX := Lib.hid ((Below.refl w.heap.size w).alloc (Nat.le_refl _) (.cells (Rn.c r) 50))
  clear h
  go_enter Tryz.func31, Tryz.ntmps31
  go_wp2_with fail
  go_quiet (fail)
  have HB1 := Lib.hid (belowN HBX.out nq)
  have hv1 : ((w.alloc (.cells (Rn.c r) 50)).drewN nq).heap[w.heap.size]? = some (.cells (Rn.c r) 50) := heap_alloc_new w _
  obtain ⟨w1, hw1⟩ : ∃ w1, (w.alloc (.cells (Rn.c r) 50)).drewN nq = w1 := ⟨_, rfl⟩
  rw [hw1] at hv1 HB1 ⊢
  clear hw1
  obtain ⟨rn, rb, rd⟩ := r
  have q0 := cell_of_row _ _ 0 _ _ (0, 0) hv1
  have q1 := cell_of_row _ _ 1 _ _ (0, 0) hv1
  have q2 := cell_of_row _ _ 2 _ _ (0, 0) hv1
  have HAL := Lib.hid (HB1.out.alloc HB1.out.size (.cells (Rn.c ⟨rn, rb, rd⟩) 50))
  have HG := Lib.hid (HH.out.below HAL.out)
  have HS := Lib.hid (show Gs rnT (w1.alloc (.cells (Rn.c ⟨rn, rb, rd⟩) 50)) (some ⟨w1.heap.size, 0, none⟩) 1 [⟨rn, rb, rd⟩] from Gown.lit1 rnT w1 ⟨rn, rb, rd⟩)
  have HBB := Lib.hid (show B ≤ (w1.alloc (.cells (Rn.c ⟨rn, rb, rd⟩) 50)).heap.size by have := HB1.out.size; simp; omega)
  clear hv1
  go_wp2_with (first | (at_builtin; refine append_E11 rnT _ (by rfl) _ _ rfl B _ _ rfl HG.out _ 1 1 [⟨rn, rb, rd⟩] rfl HS.out HLEN.out HBB.out ?_; intro v3 w3 h1 h2 h3) | fail)
  have HF := Lib.hid (And.intro h1 ((Moves.of_below HAL.out (own11 _)).trans (Moves.row h2 h3)))
  obtain ⟨A3, c3, hv3, -⟩ := h1.len
  obtain ⟨n3, hn3⟩ : ∃ n3, ([] ++ [(⟨rn, rb, rd⟩ : Rn)]).length = n3 := ⟨_, rfl⟩
  rw [hn3] at hv3
  clear hn3 h1 h2 h3
  subst hv3
  go_wp2
  go_ret
  exact ⟨_, rfl, HF.out.1, HF.out.2⟩
set_option maxHeartbeats 1600000 in
theorem join_bus {w : World} {B : Nat} {v : Value} {rs : List Rn} {y : Rn} (h : Gown rnT w B v (rs ++ [y])) (hB : B ≤ w.heap.size) (r : Rn) (hb : y.b ≠ r.b) (hn : rs.length ≤ 900000) : Calls Tryz.prog 31 #[v, r.v] w (JoinP w B v (rs ++ [y, r])) := by
  obtain ⟨A, cap, rfl, -⟩ := h.len
  have HH := Lib.hid h
  have HLEN := Lib.hid (show (rs ++ [y]).length + 1 ≤ 1000000 by rw [List.length_append, List.length_singleton]; omega)
  have HBX := Lib.hid ((Below.refl w.heap.size w).alloc (Nat.le_refl _) (.cells (Rn.c r) 50))
  obtain ⟨ad, rfl, had, y0, y1, y2⟩ := (h.gs.below HBX.out).rn (j := rs.length) (r := y) (by rw [List.getElem?_append_right (Nat.le_refl _), Nat.sub_self]; rfl)
  obtain ⟨n, hn'⟩ : ∃ n, rs.length = n := ⟨_, rfl⟩
  have hln : (rs ++ [y]).length = n + 1 := by rw [List.length_append, List.length_singleton, hn']
  rw [hln]
  rw [hln] at HH
  rw [hn'] at y0 y1 y2 hn
  have HN' := Lib.hid hn'
  obtain ⟨yn, yb, yd⟩ := y
  have hn0 : decide ((n : Int) < 0) = false := by simp
  simp only at y0 y1 y2 hb
  have hb' : (yb != r.b) = true := by simpa using hb
  clear h hn' hln hb
  go_enter Tryz.func31, Tryz.ntmps31
  go_wp2_with fail
  go_quiet (fail)
  have HB1 := Lib.hid (belowN HBX.out nq)
  have hv1 : ((w.alloc (.cells (Rn.c r) 50)).drewN nq).heap[w.heap.size]? = some (.cells (Rn.c r) 50) := heap_alloc_new w _
  obtain ⟨w1, hw1⟩ : ∃ w1, (w.alloc (.cells (Rn.c r) 50)).drewN nq = w1 := ⟨_, rfl⟩
  rw [hw1] at hv1 HB1 ⊢
  clear hw1
  obtain ⟨rn, rb, rd⟩ := r
  have q0 := cell_of_row _ _ 0 _ _ (0, 0) hv1
  have q1 := cell_of_row _ _ 1 _ _ (0, 0) hv1
  have q2 := cell_of_row _ _ 2 _ _ (0, 0) hv1
  have HAL := Lib.hid (HB1.out.alloc HB1.out.size (.cells (Rn.c ⟨rn, rb, rd⟩) 50))
  have HG := Lib.hid (HH.out.below HAL.out)
  have HS := Lib.hid (show Gs rnT (w1.alloc (.cells (Rn.c ⟨rn, rb, rd⟩) 50)) (some ⟨w1.heap.size, 0, none⟩) 1 [⟨rn, rb, rd⟩] from Gown.lit1 rnT w1 ⟨rn, rb, rd⟩)
  have HBB := Lib.hid (show B ≤ (w1.alloc (.cells (Rn.c ⟨rn, rb, rd⟩) 50)).heap.size by have := HB1.out.size; simp; omega)
  clear hv1
  go_wp2_with (first | (at_builtin; refine append_E11 rnT _ (by rfl) _ _ rfl B _ _ rfl HG.out _ 1 1 [⟨rn, rb, rd⟩] rfl HS.out HLEN.out HBB.out ?_; intro v3 w3 h1 h2 h3) | fail)
  have HF := Lib.hid (And.intro h1 ((Moves.of_below HAL.out (own11 _)).trans (Moves.row h2 h3)))
  obtain ⟨A3, c3, hv3, -⟩ := h1.len
  obtain ⟨n3, hn3⟩ : ∃ n3, (rs ++ [(⟨yn, yb, yd⟩ : Rn)] ++ [(⟨rn, rb, rd⟩ : Rn)]).length = n3 := ⟨_, rfl⟩
  rw [hn3] at hv3
  clear hn3 h1 h2 h3
  subst hv3
  go_wp2
  go_ret
  exact ⟨_, rfl, by have h := HF.out.1; rw [List.append_assoc] at h; exact h, HF.out.2⟩
set_option maxHeartbeats 1600000 in
theorem join_drive {w : World} {B : Nat} {v : Value} {rs : List Rn} {y : Rn} (h : Gown rnT w B v (rs ++ [y])) (hB : B ≤ w.heap.size) (r : Rn) (hb : y.b = r.b) (hd : y.d ≠ r.d) (hn : rs.length ≤ 900000) : Calls Tryz.prog 31 #[v, r.v] w (JoinP w B v (rs ++ [y, r])) := by
  obtain ⟨A, cap, rfl, -⟩ := h.len
  have HH := Lib.hid h
  have HLEN := Lib.hid (show (rs ++ [y]).length + 1 ≤ 1000000 by rw [List.length_append, List.length_singleton]; omega)
  have HBX := Lib.hid ((Below.refl w.heap.size w).alloc (Nat.le_refl _) (.cells (Rn.c r) 50))
  obtain ⟨ad, rfl, had, y0, y1, y2⟩ := (h.gs.below HBX.out).rn (j := rs.length) (r := y) (by rw [List.getElem?_append_right (Nat.le_refl _), Nat.sub_self]; rfl)
  obtain ⟨n, hn'⟩ : ∃ n, rs.length = n := ⟨_, rfl⟩
  have hln : (rs ++ [y]).length = n + 1 := by rw [List.length_append, List.length_singleton, hn']
  rw [hln]
  rw [hln] at HH
  rw [hn'] at y0 y1 y2 hn
  have HN' := Lib.hid hn'
  obtain ⟨yn, yb, yd⟩ := y
  have hn0 : decide ((n : Int) < 0) = false := by simp
  simp only at y0 y1 y2 hb hd
  have hb' : (yb != r.b) = false := by simpa using hb
  have hd' : (((yd : Nat) : Int) != ((r.d : Nat) : Int)) = true := by simp; omega
  clear h hn' hln hb hd
  go_enter Tryz.func31, Tryz.ntmps31
  go_wp2_with fail
  go_quiet (fail)
  have HB1 := Lib.hid (belowN HBX.out nq)
  have hv1 : ((w.alloc (.cells (Rn.c r) 50)).drewN nq).heap[w.heap.size]? = some (.cells (Rn.c r) 50) := heap_alloc_new w _
  obtain ⟨w1, hw1⟩ : ∃ w1, (w.alloc (.cells (Rn.c r) 50)).drewN nq = w1 := ⟨_, rfl⟩
  rw [hw1] at hv1 HB1 ⊢
  clear hw1
  obtain ⟨rn, rb, rd⟩ := r
  have q0 := cell_of_row _ _ 0 _ _ (0, 0) hv1
  have q1 := cell_of_row _ _ 1 _ _ (0, 0) hv1
  have q2 := cell_of_row _ _ 2 _ _ (0, 0) hv1
  have HAL := Lib.hid (HB1.out.alloc HB1.out.size (.cells (Rn.c ⟨rn, rb, rd⟩) 50))
  have HG := Lib.hid (HH.out.below HAL.out)
  have HS := Lib.hid (show Gs rnT (w1.alloc (.cells (Rn.c ⟨rn, rb, rd⟩) 50)) (some ⟨w1.heap.size, 0, none⟩) 1 [⟨rn, rb, rd⟩] from Gown.lit1 rnT w1 ⟨rn, rb, rd⟩)
  have HBB := Lib.hid (show B ≤ (w1.alloc (.cells (Rn.c ⟨rn, rb, rd⟩) 50)).heap.size by have := HB1.out.size; simp; omega)
  clear hv1
  go_wp2_with (first | (at_builtin; refine append_E11 rnT _ (by rfl) _ _ rfl B _ _ rfl HG.out _ 1 1 [⟨rn, rb, rd⟩] rfl HS.out HLEN.out HBB.out ?_; intro v3 w3 h1 h2 h3) | fail)
  have HF := Lib.hid (And.intro h1 ((Moves.of_below HAL.out (own11 _)).trans (Moves.row h2 h3)))
  obtain ⟨A3, c3, hv3, -⟩ := h1.len
  obtain ⟨n3, hn3⟩ : ∃ n3, (rs ++ [(⟨yn, yb, yd⟩ : Rn)] ++ [(⟨rn, rb, rd⟩ : Rn)]).length = n3 := ⟨_, rfl⟩
  rw [hn3] at hv3
  clear hn3 h1 h2 h3
  subst hv3
  go_wp2
  go_ret
  exact ⟨_, rfl, by have h := HF.out.1; rw [List.append_assoc] at h; exact h, HF.out.2⟩
set_option maxHeartbeats 1600000 in
theorem join_same {w : World} {B : Nat} {v : Value} {rs : List Rn} {y : Rn} (h : Gown rnT w B v (rs ++ [y])) (_hB : B ≤ w.heap.size) (r : Rn) (hb : y.b = r.b) (hd : y.d = r.d) (hn : rs.length ≤ 900000) (hy : 0 ≤ y.n ∧ y.n ≤ 2000000 ∧ 0 ≤ r.n ∧ r.n ≤ 2000000) : Calls Tryz.prog 31 #[v, r.v] w (JoinP w B v (rs ++ [⟨y.n + r.n, y.b, y.d⟩])) := by
  obtain ⟨A, cap, rfl, -⟩ := h.len
  have HH := Lib.hid h
  have HLEN := Lib.hid (show (rs ++ [y]).length + 1 ≤ 1000000 by rw [List.length_append, List.length_singleton]; omega)
  have HBX := Lib.hid ((Below.refl w.heap.size w).alloc (Nat.le_refl _) (.cells (Rn.c r) 50))
  obtain ⟨ad, rfl, had, y0, y1, y2⟩ := (h.gs.below HBX.out).rn (j := rs.length) (r := y) (by rw [List.getElem?_append_right (Nat.le_refl _), Nat.sub_self]; rfl)
  obtain ⟨n, hn'⟩ : ∃ n, rs.length = n := ⟨_, rfl⟩
  have hln : (rs ++ [y]).length = n + 1 := by rw [List.length_append, List.length_singleton, hn']
  rw [hln]
  rw [hln] at HH
  rw [hn'] at y0 y1 y2 hn
  have HN' := Lib.hid hn'
  obtain ⟨yn, yb, yd⟩ := y
  have hn0 : decide ((n : Int) < 0) = false := by simp
  simp only at y0 y1 y2 hb hd
  have hb' : (yb != r.b) = false := by simpa using hb
  have hd' : (((yd : Nat) : Int) != ((r.d : Nat) : Int)) = false := by simp; omega
  clear h hn' hln hb hd
  go_enter Tryz.func31, Tryz.ntmps31
  go_wp2_with fail
  go_quiet (fail)
  have HB1 := Lib.hid (belowN HBX.out nq)
  have hv1 : ((w.alloc (.cells (Rn.c r) 50)).drewN nq).heap[w.heap.size]? = some (.cells (Rn.c r) 50) := heap_alloc_new w _
  obtain ⟨w1, hw1⟩ : ∃ w1, (w.alloc (.cells (Rn.c r) 50)).drewN nq = w1 := ⟨_, rfl⟩
  rw [hw1] at hv1 HB1 ⊢
  clear hw1
  obtain ⟨g, rfl⟩ := row_addr HH.out
  have hz : (⟨g, 0, none⟩ : Addr).add (n * 3) = ⟨g, n * 3, none⟩ := by rw [add_zero_off]
  obtain ⟨rn, rb, rd⟩ := r
  have q0 := cell_of_row _ _ 0 _ _ (0, 0) hv1
  have h1 := HH.out.below HB1.out
  have y0 : w1.cell? ⟨g, n * 3, none⟩ = some (.int .i64 yn) := by
    have h := World.ownsRow.cells h1 (g := g) rfl (n * 3) (.int .i64 yn) (by
      rw [rnT.f_app, rnT.f_one, List.getElem?_append_right (by rw [rnT.f_len, HN'.out]; exact Nat.le_refl _), rnT.f_len, HN'.out, show n * rnT.k = n * 3 from rfl, Nat.sub_self]; rfl)
    rwa [add_zero_off] at h
  have f0 := row_frozen h1 (n * 3)
  have HY := Lib.hid hy
  have hyr : (0 : Int) ≤ yn + rn ∧ yn + rn ≤ 4000000 := by simp only at hy; omega
  have hP := row_put h1 (n * 3) (.int .i64 (yn + rn))
  have hls := last_set rs ⟨yn, yb, yd⟩ (yn + rn)
  rw [HN'.out] at hls
  rw [hls] at hP
  have HP := Lib.hid (show Gown rnT (w1.setCell ⟨g, n * 3, none⟩ (.int .i64 (yn + rn))) B (.slice (some ⟨g, 0, none⟩) (n + 1) cap) (rs ++ [⟨yn + rn, yb, yd⟩]) by unfold Gown; simp only [List.length_append, List.length_singleton] at hP ⊢; exact hP)
  have HO := Lib.hid ((Moves.of_below HB1.out (own11 (.slice (some ⟨g, 0, none⟩) (n + 1) cap))).trans (.only ((Only.refl g w1).set (i := n * 3) (v := .int .i64 (yn + rn))) (rfl)))
  clear hv1 h1 hP hls hy
  rw [hz]
  clear hz
  go_wp2_with fail
  go_region
  go_wp2
  go_ret
  exact ⟨_, rfl, HP.out, HO.out.drew⟩
theorem joinR_any {w : World} {B : Nat} {v : Value} {rs : List Rn} (h : Gown rnT w B v rs) (hB : B ≤ w.heap.size) (r : Rn) (hn : rs.length ≤ 900000) (hy : ∀ y ∈ rs, 0 ≤ y.n ∧ y.n ≤ 2000000) (hr : 0 ≤ r.n ∧ r.n ≤ 2000000) :
    Calls Tryz.prog 31 #[v, r.v] w (JoinP w B v (joinR rs r)) := by
  rcases List.eq_nil_or_concat rs with rfl | ⟨ss, y, rfl⟩
  · exact join_first h hB r
  · simp only [List.concat_eq_append] at *
    have hl : ss.length ≤ 900000 := by simp at hn; omega
    have hyy := hy y (by simp)
    rw [join_snoc]
    by_cases hb : y.b = r.b
    · by_cases hd : y.d = r.d
      · rw [if_pos ⟨hb, hd⟩]
        exact join_same h hB r hb hd hl ⟨hyy.1, hyy.2, hr.1, hr.2⟩
      · rw [if_neg fun h => hd h.2]
        have := join_drive h hB r hb hd hl
        simpa using this
    · rw [if_neg fun h => hb h.1]
      have := join_bus h hB r hb hl
      simpa using this
end Go.Proofs.YtalpbnfebcafgaaGreat

/- The contract of New. -/
namespace Go.Proofs.YtalpbnfebcafgaaGreat
set_option maxRecDepth 20000
open Go.RowKit
set_option linter.unusedSimpArgs false

set_option maxHeartbeats 3200000 in
set_option maxRecDepth 100000 in
theorem bnew_any (n : Nat) (h1 : 1 ≤ n) (h32 : n ≤ 32) (w : World) : Calls Tryz.prog 14 #[.int .i64 (n : Nat)] w fun e w' => ∃ p, e = .returned (.tuple #[.pointer (some ⟨p.g, 0, none⟩), .int .i64 0]) ∧ BLay w' w.heap.size p (Bs.new n) ∧ Below w.heap.size w w' := by
  have hm := mayBe11 (n : Nat) w
  rw [show (decide (1 ≤ (n : Int)) && decide ((n : Int) ≤ 32)) = true by simp; omega] at hm
  have HV0 := Lib.hid (heap_alloc_new w (.cells #[.slice none 0 0, .int .i64 0] 84))
  have HB0 := Lib.hid ((Below.refl w.heap.size w).alloc (Nat.le_refl _) (.cells #[.slice none 0 0, .int .i64 0] 84))
  go_enter Tryz.func14, Tryz.ntmps14
  go_wp2_with fail
  refine hm.mono ?_
  rintro e w1 ⟨rfl, rfl⟩
  go_wp2
  go_loopw [11] (fun i wr => ∃ (k : Nat) (p : BP), k ≤ n ∧ i = .int .i64 k ∧ p.g = w.heap.size ∧ BLay wr w.heap.size p ⟨List.replicate k Nd.new, 0⟩ ∧ Below w.heap.size w wr) (fun i _ => n - (intOf i).toNat)
  case atStart =>
    exact ⟨0, ⟨w.heap.size, .slice none 0 0, []⟩, Nat.zero_le _, rfl, rfl, ⟨HV0.out, World.ownsRow_nil _ _ _ _, rfl, fun i q m h => by simp at h, fun i j q r h => by simp at h, Nat.le_refl _⟩, HB0.out⟩
  case round =>
    obtain ⟨k, ⟨pg, pv, ps⟩, hk, rfl, hpg, hl, hbw⟩ := hrel
    simp only at hpg
    subst hpg
    obtain ⟨A, cap, hv, -⟩ := hl.sl
    simp only [List.length_replicate] at hv
    subst hv
    have HBW := Lib.hid hbw
    have HL := Lib.hid hl.drew
    have c0 : wr.drew.cell? ⟨w.heap.size, 0, none⟩ = some (.slice A k cap) := hl.drew.c0
    by_cases hlt : k < n
    · have hlt' : (k : Int) < (n : Int) := by omega
      clear hl hbw
      go_wp2_with fail
      refine wp_region_held_drew (S := fun _ => True) (by kernel_rfl) trivial (fun hHeld => ?_)
      refine takeH (i := 0) (v := .pointer (some ⟨w.heap.size, 0, none⟩)) rfl (by kernel_rfl) (by kernel_rfl) (by kernel_rfl) (fun _ _ _ h => h) (Or.inl ⟨by rfl, fun w' hSw => ?_⟩) hHeld ?_
      · (clear hSw; go_simp)
      simp only [Act.put, List.setIfInBounds_toArray, List.set_cons_zero, List.set_cons_succ]
      refine takeH (i := 1) (v := .pointer (some ⟨w.heap.size, 0, none⟩)) rfl (by kernel_rfl) (by kernel_rfl) (by kernel_rfl) (fun _ _ _ h => h) (Or.inl ⟨by rfl, fun w' hSw => ?_⟩) hHeld ?_
      · (clear hSw; go_simp)
      simp only [Act.put, List.setIfInBounds_toArray, List.set_cons_zero, List.set_cons_succ]
      refine takeH (i := 2) (v := .pointer (some ⟨w.heap.size, 0, none⟩)) rfl (by kernel_rfl) (by kernel_rfl) (by kernel_rfl) (fun _ _ _ h => h) (Or.inl ⟨by rfl, fun w' hSw => ?_⟩) hHeld ?_
      · (clear hSw; go_simp)
      simp only [Act.put, List.setIfInBounds_toArray, List.set_cons_zero, List.set_cons_succ]
      refine takeH (i := 3) (v := .pointer (some ⟨w.heap.size, 0, none⟩)) rfl (by kernel_rfl) (by kernel_rfl) (by kernel_rfl) (fun _ _ _ h => h) (Or.inl ⟨by rfl, fun w' hSw => ?_⟩) hHeld ?_
      · (clear hSw; go_simp)
      simp only [Act.put, List.setIfInBounds_toArray, List.set_cons_zero, List.set_cons_succ]
      refine wpAnyH_ready (rs := [4, 5]) (by kernel_rfl) (by simp) ?_
      refine AllReadyH.cons rfl (fun K hK => ?_) (AllReadyH.cons rfl (fun K hK => ?_) AllReadyH.nil)
      · go_simp
        refine hK.out _ _ (trivial) (fun hHeld => ?_)
        clear hK K
        try simp only [Act.put, List.setIfInBounds_toArray, List.set_cons_zero, List.set_cons_succ]
        refine wpAnyH_ready (rs := [5]) (by kernel_rfl) (by simp) ?_
        refine AllReadyH.cons rfl (fun K hK => ?_) AllReadyH.nil
        go_simp
        refine (new_any wr.drew).mono ?_
        rintro e w3 ⟨q, rfl, hlq, hb3⟩
        have HQ := Lib.hid hlq
        have HB3 := Lib.hid hb3
        clear hlq hb3 hHeld
        dsimp only
        refine hK.out _ _ (trivial) (fun hHeld => ?_)
        clear hK K
        try simp only [Act.put, List.setIfInBounds_toArray, List.set_cons_zero, List.set_cons_succ]
        refine wpAnyH_ready (rs := [6]) (by kernel_rfl) (by simp) ?_
        refine AllReadyH.cons rfl (fun K hK => ?_) AllReadyH.nil
        go_simp
        refine hK.out _ _ (trivial) (fun hHeld => ?_)
        clear hK K
        try simp only [Act.put, List.setIfInBounds_toArray, List.set_cons_zero, List.set_cons_succ]
        refine wpAnyH_ready (rs := [7]) (by kernel_rfl) (by simp) ?_
        refine AllReadyH.cons rfl (fun K hK => ?_) AllReadyH.nil
        have HGW := Lib.hid (HL.out.grow.below (HB3.out.alloc HB3.out.size (.cells #[q.ptr] 85)))
        refine step_append_E11 ptT _ (by rfl) (.tmp 17) (.tmp 19) (by rfl) w.heap.size (.slice A k cap) ps (by rfl) HGW.out (some ⟨w3.heap.size, 0, none⟩) 1 1 [q] (by rfl) (Gown.lit1 ptT w3 q) (by rw [HL.out.len]; show (List.replicate k Nd.new).length + 1 ≤ 1000000; rw [List.length_replicate]; omega) (by have := HB3.out.size; have := HBW.out.size; simp at *; omega) ?_
        intro v5 w5 h5 g5 l5
        obtain ⟨A5, c5, hv5, -⟩ := h5.len
        have HP := Lib.hid (HL.out.push HB3.out HQ.out g5 l5 h5)
        have h5b : w5.cell? ⟨w.heap.size, 0, none⟩ = some (.slice A k cap) ∧ w5.frozen? ⟨w.heap.size, 0, none⟩ = false := by
          have h4 := HL.out.next (HB3.out.alloc HB3.out.size (.cells #[q.ptr] 85))
          have hk := (Moves.row g5 l5).blk h4.blk (fun e => h4.nv e)
          exact ⟨cell_of_row _ _ 0 _ _ (0, 0) hk.1, typed_frozen hk.1 0⟩
        obtain ⟨c50, f50⟩ := h5b
        obtain ⟨N5, hN5⟩ : ∃ N5, (ps ++ [q]).length = N5 := ⟨_, rfl⟩
        rw [hN5] at hv5
        clear hN5 h5 g5 l5 hHeld
        subst hv5
        refine hK.out _ _ (trivial) (fun hHeld => ?_)
        clear hK K
        try simp only [Act.put, List.setIfInBounds_toArray, List.set_cons_zero, List.set_cons_succ]
        refine takeH (i := 8) (v := .pointer (some ⟨w.heap.size, 0, none⟩)) rfl (by kernel_rfl) (by kernel_rfl) (by kernel_rfl) (fun _ _ _ h => h) (Or.inl ⟨by rfl, fun w' hSw => ?_⟩) hHeld ?_
        · (clear hSw; go_simp)
        simp only [Act.put, List.setIfInBounds_toArray, List.set_cons_zero, List.set_cons_succ]
        refine takeH (i := 9) (v := .pointer (some ⟨w.heap.size, 0, none⟩)) rfl (by kernel_rfl) (by kernel_rfl) (by kernel_rfl) (fun _ _ _ h => h) (Or.inl ⟨by rfl, fun w' hSw => ?_⟩) hHeld ?_
        · (clear hSw; go_simp)
        simp only [Act.put, List.setIfInBounds_toArray, List.set_cons_zero, List.set_cons_succ]
        refine wpAnyH_ready (rs := [10]) (by kernel_rfl) (by simp) ?_
        refine AllReadyH.cons rfl (fun K hK => ?_) AllReadyH.nil
        go_simp
        refine hK.out _ _ (trivial) (fun hHeld => ?_)
        clear hK K
        try simp only [Act.put, List.setIfInBounds_toArray, List.set_cons_zero, List.set_cons_succ]
        refine wpAnyH_done (by kernel_rfl) ?_ _
        clear hHeld
        have HPN := Lib.hid HP.out.1
        have HPB := Lib.hid HP.out.2
        clear HP
        go_wp2
        go_roundw
        case rel => exact ⟨k + 1, _, by omega, by go_num, rfl, by have h := HPN.out; rw [← List.replicate_succ'] at h; exact h, (below_drew HBW.out).trans HPB.out⟩
        case measure => simp [intOf]; omega
      · go_simp
        refine (new_any wr.drew).mono ?_
        rintro e w3 ⟨q, rfl, hlq, hb3⟩
        have HQ := Lib.hid hlq
        have HB3 := Lib.hid hb3
        clear hlq hb3 hHeld
        dsimp only
        refine hK.out _ _ (trivial) (fun hHeld => ?_)
        clear hK K
        try simp only [Act.put, List.setIfInBounds_toArray, List.set_cons_zero, List.set_cons_succ]
        have c30 : w3.cell? ⟨w.heap.size, 0, none⟩ = some (.slice A k cap) := (HL.out.next HB3.out).c0
        refine wpAnyH_ready (rs := [4, 6]) (by kernel_rfl) (by simp) ?_
        refine AllReadyH.cons rfl (fun K hK => ?_) (AllReadyH.cons rfl (fun K hK => ?_) AllReadyH.nil)
        · go_simp
          refine hK.out _ _ (trivial) (fun hHeld => ?_)
          clear hK K
          try simp only [Act.put, List.setIfInBounds_toArray, List.set_cons_zero, List.set_cons_succ]
          refine wpAnyH_ready (rs := [6]) (by kernel_rfl) (by simp) ?_
          refine AllReadyH.cons rfl (fun K hK => ?_) AllReadyH.nil
          go_simp
          refine hK.out _ _ (trivial) (fun hHeld => ?_)
          clear hK K
          try simp only [Act.put, List.setIfInBounds_toArray, List.set_cons_zero, List.set_cons_succ]
          refine wpAnyH_ready (rs := [7]) (by kernel_rfl) (by simp) ?_
          refine AllReadyH.cons rfl (fun K hK => ?_) AllReadyH.nil
          have HGW := Lib.hid (HL.out.grow.below (HB3.out.alloc HB3.out.size (.cells #[q.ptr] 85)))
          refine step_append_E11 ptT _ (by rfl) (.tmp 17) (.tmp 19) (by rfl) w.heap.size (.slice A k cap) ps (by rfl) HGW.out (some ⟨w3.heap.size, 0, none⟩) 1 1 [q] (by rfl) (Gown.lit1 ptT w3 q) (by rw [HL.out.len]; show (List.replicate k Nd.new).length + 1 ≤ 1000000; rw [List.length_replicate]; omega) (by have := HB3.out.size; have := HBW.out.size; simp at *; omega) ?_
          intro v5 w5 h5 g5 l5
          obtain ⟨A5, c5, hv5, -⟩ := h5.len
          have HP := Lib.hid (HL.out.push HB3.out HQ.out g5 l5 h5)
          have h5b : w5.cell? ⟨w.heap.size, 0, none⟩ = some (.slice A k cap) ∧ w5.frozen? ⟨w.heap.size, 0, none⟩ = false := by
            have h4 := HL.out.next (HB3.out.alloc HB3.out.size (.cells #[q.ptr] 85))
            have hk := (Moves.row g5 l5).blk h4.blk (fun e => h4.nv e)
            exact ⟨cell_of_row _ _ 0 _ _ (0, 0) hk.1, typed_frozen hk.1 0⟩
          obtain ⟨c50, f50⟩ := h5b
          obtain ⟨N5, hN5⟩ : ∃ N5, (ps ++ [q]).length = N5 := ⟨_, rfl⟩
          rw [hN5] at hv5
          clear hN5 h5 g5 l5 hHeld
          subst hv5
          refine hK.out _ _ (trivial) (fun hHeld => ?_)
          clear hK K
          try simp only [Act.put, List.setIfInBounds_toArray, List.set_cons_zero, List.set_cons_succ]
          refine takeH (i := 8) (v := .pointer (some ⟨w.heap.size, 0, none⟩)) rfl (by kernel_rfl) (by kernel_rfl) (by kernel_rfl) (fun _ _ _ h => h) (Or.inl ⟨by rfl, fun w' hSw => ?_⟩) hHeld ?_
          · (clear hSw; go_simp)
          simp only [Act.put, List.setIfInBounds_toArray, List.set_cons_zero, List.set_cons_succ]
          refine takeH (i := 9) (v := .pointer (some ⟨w.heap.size, 0, none⟩)) rfl (by kernel_rfl) (by kernel_rfl) (by kernel_rfl) (fun _ _ _ h => h) (Or.inl ⟨by rfl, fun w' hSw => ?_⟩) hHeld ?_
          · (clear hSw; go_simp)
          simp only [Act.put, List.setIfInBounds_toArray, List.set_cons_zero, List.set_cons_succ]
          refine wpAnyH_ready (rs := [10]) (by kernel_rfl) (by simp) ?_
          refine AllReadyH.cons rfl (fun K hK => ?_) AllReadyH.nil
          go_simp
          refine hK.out _ _ (trivial) (fun hHeld => ?_)
          clear hK K
          try simp only [Act.put, List.setIfInBounds_toArray, List.set_cons_zero, List.set_cons_succ]
          refine wpAnyH_done (by kernel_rfl) ?_ _
          clear hHeld
          have HPN := Lib.hid HP.out.1
          have HPB := Lib.hid HP.out.2
          clear HP
          go_wp2
          go_roundw
          case rel => exact ⟨k + 1, _, by omega, by go_num, rfl, by have h := HPN.out; rw [← List.replicate_succ'] at h; exact h, (below_drew HBW.out).trans HPB.out⟩
          case measure => simp [intOf]; omega
        · go_simp
          refine hK.out _ _ (trivial) (fun hHeld => ?_)
          clear hK K
          try simp only [Act.put, List.setIfInBounds_toArray, List.set_cons_zero, List.set_cons_succ]
          have c40 : (w3.alloc (.cells #[q.ptr] 85)).cell? ⟨w.heap.size, 0, none⟩ = some (.slice A k cap) := (HL.out.next (HB3.out.alloc HB3.out.size (.cells #[q.ptr] 85))).c0
          refine wpAnyH_ready (rs := [4]) (by kernel_rfl) (by simp) ?_
          refine AllReadyH.cons rfl (fun K hK => ?_) AllReadyH.nil
          go_simp
          refine hK.out _ _ (trivial) (fun hHeld => ?_)
          clear hK K
          try simp only [Act.put, List.setIfInBounds_toArray, List.set_cons_zero, List.set_cons_succ]
          refine wpAnyH_ready (rs := [7]) (by kernel_rfl) (by simp) ?_
          refine AllReadyH.cons rfl (fun K hK => ?_) AllReadyH.nil
          have HGW := Lib.hid (HL.out.grow.below (HB3.out.alloc HB3.out.size (.cells #[q.ptr] 85)))
          refine step_append_E11 ptT _ (by rfl) (.tmp 17) (.tmp 19) (by rfl) w.heap.size (.slice A k cap) ps (by rfl) HGW.out (some ⟨w3.heap.size, 0, none⟩) 1 1 [q] (by rfl) (Gown.lit1 ptT w3 q) (by rw [HL.out.len]; show (List.replicate k Nd.new).length + 1 ≤ 1000000; rw [List.length_replicate]; omega) (by have := HB3.out.size; have := HBW.out.size; simp at *; omega) ?_
          intro v5 w5 h5 g5 l5
          obtain ⟨A5, c5, hv5, -⟩ := h5.len
          have HP := Lib.hid (HL.out.push HB3.out HQ.out g5 l5 h5)
          have h5b : w5.cell? ⟨w.heap.size, 0, none⟩ = some (.slice A k cap) ∧ w5.frozen? ⟨w.heap.size, 0, none⟩ = false := by
            have h4 := HL.out.next (HB3.out.alloc HB3.out.size (.cells #[q.ptr] 85))
            have hk := (Moves.row g5 l5).blk h4.blk (fun e => h4.nv e)
            exact ⟨cell_of_row _ _ 0 _ _ (0, 0) hk.1, typed_frozen hk.1 0⟩
          obtain ⟨c50, f50⟩ := h5b
          obtain ⟨N5, hN5⟩ : ∃ N5, (ps ++ [q]).length = N5 := ⟨_, rfl⟩
          rw [hN5] at hv5
          clear hN5 h5 g5 l5 hHeld
          subst hv5
          refine hK.out _ _ (trivial) (fun hHeld => ?_)
          clear hK K
          try simp only [Act.put, List.setIfInBounds_toArray, List.set_cons_zero, List.set_cons_succ]
          refine takeH (i := 8) (v := .pointer (some ⟨w.heap.size, 0, none⟩)) rfl (by kernel_rfl) (by kernel_rfl) (by kernel_rfl) (fun _ _ _ h => h) (Or.inl ⟨by rfl, fun w' hSw => ?_⟩) hHeld ?_
          · (clear hSw; go_simp)
          simp only [Act.put, List.setIfInBounds_toArray, List.set_cons_zero, List.set_cons_succ]
          refine takeH (i := 9) (v := .pointer (some ⟨w.heap.size, 0, none⟩)) rfl (by kernel_rfl) (by kernel_rfl) (by kernel_rfl) (fun _ _ _ h => h) (Or.inl ⟨by rfl, fun w' hSw => ?_⟩) hHeld ?_
          · (clear hSw; go_simp)
          simp only [Act.put, List.setIfInBounds_toArray, List.set_cons_zero, List.set_cons_succ]
          refine wpAnyH_ready (rs := [10]) (by kernel_rfl) (by simp) ?_
          refine AllReadyH.cons rfl (fun K hK => ?_) AllReadyH.nil
          go_simp
          refine hK.out _ _ (trivial) (fun hHeld => ?_)
          clear hK K
          try simp only [Act.put, List.setIfInBounds_toArray, List.set_cons_zero, List.set_cons_succ]
          refine wpAnyH_done (by kernel_rfl) ?_ _
          clear hHeld
          have HPN := Lib.hid HP.out.1
          have HPB := Lib.hid HP.out.2
          clear HP
          go_wp2
          go_roundw
          case rel => exact ⟨k + 1, _, by omega, by go_num, rfl, by have h := HPN.out; rw [← List.replicate_succ'] at h; exact h, (below_drew HBW.out).trans HPB.out⟩
          case measure => simp [intOf]; omega
    · have hlt' : ¬ (k : Int) < (n : Int) := by omega
      have hkn : k = n := by omega
      subst hkn
      have HL0 := Lib.hid hl
      clear hl hbw
      go_wp2
      go_ret2
      exact ⟨_, rfl, HL0.out, HBW.out⟩
end Go.Proofs.YtalpbnfebcafgaaGreat

