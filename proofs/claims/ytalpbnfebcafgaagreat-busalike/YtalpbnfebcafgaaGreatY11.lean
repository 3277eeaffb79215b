/- Two nodes changed for one another: what a play is then. -/
import Derived.Test.YtalpbnfebcafgaaGreatY8
import Derived.Test.YtalpbnfebcafgaaGreatY10
namespace Go.Proofs.YtalpbnfebcafgaaGreat
set_option maxRecDepth 20000

/-- A node's number, two being changed for one another. -/
def chg (p q i : Nat) : Nat := if i = p then q else if i = q then p else i
theorem chg_chg (p q i : Nat) : chg p q (chg p q i) = i := by
  unfold chg
  by_cases h1 : i = p
  · subst h1
    by_cases h2 : q = i
    · subst h2; simp
    · simp [h2]
  · by_cases h2 : i = q
    · subst h2; simp [h1]
    · simp [h1, h2]
theorem chg_lt {p q i N : Nat} (hp : p < N) (hq : q < N) (hi : i < N) : chg p q i < N := by unfold chg; split; exact hq; split; exact hp; exact hi
theorem chg_ge {p q i N : Nat} (hp : p < N) (hq : q < N) (hi : ¬ i < N) : chg p q i = i := by unfold chg; rw [if_neg (by omega), if_neg (by omega)]
/-- The bits of two nodes changed for one another. -/
def swD (p q d : Nat) : Nat := ((d &&& (4294967295 - 2 ^ p)) &&& (4294967295 - 2 ^ q)) ||| ((d / 2 ^ q % 2) * 2 ^ p) ||| ((d / 2 ^ p % 2) * 2 ^ q)
theorem bit_mul (d q p i : Nat) : ((d / 2 ^ q % 2) * 2 ^ p).testBit i = (decide (i = p) && d.testBit q) := by
  have h2 : d / 2 ^ q % 2 = 0 ∨ d / 2 ^ q % 2 = 1 := by omega
  rw [Nat.testBit_eq_decide_div_mod_eq (x := d)]
  rcases h2 with h | h
  · rw [h]; simp
  · rw [h, Nat.one_mul, Nat.testBit_two_pow]
    by_cases e : p = i
    · subst e; simp
    · simp [e, Ne.symm e]
theorem big_bit {d : Nat} (hd : d < 4294967296) {i : Nat} (hi : ¬ i < 32) : d.testBit i = false :=
  Nat.testBit_lt_two_pow (Nat.lt_of_lt_of_le hd (Nat.pow_le_pow_right (n := 2) (i := 32) (j := i) (by omega) (by omega)))
theorem swD_bit {p q d : Nat} (hp : p < 32) (hq : q < 32) (hd : d < 4294967296) (i : Nat) : (swD p q d).testBit i = d.testBit (chg p q i) := by
  unfold swD
  rw [Nat.testBit_or, Nat.testBit_or, Nat.testBit_and, Nat.testBit_and, less_bit hp, less_bit hq, bit_mul, bit_mul]
  unfold chg
  by_cases h1 : i = p
  · subst h1
    rw [if_pos rfl]
    by_cases h2 : i = q
    · subst h2; simp
    · simp [h2]
  · by_cases h2 : i = q
    · subst h2
      rw [if_neg h1, if_pos rfl]
      simp [h1]
    · rw [if_neg h1, if_neg h2]
      by_cases h3 : i < 32
      · simp [h1, h2, h3]
      · rw [big_bit hd h3]; simp [h1, h2]
theorem swD_lt {p q d : Nat} (hp : p < 32) (hq : q < 32) (hd : d < 4294967296) : swD p q d < 4294967296 := by
  unfold swD
  have h1 : 2 ^ p < 2 ^ 32 := Nat.pow_lt_pow_right (by omega) hp
  have h2 : 2 ^ q < 2 ^ 32 := Nat.pow_lt_pow_right (by omega) hq
  have m1 : d / 2 ^ q % 2 * 2 ^ p ≤ 1 * 2 ^ p := Nat.mul_le_mul_right _ (by omega)
  have m2 : d / 2 ^ p % 2 * 2 ^ q ≤ 1 * 2 ^ q := Nat.mul_le_mul_right _ (by omega)
  exact or_lt (or_lt (and_lt (and_lt hd)) (by omega)) (by omega)
theorem swD_of {p q d e : Nat} (hp : p < 32) (hq : q < 32) (hd : d < 4294967296) (h : ∀ i, e.testBit i = d.testBit (chg p q i)) : e = swD p q d := by
  apply Nat.eq_of_testBit_eq
  intro i
  rw [h, swD_bit hp hq hd]
theorem swD_swD {p q d : Nat} (hp : p < 32) (hq : q < 32) (hd : d < 4294967296) : swD p q (swD p q d) = d := by
  apply Nat.eq_of_testBit_eq
  intro i
  rw [swD_bit hp hq (swD_lt hp hq hd), swD_bit hp hq hd, chg_chg]
theorem swD_lv {p q d : Nat} (hp : p < 32) (hq : q < 32) (hd : d < 4294967296) : lvO (swD p q d) = lvO d := by
  have h : swD p q d = 4294967295 ↔ d = 4294967295 := by
    rw [eq_ones (swD_lt hp hq hd), eq_ones hd]
    constructor
    · intro h i hi
      have := h (chg p q i) (chg_lt hp hq hi)
      rwa [swD_bit hp hq hd, chg_chg] at this
    · intro h i hi
      rw [swD_bit hp hq hd]
      exact h _ (chg_lt hp hq hi)
  unfold lvO
  by_cases e : d = 4294967295
  · rw [if_pos (h.2 e), if_pos e]
  · rw [if_neg fun h' => e (h.1 h'), if_neg e]
/-- Nodes, two of them changed for one another. -/
structure SwL (p q N : Nat) (L L' : List Nd) : Prop where
  l1 : L.length = N
  l2 : L'.length = N
  get : ∀ i, i < N → L'.getD (chg p q i) Nd.new = L.getD i Nd.new
section
variable {p q N : Nat} {L L' : List Nd} (hp : p < N) (hq : q < N) (hN : N ≤ 32)
include hp hq
theorem SwL.back (h : SwL p q N L L') {i : Nat} (hi : i < N) : L'.getD i Nd.new = L.getD (chg p q i) Nd.new := by
  have := h.get (chg p q i) (chg_lt hp hq hi)
  rwa [chg_chg] at this
include hN
theorem SwL.drive (h : SwL p q N L L') : dmk L' N = swD p q (dmk L N) := by
  refine swD_of (by omega) (by omega) (dmk_lt L N) fun i => ?_
  rw [dmk_bit L' hN, dmk_bit L hN]
  by_cases hi : i < N
  · have hc := chg_lt hp hq hi
    rw [h.back hp hq hi, decide_eq_true (show i < 32 by omega), decide_eq_true (show chg p q i < 32 by omega), decide_eq_true hi, decide_eq_true hc]
  · rw [chg_ge hp hq hi, decide_eq_false hi]
    rfl
omit hN in
theorem SwL.sees (h : SwL p q N L L') {l : Int} {x x' : Nat} (hx : ∀ i, x'.testBit i = x.testBit (chg p q i)) : SwL p q N (sees l x 0 L N) (sees l x' 0 L' N) := by
  have g : ∀ (M : List Nd) (y i : Nat), M.length = N → i < N → (Go.Proofs.YtalpbnfebcafgaaGreat.sees l y 0 M N).getD i Nd.new = (act1 l y 0 i (M.getD i Nd.new)).2 := fun M y i hM hi => by
    have h1 : M[i]? = some (M.getD i Nd.new) := by rw [List.getD, List.getElem?_eq_getElem (by omega)]; rfl
    have h2 := sees_get (l := l) (x := y) (m := 0) (k := N) (by omega) h1
    rw [List.getD, h2, if_pos hi]; rfl
  refine ⟨by rw [sees_len, h.l1], by rw [sees_len, h.l2], fun i hi => ?_⟩
  rw [g L' x' _ h.l2 (chg_lt hp hq hi), g L x i h.l1 hi, h.get i hi]
  unfold act1
  rw [hx, chg_chg]
  simp
end
theorem tells_eq (l : Int) (x m t : Nat) (L : List Nd) : ∀ k, tells l x m t L k = (List.range k).flatMap fun i => (act1 l x m i (L.getD i Nd.new)).1.map fun e => (t, i, e)
  | 0 => rfl
  | k + 1 => by rw [tells, tells_eq l x m t L k, List.range_succ, List.flatMap_append]; simp
/-- An event, two nodes being changed for one another. -/
def chE (p q : Nat) (e : Be) : Be := (e.1, chg p q e.2.1, e.2.2)
theorem range_perm {p q N : Nat} (hp : p < N) (hq : q < N) : ((List.range N).map (chg p q)).Perm (List.range N) := by
  rw [List.perm_iff_count]
  intro a
  have inj : ∀ i j, chg p q i = chg p q j → i = j := fun i j h => by have := congrArg (chg p q) h; rwa [chg_chg, chg_chg] at this
  have hnd : ((List.range N).map (chg p q)).Nodup := List.Pairwise.map _ (fun i j h e => h (inj i j e)) List.nodup_range
  by_cases ha : a < N
  · have h1 : a ∈ (List.range N).map (chg p q) := List.mem_map.2 ⟨chg p q a, List.mem_range.2 (chg_lt hp hq ha), chg_chg p q a⟩
    have c1 := List.nodup_iff_count.1 hnd a
    have c2 := List.count_pos_iff.2 h1
    have c3 := List.nodup_iff_count.1 (List.nodup_range (n := N)) a
    have c4 := List.count_pos_iff.2 (List.mem_range.2 ha)
    omega
  · rw [List.count_eq_zero_of_not_mem, List.count_eq_zero_of_not_mem (fun h => ha (List.mem_range.1 h))]
    intro h
    obtain ⟨i, hi, rfl⟩ := List.mem_map.1 h
    exact ha (chg_lt hp hq (List.mem_range.1 hi))
theorem sw_tells {p q N : Nat} {L L' : List Nd} (hp : p < N) (hq : q < N) (h : SwL p q N L L') {l : Int} {x x' t : Nat} (hx : ∀ i, x'.testBit i = x.testBit (chg p q i)) :
    (tells l x' 0 t L' N).Perm ((tells l x 0 t L N).map (chE p q)) := by
  rw [tells_eq, tells_eq, List.map_flatMap]
  have e : (List.range N).flatMap (fun i => ((act1 l x 0 i (L.getD i Nd.new)).1.map fun e => ((t, i, e) : Be)).map (chE p q)) = ((List.range N).map (chg p q)).flatMap fun i => (act1 l x' 0 i (L'.getD i Nd.new)).1.map fun e => ((t, i, e) : Be) := by
    rw [List.flatMap_map, List.flatMap_def, List.flatMap_def]
    congr 1
    apply List.map_congr_left
    intro i hi
    have hi := List.mem_range.1 hi
    show List.map _ (List.map _ _) = List.map _ _
    rw [h.get i hi, List.map_map]
    have ha : act1 l x' 0 (chg p q i) (L.getD i Nd.new) = act1 l x 0 i (L.getD i Nd.new) := by
      unfold act1
      rw [hx, chg_chg]
      simp
    rw [ha]
    rfl
  rw [e]
  exact (List.Perm.flatMap_right _ (range_perm hp hq)).symm
/-- An act, two nodes being changed for one another. -/
def chA (p q : Nat) (a : Ac) : Ac := { a with n := if a.n = (p : Int) then (q : Int) else if a.n = (q : Int) then (p : Int) else a.n }
theorem chA_n {p q i : Nat} {a : Ac} (h : a.n = (i : Int)) : (chA p q a).n = ((chg p q i : Nat) : Int) := by
  show (if a.n = (p : Int) then (q : Int) else if a.n = (q : Int) then (p : Int) else a.n) = _
  rw [h]
  unfold chg
  by_cases h1 : i = p
  · rw [if_pos (by omega), if_pos h1]
  · rw [if_neg (by omega), if_neg h1]
    by_cases h2 : i = q
    · rw [if_pos (by omega), if_pos h2]
    · rw [if_neg (by omega), if_neg h2]
theorem sw_put {p q N i : Nat} {L L' : List Nd} (hp : p < N) (hq : q < N) (_hi : i < N) (h : SwL p q N L L') (n : Nd) : SwL p q N (L.set i n) (L'.set (chg p q i) n) := by
  have gs : ∀ (M : List Nd) (j k : Nat), M.length = N → k < N → (M.set j n).getD k Nd.new = if j = k then n else M.getD k Nd.new := fun M j k hM hk => by
    by_cases e : j = k
    · subst e; rw [if_pos rfl, List.getD, List.getElem?_set_self (by omega)]; rfl
    · rw [if_neg e, List.getD, List.getElem?_set_ne e]; rfl
  refine ⟨by rw [List.length_set, h.l1], by rw [List.length_set, h.l2], fun k hk => ?_⟩
  rw [gs L' _ _ h.l2 (chg_lt hp hq hk), gs L _ _ h.l1 hk, h.get k hk]
  by_cases e : i = k
  · subst e; rw [if_pos rfl, if_pos rfl]
  · rw [if_neg e, if_neg fun h => e (by have := congrArg (chg p q) h; rwa [chg_chg, chg_chg] at this)]
theorem sw_dos {p q N : Nat} (hp : p < N) (hq : q < N) {b b' : Bs} (h : SwL p q N b.L b'.L) (l : List Ac) (hin : ∀ a ∈ l, 0 ≤ a.n ∧ a.n < (N : Int)) :
    SwL p q N (b.dos l).1.L (b'.dos (l.map (chA p q))).1.L ∧ ∀ i, (b'.dos (l.map (chA p q))).2.testBit i = (b.dos l).2.testBit (chg p q i) := by
  induction l using snocI with
  | h0 => exact ⟨h, fun i => by show Nat.testBit 0 i = Nat.testBit 0 _; simp⟩
  | h l a ih =>
    obtain ⟨h1, h2⟩ := ih fun x hx => hin x (by simp [hx])
    obtain ⟨i, hi⟩ := Int.eq_ofNat_of_zero_le (hin a (by simp)).1
    have hiN : i < N := by have := (hin a (by simp)).2; omega
    rw [List.map_append, List.map_cons, List.map_nil, dos_snoc, dos_snoc]
    unfold Bs.do1
    rw [show (chA p q a).ft = a.ft from rfl, show (chA p q a).f = a.f from rfl, chA_n hi, hi, Int.toNat_natCast, Int.toNat_natCast]
    by_cases hf : a.ft = true
    · rw [if_pos hf, if_pos hf]
      refine ⟨h1, fun j => ?_⟩
      show Nat.testBit (_ ||| _) j = Nat.testBit (_ ||| _) _
      rw [Nat.testBit_or, Nat.testBit_or, h2, Nat.testBit_two_pow, Nat.testBit_two_pow]
      congr 1
      by_cases e : chg p q i = j
      · subst e; simp [chg_chg]
      · have : i ≠ chg p q j := fun e' => e (by rw [e', chg_chg])
        simp [e, this]
    · rw [if_neg hf, if_neg hf]
      refine ⟨?_, h2⟩
      show SwL p q N (List.set _ _ _) (List.set _ _ _)
      rw [h1.get i hiN]
      exact sw_put hp hq hiN h1 _
/-- A run, two nodes being changed for one another. -/
def swR (p q : Nat) (r : Rn) : Rn := { r with d := swD p q r.d }
theorem sw_join {p q : Nat} (hp : p < 32) (hq : q < 32) {rs : List Rn} (h : ∀ r ∈ rs, r.d < 4294967296) {r : Rn} (hr : r.d < 4294967296) : joinR (rs.map (swR p q)) (swR p q r) = (joinR rs r).map (swR p q) := by
  rcases List.eq_nil_or_concat rs with rfl | ⟨ss, y, rfl⟩
  · rfl
  · rw [List.concat_eq_append] at *
    have hy := h y (by simp)
    have snoc : ∀ (ss : List Rn) (y r : Rn), joinR (ss ++ [y]) r = if y.b = r.b ∧ y.d = r.d then ss ++ [⟨y.n + r.n, y.b, y.d⟩] else ss ++ [y] ++ [r] := fun ss y r => by unfold joinR; simp
    rw [List.map_append, List.map_cons, List.map_nil, snoc, snoc]
    have e : (swR p q y).d = (swR p q r).d ↔ y.d = r.d := by
      constructor
      · intro h
        have := congrArg (swD p q) (show swD p q y.d = swD p q r.d from h)
        rwa [swD_swD hp hq hy, swD_swD hp hq hr] at this
      · intro h
        show swD p q y.d = swD p q r.d
        rw [h]
    by_cases c : y.b = r.b ∧ y.d = r.d
    · rw [if_pos c, if_pos ⟨c.1, e.2 c.2⟩, List.map_append]; rfl
    · rw [if_neg c, if_neg fun h' => c ⟨h'.1, e.1 h'.2⟩, List.map_append, List.map_append]; rfl
theorem joinR_d {rs : List Rn} {r : Rn} (h : ∀ y ∈ rs, y.d < 4294967296) (hr : r.d < 4294967296) : ∀ y ∈ joinR rs r, y.d < 4294967296 := by
  rcases List.eq_nil_or_concat rs with rfl | ⟨ss, y, rfl⟩
  · intro y hy
    simp [joinR] at hy
    rw [hy]; exact hr
  · rw [List.concat_eq_append] at *
    have snoc : joinR (ss ++ [y]) r = if y.b = r.b ∧ y.d = r.d then ss ++ [⟨y.n + r.n, y.b, y.d⟩] else ss ++ [y] ++ [r] := by unfold joinR; simp
    rw [snoc]
    have hy := h y (by simp)
    split
    · intro z hz
      rcases List.mem_append.1 hz with hz | hz
      · exact h z (by simp [hz])
      · rw [List.mem_singleton.1 hz]; exact hy
    · intro z hz
      rcases List.mem_append.1 hz with hz | hz
      · exact h z hz
      · rw [List.mem_singleton.1 hz]; exact hr
theorem atT_map (p q : Nat) (l : List Ac) (k : Nat) : atT (l.map (chA p q)) k = (atT l k).map (chA p q) := by
  unfold atT
  rw [List.filter_map]
  rfl
/-- A play, two nodes being changed for one another. -/
structure SwP (p q N : Nat) (a b : Pl) : Prop where
  l : SwL p q N a.b.L b.b.L
  t : b.b.t = a.b.t
  r : b.rs = a.rs.map (swR p q)
  d : ∀ r ∈ a.rs, r.d < 4294967296
  e : b.es.Perm (a.es.map (chE p q))
theorem sw_plays {p q N : Nat} (hp : p < N) (hq : q < N) (hN : N ≤ 32) {l : List Ac} (hin : ∀ a ∈ l, 0 ≤ a.n ∧ a.n < (N : Int)) : ∀ k, SwP p q N (plays N l k) (plays N (l.map (chA p q)) k)
  | 0 => by
    refine ⟨⟨by simp [plays, Bs.new], by simp [plays, Bs.new], fun i hi => ?_⟩, rfl, rfl, fun r h => (by cases h), .refl _⟩
    have g : ∀ j, j < N → (plays N l 0).b.L.getD j Nd.new = Nd.new := fun j hj => by simp [plays, Bs.new, List.getD, hj]
    show (plays N l 0).b.L.getD _ _ = _
    rw [g i hi, g _ (chg_lt hp hq hi)]
  | k + 1 => by
    obtain ⟨h1, h2, h3, h4, h5⟩ := sw_plays hp hq hN hin k
    rw [plays, plays]
    generalize plays N l k = a at *
    generalize plays N (l.map (chA p q)) k = b at *
    obtain ⟨⟨La, ta⟩, ra, ea⟩ := a
    obtain ⟨⟨Lb, tb⟩, rb, eb⟩ := b
    simp only at h1 h2 h3 h4 h5
    subst h2; subst h3
    unfold Pl.next
    simp only
    rw [atT_map]
    obtain ⟨d1, d2⟩ := sw_dos (b := ⟨La, tb⟩) (b' := ⟨Lb, tb⟩) hp hq h1 (atT l tb) fun a ha => hin a (List.mem_filter.1 ha).1
    have t1 := dos_t ⟨La, tb⟩ (atT l tb)
    have t2 := dos_t ⟨Lb, tb⟩ ((atT l tb).map (chA p q))
    generalize Bs.dos ⟨La, tb⟩ (atT l tb) = A at *
    generalize Bs.dos ⟨Lb, tb⟩ ((atT l tb).map (chA p q)) = B at *
    obtain ⟨⟨L, t⟩, x⟩ := A
    obtain ⟨⟨L', t'⟩, x'⟩ := B
    simp only at d1 d2 t1 t2
    subst t1; subst t2
    have hd : drvO L' 0 4294967295 = swD p q (drvO L 0 4294967295) := by rw [drvO_none, drvO_none, d1.l1, d1.l2]; exact d1.drive hp hq hN
    have hdl := drvO_lt L 0 (d := 4294967295) (by omega)
    have hlv : lvO (drvO L' 0 4294967295) = lvO (drvO L 0 4294967295) := by rw [hd]; exact swD_lv (by omega) (by omega) hdl
    refine ⟨?_, rfl, ?_, joinR_d h4 hdl, ?_⟩
    · show SwL p q N (sees _ _ _ _ _) (sees _ _ _ _ _)
      rw [hlv, d1.l1, d1.l2]
      exact d1.sees hp hq d2
    · show joinR _ (Bs.run ⟨L', _⟩ 0 4294967295) = List.map _ (joinR _ (Bs.run ⟨L, _⟩ 0 4294967295))
      rw [← sw_join (by omega) (by omega) h4 hdl]
      congr 1
      unfold Bs.run swR
      simp only
      rw [hlv, hd]
    · show (_ ++ Bs.evs ⟨L', _⟩ x' 0 4294967295).Perm (List.map _ (_ ++ Bs.evs ⟨L, _⟩ x 0 4294967295))
      rw [List.map_append]
      refine h5.append ?_
      unfold Bs.evs
      simp only
      rw [hlv, d1.l1, d1.l2]
      exact sw_tells hp hq d1 d2
end Go.Proofs.YtalpbnfebcafgaaGreat

/- Events compared, and counted. -/
namespace Go.Proofs.YtalpbnfebcafgaaGreat
set_option maxRecDepth 20000
open Go.RowKit
set_option linter.unusedSimpArgs false

/-- Two events are the same. -/
def sameE (e e' : Be) : Bool := ((e.1 : Nat) : Int) == ((e'.1 : Nat) : Int) && (((e.2.1 : Nat) : Int) == ((e'.2.1 : Nat) : Int) && (e.2.2.1 == e'.2.2.1 && e.2.2.2.same e'.2.2.2))
theorem eq33G (a0 a1 a2 a3 a4 a5 a6 a7 b0 b1 b2 b3 b4 b5 b6 b7 : Int) (w : World) : (Op.equalIn 9998 29 (.agg #[.int .u8 a0, .int .u8 a1, .int .u8 a2, .int .u8 a3, .int .u8 a4, .int .u8 a5, .int .u8 a6, .int .u8 a7]) (.agg #[.int .u8 b0, .int .u8 b1, .int .u8 b2, .int .u8 b3, .int .u8 b4, .int .u8 b5, .int .u8 b6, .int .u8 b7])).run Tryz.prog w = .ok ([a0, a1, a2, a3, a4, a5, a6, a7] == [b0, b1, b2, b3, b4, b5, b6, b7]) w := by
  have := eq_array w 9996 [a0, a1, a2, a3, a4, a5, a6, a7] [b0, b1, b2, b3, b4, b5, b6, b7] rfl rfl
  simpa using this
theorem beveqIn (t n k t' n' k' : Int) (f g : Fr) (w : World) : (Op.equalIn 10000 41 (.agg #[.int .i64 t, .int .i64 n, .int .i64 k, .int .i64 f.id, .bool f.ext, .bool f.rtr, .int .i64 f.len, .int .u8 (f.d 0), .int .u8 (f.d 1), .int .u8 (f.d 2), .int .u8 (f.d 3), .int .u8 (f.d 4), .int .u8 (f.d 5), .int .u8 (f.d 6), .int .u8 (f.d 7)]) (.agg #[.int .i64 t', .int .i64 n', .int .i64 k', .int .i64 g.id, .bool g.ext, .bool g.rtr, .int .i64 g.len, .int .u8 (g.d 0), .int .u8 (g.d 1), .int .u8 (g.d 2), .int .u8 (g.d 3), .int .u8 (g.d 4), .int .u8 (g.d 5), .int .u8 (g.d 6), .int .u8 (g.d 7)])).run Tryz.prog w = .ok (t == t' && (n == n' && (k == k' && f.same g))) w := by
  have h33 := eq33G
  by_cases e1 : t = t'
  · by_cases e2 : n = n'
    · by_cases e3 : k = k'
      · subst e1; subst e2; subst e3
        by_cases h1 : f.id = g.id
        · by_cases h2 : f.ext = g.ext
          · by_cases h3 : f.rtr = g.rtr
            · by_cases h4 : f.len = g.len
              · go_simp
                unfold Fr.same
                simp only [h1, h2, h3, h4, BEq.rfl, Bool.true_and, List.cons_beq_cons, Bool.and_true]
                split <;> simp_all
              · have : f.same g = false := by unfold Fr.same; simp [h4]
                go_simp
            · have : f.same g = false := by unfold Fr.same; simp [h3]
              go_simp
          · have : f.same g = false := by unfold Fr.same; simp [h2]
            go_simp
        · have : f.same g = false := by unfold Fr.same; simp [h1]
          go_simp
      · go_simp
    · go_simp
  · go_simp
theorem beveqG (e e' : Be) (w : World) : (binOp .eql 41 (.agg (becs e).toArray) (.agg (becs e').toArray)).run Tryz.prog w = .ok (.bool (sameE e e')) w := by
  rw [run_eql_struct, beveqIn]; rfl
theorem shl_form {x : Nat} (hx : x < 4294967296) {y : Int} (h : y = (x : Int)) : y % 4294967296 = (x : Int) := by subst h; omega
theorem count_step (f : Be → Bool) (es : List Be) {j : Nat} {e : Be} (h : es[j]? = some e) : ((es.take (j + 1)).countP f : Nat) = (es.take j).countP f + if f e then 1 else 0 := by
  rw [List.take_add_one, h]
  simp only [Option.toList_some]
  rw [List.countP_append, List.countP_singleton]
theorem count_same {p q : Nat} {es es' : List Be} (h : es'.Perm (es.map (chE p q))) (y : Be) : es'.countP (fun s => sameE s y) = es.countP (fun s => sameE (chE p q s) y) := by
  rw [h.countP_eq, List.countP_map]
  rfl
end Go.Proofs.YtalpbnfebcafgaaGreat

