/- A frame's way over the bus: which of its own levels there are behind so many levels. -/
import Derived.Test.YtalpbnfebcafgaaGreatY1
import Derived.Test.YtalpbnfebcafgaaGreatY4
namespace Go.Proofs.YtalpbnfebcafgaaGreat
set_option maxRecDepth 20000

def slt (b : Bool) : Int := if b then 0 else 1
theorem enc_def (f : Fr) (b : Bool) : enc f b = stf (raw f) ++ ten (slt b) := by cases b <;> rfl
/-- How many levels a frame has on the bus up to its sum. -/
def sl_ (f : Fr) : Nat := (stf (raw f)).length
theorem ten_len (s : Int) : (ten s).length = 10 := rfl
theorem enc_ln (f : Fr) (b : Bool) : (enc f b).length = sl_ f + 10 := by rw [enc_def, List.length_append]; rfl

/-- Behind k levels of the frame's there are its own levels o. -/
def Way (f : Fr) (b : Bool) (k : Nat) (o : List Int) : Prop :=
  1 ≤ k ∧ ((k ≤ sl_ f ∧ ∃ j, 1 ≤ j ∧ j ≤ (raw f).length ∧ o = (raw f).take j ∧ (stf o = (enc f b).take k ∨ alk ((enc f b).take k) = 5 ∧ stf o = (enc f b).take k ++ [1 - lst ((enc f b).take k)])) ∨
    (sl_ f < k ∧ k ≤ sl_ f + 10 ∧ o = raw f ++ (ten (slt b)).take (k - sl_ f)))

theorem gd_left {a b : List Int} {n : Nat} (h : n < a.length) : (a ++ b).getD n 0 = a.getD n 0 := by simp [List.getD, List.getElem?_append_left h]
theorem gd_right {a b : List Int} {n : Nat} (h : a.length ≤ n) : (a ++ b).getD n 0 = b.getD (n - a.length) 0 := by simp [List.getD, List.getElem?_append_right h]
theorem gd_mem {a : List Int} {n : Nat} (h : n < a.length) : a.getD n 0 ∈ a := by
  have e : a.getD n 0 = a[n] := by simp [h]
  rw [e]; exact List.getElem_mem h
theorem take_pre {a r : List Int} {k : Nat} (h : k ≤ a.length) : (a ++ r).take k = a.take k := by rw [List.take_append_of_le_length h]
section
variable {f : Fr} (hm : f.may = true)
include hm
theorem raw_low {j : Nat} (h : j < (raw f).length) : kd ((raw f).take j) ≤ 4 := (raw_upto hm).low j h
theorem raw_le5 (j : Nat) : kd ((raw f).take j) ≤ 5 := by
  rcases Nat.lt_or_ge j (raw f).length with h1 | h1
  · have := raw_low hm h1; omega
  · rw [List.take_of_length_le h1, kd_raw hm]; exact Nat.le_refl _
omit hm in
theorem stf_pre (a b : List Int) : (stf a).length ≤ (stf (a ++ b)).length ∧ (stf (a ++ b)).take (stf a).length = stf a := by
  obtain ⟨r, hr⟩ := stf_more a b
  rw [hr]
  exact ⟨by rw [List.length_append]; omega, List.take_left⟩
omit hm in
theorem raw_split {j : Nat} : (raw f) = (raw f).take j ++ (raw f).drop j := (List.take_append_drop _ _).symm
omit hm in
theorem stf_take (j : Nat) (b : Bool) : (stf ((raw f).take j)).length ≤ sl_ f ∧ (enc f b).take (stf ((raw f).take j)).length = stf ((raw f).take j) := by
  have h := stf_pre ((raw f).take j) ((raw f).drop j)
  rw [List.take_append_drop] at h
  refine ⟨h.1, ?_⟩
  rw [enc_def, take_pre h.1, h.2]
omit hm in
theorem raw_pos : 1 ≤ (raw f).length := by rw [raw_len, bts_len]; omega
theorem raw_head : (raw f).take 1 = [0] := by
  have h0 := (raw_upto hm).zero
  have h1 := raw_pos (f := f)
  have hl := (raw_upto hm).lev
  cases hr : raw f with
  | nil => rw [hr] at h1; simp at h1
  | cons a l =>
    rw [hr] at h0 hl
    have ha := hl a (by simp)
    rcases lvl_01 ha with e | e
    · rw [e]; rfl
    · subst e; exact absurd h0 (show ¬ one (1 :: l) 0 = false by unfold one; simp)
theorem way_one (b : Bool) : Way f b 1 [0] := by
  have h1 := raw_head hm
  have h2 := stf_take (f := f) 1 b
  rw [h1] at h2
  have e : stf [0] = [0] := rfl
  rw [e] at h2
  exact ⟨Nat.le_refl _, .inl ⟨h2.1, 1, Nat.le_refl _, raw_pos, h1.symm, .inl (by rw [e]; exact h2.2.symm)⟩⟩
theorem way_enc0 (b : Bool) : (enc f b).take 1 = [0] := by
  have h2 := stf_take (f := f) 1 b
  rw [raw_head hm] at h2
  exact h2.2
omit hm in
theorem take_get {l : List Int} {k : Nat} (h : k < l.length) : l.take (k + 1) = l.take k ++ [l.getD k 0] := by
  rw [List.take_add_one, List.getElem?_eq_getElem h]
  simp [h]
omit hm in
theorem get_of {l a : List Int} {k : Nat} {x : Int} (h : l.take (k + 1) = a ++ [x]) (ha : a.length = k) (hk : k < l.length) : l.getD k 0 = x := by
  rw [take_get hk] at h
  have := List.append_inj_right h (by rw [List.length_take]; omega)
  simpa using this
/-- One level more. -/
theorem way_step {b : Bool} {k : Nat} {o : List Int} (h : Way f b k o) (hk : k < sl_ f + 10) :
    lvl ((enc f b).getD k 0) = true ∧
    ((kd o ≤ 5 ∧ alk ((enc f b).take k) = 5 ∧ (enc f b).getD k 0 = 1 - lst ((enc f b).take k) ∧ Way f b (k + 1) o ∧ k < sl_ f) ∨
     (¬ (kd o ≤ 5 ∧ alk ((enc f b).take k) = 5) ∧ o.length < (raw f).length + 10 ∧ (enc f b).getD k 0 = (raw f ++ ten (slt b)).getD o.length 0 ∧ Way f b (k + 1) (o ++ [(enc f b).getD k 0]) ∧
      ((k < sl_ f ∧ kd o ≤ 4 ∧ kd (o ++ [(enc f b).getD k 0]) ≤ 5 ∧ o.length < (raw f).length) ∨ (sl_ f ≤ k ∧ o = raw f ++ (ten (slt b)).take (k - sl_ f))))) := by
  obtain ⟨h1, h2⟩ := h
  have hlen := enc_ln f b
  have hkl : k < (enc f b).length := by omega
  have hall : ∀ z ∈ enc f b, lvl z = true := by
    rw [enc_def]
    exact all_append (stf_lvl _ (raw_all f)) (by cases b <;> decide)
  refine ⟨?_, ?_⟩
  · refine hall _ ?_
    exact gd_mem hkl
  rcases h2 with ⟨hks, j, hj1, hj2, rfl, ht⟩ | ⟨hks, hk10, rfl⟩
  · rcases ht with ht | ⟨h5, ht⟩
    · have ha : alk ((enc f b).take k) ≤ 4 := by rw [← ht]; exact alk_stf _
      have hsl : (stf ((raw f).take j)).length = k := by rw [ht, List.length_take]; omega
      refine .inr ⟨fun x => by omega, by rw [List.length_take]; omega, ?_⟩
      rcases Nat.lt_or_ge j (raw f).length with hj | hj
      · have ho := take_get hj
        have hst : stf ((raw f).take (j + 1)) = sput (stf ((raw f).take j)) ((raw f).getD j 0) := by rw [ho, stf_snoc]
        have hx := stf_take (f := f) (j + 1) b
        have hz : (enc f b).getD k 0 = (raw f).getD j 0 ∧ k < sl_ f ∧ (stf ((raw f).take (j + 1)) = (enc f b).take (k + 1) ∨ alk ((enc f b).take (k + 1)) = 5 ∧ stf ((raw f).take (j + 1)) = (enc f b).take (k + 1) ++ [1 - lst ((enc f b).take (k + 1))]) := by
          by_cases h5 : alk (stf ((raw f).take j) ++ [(raw f).getD j 0]) = 5
          · rw [sput_five h5] at hst
            have hle : k + 2 ≤ sl_ f := by
              have := hx.1
              rw [hst] at this
              simp only [List.length_append, List.length_singleton, hsl] at this
              omega
            have hE : (enc f b).take (k + 1) = stf ((raw f).take j) ++ [(raw f).getD j 0] := by
              have h3 := hx.2
              rw [hst] at h3
              have h4 := congrArg (List.take (k + 1)) h3
              rw [List.take_take, List.length_append, List.length_append, hsl] at h4
              simp only [List.length_singleton] at h4
              rw [Nat.min_eq_left (by omega)] at h4
              rw [h4, List.take_left' (by rw [List.length_append, hsl]; rfl)]
            refine ⟨get_of hE hsl hkl, by omega, .inr ⟨by rw [hE]; exact h5, ?_⟩⟩
            rw [hE, lst_snoc]; exact hst
          · rw [sput_else h5] at hst
            have hle : k + 1 ≤ sl_ f := by
              have := hx.1
              rw [hst] at this
              simp only [List.length_append, List.length_singleton, hsl] at this
              omega
            have hE : (enc f b).take (k + 1) = stf ((raw f).take j) ++ [(raw f).getD j 0] := by
              have h3 := hx.2
              rw [hst, List.length_append, hsl] at h3
              exact h3
            exact ⟨get_of hE hsl hkl, by omega, .inl (by rw [hE]; exact hst)⟩
        obtain ⟨hz1, hz2, hz3⟩ := hz
        have hol : ((raw f).take j).length = j := by rw [List.length_take]; omega
        rw [hz1, hol]
        refine ⟨?_, ?_, .inl ⟨hz2, raw_low hm hj, ?_, hj⟩⟩
        · rw [gd_left hj]
        · rw [← ho]
          exact ⟨by omega, .inl ⟨by omega, j + 1, by omega, by omega, rfl, hz3⟩⟩
        · rw [← ho]; exact raw_le5 hm _
      · have hj' : j = (raw f).length := by omega
        subst hj'
        rw [List.take_length] at ht hsl ⊢
        have hks' : k = sl_ f := hsl.symm
        have hE : (enc f b).getD k 0 = (ten (slt b)).getD 0 0 := by
          rw [enc_def, gd_right (by rw [hks']; exact Nat.le_refl _), hks']
          unfold sl_
          rw [Nat.sub_self]
        refine ⟨?_, ?_, .inr ⟨by omega, by rw [hks', Nat.sub_self]; simp⟩⟩
        · rw [hE, gd_right (Nat.le_refl _), Nat.sub_self]
        · refine ⟨by omega, .inr ⟨by omega, by omega, ?_⟩⟩
          rw [hE, hks', show sl_ f + 1 - sl_ f = 1 by omega]
          rfl
    · have hst : (stf ((raw f).take j)).length = k + 1 := by rw [ht, List.length_append, List.length_take]; simp; omega
      have hx := stf_take (f := f) j b
      rw [hst] at hx
      have hE : (enc f b).take (k + 1) = (enc f b).take k ++ [1 - lst ((enc f b).take k)] := hx.2.trans ht
      have hz := get_of hE (by rw [List.length_take]; omega) hkl
      refine .inl ⟨raw_le5 hm _, h5, hz, ⟨by omega, .inl ⟨by omega, j, hj1, hj2, rfl, .inl hx.2.symm⟩⟩, by omega⟩
  · have hi : 1 ≤ k - sl_ f := by omega
    have hkd : kd (raw f ++ (ten (slt b)).take (k - sl_ f)) = tl (k - sl_ f) := by
      rw [kd_tail hm _ (by rw [List.length_take, ten_len]; omega), List.length_take, ten_len, Nat.min_eq_left (by omega)]
    have h6 : 6 ≤ kd (raw f ++ (ten (slt b)).take (k - sl_ f)) := by
      rw [hkd]; unfold tl
      split
      · omega
      · split <;> omega
    have hol : (raw f ++ (ten (slt b)).take (k - sl_ f)).length = (raw f).length + (k - sl_ f) := by rw [List.length_append, List.length_take, ten_len]; omega
    have hE : (enc f b).getD k 0 = (ten (slt b)).getD (k - sl_ f) 0 := by
      rw [enc_def, gd_right (by unfold sl_ at hks; omega)]
      rfl
    refine .inr ⟨fun x => by omega, by rw [hol]; omega, ?_, ⟨by omega, .inr ⟨by omega, by omega, ?_⟩⟩, .inr ⟨by omega, rfl⟩⟩
    · rw [hE, hol, gd_right (by omega)]
      congr 1
      omega
    · rw [hE, List.append_assoc, show k + 1 - sl_ f = k - sl_ f + 1 by omega, take_get (by rw [ten_len]; omega)]
end
end Go.Proofs.YtalpbnfebcafgaaGreat

/- A node on a frame's way: as it receives, and as it sends. -/
namespace Go.Proofs.YtalpbnfebcafgaaGreat
set_option maxRecDepth 20000

section
variable {f : Fr} (hm : f.may = true)
include hm
theorem raw_hdr (x : List Int) : ∃ n i : Nat, f.len = (n : Int) ∧ n ≤ 8 ∧ f.id = (i : Int) ∧ raw f ++ x = hdr f n (ofB (csum (bts f)) 15 ++ x) := by
  obtain ⟨n, hn, h8⟩ := len_nat hm
  obtain ⟨i, hi⟩ := id_nat hm
  refine ⟨n, i, hn, h8, hi, ?_⟩
  unfold raw
  rw [List.append_assoc, bts_hdr hn (by omega)]
theorem raw_ahead (x : List Int) : ahead (raw f ++ x) = (bts f).length ∧ hEx (raw f ++ x) = f.ext ∧ one (raw f ++ x) 0 = false := by
  obtain ⟨n, i, hn, h8, hi, e⟩ := raw_hdr hm x
  rw [e]
  exact ⟨by rw [hdr_ahead hi (by omega) hn (by omega), bts_len], hdr_ext hi, hdr_zero⟩
theorem raw_rok2 (x : List Int) : rok (raw f ++ x) = true := by
  obtain ⟨h1, h2, h3⟩ := raw_ahead hm x
  unfold rok
  rw [h1, h2, decide_eq_false (by rw [List.length_append, raw_len, bts_len]; omega)]
  have e : (raw f ++ x).take ((bts f).length + 15) = raw f := by rw [← raw_len]; exact List.take_left
  rw [e]
  unfold raw
  rw [rgt_own _ (bts_all f) (csum_lt _)]
  simp
theorem raw_fF (hwf : f.wf) (x : List Int) : (fF (raw f ++ x)).val = f.val := by
  obtain ⟨h1, h2, h3⟩ := raw_ahead hm x
  unfold fF
  rw [if_neg]
  · exact raw_frame hm hwf x
  · rw [h1, h2, h3, List.length_append, raw_len, bts_len]
    intro h
    rcases h with h | h | h
    · omega
    · omega
    · cases h
omit hm in
theorem nx_pl (a c d j : Nat) (h3 : 3 ≤ j) (h : j ≤ 9) : (nx (wds a c d) (1 + a + c + d + 15 + j) 0).2 = j - 3 := by
  unfold wds
  simp only [nx]
  rw [if_neg (by omega), if_neg (by omega), if_neg (by omega), if_neg (by omega), if_neg (by omega)]
  rw [show 1 + a + c + d + 15 + j - 1 - a - c - d - 15 = j by omega]
  have : j = 3 ∨ j = 4 ∨ j = 5 ∨ j = 6 ∨ j = 7 ∨ j = 8 ∨ j = 9 := by omega
  rcases this with rfl | rfl | rfl | rfl | rfl | rfl | rfl <;> rfl
theorem pl_tail (x : List Int) (h3 : 3 ≤ x.length) (h : x.length ≤ 9) : pl (raw f ++ x) = x.length - 3 := by
  unfold pl
  rw [raw_W hm, List.length_append, raw_len2, nx_pl _ _ _ _ h3 h]
end

/-- A node in a frame: behind the levels t, of which o are the frame's. -/
def Nd.at_ (c : Nd) (o t : List Int) (tx : Bool) (F : Fr) (L : List Int) : Nd :=
  ⟨2, 0, 0, 0, false, false, o, (kd o : Nat), (pl o : Nat), lst t, (alk t : Nat), F, L, tx, c.ct, c.q⟩
section
variable {c : Nd} {o t L : List Int} {tx : Bool} {F : Fr} {z : Int}
theorem at_added : (c.at_ o t tx F L).added = decide (kd o ≤ 5 ∧ alk t = 5) := by
  unfold Nd.added Nd.at_
  by_cases h1 : kd o ≤ 5
  · by_cases h2 : alk t = 5
    · simp [h1, h2]; omega
    · simp [h2]; omega
  · simp [h1]; omega
theorem tl_alk (t : List Int) (z : Int) : tlN (lst t) (alk t : Nat) z = (alk (t ++ [z]) : Nat) := by
  by_cases h : z = lst t
  · rw [alk_same h, tlN, if_pos h]; omega
  · rw [alk_other h, tlN, if_neg h]; rfl
theorem at_take_yes (h : kd o ≤ 5 ∧ alk t = 5) : (c.at_ o t tx F L).take z = c.at_ o (t ++ [z]) tx F L := by
  unfold Nd.take
  rw [at_added, decide_eq_true h, if_pos rfl]
  unfold Nd.told Nd.at_
  simp only [Nd.mk.injEq, true_and, and_true]
  exact ⟨(lst_snoc _ _).symm, tl_alk t z⟩
theorem at_take_no (h : ¬ (kd o ≤ 5 ∧ alk t = 5)) : (c.at_ o t tx F L).take z = c.at_ (o ++ [z]) (t ++ [z]) tx F L := by
  unfold Nd.take
  rw [at_added, decide_eq_false h, if_neg (by simp)]
  unfold Nd.told Nd.takeOwn Nd.at_
  simp only [Nd.mk.injEq, true_and, and_true]
  exact ⟨(lst_snoc _ _).symm, tl_alk t z⟩
theorem begin_at (n : Nd) (may : Bool) : n.begin_ may = n.at_ [0] [0] (may && decide (0 < n.q.length)) (if may && decide (0 < n.q.length) then n.q.headD Fr.zero else Fr.zero) (if may && decide (0 < n.q.length) then alls (n.q.headD Fr.zero) else []) := rfl
theorem at_drv : (c.at_ o t tx F L).drvIn = if tx && decide (kd o ≤ 5 ∧ alk t = 5) then oth (lst t) else if tx then L.getD o.length 0 else if kd o = 6 ∧ rok o = true then 0 else 1 := by
  unfold Nd.drvIn
  rw [at_added]
  show (if tx && decide (kd o ≤ 5 ∧ alk t = 5) then oth (lst t) else if tx then L.getD o.length 0 else if ((kd o : Nat) : Int) == 6 && rok o then 0 else 1) = _
  split
  · rfl
  · split
    · rfl
    · by_cases h6 : kd o = 6
      · cases hr : rok o <;> simp [h6]
      · rw [if_neg (by simp; omega), if_neg (by simp [h6])]
/-- What is behind a level that is taken. -/
theorem at_onto (h9 : kd o ≠ 9) (h8 : ¬ (kd o = 8 ∧ pl o = 6 ∧ tx = false)) : (c.at_ o t tx F L).onto = ([], c.at_ o t tx F L) := by
  unfold Nd.onto
  rw [if_neg (show ¬ (c.at_ o t tx F L).kind = 9 from fun e => h9 (by have e' : ((kd o : Nat) : Int) = 9 := e; omega)), if_neg]
  rintro ⟨a, b, e⟩
  have a' : ((kd o : Nat) : Int) = 8 := a
  have b' : ((pl o : Nat) : Int) = 6 := b
  exact h8 ⟨by omega, by omega, e⟩
theorem oth_flip (t : List Int) (h : lvl (lst t) = true) : oth (lst t) = 1 - lst t := by
  rcases lvl_01 h with e | e <;> rw [e] <;> rfl
theorem at_two : (c.at_ o t tx F L).mode = 2 := rfl
theorem stp_two {n : Nd} (h : n.mode = 2) : n.stp z = n.inF z := by unfold Nd.stp; simp [h]
theorem at_recv (h8 : ¬ (kd o = 8 ∧ z = 0)) (hw : (c.at_ o t tx F L).wrongK z = 0) : (c.at_ o t tx F L).recv z = (c.at_ o t tx F L).goOn z := by
  unfold Nd.recv
  rw [if_neg, if_neg (fun h => h hw)]
  rintro ⟨a, _, e⟩
  have a' : ((kd o : Nat) : Int) = 8 := a
  exact h8 ⟨by omega, e⟩
theorem at_inF_rx : (c.at_ o t false F L).inF z = (c.at_ o t false F L).recv z := rfl
theorem at_wrong : (c.at_ o t tx F L).wrongK z = if (c.at_ o t tx F L).drvIn < z then 4 else if kd o ≤ 5 ∧ alk t = 5 then (if z = lst t then 5 else 0)
    else if kd o = 5 ∨ kd o = 7 ∨ kd o = 8 then (if z = 0 then 7 else if kd o = 7 ∧ rok o = false then 6 else 0) else 0 := by
  unfold Nd.wrongK
  rw [at_added]
  have e5 : ((c.at_ o t tx F L).kind = 5 ∨ (c.at_ o t tx F L).kind = 7 ∨ (c.at_ o t tx F L).kind = 8) ↔ (kd o = 5 ∨ kd o = 7 ∨ kd o = 8) := by
    show (((kd o : Nat) : Int) = 5 ∨ ((kd o : Nat) : Int) = 7 ∨ ((kd o : Nat) : Int) = 8) ↔ _
    omega
  have e7 : ((c.at_ o t tx F L).kind = 7 ∧ rok (c.at_ o t tx F L).own = false) ↔ (kd o = 7 ∧ rok o = false) := by
    show (((kd o : Nat) : Int) = 7 ∧ rok o = false) ↔ _
    constructor
    · rintro ⟨a, b⟩; exact ⟨by omega, b⟩
    · rintro ⟨a, b⟩; exact ⟨by omega, b⟩
  simp only [e5, e7, decide_eq_true_eq]
  rfl
end

section
variable {f : Fr} (hm : f.may = true) {c : Nd} {o L : List Int} {F : Fr} {k : Nat}
include hm
/-- The levels of the fields behind the sum. -/
theorem way_tail {b : Bool} (hk : sl_ f ≤ k) (ho : o = raw f ++ (ten (slt b)).take (k - sl_ f)) (hk9 : k < sl_ f + 10) :
    kd o = tl (k - sl_ f) ∧ rok o = true ∧ (enc f b).getD k 0 = (ten (slt b)).getD (k - sl_ f) 0 ∧ (3 ≤ k - sl_ f → pl o = k - sl_ f - 3) := by
  have hl : ((ten (slt b)).take (k - sl_ f)).length = k - sl_ f := by rw [List.length_take, ten_len]; omega
  refine ⟨?_, ?_, ?_, fun h3 => ?_⟩
  · rw [ho, kd_tail hm _ (by omega), hl]
  · rw [ho]; exact raw_rok2 hm _
  · rw [enc_def, gd_right (by unfold sl_ at hk; omega)]; rfl
  · rw [ho, pl_tail hm _ (by omega) (by omega), hl]
omit hm in
theorem ten_get (s : Int) (i : Nat) (h : i < 10) : (ten s).getD i 0 = if i = 1 then s else 1 := by
  have : i = 0 ∨ i = 1 ∨ i = 2 ∨ i = 3 ∨ i = 4 ∨ i = 5 ∨ i = 6 ∨ i = 7 ∨ i = 8 ∨ i = 9 := by omega
  rcases this with rfl | rfl | rfl | rfl | rfl | rfl | rfl | rfl | rfl | rfl <;> rfl
omit hm in
theorem tl_cases {i : Nat} (h : i < 10) : (i = 0 ∧ tl i = 5) ∨ (i = 1 ∧ tl i = 6) ∨ (i = 2 ∧ tl i = 7) ∨ (3 ≤ i ∧ tl i = 8) := by
  unfold tl
  rcases Nat.lt_or_ge i 3 with h3 | h3
  · rw [if_pos h3]; omega
  · rw [if_neg (by omega), if_pos h]; omega

/-- What one that receives drives. -/
theorem way_rx_drv {b : Bool} (hw : Way f b k o) (hk : k < sl_ f + 10) : (c.at_ o ((enc f b).take k) false F L).drvIn = if k = sl_ f + 1 then 0 else 1 := by
  rw [at_drv]
  obtain ⟨_, h⟩ := way_step hm hw hk
  rcases h with ⟨h1, h2, h3, h4, h5⟩ | ⟨h1, h2, h3, h4, h5⟩
  · rw [if_neg (by simp), if_neg (by simp), if_neg (by omega), if_neg (by omega)]
  · rcases h5 with ⟨h6, h7, h8, h9⟩ | ⟨h6, h7⟩
    · rw [if_neg (by simp), if_neg (by simp), if_neg (by omega), if_neg (by omega)]
    · obtain ⟨t1, t2, t3, t4⟩ := way_tail hm h6 h7 hk
      rw [if_neg (by simp), if_neg (by simp), t1, t2]
      rcases tl_cases (i := k - sl_ f) (by omega) with ⟨a, e⟩ | ⟨a, e⟩ | ⟨a, e⟩ | ⟨a, e⟩
      · rw [e, if_neg (by simp), if_neg (by omega)]
      · rw [e, if_pos (by simp), if_pos (by omega)]
      · rw [e, if_neg (by simp), if_neg (by omega)]
      · rw [e, if_neg (by simp), if_neg (by omega)]
/-- A level that goes on, along the way. -/
theorem way_onto {b : Bool} {tx : Bool} (hw : Way f b k o) (hk : k < sl_ f + 10) :
    ∃ o', Way f b (k + 1) o' ∧ (c.at_ o ((enc f b).take k) tx F L).goOn ((enc f b).getD k 0) = (c.at_ o' ((enc f b).take (k + 1)) tx F L).onto ∧
      (k < sl_ f → kd o' ≤ 5) ∧ (sl_ f ≤ k → o' = raw f ++ (ten (slt b)).take (k + 1 - sl_ f)) := by
  obtain ⟨_, h⟩ := way_step hm hw hk
  have hE : (enc f b).take (k + 1) = (enc f b).take k ++ [(enc f b).getD k 0] := take_get (by rw [enc_ln]; exact hk)
  rcases h with ⟨h1, h2, h3, h4, h5⟩ | ⟨h1, h2, h3, h4, h5⟩
  · refine ⟨o, h4, ?_, fun _ => h1, fun h => by omega⟩
    unfold Nd.goOn
    rw [at_take_yes ⟨h1, h2⟩, hE]
  · refine ⟨_, h4, ?_, fun h => ?_, fun h => ?_⟩
    · unfold Nd.goOn
      rw [at_take_no h1, hE]
    · rcases h5 with ⟨_, _, h8, _⟩ | ⟨h6, _⟩
      · exact h8
      · omega
    · rcases h5 with ⟨h6, _⟩ | ⟨h6, h7⟩
      · omega
      · obtain ⟨t1, t2, t3, t4⟩ := way_tail hm h6 h7 hk
        rw [t3, show k + 1 - sl_ f = k - sl_ f + 1 by omega, take_get (by rw [ten_len]; omega)]
        exact (congrArg (· ++ _) h7).trans (List.append_assoc _ _ _)
theorem way_kd {b : Bool} (hk : k ≤ sl_ f + 9) (ho : sl_ f < k → o = raw f ++ (ten (slt b)).take (k - sl_ f)) (h5 : k ≤ sl_ f → kd o ≤ 5) : kd o ≠ 9 ∧ (kd o = 8 ∧ pl o = 6 → k = sl_ f + 9) := by
  rcases Nat.lt_or_ge (sl_ f) k with h | h
  · obtain ⟨t1, t2, t3, t4⟩ := way_tail hm (by omega) (ho h) (by omega)
    rcases tl_cases (i := k - sl_ f) (by omega) with ⟨a, e⟩ | ⟨a, e⟩ | ⟨a, e⟩ | ⟨a, e⟩
    · omega
    · exact ⟨by omega, fun h => by omega⟩
    · exact ⟨by omega, fun h => by omega⟩
    · exact ⟨by omega, fun h => by have := t4 a; omega⟩
  · have := h5 h
    exact ⟨by omega, fun h => by omega⟩
omit hm in
theorem way_lvl {b : Bool} (hk : k < sl_ f + 10) : lvl ((enc f b).getD k 0) = true := by
  have hall : ∀ z ∈ enc f b, lvl z = true := by
    rw [enc_def]
    exact all_append (stf_lvl _ (raw_all f)) (by cases b <;> decide)
  exact hall _ (gd_mem (by rw [enc_ln]; exact hk))
/-- Nothing is wrong, along the way. -/
theorem way_right (hw : Way f true k o) (hk : k < sl_ f + 10) : (c.at_ o ((enc f true).take k) false F L).wrongK ((enc f true).getD k 0) = 0 ∧ ¬ (kd o = 8 ∧ (enc f true).getD k 0 = 0) := by
  have hd := way_rx_drv (c := c) (L := L) (F := F) hm hw hk
  have hl := way_lvl (b := true) hk
  rw [at_wrong, hd]
  obtain ⟨_, h⟩ := way_step hm hw hk
  rcases h with ⟨h1, h2, h3, h4, h5⟩ | ⟨h1, h2, h3, h4, h5⟩
  · refine ⟨?_, fun h => by omega⟩
    rw [if_neg (show ¬ k = sl_ f + 1 by omega), if_neg (by rcases lvl_01 hl with e | e <;> rw [e] <;> omega), if_pos ⟨h1, h2⟩, if_neg (by omega)]
  · rcases h5 with ⟨h6, h7, h8, h9⟩ | ⟨h6, h7⟩
    · refine ⟨?_, fun h => by omega⟩
      rw [if_neg (show ¬ k = sl_ f + 1 by omega), if_neg (by rcases lvl_01 hl with e | e <;> rw [e] <;> omega), if_neg h1, if_neg (by omega)]
    · obtain ⟨t1, t2, t3, t4⟩ := way_tail hm h6 h7 hk
      rw [t3, ten_get _ _ (by omega), show slt true = 0 from rfl]
      rcases tl_cases (i := k - sl_ f) (by omega) with ⟨a, e⟩ | ⟨a, e⟩ | ⟨a, e⟩ | ⟨a, e⟩
      · rw [if_neg (show ¬ k - sl_ f = 1 by omega), if_neg (show ¬ k = sl_ f + 1 by omega), if_neg (by omega), if_neg h1]
        refine ⟨?_, fun h => by omega⟩
        rw [if_pos (by omega), if_neg (by omega), if_neg (by omega)]
      · rw [if_pos (show k - sl_ f = 1 by omega), if_pos (show k = sl_ f + 1 by omega), if_neg (by omega), if_neg h1]
        refine ⟨?_, fun h => by omega⟩
        rw [if_neg (by omega)]
      · rw [if_neg (show ¬ k - sl_ f = 1 by omega), if_neg (show ¬ k = sl_ f + 1 by omega), if_neg (by omega), if_neg h1]
        refine ⟨?_, fun h => by omega⟩
        rw [if_pos (by omega), if_neg (by omega), if_neg (by rw [t2]; simp)]
      · rw [if_neg (show ¬ k - sl_ f = 1 by omega), if_neg (show ¬ k = sl_ f + 1 by omega), if_neg (by omega), if_neg h1]
        refine ⟨?_, fun h => by omega⟩
        rw [if_pos (by omega), if_neg (by omega), if_neg (by omega)]
/-- One that receives, level by level. -/
theorem way_rx (hw : Way f true k o) (hk : k < sl_ f + 8) : ∃ o', Way f true (k + 1) o' ∧ (c.at_ o ((enc f true).take k) false F L).stp ((enc f true).getD k 0) = ([], c.at_ o' ((enc f true).take (k + 1)) false F L) := by
  obtain ⟨h1, h2⟩ := way_right (c := c) (L := L) (F := F) hm hw (by omega)
  obtain ⟨o', w1, w2, w3, w4⟩ := way_onto (c := c) (L := L) (F := F) (tx := false) hm hw (by omega)
  obtain ⟨k1, k2⟩ := way_kd hm (b := true) (k := k + 1) (o := o') (by omega) (fun h => w4 (by omega)) (fun h => w3 (by omega))
  refine ⟨o', w1, ?_⟩
  rw [stp_two rfl, at_inF_rx, at_recv h2 h1, w2, at_onto k1 (fun h => by have := k2 ⟨h.1, h.2.1⟩; omega)]
omit hm in
theorem at_got {o t : List Int} (h8 : kd o = 8) (h6 : pl o = 6) : (c.at_ o t false F L).onto = ([(2, fF o)], ({ c with ct := c.ct.rcv } : Nd).at_ o t false F L) := by
  unfold Nd.onto
  rw [if_neg (show ¬ (c.at_ o t false F L).kind = 9 from fun e => by have e' : ((kd o : Nat) : Int) = 9 := e; omega), if_pos ⟨show ((kd o : Nat) : Int) = 8 by omega, show ((pl o : Nat) : Int) = 6 by omega, rfl⟩]
  rfl
theorem way_got (hwf : f.wf) (hw : Way f true k o) (hk : k = sl_ f + 8) : ∃ o' g, Way f true (k + 1) o' ∧ (c.at_ o ((enc f true).take k) false F L).stp ((enc f true).getD k 0) = ([(2, g)], ({ c with ct := c.ct.rcv } : Nd).at_ o' ((enc f true).take (k + 1)) false F L) ∧ g.val = f.val := by
  obtain ⟨h1, h2⟩ := way_right (c := c) (L := L) (F := F) hm hw (by omega)
  obtain ⟨o', w1, w2, w3, w4⟩ := way_onto (c := c) (L := L) (F := F) (tx := false) hm hw (by omega)
  have ho := w4 (by omega)
  obtain ⟨t1, t2, t3, t4⟩ := way_tail hm (b := true) (k := k + 1) (o := o') (by omega) ho (by omega)
  refine ⟨o', fF o', w1, ?_, ?_⟩
  · rw [stp_two rfl, at_inF_rx, at_recv h2 h1, w2, at_got]
    · rw [t1, show k + 1 - sl_ f = 9 by omega]; rfl
    · rw [t4 (by omega)]; omega
  · rw [ho]; exact raw_fF hm hwf _
theorem way_end {b tx : Bool} {o : List Int} (ho : o = raw f ++ (ten (slt b)).take 10) : (c.at_ o ((enc f b).take (sl_ f + 10)) tx F L).onto = (c.at_ o ((enc f b).take (sl_ f + 10)) tx F L).fin := by
  unfold Nd.onto
  rw [if_pos]
  show ((kd o : Nat) : Int) = 9
  rw [ho, kd_tail hm _ (by rw [List.length_take, ten_len]; omega)]; rfl
theorem way_done (hw : Way f true k o) (hk : k = sl_ f + 9) : (c.at_ o ((enc f true).take k) false F L).stp ((enc f true).getD k 0) = ([], { c.enter 8 with tx := false }) := by
  obtain ⟨h1, h2⟩ := way_right (c := c) (L := L) (F := F) hm hw (by omega)
  obtain ⟨o', w1, w2, w3, w4⟩ := way_onto (c := c) (L := L) (F := F) (tx := false) hm hw (by omega)
  have ho := w4 (by omega)
  rw [show k + 1 - sl_ f = 10 by omega] at ho
  rw [stp_two rfl, at_inF_rx, at_recv h2 h1, w2, show k + 1 = sl_ f + 10 by omega, way_end hm ho]
  rfl
omit hm in
theorem enc_two (h : k < sl_ f + 10) (b : Bool) : (enc f b).getD k 0 = if k = sl_ f + 1 then slt b else (enc f false).getD k 0 := by
  rcases Nat.lt_or_ge k (sl_ f) with h1 | h1
  · rw [if_neg (by omega), enc_def, enc_def, gd_left (by unfold sl_ at h1; omega), gd_left (by unfold sl_ at h1; omega)]
  · rw [enc_def f b, enc_def f false, gd_right (by unfold sl_ at h1; omega), gd_right (by unfold sl_ at h1; omega)]
    show (ten (slt b)).getD (k - sl_ f) 0 = if k = sl_ f + 1 then slt b else (ten (slt false)).getD (k - sl_ f) 0
    rw [ten_get _ _ (by omega), ten_get _ _ (by omega)]
    by_cases h2 : k = sl_ f + 1
    · rw [if_pos h2, if_pos (by omega)]
    · rw [if_neg h2, if_neg (by omega), if_neg (by omega)]
/-- What one that sends drives: its frame's level, whether or not somebody acknowledges. -/
theorem way_tx_drv {b : Bool} (hw : Way f b k o) (hk : k < sl_ f + 10) : (c.at_ o ((enc f b).take k) true F (alls f)).drvIn = (enc f false).getD k 0 := by
  rw [at_drv]
  have hz := way_lvl (b := b) hk
  have he := enc_two hk b
  obtain ⟨_, h⟩ := way_step hm hw hk
  rcases h with ⟨h1, h2, h3, h4, h5⟩ | ⟨h1, h2, h3, h4, h5⟩
  · rw [if_pos (by simp [h1, h2]), oth_flip _ ?_, ← h3, he, if_neg (by omega)]
    rw [h3] at hz
    rcases lvl_01 hz with e | e
    · rw [show lst ((enc f b).take k) = 1 by omega]; rfl
    · rw [show lst ((enc f b).take k) = 0 by omega]; rfl
  · rw [if_neg (by simp; omega), if_pos rfl]
    have ha : alls f = raw f ++ ten (slt false) := rfl
    rw [ha]
    rcases h5 with ⟨h6, h7, h8, h9⟩ | ⟨h6, h7⟩
    · rw [gd_left h9]
      rw [gd_left h9, he, if_neg (by omega)] at h3
      exact h3.symm
    · obtain ⟨t1, t2, t3, t4⟩ := way_tail hm h6 h7 hk
      have hol : o.length = (raw f).length + (k - sl_ f) := by rw [h7, List.length_append, List.length_take, ten_len]; omega
      rw [hol, gd_right (by omega), show (raw f).length + (k - sl_ f) - (raw f).length = k - sl_ f by omega, enc_def, gd_right (by unfold sl_ at h6; omega)]
      rfl
/-- The field in which a level of the slot comes. -/
theorem way_six {b : Bool} (hw : Way f b k o) (hk : k < sl_ f + 10) : kd o = 6 ↔ k = sl_ f + 1 := by
  obtain ⟨_, h⟩ := way_step hm hw hk
  rcases h with ⟨h1, h2, h3, h4, h5⟩ | ⟨h1, h2, h3, h4, h5⟩
  · omega
  · rcases h5 with ⟨h6, h7, h8, h9⟩ | ⟨h6, h7⟩
    · omega
    · obtain ⟨t1, t2, t3, t4⟩ := way_tail hm h6 h7 hk
      rcases tl_cases (i := k - sl_ f) (by omega) with ⟨a, e⟩ | ⟨a, e⟩ | ⟨a, e⟩ | ⟨a, e⟩ <;> omega
omit hm in
theorem at_inF_tx {o t L : List Int} {F : Fr} {z : Int} (h : ¬ z < (c.at_ o t true F L).drvIn) : (c.at_ o t true F L).inF z = (c.at_ o t true F L).send z := by
  unfold Nd.inF Nd.loses
  rw [decide_eq_false h, if_neg (by simp)]
  rfl
theorem way_send {b : Bool} (hw : Way f b k o) (hk : k < sl_ f + 10) (hs : k = sl_ f + 1 → b = true) :
    (c.at_ o ((enc f b).take k) true F (alls f)).stp ((enc f b).getD k 0) = (c.at_ o ((enc f b).take k) true F (alls f)).goOn ((enc f b).getD k 0) := by
  have hd := way_tx_drv (c := c) (F := F) hm hw hk
  have h6 := way_six hm hw hk
  have he := enc_two hk b
  rw [stp_two rfl]
  by_cases hk1 : k = sl_ f + 1
  · have hb := hs hk1
    subst hb
    rw [if_pos hk1, show slt true = 0 from rfl] at he
    have k6 := h6.2 hk1
    have hlo : (c.at_ o ((enc f true).take k) true F (alls f)).loses ((enc f true).getD k 0) = false := by
      unfold Nd.loses
      rw [show ((c.at_ o ((enc f true).take k) true F (alls f)).kind == 1) = false from by show (((kd o : Nat) : Int) == 1) = false; simp; omega]
      simp
    unfold Nd.inF
    rw [hlo, if_neg (by simp)]
    show (c.at_ o ((enc f true).take k) true F (alls f)).send ((enc f true).getD k 0) = _
    unfold Nd.send
    have e6 : (c.at_ o ((enc f true).take k) true F (alls f)).kind = 6 := by show ((kd o : Nat) : Int) = 6; omega
    rw [if_pos e6, if_pos he]
  · rw [if_neg hk1] at he
    rw [at_inF_tx (by rw [hd, he]; omega)]
    unfold Nd.send
    have e6 : ¬ (c.at_ o ((enc f b).take k) true F (alls f)).kind = 6 := fun e => hk1 (h6.1 (by have e' : ((kd o : Nat) : Int) = 6 := e; omega))
    rw [if_neg e6, hd, he, if_neg (by omega), if_pos rfl]
/-- One that sends, level by level. -/
theorem way_tx {b : Bool} (hw : Way f b k o) (hk : k < sl_ f + 9) (hs : k = sl_ f + 1 → b = true) : ∃ o', Way f b (k + 1) o' ∧ (c.at_ o ((enc f b).take k) true F (alls f)).stp ((enc f b).getD k 0) = ([], c.at_ o' ((enc f b).take (k + 1)) true F (alls f)) := by
  obtain ⟨o', w1, w2, w3, w4⟩ := way_onto (c := c) (L := alls f) (F := F) (tx := true) hm hw (by omega)
  obtain ⟨k1, k2⟩ := way_kd hm (b := b) (k := k + 1) (o := o') (by omega) (fun h => w4 (by omega)) (fun h => w3 (by omega))
  refine ⟨o', w1, ?_⟩
  rw [way_send hm hw (by omega) hs, w2, at_onto k1 (fun h => by cases h.2.2)]
theorem way_sent {b : Bool} (hw : Way f b k o) (hk : k = sl_ f + 9) : (c.at_ o ((enc f b).take k) true F (alls f)).stp ((enc f b).getD k 0) = ([(1, F)], { c.enter 8 with tx := true, ct := c.ct.snt, q := drp F c.q }) := by
  obtain ⟨o', w1, w2, w3, w4⟩ := way_onto (c := c) (L := alls f) (F := F) (tx := true) hm hw (by omega)
  have ho := w4 (by omega)
  rw [show k + 1 - sl_ f = 10 by omega] at ho
  rw [way_send hm hw (by omega) (by omega), w2, show k + 1 = sl_ f + 10 by omega, way_end hm ho]
  rfl
end
end Go.Proofs.YtalpbnfebcafgaaGreat

/- A node that joins, sends and receives whole frames, and its pauses. -/
namespace Go.Proofs.YtalpbnfebcafgaaGreat
set_option maxRecDepth 20000

/-- A node that joins, behind i levels 1. -/
def jn (q : List Fr) (i : Nat) : Nd := if i = 0 then { Nd.new with q := q } else if i < 11 then { Nd.new with sl := 1, sn := (i : Nat), q := q } else { Nd.new with mode := 1, q := q }
def idl (q : List Fr) : Nd := { Nd.new with mode := 1, q := q }
theorem jn_end (q : List Fr) : jn q 11 = idl q := rfl
theorem jn_zero (q : List Fr) : jn q 0 = { Nd.new with q := q } := rfl
theorem jn_mid {q : List Fr} {i : Nat} (h0 : i ≠ 0) (h : i < 11) : jn q i = { Nd.new with sl := 1, sn := (i : Nat), q := q } := by unfold jn; rw [if_neg h0, if_pos h]
theorem jn_mode {q : List Fr} {i : Nat} (h : i < 11) : (jn q i).mode = 0 := by
  by_cases h0 : i = 0
  · subst h0; rfl
  · rw [jn_mid h0 h]; rfl
theorem stp_zero {n : Nd} {z : Int} (h : n.mode = 0) : n.stp z = n.join z := by unfold Nd.stp; simp [h]
theorem stp_one {n : Nd} {z : Int} (h : n.mode = 1) : n.stp z = n.idle z := by unfold Nd.stp; simp [h]
theorem stp_eight {n : Nd} {z : Int} (h : n.mode = 8) : n.stp z = n.pause z := by unfold Nd.stp; simp [h]
theorem jn_step (q : List Fr) {i : Nat} (h : i < 11) : (jn q i).stp 1 = ([], jn q (i + 1)) := by
  rw [stp_zero (jn_mode h)]
  by_cases h0 : i = 0
  · subst h0; rfl
  · rw [jn_mid h0 h]
    unfold Nd.join Nd.quiet
    have ht : tlN (1 : Int) (i : Nat) 1 = (i : Int) + 1 := by unfold tlN; rw [if_pos rfl]
    rw [show ({ Nd.new with sl := 1, sn := (i : Nat), q := q } : Nd).sl = 1 from rfl, show ({ Nd.new with sl := 1, sn := (i : Nat), q := q } : Nd).sn = (i : Nat) from rfl, ht]
    by_cases h1 : i = 10
    · subst h1; rfl
    · rw [if_neg (by simp; omega), jn_mid (by omega) (by omega)]
      unfold Nd.see
      rw [show ({ Nd.new with sl := 1, sn := (i : Nat), q := q } : Nd).sl = 1 from rfl, show ({ Nd.new with sl := 1, sn := (i : Nat), q := q } : Nd).sn = (i : Nat) from rfl, ht]
      rfl
theorem jn_drv (q : List Fr) {i : Nat} (h : i < 11) : (jn q i).drv = 1 := by
  unfold Nd.drv
  rw [jn_mode h]; rfl
theorem jn_q (q : List Fr) (i : Nat) : (jn q i).q = q := by unfold jn; split; rfl; split <;> rfl

/-- A node in no frame, that is fit. -/
theorem fit_of {n : Nd} (hm : 0 ≤ n.mode ∧ n.mode ≤ 10 ∧ n.mode ≠ 2) (hs : 0 ≤ n.sn ∧ n.sn ≤ 4000000) (hr : 0 ≤ n.rows ∧ n.rows ≤ 4000000) (hq : Okfs n.q) (hl : n.q.length ≤ 16) : Fit n :=
  ⟨hm.1, hm.2.1, hs.1, hs.2, hr.1, hr.2, hq, hl, fun h => absurd h hm.2.2⟩
theorem fit_of2 {n : Nd} (m s r : Int) (em : n.mode = m) (es : n.sn = s) (er : n.rows = r) (h : 0 ≤ m ∧ m ≤ 10 ∧ m ≠ 2 ∧ 0 ≤ s ∧ s ≤ 4000000 ∧ 0 ≤ r ∧ r ≤ 4000000) (hq : Okfs n.q) (hl : n.q.length ≤ 16) : Fit n := by
  subst em; subst es; subst er
  exact fit_of ⟨h.1, h.2.1, h.2.2.1⟩ ⟨h.2.2.2.1, h.2.2.2.2.1⟩ ⟨h.2.2.2.2.2.1, h.2.2.2.2.2.2⟩ hq hl
theorem jn_fit {q : List Fr} {i : Nat} (h : i ≤ 11) (hq : Okfs q) (hl : q.length ≤ 16) : Fit (jn q i) := by
  by_cases h0 : i = 0
  · subst h0; exact fit_of2 0 0 0 rfl rfl rfl (by omega) hq hl
  · by_cases h1 : i < 11
    · rw [jn_mid h0 h1]
      exact fit_of2 0 (i : Nat) 0 rfl rfl rfl (by omega) hq hl
    · have : i = 11 := by omega
      subst this
      exact fit_of2 1 0 0 rfl rfl rfl (by omega) hq hl
theorem idl_fit {q : List Fr} (hq : Okfs q) (hl : q.length ≤ 16) : Fit (idl q) := fit_of2 1 0 0 rfl rfl rfl (by omega) hq hl
theorem okfs_nil : Okfs [] := fun g hg => by cases hg

section
variable {f : Fr} (hm : f.may = true)
include hm
theorem way_fit {c : Nd} {o L : List Int} {F : Fr} {k : Nat} {b tx : Bool} (hw : Way f b k o) (hk : k < sl_ f + 10) (hq : Okfs c.q) (hl : c.q.length ≤ 16) (hL : tx = true → L = alls f) : Fit (c.at_ o ((enc f b).take k) tx F L) := by
  have ho : ∀ z ∈ o, lvl z = true := by
    obtain ⟨_, h⟩ := hw
    rcases h with ⟨_, j, _, _, rfl, _⟩ | ⟨_, _, rfl⟩
    · exact all_take (raw_all f) j
    · exact all_append (raw_all f) (all_take (by cases b <;> decide) _)
  have hrl : (raw f).length ≤ 200 := by rw [raw_len]; have := bts_le hm; omega
  have hol : o.length < (raw f).length + 11 := by
    obtain ⟨_, h⟩ := hw
    rcases h with ⟨_, j, _, _, rfl, _⟩ | ⟨_, _, rfl⟩
    · rw [List.length_take]; omega
    · rw [List.length_append, List.length_take, ten_len]; omega
  have hsl : sl_ f ≤ 300 := stf_raw_le hm
  have hal : alk ((enc f b).take k) ≤ 400 := by
    have := (alk_spec ((enc f b).take k)).1
    rw [List.length_take, enc_ln] at this; omega
  have hgo : (c.at_ o ((enc f b).take k) tx F L).added = true ∨ kd o < 9 := by
    rw [at_added]
    obtain ⟨_, h⟩ := way_step hm hw hk
    rcases h with ⟨h1, h2, _⟩ | ⟨h1, h2, h3, h4, h5⟩
    · exact .inl (decide_eq_true ⟨h1, h2⟩)
    · rcases h5 with ⟨_, h7, _⟩ | ⟨h6, h7⟩
      · exact .inr (by omega)
      · obtain ⟨t1, _⟩ := way_tail hm h6 h7 hk
        rcases tl_cases (i := k - sl_ f) (by omega) with ⟨a, e⟩ | ⟨a, e⟩ | ⟨a, e⟩ | ⟨a, e⟩ <;> exact .inr (by omega)
  have hout : tx = true → o.length < L.length := fun h => by
    rw [hL h]
    have ha : (alls f).length = (raw f).length + 10 := by rw [alls_raw, List.length_append, ten_len]
    obtain ⟨_, hs⟩ := way_step hm hw hk
    rcases hs with ⟨h1, h2, h3, h4, h5⟩ | ⟨h1, h2, h3, h4, h5⟩
    · obtain ⟨_, h6⟩ := hw
      rcases h6 with ⟨_, j, _, _, rfl, _⟩ | ⟨h7, _, _⟩
      · rw [List.length_take, ha]; omega
      · omega
    · omega
  refine ⟨by show (0 : Int) ≤ 2; omega, by show (2 : Int) ≤ 10; omega, Int.le_refl 0, by show (0 : Int) ≤ 4000000; omega, Int.le_refl 0, by show (0 : Int) ≤ 4000000; omega, hq, hl, fun _ => ⟨⟨ho, by show o.length ≤ 10000; omega, hout⟩, ⟨ho, by show o.length ≤ 9000; omega, hgo, Int.natCast_nonneg _, by show ((alk ((enc f b).take k) : Nat) : Int) ≤ 4000000; omega, hl⟩, rfl⟩⟩

/-- A node that sends a frame, behind k levels of it. -/
def TxAt (c : Nd) (f : Fr) (b : Bool) (k : Nat) (n : Nd) : Prop := (k = 0 ∧ n = c) ∨ (1 ≤ k ∧ ∃ o, Way f b k o ∧ n = c.at_ o ((enc f b).take k) true f (alls f))
theorem enc_zero0 (b : Bool) : (enc f b).getD 0 0 = 0 := by
  have h := way_enc0 hm b
  have h1 : (enc f b).take 1 = [] ++ [(0 : Int)] := h
  exact get_of h1 rfl (by rw [enc_ln]; omega)
omit hm in
theorem sl_pos : 1 ≤ sl_ f := by
  have := (stf_len (raw f)).1
  have := raw_pos (f := f)
  unfold sl_; omega
section
variable {c n : Nd} {gs : List Fr} {k : Nat} {b : Bool}
theorem tx_drive (hc : c.mode = 1) (hq : c.q = f :: gs) (h : TxAt c f b k n) (hk : k < sl_ f + 10) : n.drv = (enc f false).getD k 0 := by
  rcases h with ⟨rfl, rfl⟩ | ⟨h1, o, hw, rfl⟩
  · rw [enc_zero0 hm, drv_one hc, hq, if_pos (by simp)]
  · rw [drv_two rfl, way_tx_drv hm hw hk]
theorem tx_begin (hc : c.mode = 1) (hq : c.q = f :: gs) (b : Bool) : c.stp 0 = ([], c.at_ [0] ((enc f b).take 1) true f (alls f)) := by
  rw [stp_one hc]
  unfold Nd.idle
  rw [if_pos rfl, begin_at, hq, way_enc0 hm]
  simp
theorem tx_step (hc : c.mode = 1) (hq : c.q = f :: gs) (h : TxAt c f b k n) (hk : k < sl_ f + 9) (hs : k = sl_ f + 1 → b = true) : ∃ n', n.stp ((enc f b).getD k 0) = ([], n') ∧ TxAt c f b (k + 1) n' := by
  rcases h with ⟨rfl, rfl⟩ | ⟨h1, o, hw, rfl⟩
  · rw [enc_zero0 hm, tx_begin hm hc hq b]
    exact ⟨_, rfl, .inr ⟨Nat.le_refl _, [0], way_one hm b, rfl⟩⟩
  · obtain ⟨o', w1, w2⟩ := way_tx (c := c) (F := f) hm hw hk hs
    exact ⟨_, w2, .inr ⟨by omega, o', w1, rfl⟩⟩
theorem tx_sent (h : TxAt c f b k n) (hk : k = sl_ f + 9) : n.stp ((enc f b).getD k 0) = ([(1, f)], { c.enter 8 with tx := true, ct := c.ct.snt, q := drp f c.q }) := by
  rcases h with ⟨h0, _⟩ | ⟨h1, o, hw, rfl⟩
  · omega
  · exact way_sent hm hw hk
theorem tx_fit (h : TxAt c f b k n) (hk : k < sl_ f + 10) (hc : Fit c) : Fit n := by
  rcases h with ⟨rfl, rfl⟩ | ⟨h1, o, hw, rfl⟩
  · exact hc
  · exact way_fit hm hw hk hc.q hc.ql fun _ => rfl
end
/-- A node that receives a frame, behind k levels of it. -/
def RxAt (c : Nd) (f : Fr) (k : Nat) (n : Nd) : Prop := (k = 0 ∧ n = c) ∨ (1 ≤ k ∧ ∃ o, Way f true k o ∧ n = c.at_ o ((enc f true).take k) false Fr.zero [])
section
variable {c n : Nd} {k : Nat}
theorem rx_drive (hc : c.mode = 1) (hq : c.q = []) (h : RxAt c f k n) (hk : k < sl_ f + 10) : n.drv = if k = sl_ f + 1 then 0 else 1 := by
  rcases h with ⟨rfl, rfl⟩ | ⟨h1, o, hw, rfl⟩
  · rw [drv_one hc, hq, if_neg (by simp), if_neg (by omega)]
  · rw [drv_two rfl, way_rx_drv hm hw hk]
theorem rx_begin (hc : c.mode = 1) (hq : c.q = []) : c.stp 0 = ([], c.at_ [0] ((enc f true).take 1) false Fr.zero []) := by
  rw [stp_one hc]
  unfold Nd.idle
  rw [if_pos rfl, begin_at, hq, way_enc0 hm]
  rfl
theorem rx_step (hc : c.mode = 1) (hq : c.q = []) (h : RxAt c f k n) (hk : k < sl_ f + 8) : ∃ n', n.stp ((enc f true).getD k 0) = ([], n') ∧ RxAt c f (k + 1) n' := by
  rcases h with ⟨rfl, rfl⟩ | ⟨h1, o, hw, rfl⟩
  · rw [enc_zero0 hm, rx_begin hm hc hq]
    exact ⟨_, rfl, .inr ⟨Nat.le_refl _, [0], way_one hm true, rfl⟩⟩
  · obtain ⟨o', w1, w2⟩ := way_rx (c := c) (F := Fr.zero) (L := []) hm hw hk
    exact ⟨_, w2, .inr ⟨by omega, o', w1, rfl⟩⟩
theorem rx_got (hwf : f.wf) (h : RxAt c f k n) (hk : k = sl_ f + 8) : ∃ n' g, n.stp ((enc f true).getD k 0) = ([(2, g)], n') ∧ RxAt { c with ct := c.ct.rcv } f (k + 1) n' ∧ g.val = f.val := by
  rcases h with ⟨h0, _⟩ | ⟨h1, o, hw, rfl⟩
  · omega
  · obtain ⟨o', g, w1, w2, w3⟩ := way_got (c := c) (F := Fr.zero) (L := []) hm hwf hw hk
    exact ⟨_, g, w2, .inr ⟨by omega, o', w1, rfl⟩, w3⟩
theorem rx_done (h : RxAt c f k n) (hk : k = sl_ f + 9) : n.stp ((enc f true).getD k 0) = ([], { c.enter 8 with tx := false }) := by
  rcases h with ⟨h0, _⟩ | ⟨h1, o, hw, rfl⟩
  · omega
  · exact way_done hm hw hk
theorem rx_fit (h : RxAt c f k n) (hk : k < sl_ f + 10) (hc : Fit c) : Fit n := by
  rcases h with ⟨rfl, rfl⟩ | ⟨h1, o, hw, rfl⟩
  · exact hc
  · exact way_fit hm hw hk hc.q hc.ql fun h => by cases h
end
end

/-- A pause, behind i levels 1. -/
def pz (c : Nd) (i : Nat) : Nd := { c.enter 8 with sl := if i = 0 then 0 else 1, sn := (i : Nat) }
theorem pz_zero (c : Nd) : pz c 0 = c.enter 8 := rfl
theorem pz_step (c : Nd) {i : Nat} (h : i < 2) : (pz c i).stp 1 = ([], pz c (i + 1)) := by
  rw [stp_eight rfl]
  have : i = 0 ∨ i = 1 := by omega
  rcases this with rfl | rfl <;> rfl
theorem pz_end (c : Nd) : (pz c 2).stp 1 = ([], if c.back then c.enter 9 else c.enter 1) := by
  rw [stp_eight rfl]
  unfold Nd.pause
  rw [if_neg (by omega), if_neg (show ¬ (pz c 2).sn ≠ 2 from fun h => h rfl)]
  show (if (pz c 2).back then _ else _) = _
  have e : (pz c 2).back = c.back := rfl
  rw [e]
  cases c.back <;> rfl
theorem pz_drv (c : Nd) (i : Nat) : (pz c i).drv = 1 := rfl
theorem pz_fit {c : Nd} {i : Nat} (h : i ≤ 3) (hc : Okfs c.q) (hl : c.q.length ≤ 16) : Fit (pz c i) := fit_of2 8 (i : Nat) 0 rfl rfl rfl (by omega) hc hl
end Go.Proofs.YtalpbnfebcafgaaGreat

/- What is true of a node whatever it has gone through. -/
namespace Go.Proofs.YtalpbnfebcafgaaGreat
set_option maxRecDepth 20000
open Go.RowKit
set_option linter.unusedSectionVars false

/-- Counts behind any event are right. -/
theorem right_snt {c : Ct} (h : c.right = true) (ho : c.o = false) : c.snt.right = true ∧ c.snt.o = false ∧ c.snt.t ≤ c.t + 8 := by
  obtain ⟨t, r, o⟩ := c
  obtain ⟨h1, h2, h3⟩ := right_iff.1 h
  simp only at h1 h2 h3 ho
  subst ho
  have hr : Ct.run ⟨t, r, false⟩ = true := run_iff.2 ⟨rfl, by show 0 ≤ t; simp at h1; omega, by show t ≤ 255; simp at h1; omega, h2, h3⟩
  unfold Ct.snt
  rw [if_pos hr]
  simp at h1
  exact ⟨right_iff.2 ⟨.inr ⟨rfl, by show 0 ≤ max (t - 1) 0; omega, by show max (t - 1) 0 ≤ 255; omega⟩, h2, h3⟩, rfl, by show max (t - 1) 0 ≤ t + 8; omega⟩
theorem right_rcv {c : Ct} (h : c.right = true) (ho : c.o = false) : c.rcv.right = true ∧ c.rcv.o = false ∧ c.rcv.t = c.t := by
  obtain ⟨t, r, o⟩ := c
  obtain ⟨h1, h2, h3⟩ := right_iff.1 h
  simp only at h1 h2 h3 ho
  subst ho
  have hr : Ct.run ⟨t, r, false⟩ = true := run_iff.2 ⟨rfl, by show 0 ≤ t; simp at h1; omega, by show t ≤ 255; simp at h1; omega, h2, h3⟩
  unfold Ct.rcv
  rw [if_pos hr]
  simp at h1
  refine ⟨right_iff.2 ⟨.inr ⟨rfl, h1.1, h1.2⟩, ?_, ?_⟩, rfl, rfl⟩
  · show 0 ≤ if 127 < r then 119 else max (r - 1) 0
    split <;> omega
  · show (if 127 < r then 119 else max (r - 1) 0) ≤ 255
    split <;> omega
theorem right_txx {c : Ct} (h : c.right = true) (ho : c.o = false) : c.txx.right = true ∧ c.txx.t ≤ c.t + 8 := by
  obtain ⟨t, r, o⟩ := c
  obtain ⟨h1, h2, h3⟩ := right_iff.1 h
  simp only at h1 h2 h3 ho
  subst ho
  have hr : Ct.run ⟨t, r, false⟩ = true := run_iff.2 ⟨rfl, by show 0 ≤ t; simp at h1; omega, by show t ≤ 255; simp at h1; omega, h2, h3⟩
  unfold Ct.txx
  rw [if_pos hr]
  simp at h1
  by_cases h8 : 255 < t + 8
  · rw [if_pos h8]
    exact ⟨right_iff.2 ⟨.inl ⟨rfl, rfl⟩, h2, h3⟩, by show (256 : Int) ≤ t + 8; omega⟩
  · rw [if_neg h8]
    exact ⟨right_iff.2 ⟨.inr ⟨rfl, by show 0 ≤ t + 8; omega, by show t + 8 ≤ 255; omega⟩, h2, h3⟩, Int.le_refl _⟩
theorem right_rxx {c : Ct} (x : Int) (hx : 0 ≤ x) (h : c.right = true) (ho : c.o = false) : (c.rxx x).right = true ∧ (c.rxx x).o = false ∧ (c.rxx x).t = c.t := by
  obtain ⟨t, r, o⟩ := c
  obtain ⟨h1, h2, h3⟩ := right_iff.1 h
  simp only at h1 h2 h3 ho
  subst ho
  unfold Ct.rxx
  simp at h1
  split
  · exact ⟨right_iff.2 ⟨.inr ⟨rfl, h1.1, h1.2⟩, by show 0 ≤ min (r + x) 255; omega, by show min (r + x) 255 ≤ 255; omega⟩, rfl, rfl⟩
  · exact ⟨h, rfl, rfl⟩
theorem st_off {c : Ct} : c.st = 2 ↔ c.o = true := by
  unfold Ct.st
  cases c.o
  · simp
    split <;> omega
  · simp

/-- In a frame. -/
structure InS (B : Nat) (n : Nd) : Prop where
  own : ∀ z ∈ n.own, lvl z = true
  kind : n.kind = (kd n.own : Nat)
  nth : n.nth = (pl n.own : Nat)
  go : kd n.own < 9
  b0 : 0 ≤ n.bn
  b1 : n.bn ≤ B
  out : n.tx = true → n.outF ∈ n.q ∧ n.outL = alls n.outF ∧ ∃ b, n.own = (raw n.outF ++ ten (slt b)).take n.own.length
/-- What is true of a node behind B levels. -/
structure Sound (B : Nat) (n : Nd) : Prop where
  m0 : 0 ≤ n.mode
  m1 : n.mode ≤ 10
  s0 : 0 ≤ n.sn
  s1 : n.sn ≤ B
  r0 : 0 ≤ n.rows
  r1 : n.rows ≤ 127
  q : Okq n.q
  qf : Okfs n.q
  ql : n.q.length ≤ 16
  ct : n.ct.right = true
  off : n.ct.o = true ↔ n.mode = 10
  inf : n.mode = 2 → InS B n
theorem own_short {o : List Int} (h : kd o < 9) : o.length < 130 := by
  have h1 := kd_lt h
  have h2 := hDat_le o
  have h3 : sumW (hW o) ≤ 128 := by
    unfold hW wds
    simp only [sumW]
    have : aW (hEx o) + cW (hEx o) ≤ 38 := by cases hEx o <;> decide
    omega
  omega
theorem tx_short {f : Fr} (hm : f.may = true) {b : Bool} {o : List Int} (h : o = (raw f ++ ten (slt b)).take o.length) (hk : kd o < 9) : o.length < (alls f).length := by
  have ha : (alls f).length = (raw f).length + 10 := by rw [show alls f = raw f ++ ten (slt false) from rfl, List.length_append, ten_len]
  have hl : o.length ≤ (raw f).length + 10 := by
    have := congrArg List.length h
    rw [List.length_take, List.length_append, ten_len] at this
    omega
  rcases Nat.lt_or_ge o.length ((raw f).length + 10) with h1 | h1
  · omega
  · exfalso
    rw [List.take_of_length_le (by rw [List.length_append, ten_len]; omega)] at h
    rw [h, kd_tail hm _ (by rw [ten_len]; omega), ten_len] at hk
    exact absurd hk (by decide)
theorem Sound.fit {B : Nat} {n : Nd} (h : Sound B n) (hB : B ≤ 4000000) : Fit n := by
  have a := h.s1
  have b := h.r1
  refine ⟨h.m0, h.m1, h.s0, by omega, h.r0, by omega, h.qf, h.ql, fun h2 => ?_⟩
  have i := h.inf h2
  have hl := own_short i.go
  have b1 := i.b1
  refine ⟨⟨i.own, by omega, fun ht => ?_⟩, ⟨i.own, by omega, .inr i.go, i.b0, by omega, h.ql⟩, h2⟩
  obtain ⟨t1, t2, b, t3⟩ := i.out ht
  rw [t2]
  exact tx_short (h.qf _ t1).1 t3 i.go
theorem Sound.more {B : Nat} {n : Nd} (h : Sound B n) {C : Nat} (hC : B ≤ C) : Sound C n := by
  have a := h.s1
  exact ⟨h.m0, h.m1, h.s0, by omega, h.r0, h.r1, h.q, h.qf, h.ql, h.ct, h.off, fun h2 => by
    have i := h.inf h2
    have b1 := i.b1
    exact ⟨i.own, i.kind, i.nth, i.go, i.b0, by omega, i.out⟩⟩
end Go.Proofs.YtalpbnfebcafgaaGreat

/- What a level makes of a node that is sound: counting, flags, pauses. -/
namespace Go.Proofs.YtalpbnfebcafgaaGreat
set_option maxRecDepth 20000
open Go.RowKit
set_option linter.unusedSectionVars false

theorem Sound.with_ct {B : Nat} {n : Nd} (h : Sound B n) (c : Ct) (hr : c.right = true) (ho : c.o = true ↔ n.mode = 10) : Sound B { n with ct := c } :=
  ⟨h.m0, h.m1, h.s0, h.s1, h.r0, h.r1, h.q, h.qf, h.ql, hr, ho, fun h2 => by
    have i := h.inf h2
    exact ⟨i.own, i.kind, i.nth, i.go, i.b0, i.b1, i.out⟩⟩
theorem Sound.enter {B C : Nat} {n : Nd} (h : Sound B n) {m : Int} (hm : 0 ≤ m ∧ m ≤ 10 ∧ m ≠ 2) (ho : n.ct.o = true ↔ m = 10) : Sound C (n.enter m) :=
  ⟨hm.1, hm.2.1, Int.le_refl 0, by show (0 : Int) ≤ C; omega, Int.le_refl 0, by show (0 : Int) ≤ 127; omega, h.q, h.qf, h.ql, h.ct, ho, fun h2 => absurd h2 hm.2.2⟩
theorem tlN_up {l n z : Int} {B : Nat} (h0 : 0 ≤ n) (h1 : n ≤ B) : 0 ≤ tlN l n z ∧ tlN l n z ≤ (B + 1 : Nat) := by
  unfold tlN
  split <;> omega
theorem Sound.see {B : Nat} {n : Nd} (h : Sound B n) (h2 : n.mode ≠ 2) (z : Int) : Sound (B + 1) (n.see z) := by
  have t := tlN_up (l := n.sl) (z := z) h.s0 h.s1
  exact ⟨h.m0, h.m1, t.1, t.2, h.r0, h.r1, h.q, h.qf, h.ql, h.ct, h.off, fun e => absurd e h2⟩

/-- What a level makes of a node. -/
structure Good (B : Nat) (n : Nd) (r : List Ev × Nd) : Prop where
  s : Sound (B + 1) r.2
  q : (r.2.q = n.q ∧ ∀ e ∈ r.1, e.1 ≠ 1) ∨ ∃ f, f ∈ n.q ∧ r.1 = [(1, f)] ∧ r.2.q = drp f n.q
  t : r.2.ct.t ≤ n.ct.t + 8
  gone : (∃ e ∈ r.1, e.1 = 10) ↔ (n.ct.o = false ∧ r.2.ct.o = true)
  back : (∃ e ∈ r.1, e.1 = 11) ↔ (n.ct.o = true ∧ r.2.ct.o = false)
  len : r.1.length ≤ 3
/-- Nothing is told that counts. -/
def Calm (es : List Ev) : Prop := ∀ e ∈ es, e.1 ≠ 1 ∧ e.1 ≠ 10 ∧ e.1 ≠ 11
theorem calm_nil : Calm [] := fun e h => by cases h
theorem calm_one {k : Int} {f : Fr} (h : k ≠ 1 ∧ k ≠ 10 ∧ k ≠ 11) : Calm [(k, f)] := fun e he => by rw [List.mem_singleton.1 he]; exact h
theorem good_keep {B : Nat} {n n' : Nd} {es : List Ev} (hs : Sound (B + 1) n') (hq : n'.q = n.q) (hc : n'.ct.o = n.ct.o) (ht : n'.ct.t ≤ n.ct.t + 8) (he : Calm es) (hl : es.length ≤ 3) : Good B n (es, n') := by
  refine ⟨hs, .inl ⟨hq, fun e h => (he e h).1⟩, ht, ?_, ?_, hl⟩
  · constructor
    · rintro ⟨e, h, h2⟩
      exact absurd h2 (he e h).2.1
    · rintro ⟨h1, h2⟩
      have h2' : n'.ct.o = true := h2
      rw [hc, h1] at h2'
      cases h2'
  · constructor
    · rintro ⟨e, h, h2⟩
      exact absurd h2 (he e h).2.2
    · rintro ⟨h1, h2⟩
      have h2' : n'.ct.o = false := h2
      rw [hc, h1] at h2'
      cases h2'
theorem cnt_right {n : Nd} {x : Int} (hx : 0 ≤ x) (h : n.ct.right = true) (ho : n.ct.o = false) : (n.cnt x).ct.right = true ∧ (n.cnt x).ct.t ≤ n.ct.t + 8 := by
  unfold Nd.cnt
  show (if n.tx then n.ct.txx else n.ct.rxx x).right = true ∧ (if n.tx then n.ct.txx else n.ct.rxx x).t ≤ n.ct.t + 8
  cases n.tx
  · have a := right_rxx x hx h ho
    rw [if_neg (by simp)]
    exact ⟨a.1, by rw [a.2.2]; omega⟩
  · rw [if_pos rfl]
    exact right_txx h ho
theorem good_cas {B : Nat} {n n' : Nd} {es : List Ev} {x : Int} (hx : 0 ≤ x) (ho : n.ct.o = false) (h : Sound (B + 1) n') (hm : n'.mode ≠ 10) (_h2 : n'.mode ≠ 2) (hq : n'.q = n.q) (hc : n'.ct = n.ct) (he : Calm es) (hl : es.length ≤ 2) : Good B n (es ++ n'.casE x, n'.casN x) := by
  have ho' : n'.ct.o = false := by rw [hc]; exact ho
  obtain ⟨r1, r2⟩ := cnt_right hx h.ct ho'
  rw [hc] at r2
  unfold Nd.casE Nd.casN
  by_cases hs : (n'.cnt x).ct.st = 2
  · rw [if_pos hs, if_pos hs]
    have hoff : (n'.cnt x).ct.o = true := st_off.1 hs
    have hsn : Sound (B + 1) ((n'.cnt x).enter 10) := ⟨by show (0 : Int) ≤ 10; omega, by show (10 : Int) ≤ 10; omega, Int.le_refl 0, by show (0 : Int) ≤ (B + 1 : Nat); omega, Int.le_refl 0, by show (0 : Int) ≤ 127; omega, h.q, h.qf, h.ql, r1, ⟨fun _ => rfl, fun _ => hoff⟩, fun e => by cases e⟩
    refine ⟨hsn, .inl ⟨hq, fun e hm => ?_⟩, r2, ?_, ?_, ?_⟩
    · rcases List.mem_append.1 hm with h1 | h1
      · exact (he e h1).1
      · rw [List.mem_singleton.1 h1]; exact fun e => by cases e
    · exact ⟨fun _ => ⟨ho, hoff⟩, fun _ => ⟨ev 10, List.mem_append.2 (.inr (List.mem_singleton.2 rfl)), rfl⟩⟩
    · constructor
      · rintro ⟨e, hm, h1⟩
        rcases List.mem_append.1 hm with h3 | h3
        · exact absurd h1 (he e h3).2.2
        · rw [List.mem_singleton.1 h3] at h1; cases h1
      · rintro ⟨h1, _⟩
        rw [ho] at h1; cases h1
    · rw [List.length_append]
      show es.length + 1 ≤ 3
      omega
  · rw [if_neg hs, if_neg hs, List.append_nil]
    have hoff : (n'.cnt x).ct.o = false := by
      cases e : (n'.cnt x).ct.o
      · rfl
      · exact absurd (st_off.2 e) hs
    refine good_keep (h.with_ct _ r1 ?_) hq (by rw [hoff, ho]) r2 he (by omega)
    constructor
    · intro e
      have e' : (n'.cnt x).ct.o = true := e
      rw [hoff] at e'; cases e'
    · intro e
      exact absurd e hm
theorem Sound.on {B : Nat} {n : Nd} (h : Sound B n) (hm : n.mode ≠ 10) : n.ct.o = false := by
  cases e : n.ct.o
  · rfl
  · exact absurd (h.off.1 e) hm
theorem Sound.to {B C : Nat} {n : Nd} (h : Sound B n) (hm : n.mode ≠ 10) {m : Int} (hm2 : 0 ≤ m ∧ m ≤ 9 ∧ m ≠ 2) : Sound C (n.enter m) :=
  h.enter ⟨hm2.1, by omega, hm2.2.2⟩ ⟨fun e => absurd (e.symm.trans (h.on hm)) (by simp), fun e => by omega⟩
theorem good_to {B : Nat} {n : Nd} {es : List Ev} (h : Sound B n) (hm : n.mode ≠ 10) {m : Int} (hm2 : 0 ≤ m ∧ m ≤ 9 ∧ m ≠ 2) (he : Calm es) (hl : es.length ≤ 3) : Good B n (es, n.enter m) :=
  good_keep (h.to hm hm2) rfl rfl (by show n.ct.t ≤ n.ct.t + 8; omega) he hl
theorem good_see {B : Nat} {n : Nd} (h : Sound B n) (h2 : n.mode ≠ 2) (z : Int) : Good B n ([], n.see z) :=
  good_keep (h.see h2 z) rfl rfl (by show n.ct.t ≤ n.ct.t + 8; omega) calm_nil (by simp)
theorem good_fail {B : Nat} {n : Nd} {k : Int} (h : Sound B n) (hm : n.mode ≠ 10) (hk : k ≠ 1 ∧ k ≠ 10 ∧ k ≠ 11) : Good B n (n.fail k) := by
  unfold Nd.fail Nd.flg
  have hf : ∀ m : Int, m = 3 ∨ m = 4 → Sound (B + 1) (n.enter m) ∧ (n.enter m).mode ≠ 10 ∧ (n.enter m).mode ≠ 2 := fun m h3 => ⟨h.to hm (by omega), by show m ≠ 10; omega, by show m ≠ 2; omega⟩
  obtain ⟨a, b, c⟩ := hf (if n.pas then 4 else 3) (by split <;> omega)
  exact good_cas (es := [ev k]) (by omega) (h.on hm) a b c rfl rfl (calm_one hk) (by simp)
theorem good_failU {B : Nat} {n : Nd} {k : Int} (h : Sound B n) (hm : n.mode ≠ 10) (hk : k ≠ 1 ∧ k ≠ 10 ∧ k ≠ 11) : Good B n (n.failU k) := by
  unfold Nd.failU Nd.flg
  exact good_to h hm (by split <;> omega) (calm_one hk) (by simp)
theorem good_over {B : Nat} {n : Nd} (h : Sound B n) (hm : n.mode ≠ 10) : Good B n n.over := good_to h hm (by omega) (calm_one (by omega)) (by simp)
theorem good_join {B : Nat} {n : Nd} (h : Sound B n) (hm : n.mode = 0) (z : Int) : Good B n (n.join z) := by
  unfold Nd.join
  split
  · exact good_to h (by omega) (by omega) calm_nil (by simp)
  · exact good_see h (by omega) z
theorem Sound.endF {B C : Nat} {n : Nd} (h : Sound B n) (hm : n.mode ≠ 10) : Sound C n.endF := by
  have a := h.to (C := C) hm (m := 6) (by omega)
  exact ⟨a.m0, a.m1, a.s0, a.s1, a.r0, a.r1, a.q, a.qf, a.ql, a.ct, a.off, fun e => by cases e⟩
theorem Sound.flagN {B : Nat} {n : Nd} (h : Sound B n) (hm : n.mode = 3 ∨ n.mode = 5) : Sound (B + 1) n.flagN ∧ n.flagN.mode ≠ 10 ∧ n.flagN.mode ≠ 2 ∧ n.flagN.q = n.q ∧ n.flagN.ct = n.ct := by
  unfold Nd.flagN
  split
  · exact ⟨h.endF (by omega), by show (6 : Int) ≠ 10; omega, by show (6 : Int) ≠ 2; omega, rfl, rfl⟩
  · exact ⟨h.see (by omega) 0, by show n.mode ≠ 10; omega, by show n.mode ≠ 2; omega, rfl, rfl⟩
theorem good_flag {B : Nat} {n : Nd} (h : Sound B n) (hm : n.mode = 3 ∨ n.mode = 5) (z : Int) : Good B n (n.flag z) := by
  obtain ⟨a, b, c, d, e⟩ := h.flagN hm
  unfold Nd.flag
  split
  · exact good_keep a d (by rw [e]) (by rw [e]; omega) calm_nil (by simp)
  · exact good_cas (es := [ev 4]) (by omega) (h.on (by omega)) a b c d e (calm_one (by omega)) (by simp)
theorem good_pflag {B : Nat} {n : Nd} (h : Sound B n) (hm : n.mode = 4) (z : Int) : Good B n (n.pflag z) := by
  have hp : Sound (B + 1) (n.pflN z) ∧ (n.pflN z).mode ≠ 10 ∧ (n.pflN z).mode ≠ 2 ∧ (n.pflN z).q = n.q ∧ (n.pflN z).ct = n.ct := by
    unfold Nd.pflN
    split
    · exact ⟨h.endF (by omega), by show (6 : Int) ≠ 10; omega, by show (6 : Int) ≠ 2; omega, rfl, rfl⟩
    · have a := h.see (by omega) z
      exact ⟨⟨a.m0, a.m1, a.s0, a.s1, a.r0, a.r1, a.q, a.qf, a.ql, a.ct, a.off, fun e => absurd e (by show n.mode ≠ 2; omega)⟩, by show n.mode ≠ 10; omega, by show n.mode ≠ 2; omega, rfl, rfl⟩
  obtain ⟨a, b, c, d, e⟩ := hp
  unfold Nd.pflag
  split
  · exact good_cas (es := []) (by omega) (h.on (by omega)) a b c d e calm_nil (by simp)
  · exact good_keep a d (by rw [e]) (by rw [e]; omega) calm_nil (by simp)
theorem good_close {B : Nat} {n : Nd} (h : Sound B n) (hm : n.mode = 7) (z : Int) : Good B n (n.close z) := by
  unfold Nd.close
  split
  · unfold Nd.closeN
    split
    · exact good_to h (by omega) (by omega) calm_nil (by simp)
    · exact good_see h (by omega) 1
  · split
    · exact good_over h (by omega)
    · exact good_fail h (by omega) (by omega)
theorem good_wait {B : Nat} {n : Nd} (h : Sound B n) (hm : n.mode = 6) (z : Int) : Good B n (n.wait z) := by
  unfold Nd.wait
  split
  · have h7 : Sound B (n.enter 7) := h.to (by omega) (by omega)
    have g := good_close h7 rfl 1
    exact ⟨g.s, g.q, g.t, g.gone, g.back, g.len⟩
  · split
    · exact good_cas (es := []) (by omega) (h.on (by omega)) (h.see (by omega) 0) (by show n.mode ≠ 10; omega) (by show n.mode ≠ 2; omega) rfl rfl calm_nil (by simp)
    · exact good_see h (by omega) 0
theorem good_off {B : Nat} {n : Nd} (h : Sound B n) (hm : n.mode = 10) (z : Int) : Good B n (n.off z) := by
  have ho : n.ct.o = true := h.off.2 hm
  unfold Nd.off
  split
  · split
    · rename_i h128
      refine good_keep ⟨h.m0, h.m1, Int.le_refl 0, by show (0 : Int) ≤ (B + 1 : Nat); omega, ?_, ?_, h.q, h.qf, h.ql, h.ct, h.off, fun e => absurd e (by show n.mode ≠ 2; omega)⟩ rfl rfl (by show n.ct.t ≤ n.ct.t + 8; omega) calm_nil (by simp)
      · show 0 ≤ n.rows + 1
        have := h.r0; omega
      · show n.rows + 1 ≤ 127
        omega
    · have hr := right_iff.1 h.ct
      refine ⟨⟨by show (0 : Int) ≤ 1; omega, by show (1 : Int) ≤ 10; omega, Int.le_refl 0, by show (0 : Int) ≤ (B + 1 : Nat); omega, Int.le_refl 0, by show (0 : Int) ≤ 127; omega, h.q, h.qf, h.ql, rfl, ⟨fun e => (by cases e), fun e => (by cases e)⟩, fun e => (by cases e)⟩, .inl ⟨rfl, fun e he => by rw [List.mem_singleton.1 he]; exact fun e => by cases e⟩, ?_, ?_, ?_, by simp⟩
      · show (0 : Int) ≤ n.ct.t + 8
        rcases hr.1 with a | a <;> omega
      · constructor
        · rintro ⟨e, he, h1⟩
          rw [List.mem_singleton.1 he] at h1; cases h1
        · rintro ⟨h1, _⟩
          rw [ho] at h1; cases h1
      · exact ⟨fun _ => ⟨ho, rfl⟩, fun _ => ⟨ev 11, List.mem_singleton.2 rfl, rfl⟩⟩
  · exact good_see h (by omega) z
end Go.Proofs.YtalpbnfebcafgaaGreat

/- What a level makes of a node that is sound: in a frame, and all in all. -/
namespace Go.Proofs.YtalpbnfebcafgaaGreat
set_option maxRecDepth 20000
open Go.RowKit
set_option linter.unusedSectionVars false

theorem frame_all (f : Fr) (b : Bool) : ∀ z ∈ raw f ++ ten (slt b), lvl z = true := all_append (raw_all f) (by cases b <;> decide)
theorem six_at {f : Fr} (hm : f.may = true) {b : Bool} {o : List Int} (h : o = (raw f ++ ten (slt b)).take o.length) (hk : kd o = 6) : o.length = (raw f).length + 1 := by
  rcases Nat.lt_or_ge o.length (raw f).length with h1 | h1
  · rw [take_pre (by omega)] at h
    have := raw_low hm h1
    rw [← h] at this
    omega
  · have hl : o.length ≤ (raw f).length + 10 := by
      have := congrArg List.length h
      rw [List.length_take, List.length_append, ten_len] at this
      omega
    obtain ⟨i, hi⟩ : ∃ i, o.length = (raw f).length + i := ⟨o.length - (raw f).length, by omega⟩
    have e : o = raw f ++ (ten (slt b)).take i := by
      rw [h, hi, List.take_length_add_append]
    have hx : ((ten (slt b)).take i).length = i := by rw [List.length_take, ten_len]; omega
    rw [e, kd_tail hm _ (by rw [hx]; omega), hx] at hk
    unfold tl at hk
    split at hk
    · omega
    · split at hk <;> omega
/-- One level more of the frame's own. -/
theorem own_more {f : Fr} {b : Bool} {o : List Int} {z : Int} (h : o = (raw f ++ ten (slt b)).take o.length) (hz : (raw f ++ ten (slt b)).getD o.length 0 = z) (hl : o.length < (raw f).length + 10) : o ++ [z] = (raw f ++ ten (slt b)).take (o.length + 1) := by
  rw [take_get (by rw [List.length_append, ten_len]; exact hl), hz, ← h]
theorem alls_get {f : Fr} {b : Bool} {k : Nat} (h : k ≠ (raw f).length + 1) : (alls f).getD k 0 = (raw f ++ ten (slt b)).getD k 0 := by
  show (raw f ++ ten (slt false)).getD k 0 = _
  rcases Nat.lt_or_ge k (raw f).length with h1 | h1
  · rw [gd_left h1, gd_left h1]
  · rw [gd_right h1, gd_right h1]
    obtain ⟨i, hi⟩ : ∃ i, k = (raw f).length + i := ⟨k - (raw f).length, by omega⟩
    rw [hi, show (raw f).length + i - (raw f).length = i by omega]
    rcases Nat.lt_or_ge i 10 with h2 | h2
    · rw [ten_get _ _ h2, ten_get _ _ h2, if_neg (by omega), if_neg (by omega)]
    · simp [List.getD, List.getElem?_eq_none (show (ten (slt false)).length ≤ i by rw [ten_len]; omega), List.getElem?_eq_none (show (ten (slt b)).length ≤ i by rw [ten_len]; omega)]

section
variable {B : Nat} {n : Nd} {z : Int}
theorem sound_at (h : Sound B n) (hm : n.mode ≠ 10) {C : Nat} {o t L : List Int} {tx : Bool} {F : Fr} (ho : ∀ y ∈ o, lvl y = true) (hk : kd o < 9) (ht : alk t ≤ C) (hx : tx = true → F ∈ n.q ∧ L = alls F ∧ ∃ b, o = (raw F ++ ten (slt b)).take o.length) : Sound C (n.at_ o t tx F L) :=
  ⟨by show (0 : Int) ≤ 2; omega, by show (2 : Int) ≤ 10; omega, Int.le_refl 0, by show (0 : Int) ≤ C; omega, Int.le_refl 0, by show (0 : Int) ≤ 127; omega, h.q, h.qf, h.ql, h.ct, ⟨fun e => absurd (e.symm.trans (h.on hm)) (by simp), fun e => (by cases e)⟩, fun _ => ⟨ho, rfl, rfl, hk, by show (0 : Int) ≤ (alk t : Nat); omega, by show ((alk t : Nat) : Int) ≤ C; omega, hx⟩⟩
theorem good_begin (h : Sound B n) (hm : n.mode ≠ 10) (may : Bool) : Good B n ([], n.begin_ may) := by
  rw [begin_at]
  refine good_keep (sound_at h hm (fun y hy => by rw [List.mem_singleton.1 hy]; rfl) (by decide) (by show 1 ≤ B + 1; omega) fun ht => ?_) rfl rfl (by show n.ct.t ≤ n.ct.t + 8; omega) calm_nil (by simp)
  rw [if_pos ht, if_pos ht]
  have hq : 0 < n.q.length := by
    rw [Bool.and_eq_true] at ht
    exact of_decide_eq_true ht.2
  have hin : n.q.headD Fr.zero ∈ n.q := by
    cases e : n.q with
    | nil => rw [e] at hq; simp at hq
    | cons a l => exact List.mem_cons_self
  refine ⟨hin, rfl, true, ?_⟩
  show [0] = _
  rw [show ([0] : List Int).length = 1 from rfl, take_pre raw_pos, raw_head (h.qf _ hin).1]
theorem good_idle (h : Sound B n) (hm : n.mode = 1) : Good B n (n.idle z) := by
  unfold Nd.idle
  split
  · exact good_begin h (by omega) true
  · split
    · have hs : Sound B ({ n with tx := true } : Nd) := ⟨h.m0, h.m1, h.s0, h.s1, h.r0, h.r1, h.q, h.qf, h.ql, h.ct, h.off, fun e => absurd e (by show n.mode ≠ 2; omega)⟩
      have g := good_fail (k := 4) hs (by show n.mode ≠ 10; omega) (by omega)
      exact ⟨g.s, g.q, g.t, g.gone, g.back, g.len⟩
    · exact good_keep (h.more (by omega)) rfl rfl (by omega) calm_nil (by simp)
theorem good_pause (h : Sound B n) (hm : n.mode = 8) : Good B n (n.pause z) := by
  unfold Nd.pause
  split
  · split
    · exact good_begin h (by omega) _
    · exact good_over h (by omega)
  · split
    · exact good_see h (by omega) 1
    · split
      · exact good_to h (by omega) (by omega) calm_nil (by simp)
      · exact good_to h (by omega) (by omega) calm_nil (by simp)
theorem good_susp (h : Sound B n) (hm : n.mode = 9) : Good B n (n.susp z) := by
  unfold Nd.susp
  split
  · exact good_begin h (by omega) false
  · split
    · exact good_to h (by omega) (by omega) calm_nil (by simp)
    · exact good_see h (by omega) 1
/-- A level is taken. -/
theorem sound_take (h : Sound B n) (hm : n.mode = 2) (hz : lvl z = true) (hx : n.tx = true → n.added = false → ∃ b, n.own ++ [z] = (raw n.outF ++ ten (slt b)).take (n.own.length + 1)) (h9 : kd (n.take z).own < 9) : Sound (B + 1) (n.take z) := by
  have i := h.inf hm
  have t := tlN_up (l := n.bl) (z := z) i.b0 i.b1
  have e1 : (n.take z).mode = n.mode ∧ (n.take z).sn = n.sn ∧ (n.take z).rows = n.rows ∧ (n.take z).q = n.q ∧ (n.take z).ct = n.ct ∧ (n.take z).bn = tlN n.bl n.bn z ∧ (n.take z).tx = n.tx ∧ (n.take z).outF = n.outF ∧ (n.take z).outL = n.outL := by
    unfold Nd.take
    split <;> exact ⟨rfl, rfl, rfl, rfl, rfl, rfl, rfl, rfl, rfl⟩
  obtain ⟨a1, a2, a3, a4, a5, a6, a7, a8, a9⟩ := e1
  have s1 := h.s1
  refine ⟨by rw [a1]; exact h.m0, by rw [a1]; exact h.m1, by rw [a2]; exact h.s0, by rw [a2]; omega, by rw [a3]; exact h.r0, by rw [a3]; exact h.r1, by rw [a4]; exact h.q, by rw [a4]; exact h.qf, by rw [a4]; exact h.ql, by rw [a5]; exact h.ct, by rw [a5, a1]; exact h.off, fun _ => ?_⟩
  refine ⟨take_own i.own hz, ?_, ?_, h9, by rw [a6]; exact t.1, by rw [a6]; exact t.2, ?_⟩
  · unfold Nd.take
    split
    · exact i.kind
    · rfl
  · unfold Nd.take
    split
    · exact i.nth
    · rfl
  · rw [a7, a8, a9, a4]
    intro ht
    obtain ⟨x1, x2, b, x3⟩ := i.out ht
    refine ⟨x1, x2, ?_⟩
    cases ha : n.added
    · obtain ⟨b', hb⟩ := hx ht ha
      have e : (n.take z).own = n.own ++ [z] := by
        unfold Nd.take
        rw [ha, if_neg (by simp)]; rfl
      exact ⟨b', by rw [e, List.length_append, List.length_singleton]; exact hb⟩
    · have e : (n.take z).own = n.own := by
        unfold Nd.take
        rw [ha, if_pos rfl]; rfl
      exact ⟨b, by rw [e]; exact x3⟩
end
end Go.Proofs.YtalpbnfebcafgaaGreat

/- What a level makes of a node that is sound: in a frame, and all in all. -/
namespace Go.Proofs.YtalpbnfebcafgaaGreat
set_option maxRecDepth 20000
open Go.RowKit
set_option linter.unusedSectionVars false

section
variable {B : Nat} {n : Nd} {z : Int}
theorem take_kept : (n.take z).q = n.q ∧ (n.take z).ct = n.ct ∧ (n.take z).tx = n.tx ∧ (n.take z).outF = n.outF ∧ ∀ m, (n.take z).enter m = n.enter m := by
  unfold Nd.take
  split <;> exact ⟨rfl, rfl, rfl, rfl, fun _ => rfl⟩
/-- It tells no frame that it sent. -/
def Mute (n : Nd) (r : List Ev × Nd) : Prop := r.2.q = n.q ∧ ∀ e ∈ r.1, e.1 ≠ 1
theorem good_goOn (h : Sound B n) (hm : n.mode = 2) (hz : lvl z = true) (hx : n.tx = true → n.added = false → ∃ b, n.own ++ [z] = (raw n.outF ++ ten (slt b)).take (n.own.length + 1)) :
    Good B n (n.goOn z) ∧ (n.tx = false → Mute n (n.goOn z)) ∧ (n.goOn z).1.length ≤ 1 := by
  have i := h.inf hm
  have ho := h.on (by omega)
  obtain ⟨e1, e2, e3, e4, e5⟩ := take_kept (n := n) (z := z)
  have hk : (n.take z).kind = (kd (n.take z).own : Nat) := by
    unfold Nd.take
    split
    · exact i.kind
    · rfl
  unfold Nd.goOn Nd.onto
  by_cases h9 : (n.take z).kind = 9
  · rw [if_pos h9]
    unfold Nd.fin
    rw [e3, e5]
    cases ht : n.tx
    · rw [if_neg (by simp)]
      exact ⟨good_to h (by omega) (by omega) calm_nil (by simp), fun _ => ⟨rfl, fun e he => (by cases he)⟩, by simp⟩
    · rw [if_pos rfl, e4, e2, e1]
      obtain ⟨x1, _⟩ := i.out ht
      obtain ⟨r1, r2, r3⟩ := right_snt h.ct ho
      refine ⟨⟨⟨by show (0 : Int) ≤ 8; omega, by show (8 : Int) ≤ 10; omega, Int.le_refl 0, by show (0 : Int) ≤ (B + 1 : Nat); omega, Int.le_refl 0, by show (0 : Int) ≤ 127; omega, drp_ok h.q, fun g hg => h.qf g ((drp_sub n.outF n.q).subset hg), Nat.le_trans (drp_le n.outF n.q) h.ql, r1, ⟨fun e => absurd (e.symm.trans r2) (by simp), fun e => (by cases e)⟩, fun e => (by cases e)⟩, .inr ⟨n.outF, x1, rfl, rfl⟩, r3, ?_, ?_, by simp⟩, fun e => (by cases e), by simp⟩
      · constructor
        · rintro ⟨e, he, h1⟩
          rw [List.mem_singleton.1 he] at h1; cases h1
        · rintro ⟨_, h1⟩
          exact absurd (h1.symm.trans r2) (by simp)
      · constructor
        · rintro ⟨e, he, h1⟩
          rw [List.mem_singleton.1 he] at h1; cases h1
        · rintro ⟨h1, _⟩
          exact absurd (h1.symm.trans ho) (by simp)
  · rw [if_neg h9]
    have h9' : kd (n.take z).own < 9 := by
      have := kd_le (n.take z).own
      omega
    have hs := sound_take h hm hz hx h9'
    split
    · obtain ⟨r1, r2, r3⟩ := right_rcv hs.ct (by rw [e2]; exact ho)
      refine ⟨good_keep (hs.with_ct _ r1 ⟨fun e => absurd (e.symm.trans r2) (by simp), fun e => ?_⟩) e1 (by rw [ho]; exact r2) (by show (n.take z).ct.rcv.t ≤ n.ct.t + 8; rw [r3, e2]; omega) (calm_one (by omega)) (by simp), fun _ => ⟨e1, fun e he => (by rw [List.mem_singleton.1 he]; exact fun e => by cases e)⟩, by simp⟩
      have := hs.off.2 e
      rw [e2, ho] at this
      cases this
    · exact ⟨good_keep hs e1 (by rw [e2]) (by rw [e2]; omega) calm_nil (by simp), fun _ => ⟨e1, fun e he => (by cases he)⟩, by simp⟩
theorem fail_mute {k : Int} (hk : k ≠ 1) : Mute n (n.fail k) ∧ (n.fail k).1.length ≤ 2 := by
  have e : ∀ m : Nd, (m.casN 1).q = m.q ∧ (∀ e ∈ m.casE 1, e.1 ≠ 1) ∧ (m.casE 1).length ≤ 1 := fun m => by
    unfold Nd.casN Nd.casE
    split
    · exact ⟨rfl, fun e he => (by rw [List.mem_singleton.1 he]; exact fun e => by cases e), by simp⟩
    · exact ⟨rfl, fun e he => (by cases he), by simp⟩
  obtain ⟨a, b, c⟩ := e n.flg
  refine ⟨⟨a, fun x hx => ?_⟩, ?_⟩
  · rcases List.mem_cons.1 hx with h1 | h1
    · rw [h1]; exact hk
    · exact b x h1
  · show (n.flg.casE 1).length + 1 ≤ 2
    omega
theorem wrongK_is (n : Nd) (z : Int) : n.wrongK z = 0 ∨ n.wrongK z = 4 ∨ n.wrongK z = 5 ∨ n.wrongK z = 6 ∨ n.wrongK z = 7 := by
  unfold Nd.wrongK
  repeat (first | split | omega)
theorem good_recv (h : Sound B n) (hm : n.mode = 2) (ht : n.tx = false) (hz : lvl z = true) : Good B n (n.recv z) ∧ Mute n (n.recv z) ∧ (n.recv z).1.length ≤ 2 := by
  unfold Nd.recv
  split
  · exact ⟨good_over h (by omega), ⟨rfl, fun e he => (by rw [List.mem_singleton.1 he]; exact fun e => by cases e)⟩, by show 1 ≤ 2; omega⟩
  · split
    · rename_i hw
      have hk := wrongK_is n z
      exact ⟨good_fail h (by omega) (by omega), (fail_mute (by omega)).1, (fail_mute (by omega)).2⟩
    · obtain ⟨a, b, c⟩ := good_goOn h hm hz (fun e => absurd (e.symm.trans ht) (by simp))
      exact ⟨a, b ht, by omega⟩
theorem good_send (h : Sound B n) (hm : n.mode = 2) (ht : n.tx = true) (hz : lvl z = true) : Good B n (n.send z) := by
  have i := h.inf hm
  obtain ⟨x1, x2, b, x3⟩ := i.out ht
  have hf := (h.qf _ x1).1
  have hl : n.own.length < (raw n.outF).length + 10 := by
    have := tx_short hf x3 i.go
    rw [show alls n.outF = raw n.outF ++ ten (slt false) from rfl, List.length_append, ten_len] at this
    exact this
  unfold Nd.send
  split
  · rename_i h6
    have k6 : kd n.own = 6 := by have := i.kind; omega
    have l6 := six_at hf x3 k6
    split
    · rename_i hz0
      subst hz0
      refine (good_goOn h hm hz fun _ _ => ⟨true, ?_⟩).1
      have e : n.own = (raw n.outF ++ ten (slt true)).take n.own.length := by
        have e2 : n.own = raw n.outF ++ (ten (slt b)).take 1 := by
          rw [x3, l6, List.take_length_add_append]
        rw [l6, List.take_length_add_append, e2]
        cases b <;> rfl
      refine own_more e ?_ hl
      rw [l6, gd_right (by omega), show (raw n.outF).length + 1 - (raw n.outF).length = 1 by omega]
      rfl
    · unfold Nd.unheard
      split
      · have a : Sound (B + 1) n.flg := h.to (by omega) (by split <;> omega)
        refine good_keep ⟨a.m0, a.m1, a.s0, a.s1, a.r0, a.r1, a.q, a.qf, a.ql, a.ct, a.off, fun e => absurd e ?_⟩ rfl rfl (by show n.ct.t ≤ n.ct.t + 8; omega) (calm_one (by omega)) (by simp)
        show (if n.pas then 4 else 3 : Int) ≠ 2
        split <;> omega
      · exact good_fail h (by omega) (by omega)
  · rename_i h6
    split
    · exact good_failU h (by omega) (by omega)
    · split
      · rename_i hd
        refine (good_goOn h hm hz fun _ ha => ⟨b, own_more x3 ?_ hl⟩).1
        have e : n.drvIn = n.outL.getD n.own.length 0 := by
          unfold Nd.drvIn
          rw [ht, ha]
          simp
        rw [hd, e, x2]
        refine (alls_get (fun hk => h6 ?_)).symm
        have h6' : kd n.own = 6 := by
          have e2 : n.own = raw n.outF ++ (ten (slt b)).take 1 := by
            rw [x3, hk, List.take_length_add_append]
          rw [e2, kd_tail hf _ (by rw [List.length_take, ten_len]; omega), List.length_take, ten_len]
          rfl
        rw [i.kind, h6']
        rfl
      · exact good_fail h (by omega) (by omega)
theorem good_inF (h : Sound B n) (hm : n.mode = 2) (hz : lvl z = true) : Good B n (n.inF z) := by
  unfold Nd.inF
  have i := h.inf hm
  split
  · have hl : Sound B n.lost := ⟨h.m0, h.m1, h.s0, h.s1, h.r0, h.r1, h.q, h.qf, h.ql, h.ct, h.off, fun _ => ⟨i.own, i.kind, i.nth, i.go, i.b0, i.b1, fun e => by cases e⟩⟩
    obtain ⟨a, ⟨b, c⟩, d⟩ := good_recv (z := z) hl hm rfl hz
    have tell : ∀ k : Int, k ≠ 3 → ((∃ e ∈ ev 3 :: (n.lost.recv z).1, e.1 = k) ↔ ∃ e ∈ (n.lost.recv z).1, e.1 = k) := fun k hk => by
      constructor
      · rintro ⟨e, he, h1⟩
        rcases List.mem_cons.1 he with h2 | h2
        · rw [h2] at h1
          exact absurd h1.symm hk
        · exact ⟨e, h2, h1⟩
      · rintro ⟨e, he, h1⟩
        exact ⟨e, List.mem_cons_of_mem _ he, h1⟩
    refine ⟨a.s, .inl ⟨b, fun e he => ?_⟩, a.t, (tell 10 (by omega)).trans a.gone, (tell 11 (by omega)).trans a.back, ?_⟩
    · rcases List.mem_cons.1 he with h2 | h2
      · rw [h2]; exact fun e => by cases e
      · exact c e h2
    · show (n.lost.recv z).1.length + 1 ≤ 3
      omega
  · split
    · rename_i ht
      exact good_send h hm ht hz
    · rename_i ht
      exact (good_recv h hm (by simpa using ht) hz).1
theorem good_stp (h : Sound B n) (hz : z = 0 ∨ z = 1) : Good B n (n.stp z) := by
  have m0 := h.m0
  have m1 := h.m1
  unfold Nd.stp
  split
  · exact good_join h (by assumption) z
  split
  · exact good_idle h (by assumption)
  split
  · exact good_inF h (by assumption) (by rcases hz with rfl | rfl <;> rfl)
  split
  · exact good_flag h (.inl (by assumption)) z
  split
  · exact good_pflag h (by assumption) z
  split
  · exact good_flag h (.inr (by assumption)) z
  split
  · exact good_wait h (by assumption) z
  split
  · exact good_close h (by assumption) z
  split
  · exact good_pause h (by assumption)
  split
  · exact good_susp h (by assumption)
  · exact good_off h (by omega) z
end
theorem sound_new : Sound 0 Nd.new := ⟨by decide, by decide, by decide, by decide, by decide, by decide, ok_nil, okfs_nil, by decide, rfl, by decide, fun e => by cases e⟩
/-- A frame is put in. -/
theorem sound_put {B : Nat} {n : Nd} (h : Sound B n) (f : Fr) (hf : f.wf) : Sound B { n with q := pL 16 f n.q } := by
  have hmem : ∀ g, g ∈ n.q → g ∈ pL 16 f n.q := fun g hg => by
    unfold pL
    split
    · exact hg
    · exact ins_mem.2 (.inr hg)
  refine ⟨h.m0, h.m1, h.s0, h.s1, h.r0, h.r1, pL_ok h.q, ?_, ?_, h.ct, h.off, fun h2 => ?_⟩
  · show Okfs (pL 16 f n.q)
    unfold pL
    split
    · exact h.qf
    · rename_i hc
      intro g hg
      rcases ins_mem.1 hg with rfl | h1
      · refine ⟨?_, hf⟩
        cases e : g.may
        · exact absurd (.inl e) hc
        · rfl
      · exact h.qf g h1
  · show (pL 16 f n.q).length ≤ 16
    unfold pL
    split
    · exact h.ql
    · rename_i hc
      rw [ins_len1]
      omega
  · have i := h.inf h2
    exact ⟨i.own, i.kind, i.nth, i.go, i.b0, i.b1, fun ht => by
      obtain ⟨x1, x2, x3⟩ := i.out ht
      exact ⟨hmem _ x1, x2, x3⟩⟩
end Go.Proofs.YtalpbnfebcafgaaGreat

/- How far a node has counted, in each of its modes. -/
namespace Go.Proofs.YtalpbnfebcafgaaGreat
set_option maxRecDepth 20000
open Go.RowKit
set_option linter.unusedSectionVars false

/-- How many alike there may be. -/
structure Tidy (n : Nd) : Prop where
  j : n.mode = 0 → n.sl = 1 → n.sn ≤ 10
  f : n.mode = 3 ∨ n.mode = 5 → n.sl = 0 ∧ n.sn ≤ 5
  p : n.mode = 4 → n.sn ≤ 5
  c : n.mode = 7 → n.sl = 1 ∧ 1 ≤ n.sn ∧ n.sn ≤ 7
  z : n.mode = 8 → n.sn ≤ 2 ∧ (n.sl = 1 ∨ n.sn = 0)
  s : n.mode = 9 → n.sn ≤ 7 ∧ (n.sl = 1 ∨ n.sn = 0)
  o : n.mode = 10 → n.sl = 1 → n.sn ≤ 10
section
variable {B : Nat} {n : Nd} {z : Int}
theorem tidy_enter {m : Int} (h7 : m ≠ 7) : Tidy (n.enter m) :=
  ⟨fun _ e => (by cases e), fun _ => ⟨rfl, by show (0 : Int) ≤ 5; omega⟩, fun _ => by show (0 : Int) ≤ 5; omega, fun e => absurd e h7, fun _ => ⟨by show (0 : Int) ≤ 2; omega, .inr rfl⟩, fun _ => ⟨by show (0 : Int) ≤ 7; omega, .inr rfl⟩, fun _ e => (by cases e)⟩
/-- In a mode that counts nothing. -/
theorem tidy_free (h : n.mode = 1 ∨ n.mode = 2 ∨ n.mode = 6) : Tidy n :=
  ⟨fun e => by omega, fun e => by omega, fun e => by omega, fun e => by omega, fun e => by omega, fun e => by omega, fun e => by omega⟩
theorem Tidy.of {n' : Nd} (h : Tidy n) (e1 : n'.mode = n.mode) (e2 : n'.sl = n.sl) (e3 : n'.sn = n.sn) : Tidy n' :=
  ⟨by rw [e1, e2, e3]; exact h.j, by rw [e1, e2, e3]; exact h.f, by rw [e1, e3]; exact h.p, by rw [e1, e2, e3]; exact h.c, by rw [e1, e2, e3]; exact h.z, by rw [e1, e2, e3]; exact h.s, by rw [e1, e2, e3]; exact h.o⟩
theorem tidy_cas {x : Int} (h : Tidy n) : Tidy (n.casN x) := by
  unfold Nd.casN
  split
  · exact tidy_enter (by omega)
  · exact h.of rfl rfl rfl
theorem tidy_fail {k : Int} : Tidy (n.fail k).2 := by
  unfold Nd.fail Nd.flg
  exact tidy_cas (tidy_enter (by split <;> omega))
theorem tidy_failU {k : Int} : Tidy (n.failU k).2 := tidy_enter (by split <;> omega)
theorem tidy_over : Tidy n.over.2 := tidy_enter (by omega)
theorem tidy_begin {may : Bool} : Tidy (n.begin_ may) := tidy_free (.inr (.inl rfl))
theorem tidy_goOn (hm : n.mode = 2) : Tidy (n.goOn z).2 := by
  have e : (n.take z).mode = 2 := by unfold Nd.take; split <;> exact hm
  unfold Nd.goOn Nd.onto
  split
  · unfold Nd.fin
    split
    · exact (tidy_enter (n := n.take z) (m := 8) (by omega)).of rfl rfl rfl
    · exact tidy_enter (by omega)
  · split
    · exact tidy_free (.inr (.inl e))
    · exact tidy_free (.inr (.inl e))
theorem tidy_recv (hm : n.mode = 2) : Tidy (n.recv z).2 := by
  unfold Nd.recv
  split
  · exact tidy_over
  · split
    · exact tidy_fail
    · exact tidy_goOn hm
theorem tidy_send (hm : n.mode = 2) : Tidy (n.send z).2 := by
  unfold Nd.send
  split
  · split
    · exact tidy_goOn hm
    · unfold Nd.unheard
      split
      · exact (tidy_enter (n := n) (m := if n.pas then 4 else 3) (by split <;> omega)).of rfl rfl rfl
      · exact tidy_fail
  · split
    · exact tidy_failU
    · split
      · exact tidy_goOn hm
      · exact tidy_fail
theorem tidy_inF (hm : n.mode = 2) : Tidy (n.inF z).2 := by
  unfold Nd.inF
  split
  · exact tidy_recv (n := n.lost) hm
  · split
    · exact tidy_send hm
    · exact tidy_recv hm
theorem tidy_endF : Tidy n.endF := tidy_free (.inr (.inr rfl))
theorem tidy_see (hj : n.mode = 0 → z = 1 → tlN n.sl n.sn z ≤ 10) (hf : n.mode = 3 ∨ n.mode = 5 → z = 0 ∧ tlN n.sl n.sn z ≤ 5) (hp : n.mode = 4 → tlN n.sl n.sn z ≤ 5) (hc : n.mode = 7 → z = 1 ∧ 1 ≤ tlN n.sl n.sn z ∧ tlN n.sl n.sn z ≤ 7)
    (h8 : n.mode = 8 → tlN n.sl n.sn z ≤ 2 ∧ (z = 1 ∨ tlN n.sl n.sn z = 0)) (h9 : n.mode = 9 → tlN n.sl n.sn z ≤ 7 ∧ (z = 1 ∨ tlN n.sl n.sn z = 0)) (ho : n.mode = 10 → z = 1 → tlN n.sl n.sn z ≤ 10) : Tidy (n.see z) := ⟨hj, hf, hp, hc, h8, h9, ho⟩
theorem not_quiet (hq : ¬ n.quiet z = true) : ¬ (tlN n.sl n.sn z = 11 ∧ z = 1) := by
  rintro ⟨e1, e2⟩
  apply hq
  show (tlN n.sl n.sn z == 11 && z == 1) = true
  rw [e1, e2]
  rfl
theorem tlN_le {C : Int} (hq : ¬ (tlN n.sl n.sn z = C + 1 ∧ z = 1)) (hC : 1 ≤ C) (a : n.sl = 1 → n.sn ≤ C) (hz : z = 1) : tlN n.sl n.sn z ≤ C := by
  have hne : tlN n.sl n.sn z ≠ C + 1 := fun e => hq ⟨e, hz⟩
  unfold tlN at hne ⊢
  by_cases hl : z = n.sl
  · have := a (by omega)
    rw [if_pos hl] at hne ⊢
    omega
  · rw [if_neg hl]; omega
theorem tidy_flagN (h : Tidy n) (hs : Sound B n) (hm : n.mode = 3 ∨ n.mode = 5) : Tidy n.flagN := by
  have a := h.f hm
  have s0 := hs.s0
  unfold Nd.flagN
  split
  · exact tidy_endF
  · rename_i h6
    have e : tlN n.sl n.sn 0 = n.sn + 1 := by unfold tlN; rw [if_pos a.1.symm]
    exact tidy_see (fun e => by omega) (fun _ => ⟨rfl, by omega⟩) (fun e => by omega) (fun e => by omega) (fun e => by omega) (fun e => by omega) (fun e => by omega)
theorem tidy_pflN (h : Tidy n) (hm : n.mode = 4) : Tidy (n.pflN z) := by
  have a := h.p hm
  unfold Nd.pflN
  split
  · exact tidy_endF
  · rename_i h6
    have e : tlN n.sl n.sn z ≤ 5 := by
      unfold tlN at h6 ⊢
      split
      · rw [if_pos (by assumption)] at h6; omega
      · omega
    exact (tidy_see (n := n) (z := z) (fun e => by omega) (fun e => by omega) (fun _ => e) (fun e => by omega) (fun e => by omega) (fun e => by omega) (fun e => by omega)).of rfl rfl rfl
theorem tidy_closeN (h : n.mode = 7) (hs : n.sl = 1 ∧ n.sn ≤ 7 ∨ n.sl ≠ 1) (h0 : 0 ≤ n.sn) : Tidy n.closeN := by
  unfold Nd.closeN
  split
  · exact tidy_enter (by omega)
  · rename_i h8
    have e : 1 ≤ tlN n.sl n.sn 1 ∧ tlN n.sl n.sn 1 ≤ 7 := by
      unfold tlN at h8 ⊢
      split
      · rw [if_pos (by assumption)] at h8; omega
      · omega
    exact tidy_see (fun e => by omega) (fun e => by omega) (fun e => by omega) (fun _ => ⟨rfl, e.1, e.2⟩) (fun e => by omega) (fun e => by omega) (fun e => by omega)
theorem tidy_stp (hs : Sound B n) (h : Tidy n) : Tidy (n.stp z).2 := by
  have m0 := hs.m0
  have m1 := hs.m1
  have s0 := hs.s0
  unfold Nd.stp
  split
  · rename_i hm
    unfold Nd.join
    split
    · exact tidy_enter (by omega)
    · rename_i hq
      exact tidy_see (fun _ e => tlN_le (not_quiet hq) (by omega) (h.j hm) e) (fun e => by omega) (fun e => by omega) (fun e => by omega) (fun e => by omega) (fun e => by omega) (fun e => by omega)
  split
  · unfold Nd.idle
    split
    · exact tidy_begin
    · split
      · exact tidy_fail
      · exact h
  split
  · exact tidy_inF (by assumption)
  split
  · rename_i hm
    unfold Nd.flag
    split
    · exact tidy_flagN h hs (.inl hm)
    · exact tidy_cas (tidy_flagN h hs (.inl hm))
  split
  · rename_i hm
    unfold Nd.pflag
    split
    · exact tidy_cas (tidy_pflN h hm)
    · exact tidy_pflN h hm
  split
  · rename_i hm
    unfold Nd.flag
    split
    · exact tidy_flagN h hs (.inr hm)
    · exact tidy_cas (tidy_flagN h hs (.inr hm))
  split
  · rename_i hm
    unfold Nd.wait
    split
    · unfold Nd.close
      rw [if_pos rfl]
      exact tidy_closeN (n := n.enter 7) rfl (.inr (by show (0 : Int) ≠ 1; omega)) (Int.le_refl 0)
    · split
      · exact tidy_cas (tidy_free (.inr (.inr hm)))
      · exact tidy_free (.inr (.inr hm))
  split
  · rename_i hm
    have a := h.c hm
    unfold Nd.close
    split
    · exact tidy_closeN hm (.inl ⟨a.1, a.2.2⟩) s0
    · split
      · exact tidy_over
      · exact tidy_fail
  split
  · rename_i hm
    have a := h.z hm
    unfold Nd.pause
    split
    · split
      · exact tidy_begin
      · exact tidy_over
    · split
      · have e : tlN n.sl n.sn 1 ≤ 2 := by
          unfold tlN
          split <;> omega
        exact tidy_see (fun e => by omega) (fun e => by omega) (fun e => by omega) (fun e => by omega) (fun _ => ⟨e, .inl rfl⟩) (fun e => by omega) (fun e => by omega)
      · split
        · exact tidy_enter (by omega)
        · exact tidy_enter (by omega)
  split
  · rename_i hm
    have a := h.s hm
    unfold Nd.susp
    split
    · exact tidy_begin
    · show Tidy (if tlN n.sl n.sn 1 = 8 then n.enter 1 else n.see 1)
      split
      · exact tidy_enter (by omega)
      · rename_i h8
        have e : tlN n.sl n.sn 1 ≤ 7 := by
          unfold tlN at h8 ⊢
          split
          · rw [if_pos (by assumption)] at h8; omega
          · omega
        exact tidy_see (fun e => by omega) (fun e => by omega) (fun e => by omega) (fun e => by omega) (fun e => by omega) (fun _ => ⟨e, .inl rfl⟩) (fun e => by omega)
  · have hm : n.mode = 10 := by omega
    unfold Nd.off
    split
    · split
      · exact ⟨fun e => (by cases (show n.mode = 0 from e).symm.trans hm), fun _ => ⟨rfl, by show (0 : Int) ≤ 5; omega⟩, fun _ => by show (0 : Int) ≤ 5; omega, fun e => absurd (e.symm.trans hm) (by decide), fun _ => ⟨by show (0 : Int) ≤ 2; omega, .inr rfl⟩, fun _ => ⟨by show (0 : Int) ≤ 7; omega, .inr rfl⟩, fun _ e => (by cases e)⟩
      · exact (tidy_enter (n := n) (m := 1) (by omega)).of rfl rfl rfl
    · rename_i hq
      exact tidy_see (fun e => by omega) (fun e => by omega) (fun e => by omega) (fun e => by omega) (fun e => by omega) (fun e => by omega) (fun _ e => tlN_le (not_quiet hq) (by omega) (h.o hm) e)
end
end Go.Proofs.YtalpbnfebcafgaaGreat

/- A node without frames stays one. -/
namespace Go.Proofs.YtalpbnfebcafgaaGreat
set_option maxRecDepth 20000
open Go.RowKit
set_option linter.unusedSectionVars false

section
variable {B : Nat} {n : Nd} {z : Int}
theorem tx_cas {x : Int} : (n.casN x).tx = n.tx := by
  unfold Nd.casN
  split <;> rfl
theorem tx_fail {k : Int} : (n.fail k).2.tx = n.tx := by
  unfold Nd.fail
  exact tx_cas
theorem tx_begin10 {may : Bool} (hq : n.q = []) : (n.begin_ may).tx = false := by
  rw [begin_at]
  show (may && decide (0 < n.q.length)) = false
  rw [hq]
  simp
theorem tx_goOn (ht : n.tx = false) : (n.goOn z).2.tx = false := by
  have e := (take_kept (n := n) (z := z)).2.2.1
  rw [ht] at e
  unfold Nd.goOn Nd.onto
  split
  · unfold Nd.fin
    rw [e, if_neg (by simp)]
    exact e
  · split <;> exact e
theorem tx_inF (ht : n.tx = false) : (n.inF z).2.tx = false := by
  have hl : n.loses z = false := by
    unfold Nd.loses
    rw [ht]; rfl
  unfold Nd.inF
  rw [hl, if_neg (by simp), if_neg (by rw [ht]; simp)]
  unfold Nd.recv
  split
  · exact ht
  · split
    · rw [tx_fail]; exact ht
    · exact tx_goOn ht
theorem tx_stp (ht : n.tx = false) (hq : n.q = []) : (n.stp z).2.tx = false := by
  have h0 : ¬ 0 < n.q.length := by rw [hq]; simp
  unfold Nd.stp
  split
  · unfold Nd.join
    split <;> exact ht
  split
  · unfold Nd.idle
    split
    · exact tx_begin10 hq
    · exact ht
  split
  · exact tx_inF ht
  have hf : n.flagN.tx = false := by
    unfold Nd.flagN
    split <;> exact ht
  have hp : (n.pflN z).tx = false := by
    unfold Nd.pflN
    split <;> exact ht
  have hfl : (n.flag z).2.tx = false := by
    unfold Nd.flag
    split
    · exact hf
    · rw [tx_cas]; exact hf
  have hcl : ∀ m : Nd, m.tx = false → (m.close z).2.tx = false := fun m hm => by
    unfold Nd.close
    split
    · unfold Nd.closeN
      split <;> exact hm
    · split
      · exact hm
      · rw [tx_fail]; exact hm
  split
  · exact hfl
  split
  · unfold Nd.pflag
    split
    · rw [tx_cas]; exact hp
    · exact hp
  split
  · exact hfl
  split
  · unfold Nd.wait
    split
    · rename_i hz
      have := hcl (n.enter 7) ht
      rw [hz] at this
      exact this
    · split
      · rw [tx_cas]; exact ht
      · exact ht
  split
  · exact hcl n ht
  split
  · unfold Nd.pause
    split
    · split
      · exact tx_begin10 hq
      · exact ht
    · split
      · exact ht
      · split <;> exact ht
  split
  · unfold Nd.susp
    split
    · exact tx_begin10 hq
    · show (if tlN n.sl n.sn 1 = 8 then n.enter 1 else n.see 1).tx = false
      split <;> exact ht
  · unfold Nd.off
    split
    · split
      · exact ht
      · rfl
    · exact ht
theorem q_stp (hs : Sound B n) (hq : n.q = []) (hz : z = 0 ∨ z = 1) : (n.stp z).2.q = [] := by
  rcases (good_stp hs hz).q with h | ⟨f, h1, _⟩
  · rw [h.1, hq]
  · rw [hq] at h1; cases h1
/-- What such a node drives. -/
theorem drv_still (hq : n.q = []) (h0 : n.drv = 0) : n.mode = 2 ∨ n.mode = 3 ∨ n.mode = 5 := by
  unfold Nd.drv at h0
  split at h0
  · rw [hq, if_neg (by simp)] at h0; omega
  · split at h0
    · exact .inl (by assumption)
    · split at h0
      · rename_i h; exact .inr h
      · omega
end
end Go.Proofs.YtalpbnfebcafgaaGreat

/- The field of the level that comes, level by level, and how many are left. -/
namespace Go.Proofs.YtalpbnfebcafgaaGreat
set_option maxRecDepth 20000
open Go.RowKit

theorem kd_both {o : List Int} {z : Int} (h : kd o < 9) : nx (hW o) o.length 0 = nx (hW (o ++ [z])) o.length 0 ∧ o.length + 1 ≤ sumW (hW (o ++ [z])) := by
  have h1 := kd_next (z := z) h
  have h2 := kd_lt h
  have e := nout_take (zs := o ++ [z]) (k := o.length) (by simp)
  rw [List.take_append_of_le_length (Nat.le_refl _), List.take_length] at e
  rw [nout_nx (hW o) o.length 0 (by omega), nout_nx (hW (o ++ [z])) o.length 0 (by omega)] at e
  obtain ⟨e1, e2, _⟩ := tup3 e
  injection e1 with _ e1
  injection e2 with _ e2
  exact ⟨Prod.ext (by omega) (by omega), h1⟩
/-- Ahead of the sum's delimiter, or j levels behind it. -/
theorem kd_split {o : List Int} {z : Int} (h : kd o < 9) : (kd o ≤ 4 ∧ kd (o ++ [z]) ≤ 5) ∨ ∃ j, j ≤ 9 ∧ kd o = tl j ∧ kd (o ++ [z]) = tl (j + 1) ∧ (3 ≤ j → pl o = j - 3) ∧ (3 ≤ j + 1 → j + 1 ≤ 9 → pl (o ++ [z]) = j + 1 - 3) := by
  obtain ⟨e, h1⟩ := kd_both (z := z) h
  obtain ⟨a, ha⟩ : ∃ a, aW (hEx (o ++ [z])) = a := ⟨_, rfl⟩
  obtain ⟨c, hc⟩ : ∃ c, cW (hEx (o ++ [z])) = c := ⟨_, rfl⟩
  obtain ⟨d, hd⟩ : ∃ d, hDat (o ++ [z]) = d := ⟨_, rfl⟩
  have hw : hW (o ++ [z]) = wds a c d := by unfold hW; rw [ha, hc, hd]
  have k1 : kd o = (nx (wds a c d) o.length 0).1 := by unfold kd; rw [e, hw]
  have p1 : pl o = (nx (wds a c d) o.length 0).2 := by unfold pl; rw [e, hw]
  have k2 : kd (o ++ [z]) = (nx (wds a c d) (o.length + 1) 0).1 := by unfold kd; rw [hw, List.length_append, List.length_singleton]
  have p2 : pl (o ++ [z]) = (nx (wds a c d) (o.length + 1) 0).2 := by unfold pl; rw [hw, List.length_append, List.length_singleton]
  rw [hw] at h1
  simp only [wds, sumW] at h1
  rcases Nat.lt_or_ge o.length (1 + a + c + d + 15) with h2 | h2
  · refine .inl ⟨by rw [k1]; exact nx_lo _ _ _ _ h2, ?_⟩
    rw [k2]
    rcases Nat.lt_or_ge (o.length + 1) (1 + a + c + d + 15) with h4 | h4
    · have := nx_lo a c d (o.length + 1) h4; omega
    · have := nx_hi a c d 0 (by omega)
      rw [show 1 + a + c + d + 15 + 0 = o.length + 1 by omega] at this
      rw [this]; decide
  · obtain ⟨j, hj⟩ : ∃ j, o.length = 1 + a + c + d + 15 + j := ⟨o.length - (1 + a + c + d + 15), by omega⟩
    refine .inr ⟨j, by omega, ?_, ?_, fun h3 => ?_, fun h3 h9 => ?_⟩
    · rw [k1, hj]; exact nx_hi _ _ _ _ (by omega)
    · rw [k2, hj]; exact nx_hi a c d (j + 1) (by omega)
    · rw [p1, hj]; exact nx_pl _ _ _ _ h3 (by omega)
    · rw [p2, hj]; exact nx_pl a c d (j + 1) h3 h9
/-- How many levels of a frame's end are left; 11: its sum is not yet passed. -/
def lef (o : List Int) : Nat := if kd o ≤ 4 then 11 else if kd o ≤ 7 then 15 - kd o else if kd o = 8 then 7 - pl o else 0
theorem lef_of {o : List Int} {j : Nat} (hj : j ≤ 10) (hk : kd o = tl j) (hp : 3 ≤ j → j ≤ 9 → pl o = j - 3) : lef o = 10 - j := by
  unfold lef
  rw [hk]
  have : j = 0 ∨ j = 1 ∨ j = 2 ∨ (3 ≤ j ∧ j ≤ 9) ∨ j = 10 := by omega
  rcases this with rfl | rfl | rfl | ⟨h1, h2⟩ | rfl
  · rfl
  · rfl
  · rfl
  · have e : tl j = 8 := by unfold tl; rw [if_neg (by omega), if_pos (by omega)]
    rw [e, hp h1 h2, if_neg (by omega), if_neg (by omega), if_pos rfl]
    omega
  · rfl
theorem lef_step {o : List Int} {z : Int} (h : kd o < 9) (h5 : 5 ≤ kd o) : lef (o ++ [z]) + 1 = lef o ∧ 6 ≤ kd (o ++ [z]) := by
  rcases kd_split (z := z) h with ⟨h1, _⟩ | ⟨j, hj, h1, h2, h3, h4⟩
  · omega
  · rw [lef_of (by omega) h1 (fun a _ => h3 a), lef_of (by omega) h2 h4]
    refine ⟨by omega, ?_⟩
    rw [h2]
    unfold tl
    split
    · omega
    · split <;> omega
end Go.Proofs.YtalpbnfebcafgaaGreat

/- Levels alike of a frame that a node receives. -/
namespace Go.Proofs.YtalpbnfebcafgaaGreat
set_option maxRecDepth 20000
open Go.RowKit
set_option linter.unusedSectionVars false

/-- No more than five alike ahead of the sum's delimiter. -/
def Fiv (n : Nd) : Prop := n.mode = 2 → (n.bl = 0 ∨ n.bl = 1) ∧ (kd n.own ≤ 5 → n.bn ≤ 5)
section
variable {B : Nat} {n : Nd} {z : Int}
theorem fiv_not (h : n.mode ≠ 2) : Fiv n := fun e => absurd e h
theorem fiv_begin {may : Bool} : Fiv (n.begin_ may) := fun _ => ⟨.inl rfl, fun _ => by show ((alk [0] : Nat) : Int) ≤ 5; decide⟩
/-- What comes of a level that is taken. -/
theorem take_fiv (hs : Sound B n) (hm : n.mode = 2) (hf : Fiv n) (hz : z = 0 ∨ z = 1) (ha : n.added = true → z ≠ n.bl) : ((n.take z).bl = 0 ∨ (n.take z).bl = 1) ∧ (kd (n.take z).own ≤ 5 → (n.take z).bn ≤ 5) := by
  have i := hs.inf hm
  obtain ⟨f1, f2⟩ := hf hm
  have e1 : (n.take z).bl = z ∧ (n.take z).bn = tlN n.bl n.bn z := by
    unfold Nd.take
    split <;> exact ⟨rfl, rfl⟩
  rw [e1.1, e1.2]
  refine ⟨hz, fun hk => ?_⟩
  cases h : n.added
  · have e2 : (n.take z).own = n.own ++ [z] := by
      unfold Nd.take
      rw [h, if_neg (by simp)]; rfl
    rw [e2] at hk
    have h4 : kd n.own ≤ 4 := by
      rcases Nat.lt_or_ge 4 (kd n.own) with h5 | h5
      · have := (lef_step (z := z) i.go h5).2
        omega
      · exact h5
    have hb := f2 (by omega)
    have h5 : n.bn ≠ 5 := by
      intro e
      have : n.added = true := by
        unfold Nd.added
        rw [i.kind, e]
        simp
        omega
      rw [h] at this; cases this
    unfold tlN
    split <;> omega
  · have := ha h
    unfold tlN
    rw [if_neg this]
    omega
theorem mode_cas {x : Int} : (n.casN x).mode = n.mode ∨ (n.casN x).mode = 10 := by
  unfold Nd.casN
  split
  · exact .inr rfl
  · exact .inl rfl
theorem mode_fail {k : Int} : (n.fail k).2.mode = 3 ∨ (n.fail k).2.mode = 4 ∨ (n.fail k).2.mode = 10 := by
  unfold Nd.fail
  rcases mode_cas (n := n.flg) (x := 1) with h | h
  · show (n.flg.casN 1).mode = 3 ∨ _
    rw [h]
    show (if n.pas then 4 else 3 : Int) = 3 ∨ (if n.pas then 4 else 3 : Int) = 4 ∨ _
    split <;> omega
  · exact .inr (.inr h)
theorem wrong_bl (hw : n.wrongK z = 0) (ha : n.added = true) : z ≠ n.bl := by
  intro e
  unfold Nd.wrongK at hw
  rw [ha, if_pos rfl, if_pos e] at hw
  split at hw <;> omega
theorem fiv_recv (hs : Sound B n) (hm : n.mode = 2) (hf : Fiv n) (hz : z = 0 ∨ z = 1) : Fiv (n.recv z).2 := by
  have i := hs.inf hm
  unfold Nd.recv
  split
  · exact fiv_not (by show (5 : Int) ≠ 2; omega)
  · split
    · exact fiv_not (by have := mode_fail (n := n) (k := n.wrongK z); omega)
    · rename_i hw
      have hw' : n.wrongK z = 0 := Classical.not_not.1 hw
      have a := take_fiv hs hm hf hz (fun e => wrong_bl hw' e)
      unfold Nd.goOn Nd.onto
      split
      · unfold Nd.fin
        split
        · exact fiv_not (by show (8 : Int) ≠ 2; omega)
        · exact fiv_not (by show (8 : Int) ≠ 2; omega)
      · split
        · exact fun _ => a
        · exact fun _ => a
theorem fiv_inF (hs : Sound B n) (hm : n.mode = 2) (ht : n.tx = false) (hf : Fiv n) (hz : z = 0 ∨ z = 1) : Fiv (n.inF z).2 := by
  have hl : n.loses z = false := by
    unfold Nd.loses
    rw [ht]; rfl
  unfold Nd.inF
  rw [hl, if_neg (by simp), if_neg (by rw [ht]; simp)]
  exact fiv_recv hs hm hf hz
theorem fiv_stp (hs : Sound B n) (ht : n.tx = false) (hf : Fiv n) (hz : z = 0 ∨ z = 1) : Fiv (n.stp z).2 := by
  have hcas : ∀ (m : Nd) (x : Int), m.mode ≠ 2 → Fiv (m.casN x) := fun m x h => fiv_not (by have := mode_cas (n := m) (x := x); omega)
  have hfail : ∀ (m : Nd) (k : Int), Fiv (m.fail k).2 := fun m k => fiv_not (by have := mode_fail (n := m) (k := k); omega)
  have hen : ∀ (m : Nd) (k : Int), k ≠ 2 → Fiv (m.enter k) := fun m k h => fiv_not h
  have hfl : n.mode = 3 ∨ n.mode = 5 → n.flagN.mode ≠ 2 := fun h => (hs.flagN h).2.2.1
  have hcl : ∀ m : Nd, m.mode ≠ 2 → Fiv (m.close z).2 := fun m h => by
    unfold Nd.close
    split
    · unfold Nd.closeN
      split
      · exact hen _ _ (by omega)
      · exact fiv_not h
    · split
      · exact hen _ _ (by omega)
      · exact hfail _ _
  have hpf : n.mode = 4 → (n.pflN z).mode ≠ 2 := fun h => by
    unfold Nd.pflN
    split
    · show (6 : Int) ≠ 2; omega
    · show n.mode ≠ 2; omega
  unfold Nd.stp
  split
  · unfold Nd.join
    split
    · exact hen _ _ (by omega)
    · exact fiv_not (by show n.mode ≠ 2; omega)
  split
  · unfold Nd.idle
    split
    · exact fiv_begin
    · split
      · exact hfail _ _
      · exact hf
  split
  · exact fiv_inF hs (by assumption) ht hf hz
  split
  · unfold Nd.flag
    split
    · exact fiv_not (hfl (.inl (by assumption)))
    · exact hcas _ _ (hfl (.inl (by assumption)))
  split
  · unfold Nd.pflag
    split
    · exact hcas _ _ (hpf (by assumption))
    · exact fiv_not (hpf (by assumption))
  split
  · unfold Nd.flag
    split
    · exact fiv_not (hfl (.inr (by assumption)))
    · exact hcas _ _ (hfl (.inr (by assumption)))
  split
  · unfold Nd.wait
    split
    · rename_i hz1
      have := hcl (n.enter 7) (by show (7 : Int) ≠ 2; omega)
      rw [hz1] at this
      exact this
    · split
      · exact hcas _ _ (by show n.mode ≠ 2; omega)
      · exact fiv_not (by show n.mode ≠ 2; omega)
  split
  · exact hcl n (by omega)
  split
  · unfold Nd.pause
    split
    · split
      · exact fiv_begin
      · exact hen _ _ (by omega)
    · split
      · exact fiv_not (by show n.mode ≠ 2; omega)
      · split <;> exact hen _ _ (by omega)
  split
  · unfold Nd.susp
    split
    · exact fiv_begin
    · show Fiv (if tlN n.sl n.sn 1 = 8 then n.enter 1 else n.see 1)
      split
      · exact hen _ _ (by omega)
      · exact fiv_not (by show n.mode ≠ 2; omega)
  · unfold Nd.off
    split
    · split
      · exact fiv_not (by show n.mode ≠ 2; omega)
      · exact fiv_not (by show (1 : Int) ≠ 2; omega)
    · exact fiv_not (by show n.mode ≠ 2; omega)
end
end Go.Proofs.YtalpbnfebcafgaaGreat

/- How many recessive levels a node without frames needs to be idle; and rows of eleven of one that is off. -/
namespace Go.Proofs.YtalpbnfebcafgaaGreat
set_option maxRecDepth 20000
open Go.RowKit
set_option linter.unusedSectionVars false

/-- How many recessive levels in a row it has seen. -/
def Nd.run (n : Nd) : Int := if n.sl = 1 then n.sn else 0
/-- How many recessive levels are left till it is idle, or off, at most. -/
def rk (n : Nd) : Int :=
  if n.mode = 0 then 11 - n.run else if n.mode = 1 then 0
  else if n.mode = 2 then (if kd n.own ≤ 5 then 26 + (if n.bl = 1 then 6 - n.bn else 6) else 17 + (lef n.own : Nat))
  else if n.mode = 3 ∨ n.mode = 5 then 17 - n.sn else if n.mode = 4 then 17 - n.run else if n.mode = 6 then 11
  else if n.mode = 7 then 11 - n.sn else if n.mode = 8 then 3 - n.sn else if n.mode = 9 then 8 - n.sn else 0
section
variable {B : Nat} {n : Nd} {z : Int}
theorem tlN_one : tlN n.sl n.sn 1 = n.run + 1 := by
  unfold tlN Nd.run
  by_cases h : n.sl = 1
  · rw [if_pos h.symm, if_pos h]
  · rw [if_neg (fun e => h e.symm), if_neg h]; rfl
theorem run_see1 : (n.see 1).run = n.run + 1 := by
  show (if (1 : Int) = 1 then tlN n.sl n.sn 1 else 0) = _
  rw [if_pos rfl, tlN_one]
theorem run_see0 : (n.see 0).run = 0 := by
  show (if (0 : Int) = 1 then tlN n.sl n.sn 0 else 0) = 0
  rw [if_neg (by omega)]
theorem quiet1 : n.quiet 1 = true ↔ n.run = 10 := by
  unfold Nd.quiet
  rw [tlN_one]
  simp
  omega
theorem quiet0 : n.quiet 0 = false := by
  unfold Nd.quiet
  simp
theorem run_pos (h : 0 ≤ n.sn) : 0 ≤ n.run := by
  unfold Nd.run
  split <;> omega
theorem rk_cas {x : Int} {C : Int} (h : rk n ≤ C) (h0 : 0 ≤ C) (_hm : n.mode ≠ 2) : rk (n.casN x) ≤ C := by
  unfold Nd.casN
  split
  · exact h0
  · have e : rk (n.cnt x) = rk n := rfl
    rw [e]; exact h
theorem rk_fail {k : Int} : rk (n.fail k).2 ≤ 17 := by
  unfold Nd.fail Nd.flg
  by_cases h : n.pas = true
  · rw [if_pos h]
    exact rk_cas (by show (17 : Int) - 0 ≤ 17; omega) (by omega) (by show (4 : Int) ≠ 2; omega)
  · rw [if_neg h]
    exact rk_cas (by show (17 : Int) - 0 ≤ 17; omega) (by omega) (by show (3 : Int) ≠ 2; omega)
theorem lef_nine {o : List Int} (h : 6 ≤ kd o) : lef o ≤ 9 := by
  unfold lef
  rw [if_neg (by omega)]
  split
  · omega
  · split <;> omega
theorem lef_one {o : List Int} (h5 : 5 ≤ kd o) (h : kd o < 9) : 1 ≤ lef o := by
  have := (lef_step (z := 0) h h5).1
  omega
theorem rk_in (hm : n.mode = 2) : rk n = if kd n.own ≤ 5 then 26 + (if n.bl = 1 then 6 - n.bn else 6) else 17 + (lef n.own : Nat) := by
  unfold rk
  rw [if_neg (by omega), if_neg (by omega), if_pos hm]
theorem rk_ge (hs : Sound B n) (hf : Fiv n) (hm : n.mode = 2) : 18 ≤ rk n ∧ rk n ≤ 32 := by
  have i := hs.inf hm
  have b0 := i.b0
  obtain ⟨f1, f2⟩ := hf hm
  rw [rk_in hm]
  split
  · rename_i hk
    have := f2 hk
    split <;> omega
  · rename_i hk
    have h1 := lef_one (o := n.own) (by omega) i.go
    have h2 := lef_nine (o := n.own) (by omega)
    omega
theorem rk_inF (hs : Sound B n) (hm : n.mode = 2) (ht : n.tx = false) (hf : Fiv n) : rk (n.inF 1).2 + 1 ≤ rk n := by
  have i := hs.inf hm
  obtain ⟨g1, g2⟩ := rk_ge hs hf hm
  obtain ⟨f1, f2⟩ := hf hm
  have hl : n.loses 1 = false := by
    unfold Nd.loses
    rw [ht]; rfl
  unfold Nd.inF
  rw [hl, if_neg (by simp), if_neg (by rw [ht]; simp)]
  unfold Nd.recv
  rw [if_neg (by omega)]
  by_cases hw : n.wrongK 1 ≠ 0
  · rw [if_pos hw]
    have := rk_fail (n := n) (k := n.wrongK 1)
    omega
  · rw [if_neg hw]
    have hw' : n.wrongK 1 = 0 := Classical.not_not.1 hw
    have a := fun e => wrong_bl hw' e
    obtain ⟨e1, e2, e3, e4, e5⟩ := take_kept (n := n) (z := 1)
    have e6 : (n.take 1).bl = 1 ∧ (n.take 1).bn = tlN n.bl n.bn 1 ∧ (n.take 1).mode = n.mode := by
      unfold Nd.take
      split <;> exact ⟨rfl, rfl, rfl⟩
    have hin : rk (n.take 1) + 1 ≤ rk n := by
      rw [rk_in hm, rk_in (e6.2.2.trans hm), e6.1, e6.2.1, if_pos rfl]
      cases h : n.added
      · have e7 : (n.take 1).own = n.own ++ [1] := by
          unfold Nd.take
          rw [h, if_neg (by simp)]; rfl
        rw [e7]
        rcases Nat.lt_or_ge 4 (kd n.own) with h5 | h5
        · obtain ⟨l1, l2⟩ := lef_step (z := 1) i.go h5
          rw [if_neg (by omega)]
          split
          · rename_i hk
            have hb := f2 hk
            have l3 := lef_nine l2
            split <;> omega
          · omega
        · have h6 : kd (n.own ++ [1]) ≤ 5 := by
            rcases kd_split (z := 1) i.go with ⟨_, h6⟩ | ⟨j, _, h6, h7, _, _⟩
            · exact h6
            · rw [h6] at h5
              unfold tl at h5
              split at h5
              · omega
              · split at h5 <;> omega
          rw [if_pos h6, if_pos (by omega)]
          unfold tlN
          by_cases hb : n.bl = 1
          · rw [if_pos hb.symm, if_pos hb]; omega
          · rw [if_neg (fun e => hb e.symm), if_neg hb]; omega
      · have e7 : (n.take 1).own = n.own := by
          unfold Nd.take
          rw [h, if_pos rfl]; rfl
        rw [e7]
        have hb : n.bl ≠ 1 := fun e => a h e.symm
        have hk : kd n.own ≤ 5 := by
          unfold Nd.added at h
          rw [i.kind] at h
          simp at h
          omega
        rw [if_pos hk, if_pos hk, if_neg hb]
        unfold tlN
        rw [if_neg (fun e => hb e.symm)]
        omega
    unfold Nd.goOn Nd.onto
    split
    · unfold Nd.fin
      have : ∀ m : Nd, m.mode = 8 → m.sn = 0 → rk m ≤ 3 := fun m h1 h2 => by
        unfold rk
        rw [h1, h2]; simp
      split
      · exact Int.le_trans (Int.add_le_add_right (this _ rfl rfl) 1) (by omega)
      · exact Int.le_trans (Int.add_le_add_right (this _ rfl rfl) 1) (by omega)
    · split
      · exact hin
      · exact hin
/-- Each recessive level brings it nearer. -/
theorem rk_stp (hs : Sound B n) (hd : Tidy n) (hf : Fiv n) (ht : n.tx = false) (hq : n.q = []) : (rk n = 0 ∧ rk (n.stp 1).2 = 0) ∨ rk (n.stp 1).2 + 1 ≤ rk n := by
  have m0 := hs.m0
  have m1 := hs.m1
  have s0 := hs.s0
  have hlq : ¬ 0 < n.q.length := by rw [hq]; simp
  have hb : n.back = false := by
    unfold Nd.back
    rw [ht, Bool.and_false]
  have hmode : ∀ (a : Nd) (k : Int), a.mode = k → rk a = if k = 0 then 11 - a.run else if k = 1 then 0 else if k = 2 then (if kd a.own ≤ 5 then 26 + (if a.bl = 1 then 6 - a.bn else 6) else 17 + (lef a.own : Nat)) else if k = 3 ∨ k = 5 then 17 - a.sn else if k = 4 then 17 - a.run else if k = 6 then 11 else if k = 7 then 11 - a.sn else if k = 8 then 3 - a.sn else if k = 9 then 8 - a.sn else 0 := fun a k h => by
    subst h; rfl
  have hen : ∀ k : Int, k = 1 ∨ k = 10 → rk (n.enter k) = 0 := fun k hk => by rcases hk with rfl | rfl <;> rfl
  have hc : n.mode = 0 ∨ n.mode = 1 ∨ n.mode = 2 ∨ n.mode = 3 ∨ n.mode = 4 ∨ n.mode = 5 ∨ n.mode = 6 ∨ n.mode = 7 ∨ n.mode = 8 ∨ n.mode = 9 ∨ n.mode = 10 := by omega
  have hflag : n.mode = 3 ∨ n.mode = 5 → rk (n.flag 1).2 + 1 ≤ rk n := fun h => by
    obtain ⟨a1, a2⟩ := hd.f h
    have e : tlN n.sl n.sn 0 = n.sn + 1 := by unfold tlN; rw [if_pos a1.symm]
    have hk : rk n = 17 - n.sn := by rcases h with h | h <;> rw [hmode n _ h] <;> rfl
    unfold Nd.flag
    rw [if_neg (by omega)]
    have hr : rk n.flagN ≤ 16 - n.sn ∧ n.flagN.mode ≠ 2 := by
      unfold Nd.flagN
      rw [e]
      split
      · refine ⟨?_, by show (6 : Int) ≠ 2; omega⟩
        rw [hmode n.endF 6 rfl]
        show (11 : Int) ≤ _
        omega
      · have hk2 : rk (n.see 0) = 17 - (n.see 0).sn := by rcases h with h | h <;> rw [hmode (n.see 0) _ h] <;> rfl
        refine ⟨?_, by show n.mode ≠ 2; omega⟩
        rw [hk2]
        show 17 - tlN n.sl n.sn 0 ≤ _
        omega
    have := rk_cas (x := 8) hr.1 (by omega) hr.2
    show rk (n.flagN.casN 8) + 1 ≤ rk n
    omega
  rcases hc with h | h | h | h | h | h | h | h | h | h | h
  · refine .inr ?_
    rw [hmode n 0 h]
    unfold Nd.stp
    rw [if_pos h]
    unfold Nd.join
    have j := hd.j h
    have hr : n.run ≤ 10 := by
      unfold Nd.run
      split
      · exact j (by assumption)
      · omega
    by_cases hq1 : n.quiet 1 = true
    · rw [if_pos hq1, hen 1 (.inl rfl)]
      show 0 + 1 ≤ 11 - n.run
      omega
    · rw [if_neg hq1, hmode (n.see 1) 0 h, run_see1]
      show 11 - (n.run + 1) + 1 ≤ 11 - n.run
      omega
  · refine .inl ⟨by rw [hmode n 1 h]; rfl, ?_⟩
    unfold Nd.stp
    rw [if_neg (by omega), if_pos h]
    unfold Nd.idle
    rw [if_neg (by omega), if_neg hlq]
    show rk n = 0
    rw [hmode n 1 h]; rfl
  · refine .inr ?_
    unfold Nd.stp
    rw [if_neg (by omega), if_neg (by omega), if_pos h]
    exact rk_inF hs h ht hf
  · refine .inr ?_
    unfold Nd.stp
    rw [if_neg (by omega), if_neg (by omega), if_neg (by omega), if_pos h]
    exact hflag (.inl h)
  · refine .inr ?_
    have hp := hd.p h
    have hr5 : n.run ≤ 5 := by unfold Nd.run; split <;> omega
    rw [hmode n 4 h]
    show _ ≤ 17 - n.run
    unfold Nd.stp
    rw [if_neg (by omega), if_neg (by omega), if_neg (by omega), if_neg (by omega), if_pos h]
    unfold Nd.pflag
    have hdue : n.due 1 = false := by unfold Nd.due; simp
    rw [hdue, if_neg (by simp)]
    unfold Nd.pflN
    rw [tlN_one]
    split
    · rw [hmode n.endF 6 rfl]
      show (11 : Int) + 1 ≤ _
      omega
    · have hm4 : rk ({ n.see 1 with owed := n.owed && !(n.owed && 1 == 0) } : Nd) = 17 - (n.see 1).run := by
        exact hmode ({ n.see 1 with owed := n.owed && !(n.owed && 1 == 0) } : Nd) 4 h
      show rk ({ n.see 1 with owed := n.owed && !(n.owed && 1 == 0) } : Nd) + 1 ≤ _
      rw [hm4, run_see1]; omega
  · refine .inr ?_
    unfold Nd.stp
    rw [if_neg (by omega), if_neg (by omega), if_neg (by omega), if_neg (by omega), if_neg (by omega), if_pos h]
    exact hflag (.inr h)
  · refine .inr ?_
    rw [hmode n 6 h]
    unfold Nd.stp
    rw [if_neg (by omega), if_neg (by omega), if_neg (by omega), if_neg (by omega), if_neg (by omega), if_neg (by omega), if_pos h]
    unfold Nd.wait
    rw [if_pos rfl]
    show (10 : Int) + 1 ≤ 11
    omega
  · refine .inr ?_
    obtain ⟨c1, c2, c3⟩ := hd.c h
    rw [hmode n 7 h]
    show _ ≤ 11 - n.sn
    unfold Nd.stp
    rw [if_neg (by omega), if_neg (by omega), if_neg (by omega), if_neg (by omega), if_neg (by omega), if_neg (by omega), if_neg (by omega), if_pos h]
    unfold Nd.close
    rw [if_pos rfl]
    unfold Nd.closeN
    have e : tlN n.sl n.sn 1 = n.sn + 1 := by unfold tlN; rw [if_pos c1.symm]
    rw [e]
    split
    · show (3 : Int) - 0 + 1 ≤ _
      omega
    · show rk (n.see 1) + 1 ≤ _
      rw [hmode (n.see 1) 7 h]
      show 11 - tlN n.sl n.sn 1 + 1 ≤ _
      omega
  · refine .inr ?_
    obtain ⟨c1, c2⟩ := hd.z h
    rw [hmode n 8 h]
    show _ ≤ 3 - n.sn
    unfold Nd.stp
    rw [if_neg (by omega), if_neg (by omega), if_neg (by omega), if_neg (by omega), if_neg (by omega), if_neg (by omega), if_neg (by omega), if_neg (by omega), if_pos h]
    unfold Nd.pause
    rw [if_neg (by omega)]
    split
    · show rk (n.see 1) + 1 ≤ _
      rw [hmode (n.see 1) 8 h]
      show 3 - tlN n.sl n.sn 1 + 1 ≤ _
      have e : tlN n.sl n.sn 1 = n.sn + 1 := by
        unfold tlN
        split
        · rfl
        · omega
      omega
    · rw [hb, if_neg (by simp)]
      show (0 : Int) + 1 ≤ _
      omega
  · refine .inr ?_
    obtain ⟨c1, c2⟩ := hd.s h
    rw [hmode n 9 h]
    show _ ≤ 8 - n.sn
    unfold Nd.stp
    rw [if_neg (by omega), if_neg (by omega), if_neg (by omega), if_neg (by omega), if_neg (by omega), if_neg (by omega), if_neg (by omega), if_neg (by omega), if_neg (by omega), if_pos h]
    unfold Nd.susp
    rw [if_neg (by omega)]
    have e : tlN n.sl n.sn 1 = n.sn + 1 := by
      unfold tlN
      split
      · rfl
      · omega
    show rk (if tlN n.sl n.sn 1 = 8 then n.enter 1 else n.see 1) + 1 ≤ _
    rw [e]
    split
    · rw [hen 1 (.inl rfl)]; omega
    · rw [hmode (n.see 1) 9 h]
      show 8 - tlN n.sl n.sn 1 + 1 ≤ _
      omega
  · refine .inl ⟨by rw [hmode n 10 h]; rfl, ?_⟩
    unfold Nd.stp
    rw [if_neg (by omega), if_neg (by omega), if_neg (by omega), if_neg (by omega), if_neg (by omega), if_neg (by omega), if_neg (by omega), if_neg (by omega), if_neg (by omega), if_neg (by omega)]
    unfold Nd.off
    split
    · split
      · show rk n.row0 = 0
        rw [hmode n.row0 10 h]; rfl
      · rfl
    · show rk (n.see 1) = 0
      rw [hmode (n.see 1) 10 h]; rfl
theorem rk_zero (hs : Sound B n) (hd : Tidy n) (hf : Fiv n) (h : rk n = 0) : n.mode = 1 ∨ n.mode = 10 := by
  have m0 := hs.m0
  have m1 := hs.m1
  rcases Decidable.em (n.mode = 2) with h2 | h2
  · have := rk_ge hs hf h2; omega
  have j := hd.j
  have f := hd.f
  have p := hd.p
  have c := hd.c
  have z8 := hd.z
  have s9 := hd.s
  have s0 := hs.s0
  have hr : n.run = n.sn ∧ n.sl = 1 ∨ n.run = 0 := by
    unfold Nd.run
    split
    · exact .inl ⟨rfl, by assumption⟩
    · exact .inr rfl
  unfold rk at h
  rcases hr with hr | hr
  · repeat (first | split at h | omega)
  · repeat (first | split at h | omega)
theorem rk_le (hs : Sound B n) (hf : Fiv n) : rk n ≤ 60 := by
  rcases Decidable.em (n.mode = 2) with h2 | h2
  · have := rk_ge hs hf h2; omega
  have s0 := hs.s0
  have hr := run_pos s0
  unfold rk
  repeat (first | split | omega)
/-- What a level does to one that is off. -/
theorem off_stp0 (hm : n.mode = 10) : n.stp 0 = ([], n.see 0) := by
  unfold Nd.stp
  rw [if_neg (by omega), if_neg (by omega), if_neg (by omega), if_neg (by omega), if_neg (by omega), if_neg (by omega), if_neg (by omega), if_neg (by omega), if_neg (by omega), if_neg (by omega)]
  unfold Nd.off
  rw [quiet0, if_neg (by simp)]
theorem off_stp1 (hm : n.mode = 10) (hr : n.run ≠ 10) : n.stp 1 = ([], n.see 1) := by
  unfold Nd.stp
  rw [if_neg (by omega), if_neg (by omega), if_neg (by omega), if_neg (by omega), if_neg (by omega), if_neg (by omega), if_neg (by omega), if_neg (by omega), if_neg (by omega), if_neg (by omega)]
  unfold Nd.off
  rw [if_neg (fun e => hr (quiet1.1 e))]
theorem off_stpR (hm : n.mode = 10) (hr : n.run = 10) (h : n.rows + 1 < 128) : n.stp 1 = ([], n.row0) := by
  unfold Nd.stp
  rw [if_neg (by omega), if_neg (by omega), if_neg (by omega), if_neg (by omega), if_neg (by omega), if_neg (by omega), if_neg (by omega), if_neg (by omega), if_neg (by omega), if_neg (by omega)]
  unfold Nd.off
  rw [if_pos (quiet1.2 hr), if_pos h]
theorem off_stpB (hm : n.mode = 10) (hr : n.run = 10) (h : ¬ n.rows + 1 < 128) : n.stp 1 = ([ev 11], { n.enter 1 with ct := Ct.zero, tx := false }) := by
  unfold Nd.stp
  rw [if_neg (by omega), if_neg (by omega), if_neg (by omega), if_neg (by omega), if_neg (by omega), if_neg (by omega), if_neg (by omega), if_neg (by omega), if_neg (by omega), if_neg (by omega)]
  unfold Nd.off
  rw [if_pos (quiet1.2 hr), if_neg h]
theorem off_run (hs : Sound B n) (hd : Tidy n) (hm : n.mode = 10) : 0 ≤ n.run ∧ n.run ≤ 10 := by
  refine ⟨run_pos hs.s0, ?_⟩
  unfold Nd.run
  split
  · exact hd.o hm (by assumption)
  · omega
/-- How many recessive levels are left till one that is off comes back. -/
def ork (n : Nd) : Int := if n.mode = 10 then 11 * (128 - n.rows) - n.run else 0
theorem ork_stp (hs : Sound B n) (hd : Tidy n) (h : n.mode = 1 ∨ n.mode = 10) (hq : n.q = []) : ((n.stp 1).2.mode = 1 ∨ (n.stp 1).2.mode = 10) ∧ ((ork n = 0 ∧ ork (n.stp 1).2 = 0) ∨ ork (n.stp 1).2 + 1 ≤ ork n) := by
  have hlq : ¬ 0 < n.q.length := by rw [hq]; simp
  rcases h with h | h
  · have e : n.stp 1 = ([], n) := by
      unfold Nd.stp
      rw [if_neg (by omega), if_pos h]
      unfold Nd.idle
      rw [if_neg (by omega), if_neg hlq]
    rw [e]
    have : ork n = 0 := by unfold ork; rw [if_neg (by omega)]
    exact ⟨.inl h, .inl ⟨this, this⟩⟩
  · obtain ⟨r0, r1⟩ := off_run hs hd h
    have ho : ork n = 11 * (128 - n.rows) - n.run := by unfold ork; rw [if_pos h]
    have q1 := hs.r1
    rw [ho]
    by_cases hr : n.run = 10
    · by_cases h1 : n.rows + 1 < 128
      · rw [off_stpR h hr h1]
        refine ⟨.inr h, .inr ?_⟩
        have : ork n.row0 = 11 * (128 - (n.rows + 1)) - 0 := by
          unfold ork
          rw [if_pos (show n.row0.mode = 10 from h)]; rfl
        show ork n.row0 + 1 ≤ _
        omega
      · rw [off_stpB h hr h1]
        refine ⟨.inl rfl, .inr ?_⟩
        show (0 : Int) + 1 ≤ _
        omega
    · rw [off_stp1 h hr]
      refine ⟨.inr h, .inr ?_⟩
      have : ork (n.see 1) = 11 * (128 - n.rows) - (n.run + 1) := by
        unfold ork
        rw [if_pos (show (n.see 1).mode = 10 from h), run_see1]; rfl
      show ork (n.see 1) + 1 ≤ _
      omega
theorem ork_le (hs : Sound B n) : 0 ≤ ork n → ork n ≤ 1408 := fun _ => by
  have := hs.r0
  have := run_pos hs.s0
  unfold ork
  split <;> omega
theorem ork_zero (hs : Sound B n) (hd : Tidy n) (h : n.mode = 1 ∨ n.mode = 10) (h0 : ork n ≤ 0) : n.mode = 1 := by
  rcases h with h | h
  · exact h
  · obtain ⟨r0, r1⟩ := off_run hs hd h
    have q1 := hs.r1
    unfold ork at h0
    rw [if_pos h] at h0
    omega
end
end Go.Proofs.YtalpbnfebcafgaaGreat

/- What a node drives is a level; a node without frames. -/
namespace Go.Proofs.YtalpbnfebcafgaaGreat
set_option maxRecDepth 20000
open Go.RowKit
set_option linter.unusedSectionVars false

section
variable {B : Nat} {n : Nd} {z : Int}
theorem oth_01 (l : Int) : oth l = 0 ∨ oth l = 1 := by
  unfold oth
  split
  · exact .inr rfl
  · exact .inl rfl
theorem drvIn_01 (hs : Sound B n) (hm : n.mode = 2) : n.drvIn = 0 ∨ n.drvIn = 1 := by
  have i := hs.inf hm
  unfold Nd.drvIn
  split
  · exact oth_01 _
  · split
    · rename_i ht
      obtain ⟨x1, x2, b, x3⟩ := i.out ht
      have hl : n.own.length < n.outL.length := by rw [x2]; exact tx_short (hs.qf _ x1).1 x3 i.go
      have hm : n.outL.getD n.own.length 0 ∈ n.outL := by
        simp [List.getD, List.getElem?_eq_getElem hl]
      have ha : ∀ z ∈ n.outL, lvl z = true := by
        rw [x2]
        exact alls_all n.outF
      exact lvl_01 (ha _ hm)
    · split
      · exact .inl rfl
      · exact .inr rfl
theorem drv_01 (hs : Sound B n) : n.drv = 0 ∨ n.drv = 1 := by
  unfold Nd.drv
  split
  · split
    · exact .inl rfl
    · exact .inr rfl
  · split
    · exact drvIn_01 hs (by assumption)
    · split
      · exact .inl rfl
      · exact .inr rfl
/-- A node without frames, behind B levels. -/
structure Cm (B : Nat) (n : Nd) : Prop where
  s : Sound B n
  d : Tidy n
  f : Fiv n
  t : n.tx = false
  q : n.q = []
theorem cm_new : Cm 0 Nd.new := ⟨sound_new, ⟨fun _ e => (by cases e), fun e => by (rcases e with e | e <;> cases e), fun e => (by cases e), fun e => (by cases e), fun e => (by cases e), fun e => (by cases e), fun e => (by cases e)⟩, fiv_not (by decide), rfl, rfl⟩
theorem Cm.stp (h : Cm B n) (hz : z = 0 ∨ z = 1) : Cm (B + 1) (n.stp z).2 :=
  ⟨(good_stp h.s hz).s, tidy_stp h.s h.d, fiv_stp h.s h.t h.f hz, tx_stp h.t h.q, q_stp h.s h.q hz⟩
/-- With so many recessive levels still to come. -/
theorem Cm.near (h : Cm B n) {k : Nat} (hk : k < 60) (hr : rk n ≤ 60 - (k : Nat)) : rk (n.stp 1).2 ≤ 60 - ((k + 1 : Nat) : Int) := by
  rcases rk_stp h.s h.d h.f h.t h.q with ⟨a, b⟩ | a <;> omega
theorem Cm.nearer (h : Cm B n) (hm : n.mode = 1 ∨ n.mode = 10) {k : Nat} (hk : k < 1408) (hr : ork n ≤ 1408 - (k : Nat)) : ((n.stp 1).2.mode = 1 ∨ (n.stp 1).2.mode = 10) ∧ ork (n.stp 1).2 ≤ 1408 - ((k + 1 : Nat) : Int) := by
  obtain ⟨a, b⟩ := ork_stp h.s h.d hm h.q
  refine ⟨a, ?_⟩
  rcases b with ⟨b1, b2⟩ | b <;> omega
theorem rk_pos (hs : Sound B n) (hd : Tidy n) (hf : Fiv n) : 0 ≤ rk n := by
  rcases Decidable.em (n.mode = 2) with h2 | h2
  · have := rk_ge hs hf h2; omega
  have j := hd.j
  have f := hd.f
  have p := hd.p
  have c := hd.c
  have z8 := hd.z
  have s9 := hd.s
  have s0 := hs.s0
  have hr : n.run = n.sn ∧ n.sl = 1 ∨ n.run = 0 := by
    unfold Nd.run
    split
    · exact .inl ⟨rfl, by assumption⟩
    · exact .inr rfl
  unfold rk
  rcases hr with hr | hr
  · repeat (first | split | omega)
  · repeat (first | split | omega)
theorem Cm.idle (h : Cm B n) (hr : rk n ≤ 0) : n.mode = 1 ∨ n.mode = 10 := rk_zero h.s h.d h.f (by have := rk_pos h.s h.d h.f; omega)
theorem Cm.back (h : Cm B n) (hm : n.mode = 1 ∨ n.mode = 10) (hr : ork n ≤ 0) : n.mode = 1 := ork_zero h.s h.d hm hr
theorem Cm.drv1 (h : Cm B n) (hm : n.mode = 1) : n.drv = 1 := by
  unfold Nd.drv
  rw [if_pos hm, h.q, if_neg (by simp)]
theorem Cm.orl (h : Cm B n) : ork n ≤ 1408 := by
  have a := h.s.r0
  have b := h.s.r1
  have c := run_pos h.s.s0
  unfold ork
  split <;> omega
end
end Go.Proofs.YtalpbnfebcafgaaGreat

