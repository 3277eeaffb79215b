/- A node that sends, and loses against a frame that goes ahead of its own. -/
import Derived.Test.YtenfcbmeokenaaaGreatX05
import Derived.Test.YtenfcbmeokenaaaGreatZAM
namespace Go.Proofs.YtenfcbmeokenaaaGreat
set_option maxRecDepth 20000
open Go.RowKit
set_option linter.unusedSectionVars false

theorem raw_arb (f : Fr) : ∃ r, raw f = 0 :: (f.lv ++ r) :=
  ⟨ofB f.len.toNat (cW f.ext) ++ datB f.d (nDat f) ++ ofB (csum (bts f)) 15, by unfold raw bts ctlB Fr.lv; simp⟩
theorem raw_at {F G : Fr} {p : Nat} (h : At F.lv G.lv p) : (raw F).take (p + 1) = (raw G).take (p + 1) ∧ (raw F)[p + 1]? = some 0 ∧ (raw G)[p + 1]? = some 1 := by
  obtain ⟨r, hr⟩ := raw_arb F
  obtain ⟨s, hs⟩ := raw_arb G
  obtain ⟨l1, l2⟩ := h.lt
  rw [hr, hs]
  refine ⟨?_, ?_, ?_⟩
  · rw [List.take_succ_cons, List.take_succ_cons, take_pre (by omega), take_pre (by omega), h.1]
  · rw [List.getElem?_cons_succ, List.getElem?_append_left l1]; exact h.2.1
  · rw [List.getElem?_cons_succ, List.getElem?_append_left l2]; exact h.2.2
theorem raw_one {f : Fr} (hm : f.may = true) {j : Nat} (h1 : 1 ≤ j) (h2 : j ≤ f.wid) : kd ((raw f).take j) = 1 := by
  have hW0 := raw_W hm []
  rw [List.append_nil] at hW0
  have hl := raw_len2 (f := f)
  rw [wid_eq] at h2
  have hs : sumW (hW (raw f)) = (raw f).length + 10 := by rw [hW0, hl]; simp only [wds, sumW]; omega
  rw [kd_take (by omega) (by omega), hW0]
  unfold wds
  simp only [nx]
  rw [if_neg (by omega), if_pos (by omega)]
/-- The place on the bus of the frame's own level j. -/
def sK (f : Fr) (j : Nat) : Nat := (stf ((raw f).take j)).length
theorem stf_lt (l : List Int) (z : Int) : (stf l).length < (stf (l ++ [z])).length := by
  rw [stf_snoc]
  unfold sput
  split <;> simp
theorem sK_get {f : Fr} {j : Nat} {z : Int} (h : (raw f)[j]? = some z) (b : Bool) : (enc f b).getD (sK f j) 0 = z ∧ sK f j < sl_ f := by
  have h1 : (raw f).take (j + 1) = (raw f).take j ++ [z] := take_snoc _ _ _ h
  obtain ⟨a1, a2⟩ := stf_take (f := f) (j + 1) b
  rw [h1] at a1 a2
  have hlt := stf_lt ((raw f).take j) z
  have e : ∃ r, stf ((raw f).take j ++ [z]) = stf ((raw f).take j) ++ z :: r := by
    rw [stf_snoc]
    unfold sput
    split
    · exact ⟨[1 - z], by simp⟩
    · exact ⟨[], rfl⟩
  obtain ⟨r, hr⟩ := e
  have hk : sK f j = (stf ((raw f).take j)).length := rfl
  refine ⟨?_, by omega⟩
  have g : ((enc f b).take (stf ((raw f).take j ++ [z])).length)[sK f j]? = some z := by
    rw [a2, hr, hk, List.getElem?_append_right (Nat.le_refl _), Nat.sub_self]; rfl
  rw [List.getElem?_take_of_lt (by omega)] at g
  rw [List.getD, g]; rfl
theorem stf_mono {f : Fr} {i j : Nat} (h : i < j) (hj : j ≤ (raw f).length) : sK f i < sK f j := by
  have hi : i < (raw f).length := by omega
  have hz : (raw f)[i]? = some (raw f)[i] := List.getElem?_eq_getElem hi
  have h1 := take_snoc _ _ _ hz
  have h2 := stf_lt ((raw f).take i) ((raw f)[i])
  have h3 := stf_pre ((raw f).take (i + 1)) (((raw f).take j).drop (i + 1))
  have h4 : (raw f).take (i + 1) ++ ((raw f).take j).drop (i + 1) = (raw f).take j := by
    have e : (raw f).take (i + 1) = ((raw f).take j).take (i + 1) := by rw [List.take_take, Nat.min_eq_left (by omega)]
    rw [e]; exact List.take_append_drop _ _
  rw [h4] at h3
  rw [h1] at h3
  have := h3.1
  unfold sK
  omega
theorem way_uniq {f : Fr} {b : Bool} {j : Nat} {o : List Int} (hj : j < (raw f).length) (h : Way f b (sK f j) o) : o = (raw f).take j := by
  obtain ⟨h1, h2⟩ := h
  have hz : (raw f)[j]? = some (raw f)[j] := List.getElem?_eq_getElem hj
  have hlt := (sK_get hz b).2
  rcases h2 with ⟨_, i, i1, i2, rfl, h3⟩ | ⟨h3, _⟩
  · have e' : (enc f b).take (sK f j) = stf ((raw f).take j) := (stf_take (f := f) j b).2
    rw [e'] at h3
    rcases h3 with h3 | ⟨h3, _⟩
    · have hl : sK f i = sK f j := congrArg List.length h3
      rcases Nat.lt_trichotomy i j with h | h | h
      · have := stf_mono (f := f) h (by omega); omega
      · rw [h]
      · have := stf_mono (f := f) h i2; omega
    · have := alk_stf ((raw f).take j); omega
  · omega
theorem enc_same {F G : Fr} {j : Nat} (h : (raw F).take j = (raw G).take j) (b b' : Bool) : sK F j = sK G j ∧ (enc F b).take (sK F j) = (enc G b').take (sK F j) := by
  have e1 := (stf_take (f := F) j b).2
  have e2 := (stf_take (f := G) j b').2
  rw [← h] at e2
  unfold sK
  exact ⟨by rw [h], e1.trans e2.symm⟩
theorem getD_take {l : List Int} {k m : Nat} (h : k < m) : (l.take m).getD k 0 = l.getD k 0 := by
  simp [List.getD, List.getElem?_take_of_lt h]

section
variable {F G : Fr} (hF : F.may = true) (hG : G.may = true) {p : Nat} (h : At F.lv G.lv p)
include hF hG h
theorem lose_len : p + 1 < (raw F).length ∧ p + 1 < (raw G).length ∧ p + 1 ≤ F.wid ∧ p + 1 ≤ G.wid := by
  obtain ⟨h1, h2, h3⟩ := raw_at h
  obtain ⟨l1, l2⟩ := h.lt
  rw [lv_len] at l1 l2
  exact ⟨(List.getElem?_eq_some_iff.1 h2).1, (List.getElem?_eq_some_iff.1 h3).1, l1, l2⟩
theorem lose_pos : 1 ≤ sK F (p + 1) ∧ sK F (p + 1) ≤ 39 ∧ sK F (p + 1) = sK G (p + 1) ∧ sK F (p + 1) < sl_ F ∧ sK F (p + 1) < sl_ G := by
  obtain ⟨h1, h2, h3⟩ := raw_at h
  obtain ⟨l1, l2, l3, l4⟩ := lose_len hF hG h
  have a := stf_len ((raw F).take (p + 1))
  have c := stf_most ((raw F).take (p + 1))
  have hl : ((raw F).take (p + 1)).length = p + 1 := by rw [List.length_take]; omega
  have w := wid_32 F
  have e := (enc_same h1 true true).1
  have s1 := (sK_get h2 true).2
  have s2 := (sK_get h3 true).2
  have hk : sK F (p + 1) = (stf ((raw F).take (p + 1))).length := rfl
  refine ⟨by omega, by omega, e, s1, by omega⟩
/-- Alike ahead of the place where it loses. -/
theorem lose_same {k : Nat} (hk : k < sK F (p + 1)) (b : Bool) : (enc G b).getD k 0 = (enc F true).getD k 0 := by
  have e := (enc_same (raw_at h).1 true b).2
  rw [← getD_take hk, ← e, getD_take hk]
theorem lose_at (b : Bool) : (enc F b).getD (sK F (p + 1)) 0 = 0 ∧ (enc G b).getD (sK F (p + 1)) 0 = 1 := by
  obtain ⟨h1, h2, h3⟩ := raw_at h
  refine ⟨(sK_get h2 b).1, ?_⟩
  rw [(lose_pos hF hG h).2.2.1]
  exact (sK_get h3 b).1
/-- The level at which it loses. -/
theorem lose_step {c : Nd} {b : Bool} {o : List Int} (hw : Way G b (sK F (p + 1)) o) : ∃ o', Way F true (sK F (p + 1) + 1) o' ∧
    (c.at_ o ((enc G b).take (sK F (p + 1))) true G (alls G)).stp 0 = ([ev 3], c.at_ o' ((enc F true).take (sK F (p + 1) + 1)) false Fr.zero []) := by
  obtain ⟨h1, h2, h3⟩ := raw_at h
  obtain ⟨l1, l2, l3, l4⟩ := lose_len hF hG h
  obtain ⟨p1, p2, p3, p4, p5⟩ := lose_pos hF hG h
  rw [p3] at hw
  have ho := way_uniq l2 hw
  have ht := (enc_same h1 true b).2
  rw [← ht]
  subst ho
  rw [← h1]
  have et : (enc F true).take (sK F (p + 1)) = stf ((raw F).take (p + 1)) := (stf_take (f := F) (p + 1) true).2
  have hwF : Way F true (sK F (p + 1)) ((raw F).take (p + 1)) := ⟨p1, .inl ⟨by omega, p + 1, by omega, by omega, rfl, .inl et.symm⟩⟩
  obtain ⟨o', w1, w2⟩ := way_rx (c := c) (F := Fr.zero) (L := []) hF hwF (by omega)
  rw [(lose_at hF hG h true).1, stp_two rfl, at_inF_rx] at w2
  refine ⟨o', w1, ?_⟩
  have k1 : kd ((raw F).take (p + 1)) = 1 := raw_one hF (by omega) l3
  have hal : ¬ (kd ((raw F).take (p + 1)) ≤ 5 ∧ alk ((enc F true).take (sK F (p + 1))) = 5) := by
    rw [et]
    have := alk_stf ((raw F).take (p + 1))
    omega
  have hd : (c.at_ ((raw F).take (p + 1)) ((enc F true).take (sK F (p + 1))) true G (alls G)).drvIn = 1 := by
    rw [at_drv, decide_eq_false hal, if_neg (by simp), if_pos rfl]
    have hl : ((raw F).take (p + 1)).length = p + 1 := by rw [List.length_take]; omega
    rw [hl, show alls G = raw G ++ ten (slt false) from rfl, gd_left l2, List.getD, h3]; rfl
  have hlo : (c.at_ ((raw F).take (p + 1)) ((enc F true).take (sK F (p + 1))) true G (alls G)).loses 0 = true := by
    unfold Nd.loses
    rw [hd, at_added, decide_eq_false hal]
    have e1 : (c.at_ ((raw F).take (p + 1)) ((enc F true).take (sK F (p + 1))) true G (alls G)).kind = 1 := by show ((kd _ : Nat) : Int) = 1; rw [k1]; rfl
    rw [e1]
    rfl
  rw [stp_two rfl]
  unfold Nd.inF
  rw [hlo, if_pos rfl]
  show (ev 3 :: ((c.at_ ((raw F).take (p + 1)) ((enc F true).take (sK F (p + 1))) false Fr.zero []).recv 0).1, ((c.at_ ((raw F).take (p + 1)) ((enc F true).take (sK F (p + 1))) false Fr.zero []).recv 0).2) = _
  rw [w2]
end
/-- One that has lost, and receives. -/
def LsB (F G : Fr) (k : Nat) (n : Nd) : Prop := (k < sl_ F + 10 ∧ ∃ o, Way F true k o ∧ n = (idl [G]).at_ o ((enc F true).take k) false Fr.zero []) ∨ (k = sl_ F + 10 ∧ n = pz (idl [G]) 0)
theorem idl_one_fit {G : Fr} (hG : G.may = true) (hg : G.wf) : Okfs [G] ∧ [G].length ≤ 16 := ⟨fun g hg' => by rw [List.mem_singleton.1 hg']; exact ⟨hG, hg⟩, by show 1 ≤ 16; omega⟩
theorem lsB_step {F G : Fr} (hF : F.may = true) (hf : F.wf) (hG : G.may = true) (hg : G.wf) {k : Nat} {n : Nd} (h : LsB F G k n) (hk : k < sl_ F + 10) :
    ((enc F true).getD k 0 = 0 ∨ (enc F true).getD k 0 = 1) ∧ Fit n ∧ n.drv = (if k = sl_ F + 1 then 0 else 1) ∧
    ∃ es n', n.stp ((enc F true).getD k 0) = (es, n') ∧ LsB F G (k + 1) n' ∧ (k ≠ sl_ F + 8 → es = []) ∧ (k = sl_ F + 8 → ∃ g, es = [(2, g)] ∧ g.val = F.val) := by
  have hq := idl_one_fit hG hg
  rcases h with ⟨h1, o, hw, rfl⟩ | ⟨h1, _⟩
  · refine ⟨lvl_01 (way_lvl h1), way_fit hF hw h1 hq.1 hq.2 (fun h => by cases h), ?_, ?_⟩
    · rw [drv_two rfl, way_rx_drv hF hw h1]
    · by_cases h8 : k < sl_ F + 8
      · obtain ⟨o', w1, w2⟩ := way_rx (c := idl [G]) (F := Fr.zero) (L := []) hF hw h8
        exact ⟨[], _, w2, .inl ⟨by omega, o', w1, rfl⟩, fun _ => rfl, fun h => by omega⟩
      · by_cases h9 : k = sl_ F + 8
        · obtain ⟨o', g, w1, w2, w3⟩ := way_got (c := idl [G]) (F := Fr.zero) (L := []) hF hf hw h9
          exact ⟨_, _, w2, .inl ⟨by omega, o', w1, rfl⟩, fun h => absurd h9 h, fun _ => ⟨g, rfl, w3⟩⟩
        · refine ⟨_, _, way_done hF hw (by omega), .inr ⟨by omega, rfl⟩, fun _ => rfl, fun h => absurd h h9⟩
  · omega
/-- The pause behind it. -/
def LsP (G : Fr) (j : Nat) : Nd := if j < 3 then pz (idl [G]) j else idl [G]
theorem lsP_step {G : Fr} (hG : G.may = true) (hg : G.wf) {j : Nat} (h : j < 3) : Fit (LsP G j) ∧ (LsP G j).stp 1 = ([], LsP G (j + 1)) := by
  have hq := idl_one_fit hG hg
  unfold LsP
  rw [if_pos h]
  refine ⟨pz_fit (by omega) hq.1 hq.2, ?_⟩
  by_cases h2 : j < 2
  · rw [if_pos (by omega), pz_step _ h2]
  · rw [if_neg (by omega), show j = 2 by omega, pz_end]
    rfl
/-- One that sends, ahead of the place K where it loses. -/
theorem lsA_fit {G : Fr} (hG : G.may = true) (hg : G.wf) {k : Nat} {n : Nd} (h : TxAt (idl [G]) G true k n) (hk : k < sl_ G + 10) : Fit n :=
  tx_fit hG h hk (idl_fit (idl_one_fit hG hg).1 (idl_one_fit hG hg).2)
/-- The step at which it loses. -/
theorem lsA_lost {F G : Fr} (hF : F.may = true) (hG : G.may = true) {p : Nat} (h : At F.lv G.lv p) {n : Nd} (ht : TxAt (idl [G]) G true (sK F (p + 1)) n) : ∃ n', n.stp 0 = ([ev 3], n') ∧ LsB F G (sK F (p + 1) + 1) n' := by
  obtain ⟨p1, p2, p3, p4, p5⟩ := lose_pos hF hG h
  rcases ht with ⟨h0, _⟩ | ⟨_, o, hw, rfl⟩
  · omega
  · obtain ⟨o', w1, w2⟩ := lose_step (c := idl [G]) hF hG h hw
    exact ⟨_, w2, .inl ⟨by omega, o', w1, rfl⟩⟩
/-- A node over two rows that were there ahead of it. -/
theorem Nst.old2 {w0 w w' : World} {g gq : Nat} {n : Nd} {P : World → (Nat → Prop) → Prop} {B B2 : Nat} {v v2 : Value} {rs rs2 : List Int} (h : Nst w w' g gq n P) (ho : Own w B v rs) (ho2 : Own w B2 v2 rs2) (hb : Below w0.heap.size w0 w) (hB : w0.heap.size ≤ B) (hB2 : w0.heap.size ≤ B2) :
    Nst w0 w' g gq n (Both (Both P (RowS w0.heap.size v rs)) (RowS w0.heap.size v2 rs2)) := by
  obtain ⟨vo, vl, vq, h1, h2, h3⟩ := h
  refine ⟨vo, vl, vq, h1.base hb.size, ⟨⟨h2, ?_, fun k hk hf => ?_⟩, ?_, fun k hk hf => ?_⟩, nxt hb h3⟩
  · exact Own.mono (owns_move ho fun k hk => h3.block k (World.ownsRow.lt ho k hk).2) hB
  · have a := h1.fp_ge k hf
    have b := (World.ownsRow.lt ho k hk).2
    omega
  · exact Own.mono (owns_move ho2 fun k hk => h3.block k (World.ownsRow.lt ho2 k hk).2) hB2
  · have a := h1.fp_ge k hf
    have b := (World.ownsRow.lt ho2 k hk).2
    omega
end Go.Proofs.YtenfcbmeokenaaaGreat
