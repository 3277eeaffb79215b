/- A law's node, and what lies beside it. -/
import Derived.Test.YtenfcbmeokenaaaGreatY4
import Derived.Test.YtenfcbmeokenaaaGreatY0
import Derived.Test.YtenfcbmeokenaaaGreatY1
import Derived.Deep.WholeRow
namespace Go.Proofs.YtenfcbmeokenaaaGreat
set_option maxRecDepth 20000
open Go.RowKit
set_option linter.unusedSimpArgs false

/-- What stays, whatever a node turns of its own blocks. -/
def Kept (P : World → (Nat → Prop) → Prop) : Prop := ∀ w w' F F', Moves F F' w w' → P w F → P w' F'
def NoSide : World → (Nat → Prop) → Prop := fun _ _ => True
theorem kept_no : Kept NoSide := fun _ _ _ _ _ _ => trivial
def Both (P Q : World → (Nat → Prop) → Prop) : World → (Nat → Prop) → Prop := fun w F => P w F ∧ Q w F
theorem kept_both {P Q : World → (Nat → Prop) → Prop} (h : Kept P) (h' : Kept Q) : Kept (Both P Q) := fun w w' F F' hm hp => ⟨h w w' F F' hm hp.1, h' w w' F F' hm hp.2⟩
/-- A row of ints beside it. -/
def RowS (B : Nat) (v : Value) (rs : List Int) : World → (Nat → Prop) → Prop := fun w F => Own w B v rs ∧ ∀ k, v.ownBlock = some k → ¬ F k
theorem kept_row (B : Nat) (v : Value) (rs : List Int) : Kept (RowS B v rs) := fun _ _ _ _ hm hp => hm.owns hp.1 hp.2
/-- A row of frames beside it. -/
def FrsS (B : Nat) (v : Value) (gs : List Fr) : World → (Nat → Prop) → Prop := fun w F => Fown w B v gs ∧ ∀ k, v.ownBlock = some k → ¬ F k
theorem kept_frs (B : Nat) (v : Value) (gs : List Fr) : Kept (FrsS B v gs) := fun _ _ _ _ hm hp => hm.owns hp.1 hp.2
/-- A frame's block beside it. -/
def FbS (g : Nat) (f : Fr) : World → (Nat → Prop) → Prop := fun w F => Fb w g f ∧ ¬ F g
theorem kept_fb (g : Nat) (f : Fr) : Kept (FbS g f) := fun _ _ _ _ hm hp => hm.blk hp.1 hp.2

/-- A law's node, and what lies beside it. -/
def Nst (w0 w : World) (g gq : Nat) (n : Nd) (P : World → (Nat → Prop) → Prop) : Prop :=
  ∃ vo vl vq, Lay w w0.heap.size ⟨g, gq, vo, vl, vq⟩ n ∧ P w (NP.fp ⟨g, gq, vo, vl, vq⟩) ∧ Below w0.heap.size w0 w
section
variable {w0 w w' : World} {g gq : Nat} {n : Nd} {P Q : World → (Nat → Prop) → Prop}
theorem Nst.below (h : Nst w0 w g gq n P) : Below w0.heap.size w0 w := h.choose_spec.choose_spec.choose_spec.2.2
theorem Nst.next (h : Nst w0 w g gq n P) (hP : Kept P) (hb : Below w.heap.size w w') : Nst w0 w' g gq n P := by
  obtain ⟨vo, vl, vq, h1, h2, h3⟩ := h
  exact ⟨vo, vl, vq, h1.next hb, hP _ _ _ _ (.of_below hb _) h2, nxt h3 hb⟩
theorem Nst.drew (h : Nst w0 w g gq n P) (hP : Kept P) : Nst w0 w.drew g gq n P := h.next hP (below_drew (Below.refl _ _))
theorem Nst.add (h : Nst w0 w g gq n P) (hP : Kept P) (hb : Below w.heap.size w w') (hq : ∀ F : Nat → Prop, (∀ k, F k → k < w.heap.size) → Q w' F) : Nst w0 w' g gq n (Both P Q) := by
  obtain ⟨vo, vl, vq, h1, h2, h3⟩ := h
  exact ⟨vo, vl, vq, h1.next hb, ⟨hP _ _ _ _ (.of_below hb _) h2, hq _ h1.fp_lt⟩, nxt h3 hb⟩
theorem Nst.side (h : Nst w0 w g gq n P) : ∃ F : Nat → Prop, P w F := by
  obtain ⟨vo, vl, vq, h1, h2, h3⟩ := h
  exact ⟨_, h2⟩
theorem Nst.less (h : Nst w0 w g gq n P) (hq : ∀ F : Nat → Prop, P w F → Q w F) : Nst w0 w g gq n Q := by
  obtain ⟨vo, vl, vq, h1, h2, h3⟩ := h
  exact ⟨vo, vl, vq, h1, hq _ h2, h3⟩
theorem Nst.to (h : Nst w0 w g gq n P) {n' : Nd} (e : n = n') : Nst w0 w g gq n' P := e ▸ h

theorem nst_drive (h : Nst w0 w g gq n P) (hf : n.mode = 2 → Okf n) : Calls Tryz.prog 16 #[.pointer (some ⟨g, 0, none⟩)] w fun e w' => e = .returned (.int .i64 n.drv) ∧ Below w.heap.size w w' := by
  obtain ⟨vo, vl, vq, h1, h2, h3⟩ := h
  exact drv_any (p := ⟨g, gq, vo, vl, vq⟩) h1 hf
theorem nst_look (h : Nst w0 w g gq n P) : Calls Tryz.prog 18 #[.pointer (some ⟨g, 0, none⟩)] w fun e w' => e = .returned n.lookV ∧ Below w.heap.size w w' := by
  obtain ⟨vo, vl, vq, h1, h2, h3⟩ := h
  exact look_any (p := ⟨g, gq, vo, vl, vq⟩) h1
theorem nst_step (h : Nst w0 w g gq n P) (hP : Kept P) (hn : Fit n) (z : Int) (hz : z = 0 ∨ z = 1) : Calls Tryz.prog 17 #[.pointer (some ⟨g, 0, none⟩), .int .i64 z] w fun e w' =>
    ∃ u, e = .returned (.tuple #[u, .int .i64 0]) ∧ Eown w' w.heap.size u (n.stp z).1 ∧ Nst w0 w' g gq (n.stp z).2 P ∧ Below w0.heap.size w w' := by
  obtain ⟨vo, vl, vq, h1, h2, h3⟩ := h
  refine (step_any10 (p := ⟨g, gq, vo, vl, vq⟩) h1 hn z hz).mono ?_
  rintro e w' ⟨u, vo', vl', vq', rfl, g1, g2, g3⟩
  have hb := h1.below g3
  exact ⟨u, rfl, g1, ⟨vo', vl', vq', g2, hP _ _ _ _ g3 h2, h3.trans hb⟩, hb⟩
theorem nst_put (h : Nst w0 w g gq n P) (hP : Kept P) (f : Fr) (hok : Okq n.q) (hn : n.q.length ≤ 1000) : Calls Tryz.prog 23 #[.pointer (some ⟨g, 0, none⟩), f.val] w fun e w' =>
    e = .returned (.int .i64 (pE 16 f n.q)) ∧ Nst w0 w' g gq { n with q := pL 16 f n.q } P := by
  obtain ⟨vo, vl, vq, h1, h2, h3⟩ := h
  refine (nput_any (p := ⟨g, gq, vo, vl, vq⟩) h1 f hok hn).mono ?_
  rintro e w' ⟨vq', rfl, g1, g2⟩
  have hb := h1.below g2
  exact ⟨rfl, vo, vl, vq', g1, hP _ _ _ _ g2 h2, h3.trans hb⟩
theorem nst_queue (h : Nst w0 w g gq n P) (hn : n.q.length ≤ 1000000) : Calls Tryz.prog 19 #[.pointer (some ⟨g, 0, none⟩)] w fun e w' => ∃ u, e = .returned u ∧ Fown w' w.heap.size u n.q ∧ Below w.heap.size w w' := by
  obtain ⟨vo, vl, vq, h1, h2, h3⟩ := h
  exact queue_any (p := ⟨g, gq, vo, vl, vq⟩) h1 hn
theorem nst_new (w0 w : World) (hb : Below w0.heap.size w0 w) : Calls Tryz.prog 21 #[] w fun e w' => ∃ g gq, e = .returned (.pointer (some ⟨g, 0, none⟩)) ∧ Nst w0 w' g gq Nd.new NoSide ∧ Below w.heap.size w w' := by
  refine (new_any w).mono ?_
  rintro e w' ⟨⟨g, gq, vo, vl, vq⟩, rfl, h1, h2⟩
  exact ⟨g, gq, rfl, ⟨vo, vl, vq, h1.base hb.size, trivial, nxt hb h2⟩, h2⟩
end
theorem rowS_new {w : World} {B B' : Nat} {v : Value} {rs : List Int} (h : Own w B v rs) (hB : B' ≤ B) : ∀ F : Nat → Prop, (∀ k, F k → k < B) → RowS B' v rs w F :=
  fun F hF => ⟨h.mono hB, fun k hk hf => by have := (World.ownsRow.lt h k hk).1; have := hF k hf; omega⟩
end Go.Proofs.YtenfcbmeokenaaaGreat

/- A node that joins, sends and receives whole frames, and its pauses. -/
namespace Go.Proofs.YtenfcbmeokenaaaGreat
set_option maxRecDepth 20000

/-- A node that joins, behind i levels 1. -/
def jn (q : List Fr) (i : Nat) : Nd := if i = 0 then { Nd.new with q := q } else if i < 11 then { Nd.new with sl := 1, sn := (i : Nat), q := q } else { Nd.new with mode := 1, q := q }
def idl (q : List Fr) : Nd := { Nd.new with mode := 1, q := q }
theorem jn_end (q : List Fr) : jn q 11 = idl q := rfl
theorem jn_zero (q : List Fr) : jn q 0 = { Nd.new with q := q } := rfl
theorem jn_mid {q : List Fr} {i : Nat} (h0 : i ≠ 0) (h : i < 11) : jn q i = { Nd.new with sl := 1, sn := (i : Nat), q := q } := by unfold jn; rw [if_neg h0, if_pos h]
theorem jn_mode {q : List Fr} {i : Nat} (h : i < 11) : (jn q i).mode = 0 := by
  by_cases h0 : i = 0
  · subst h0; rfl
  · rw [jn_mid h0 h]; rfl
theorem stp_zero {n : Nd} {z : Int} (h : n.mode = 0) : n.stp z = n.join z := by unfold Nd.stp; simp [h]
theorem stp_one {n : Nd} {z : Int} (h : n.mode = 1) : n.stp z = n.idle z := by unfold Nd.stp; simp [h]
theorem stp_eight {n : Nd} {z : Int} (h : n.mode = 8) : n.stp z = n.pause z := by unfold Nd.stp; simp [h]
theorem jn_step (q : List Fr) {i : Nat} (h : i < 11) : (jn q i).stp 1 = ([], jn q (i + 1)) := by
  rw [stp_zero (jn_mode h)]
  by_cases h0 : i = 0
  · subst h0; rfl
  · rw [jn_mid h0 h]
    unfold Nd.join Nd.quiet
    have ht : tlN (1 : Int) (i : Nat) 1 = (i : Int) + 1 := by unfold tlN; rw [if_pos rfl]
    rw [show ({ Nd.new with sl := 1, sn := (i : Nat), q := q } : Nd).sl = 1 from rfl, show ({ Nd.new with sl := 1, sn := (i : Nat), q := q } : Nd).sn = (i : Nat) from rfl, ht]
    by_cases h1 : i = 10
    · subst h1; rfl
    · rw [if_neg (by simp; omega), jn_mid (by omega) (by omega)]
      unfold Nd.see
      rw [show ({ Nd.new with sl := 1, sn := (i : Nat), q := q } : Nd).sl = 1 from rfl, show ({ Nd.new with sl := 1, sn := (i : Nat), q := q } : Nd).sn = (i : Nat) from rfl, ht]
      rfl
theorem jn_drv (q : List Fr) {i : Nat} (h : i < 11) : (jn q i).drv = 1 := by
  unfold Nd.drv
  rw [jn_mode h]; rfl
theorem jn_q (q : List Fr) (i : Nat) : (jn q i).q = q := by unfold jn; split; rfl; split <;> rfl

/-- A node in no frame, that is fit. -/
theorem fit_of {n : Nd} (hm : 0 ≤ n.mode ∧ n.mode ≤ 10 ∧ n.mode ≠ 2) (hs : 0 ≤ n.sn ∧ n.sn ≤ 4000000) (hr : 0 ≤ n.rows ∧ n.rows ≤ 4000000) (hq : Okfs n.q) (hl : n.q.length ≤ 16) : Fit n :=
  ⟨hm.1, hm.2.1, hs.1, hs.2, hr.1, hr.2, hq, hl, fun h => absurd h hm.2.2⟩
theorem fit_of2 {n : Nd} (m s r : Int) (em : n.mode = m) (es : n.sn = s) (er : n.rows = r) (h : 0 ≤ m ∧ m ≤ 10 ∧ m ≠ 2 ∧ 0 ≤ s ∧ s ≤ 4000000 ∧ 0 ≤ r ∧ r ≤ 4000000) (hq : Okfs n.q) (hl : n.q.length ≤ 16) : Fit n := by
  subst em; subst es; subst er
  exact fit_of ⟨h.1, h.2.1, h.2.2.1⟩ ⟨h.2.2.2.1, h.2.2.2.2.1⟩ ⟨h.2.2.2.2.2.1, h.2.2.2.2.2.2⟩ hq hl
theorem jn_fit {q : List Fr} {i : Nat} (h : i ≤ 11) (hq : Okfs q) (hl : q.length ≤ 16) : Fit (jn q i) := by
  by_cases h0 : i = 0
  · subst h0; exact fit_of2 0 0 0 rfl rfl rfl (by omega) hq hl
  · by_cases h1 : i < 11
    · rw [jn_mid h0 h1]
      exact fit_of2 0 (i : Nat) 0 rfl rfl rfl (by omega) hq hl
    · have : i = 11 := by omega
      subst this
      exact fit_of2 1 0 0 rfl rfl rfl (by omega) hq hl
theorem idl_fit {q : List Fr} (hq : Okfs q) (hl : q.length ≤ 16) : Fit (idl q) := fit_of2 1 0 0 rfl rfl rfl (by omega) hq hl
theorem okfs_nil : Okfs [] := fun g hg => by cases hg

section
variable {f : Fr} (hm : f.may = true)
include hm
theorem way_fit {c : Nd} {o L : List Int} {F : Fr} {k : Nat} {b tx : Bool} (hw : Way f b k o) (hk : k < sl_ f + 10) (hq : Okfs c.q) (hl : c.q.length ≤ 16) (hL : tx = true → L = alls f) : Fit (c.at_ o ((enc f b).take k) tx F L) := by
  have ho : ∀ z ∈ o, lvl z = true := by
    obtain ⟨_, h⟩ := hw
    rcases h with ⟨_, j, _, _, rfl, _⟩ | ⟨_, _, rfl⟩
    · exact all_take (raw_all f) j
    · exact all_append (raw_all f) (all_take (by cases b <;> decide) _)
  have hrl : (raw f).length ≤ 200 := by rw [raw_len]; have := bts_le hm; omega
  have hol : o.length < (raw f).length + 11 := by
    obtain ⟨_, h⟩ := hw
    rcases h with ⟨_, j, _, _, rfl, _⟩ | ⟨_, _, rfl⟩
    · rw [List.length_take]; omega
    · rw [List.length_append, List.length_take, ten_len]; omega
  have hsl : sl_ f ≤ 300 := stf_raw_le hm
  have hal : alk ((enc f b).take k) ≤ 400 := by
    have := (alk_spec ((enc f b).take k)).1
    rw [List.length_take, enc_ln] at this; omega
  have hgo : (c.at_ o ((enc f b).take k) tx F L).added = true ∨ kd o < 9 := by
    rw [at_added]
    obtain ⟨_, h⟩ := way_step hm hw hk
    rcases h with ⟨h1, h2, _⟩ | ⟨h1, h2, h3, h4, h5⟩
    · exact .inl (decide_eq_true ⟨h1, h2⟩)
    · rcases h5 with ⟨_, h7, _⟩ | ⟨h6, h7⟩
      · exact .inr (by omega)
      · obtain ⟨t1, _⟩ := way_tail hm h6 h7 hk
        rcases tl_cases (i := k - sl_ f) (by omega) with ⟨a, e⟩ | ⟨a, e⟩ | ⟨a, e⟩ | ⟨a, e⟩ <;> exact .inr (by omega)
  have hout : tx = true → o.length < L.length := fun h => by
    rw [hL h]
    have ha : (alls f).length = (raw f).length + 10 := by rw [alls_raw, List.length_append, ten_len]
    obtain ⟨_, hs⟩ := way_step hm hw hk
    rcases hs with ⟨h1, h2, h3, h4, h5⟩ | ⟨h1, h2, h3, h4, h5⟩
    · obtain ⟨_, h6⟩ := hw
      rcases h6 with ⟨_, j, _, _, rfl, _⟩ | ⟨h7, _, _⟩
      · rw [List.length_take, ha]; omega
      · omega
    · omega
  refine ⟨by show (0 : Int) ≤ 2; omega, by show (2 : Int) ≤ 10; omega, Int.le_refl 0, by show (0 : Int) ≤ 4000000; omega, Int.le_refl 0, by show (0 : Int) ≤ 4000000; omega, hq, hl, fun _ => ⟨⟨ho, by show o.length ≤ 10000; omega, hout⟩, ⟨ho, by show o.length ≤ 9000; omega, hgo, Int.natCast_nonneg _, by show ((alk ((enc f b).take k) : Nat) : Int) ≤ 4000000; omega, hl⟩, rfl⟩⟩

/-- A node that sends a frame, behind k levels of it. -/
def TxAt (c : Nd) (f : Fr) (b : Bool) (k : Nat) (n : Nd) : Prop := (k = 0 ∧ n = c) ∨ (1 ≤ k ∧ ∃ o, Way f b k o ∧ n = c.at_ o ((enc f b).take k) true f (alls f))
theorem enc_zero0 (b : Bool) : (enc f b).getD 0 0 = 0 := by
  have h := way_enc0 hm b
  have h1 : (enc f b).take 1 = [] ++ [(0 : Int)] := h
  exact get_of h1 rfl (by rw [enc_ln]; omega)
omit hm in
theorem sl_pos : 1 ≤ sl_ f := by
  have := (stf_len (raw f)).1
  have := raw_pos (f := f)
  unfold sl_; omega
section
variable {c n : Nd} {gs : List Fr} {k : Nat} {b : Bool}
theorem tx_drive (hc : c.mode = 1) (hq : c.q = f :: gs) (h : TxAt c f b k n) (hk : k < sl_ f + 10) : n.drv = (enc f false).getD k 0 := by
  rcases h with ⟨rfl, rfl⟩ | ⟨h1, o, hw, rfl⟩
  · rw [enc_zero0 hm, drv_one hc, hq, if_pos (by simp)]
  · rw [drv_two rfl, way_tx_drv hm hw hk]
theorem tx_begin (hc : c.mode = 1) (hq : c.q = f :: gs) (b : Bool) : c.stp 0 = ([], c.at_ [0] ((enc f b).take 1) true f (alls f)) := by
  rw [stp_one hc]
  unfold Nd.idle
  rw [if_pos rfl, begin_at, hq, way_enc0 hm]
  simp
theorem tx_step (hc : c.mode = 1) (hq : c.q = f :: gs) (h : TxAt c f b k n) (hk : k < sl_ f + 9) (hs : k = sl_ f + 1 → b = true) : ∃ n', n.stp ((enc f b).getD k 0) = ([], n') ∧ TxAt c f b (k + 1) n' := by
  rcases h with ⟨rfl, rfl⟩ | ⟨h1, o, hw, rfl⟩
  · rw [enc_zero0 hm, tx_begin hm hc hq b]
    exact ⟨_, rfl, .inr ⟨Nat.le_refl _, [0], way_one hm b, rfl⟩⟩
  · obtain ⟨o', w1, w2⟩ := way_tx (c := c) (F := f) hm hw hk hs
    exact ⟨_, w2, .inr ⟨by omega, o', w1, rfl⟩⟩
theorem tx_sent (h : TxAt c f b k n) (hk : k = sl_ f + 9) : n.stp ((enc f b).getD k 0) = ([(1, f)], { c.enter 8 with tx := true, ct := c.ct.snt, q := drp f c.q }) := by
  rcases h with ⟨h0, _⟩ | ⟨h1, o, hw, rfl⟩
  · omega
  · exact way_sent hm hw hk
theorem tx_fit (h : TxAt c f b k n) (hk : k < sl_ f + 10) (hc : Fit c) : Fit n := by
  rcases h with ⟨rfl, rfl⟩ | ⟨h1, o, hw, rfl⟩
  · exact hc
  · exact way_fit hm hw hk hc.q hc.ql fun _ => rfl
end
/-- A node that receives a frame, behind k levels of it. -/
def RxAt (c : Nd) (f : Fr) (k : Nat) (n : Nd) : Prop := (k = 0 ∧ n = c) ∨ (1 ≤ k ∧ ∃ o, Way f true k o ∧ n = c.at_ o ((enc f true).take k) false Fr.zero [])
section
variable {c n : Nd} {k : Nat}
theorem rx_drive (hc : c.mode = 1) (hq : c.q = []) (h : RxAt c f k n) (hk : k < sl_ f + 10) : n.drv = if k = sl_ f + 1 then 0 else 1 := by
  rcases h with ⟨rfl, rfl⟩ | ⟨h1, o, hw, rfl⟩
  · rw [drv_one hc, hq, if_neg (by simp), if_neg (by omega)]
  · rw [drv_two rfl, way_rx_drv hm hw hk]
theorem rx_begin (hc : c.mode = 1) (hq : c.q = []) : c.stp 0 = ([], c.at_ [0] ((enc f true).take 1) false Fr.zero []) := by
  rw [stp_one hc]
  unfold Nd.idle
  rw [if_pos rfl, begin_at, hq, way_enc0 hm]
  rfl
theorem rx_step (hc : c.mode = 1) (hq : c.q = []) (h : RxAt c f k n) (hk : k < sl_ f + 8) : ∃ n', n.stp ((enc f true).getD k 0) = ([], n') ∧ RxAt c f (k + 1) n' := by
  rcases h with ⟨rfl, rfl⟩ | ⟨h1, o, hw, rfl⟩
  · rw [enc_zero0 hm, rx_begin hm hc hq]
    exact ⟨_, rfl, .inr ⟨Nat.le_refl _, [0], way_one hm true, rfl⟩⟩
  · obtain ⟨o', w1, w2⟩ := way_rx (c := c) (F := Fr.zero) (L := []) hm hw hk
    exact ⟨_, w2, .inr ⟨by omega, o', w1, rfl⟩⟩
theorem rx_got (hwf : f.wf) (h : RxAt c f k n) (hk : k = sl_ f + 8) : ∃ n' g, n.stp ((enc f true).getD k 0) = ([(2, g)], n') ∧ RxAt { c with ct := c.ct.rcv } f (k + 1) n' ∧ g.val = f.val := by
  rcases h with ⟨h0, _⟩ | ⟨h1, o, hw, rfl⟩
  · omega
  · obtain ⟨o', g, w1, w2, w3⟩ := way_got (c := c) (F := Fr.zero) (L := []) hm hwf hw hk
    exact ⟨_, g, w2, .inr ⟨by omega, o', w1, rfl⟩, w3⟩
theorem rx_done (h : RxAt c f k n) (hk : k = sl_ f + 9) : n.stp ((enc f true).getD k 0) = ([], { c.enter 8 with tx := false }) := by
  rcases h with ⟨h0, _⟩ | ⟨h1, o, hw, rfl⟩
  · omega
  · exact way_done hm hw hk
theorem rx_fit (h : RxAt c f k n) (hk : k < sl_ f + 10) (hc : Fit c) : Fit n := by
  rcases h with ⟨rfl, rfl⟩ | ⟨h1, o, hw, rfl⟩
  · exact hc
  · exact way_fit hm hw hk hc.q hc.ql fun h => by cases h
end
end

/-- A pause, behind i levels 1. -/
def pz (c : Nd) (i : Nat) : Nd := { c.enter 8 with sl := if i = 0 then 0 else 1, sn := (i : Nat) }
theorem pz_zero (c : Nd) : pz c 0 = c.enter 8 := rfl
theorem pz_step (c : Nd) {i : Nat} (h : i < 2) : (pz c i).stp 1 = ([], pz c (i + 1)) := by
  rw [stp_eight rfl]
  have : i = 0 ∨ i = 1 := by omega
  rcases this with rfl | rfl <;> rfl
theorem pz_end (c : Nd) : (pz c 2).stp 1 = ([], if c.back then c.enter 9 else c.enter 1) := by
  rw [stp_eight rfl]
  unfold Nd.pause
  rw [if_neg (by omega), if_neg (show ¬ (pz c 2).sn ≠ 2 from fun h => h rfl)]
  show (if (pz c 2).back then _ else _) = _
  have e : (pz c 2).back = c.back := rfl
  rw [e]
  cases c.back <;> rfl
theorem pz_drv (c : Nd) (i : Nat) : (pz c i).drv = 1 := rfl
theorem pz_fit {c : Nd} {i : Nat} (h : i ≤ 3) (hc : Okfs c.q) (hl : c.q.length ≤ 16) : Fit (pz c i) := fit_of2 8 (i : Nat) 0 rfl rfl rfl (by omega) hc hl
end Go.Proofs.YtenfcbmeokenaaaGreat

/- The chapter's example: magnetolaw10.awake. -/
namespace Go.Proofs.YtenfcbmeokenaaaGreat
set_option maxRecDepth 20000
open Go.RowKit
set_option linter.unusedSimpArgs false

theorem Eown.shape {w : World} {B : Nat} {v : Value} {es : List Ev} (h : Eown w B v es) (h0 : 0 < es.length) : ∃ ge cap, v = .slice (some ⟨ge, 0, none⟩) es.length cap ∧ ∀ j u, (ecs es)[j]? = some u → w.cell? ⟨ge, j, none⟩ = some u := by
  rcases h.2 with ⟨_, h1⟩ | ⟨g, cap, cur, rfl, _⟩
  · omega
  · refine ⟨g, cap, rfl, fun j u hu => ?_⟩
    have := World.ownsRow.cells h (g := g) rfl j u hu
    rwa [add_zero_off] at this
theorem RowS.cell {w : World} {B n cap j : Nat} {ad : Addr} {rs : List Int} {F : Nat → Prop} (h : RowS B (.slice (some ad) n cap) rs w F) (hj : j < rs.length) : w.cell? (ad.add j) = some (.int .i64 (rs.getD j 0)) := by
  obtain ⟨A, c, e, hi⟩ := h.1.il
  injection e with e1 _ _
  obtain ⟨ad', e2, _, hc⟩ := hi.2 (by omega)
  rw [e2] at e1
  injection e1 with e1
  subst e1
  exact hc j hj
theorem zero_may10 : Fr.zero.may = true := by decide
theorem zero_wf10 : Fr.zero.wf := fun k _ => ⟨by show (0 : Int) ≤ 0; omega, by show (0 : Int) ≤ 255; omega⟩
theorem zero_len (b : Bool) : (enc Fr.zero b).length = 50 := by cases b <;> decide
theorem zero_sl : sl_ Fr.zero = 40 := by decide
theorem okfs_zero : Okfs [Fr.zero] := fun g hg => by rw [List.mem_singleton.1 hg]; exact ⟨zero_may10, zero_wf10⟩
def zdone : Nd := { (idl [Fr.zero]).enter 8 with tx := true, ct := (idl [Fr.zero]).ct.snt, q := drp Fr.zero (idl [Fr.zero]).q }
/-- Behind k levels of the example's frame. -/
def Zat (k : Nat) (n : Nd) : Prop := (k < 50 ∧ TxAt (idl [Fr.zero]) Fr.zero true k n) ∨ (k = 50 ∧ n = zdone)
theorem zdone_fit : Fit zdone := fit_of2 8 0 0 rfl rfl rfl (by omega) okfs_nil (by show (drp Fr.zero [Fr.zero]).length ≤ 16; decide)

set_option maxHeartbeats 4000000 in
set_option maxRecDepth 100000 in
theorem awake10 (w : World) : Calls Tryz.prog 12 #[] w fun e w' => e = .returned (.bool true) ∧ Below w.heap.size w w' := by
  go_enter Tryz.func12, Tryz.ntmps12
  go_wp2_with fail
  refine (nst_new w _ (Below.refl _ _)).mono ?_
  rintro e w1 ⟨g, gq, rfl, h1, -⟩
  have H1 := Lib.hid h1
  clear h1
  go_wp2_with fail
  refine (nst_put H1.out kept_no Fr.zero ok_nil (by decide)).mono ?_
  rintro e w2 ⟨rfl, h2⟩
  rw [show pE 16 Fr.zero Nd.new.q = 0 by decide]
  have H2 := Lib.hid (h2.to (show ({ Nd.new with q := pL 16 Fr.zero Nd.new.q } : Nd) = jn [Fr.zero] 0 from rfl))
  clear h2 H1
  go_wp2_with fail
  refine (encode_ok Fr.zero true _ zero_may10 zero_wf10).mono ?_
  rintro e w3 ⟨v, rfl, ho, hb3⟩
  have h3 := H2.out.add kept_no hb3 (rowS_new ho H2.out.below.size)
  obtain ⟨A, cap, hv, hi, hc⟩ := ho.il2
  rw [zero_len] at hv hi hc
  obtain ⟨ad, rfl, -, -⟩ := hi.2 (by omega)
  subst hv
  have H3 := Lib.hid h3
  have HK := Lib.hid (kept_both kept_no (kept_row w.heap.size (.slice (some ad) 50 cap) (enc Fr.zero true)))
  clear h3 ho hb3 H2 hi hc
  generalize hP : Both NoSide (RowS w.heap.size (.slice (some ad) 50 cap) (enc Fr.zero true)) = P at *
  have HP := Lib.hid hP
  clear hP
  go_wp2
  go_loopw [4] (fun i wr => ∃ k : Nat, k ≤ 11 ∧ i = .int .i64 k ∧ Nst w wr g gq (jn [Fr.zero] k) P) (fun i _ => 11 - (intOf i).toNat)
  case atStart => exact ⟨0, by omega, rfl, H3.out⟩
  case round =>
    obtain ⟨k, hk, rfl, hn⟩ := hrel
    have HN := Lib.hid hn
    clear hn
    by_cases hlt : k < 11
    · have hlt' : (k : Int) < 11 := by omega
      have HD := Lib.hid (nst_drive HN.out fun h => by rw [jn_mode hlt] at h; cases h)
      rw [jn_drv _ hlt] at HD
      go_wp2_with fail
      refine HD.out.mono ?_
      rintro e w4 ⟨rfl, hb4⟩
      have HS := Lib.hid (nst_step (HN.out.next HK.out hb4) HK.out (jn_fit hk okfs_zero (by decide)) 1 (.inr rfl))
      rw [jn_step _ hlt] at HS
      clear hb4 HD
      go_wp2_with fail
      refine HS.out.mono ?_
      rintro e w5 ⟨u, rfl, h5, h6, h7⟩
      have HN5 := Lib.hid h6
      clear h5 h6 h7 HS HN
      go_wp2
      go_roundw
      case rel => exact ⟨k + 1, by omega, by go_num, HN5.out⟩
      case measure => simp [intOf]; omega
    · have hk11 : k = 11 := by omega
      have hltI : ¬ (k : Int) < 11 := by omega
      have H4 := Lib.hid (HN.out.to (by rw [hk11, jn_end]))
      clear HN H3 hlt hk hk11
      rename World => wa
      go_wp2
      go_loopw [5] (fun i wr => ∃ k : Nat, k ≤ 50 ∧ i = .int .i64 k ∧ ∃ n, Zat k n ∧ Nst w wr g gq n P) (fun i _ => 50 - (intOf i).toNat)
      case atStart => exact ⟨0, by omega, rfl, _, .inl ⟨by omega, .inl ⟨rfl, rfl⟩⟩, H4.out⟩
      case round =>
        obtain ⟨k, hk, rfl, n, hz, hn⟩ := hrel
        have HN := Lib.hid hn
        clear hn
        by_cases hlt : k < 50
        · have hlt' : (k : Int) < 50 := by omega
          have hta : TxAt (idl [Fr.zero]) Fr.zero true k n := by
            rcases hz with h | h
            · exact h.2
            · omega
          have HTA := Lib.hid hta
          have HFIT := Lib.hid (tx_fit zero_may10 hta (by rw [zero_sl]; omega) (idl_fit okfs_zero (by decide)))
          have hdr := fun (W : World) (h : Nst w W g gq n P) => nst_drive h fun h => (HFIT.out.inf h).f
          rw [tx_drive zero_may10 rfl rfl hta (by rw [zero_sl]; omega)] at hdr
          have HD := Lib.hid hdr
          have HE := Lib.hid (enc_two (f := Fr.zero) (k := k) (by rw [zero_sl]; omega) true)
          rw [zero_sl] at HE
          have hrow : ∀ W, Nst w W g gq n P → W.cell? (ad.add k) = some (.int .i64 ((enc Fr.zero true).getD k 0)) := fun W h => by
            obtain ⟨F, hF⟩ := h.side
            rw [← HP.out] at hF
            exact hF.2.cell (j := k) (by rw [zero_len]; omega)
          have hzl := way_lvl (f := Fr.zero) (b := true) (k := k) (by rw [zero_sl]; omega)
          have HZL := Lib.hid (lvl_01 hzl)
          have HD1 := Lib.hid (show k = 41 → (enc Fr.zero false).getD k 0 = 1 from fun h => by subst h; decide)
          clear hta hz hdr hzl
          have hstep : ∃ es n', n.stp ((enc Fr.zero true).getD k 0) = (es, n') ∧ Zat (k + 1) n' ∧ (k < 49 → es = []) ∧ (k = 49 → es = [(1, Fr.zero)]) := by
            by_cases h49 : k = 49
            · refine ⟨_, _, tx_sent zero_may10 HTA.out (by rw [zero_sl]; exact h49), .inr ⟨by omega, rfl⟩, fun h => by omega, fun _ => rfl⟩
            · obtain ⟨n', h1, h2⟩ := tx_step zero_may10 rfl rfl HTA.out (by rw [zero_sl]; omega) (fun _ => rfl)
              exact ⟨[], n', h1, .inl ⟨by omega, h2⟩, fun _ => rfl, fun h => absurd h h49⟩
          obtain ⟨es, n', hst, hza, hes, hes9⟩ := hstep
          have HSTP := Lib.hid hst
          have HZA := Lib.hid hza
          have HES := Lib.hid (And.intro hes hes9)
          clear hst hza hes hes9
          generalize (enc Fr.zero true).getD k 0 = z at *
          generalize (enc Fr.zero false).getD k 0 = d at *
          have HROW := Lib.hid hrow
          have r0 := hrow _ HN.out
          clear hrow
          by_cases h41 : k = 41
          · rw [if_pos h41] at HE
            obtain rfl : z = 0 := HE.out
            obtain rfl : d = 1 := HD1.out h41
            have hk41 : ((k : Int) != 41) = false := by simp; omega
            have hk49 : (k : Int) < 49 := by omega
            have hkb : ((k : Int) == 49) = false := by simp; omega
            obtain rfl := HES.out.1 (by omega)
            clear h41
            go_wp2_with fail
            refine wp_region_held_drew (S := fun w' => w'.cell? (ad.add k) = some (.int .i64 0)) (by kernel_rfl) (r0) (fun hHeld => ?_)
            refine takeH (i := 0) (v := .pointer (some ⟨g, 0, none⟩)) rfl (by kernel_rfl) (by kernel_rfl) (by kernel_rfl) (fun _ _ _ h => h) (Or.inl ⟨by rfl, fun w hSw => ?_⟩) hHeld ?_
            · (clear hSw; go_simp)
            simp only [Act.put, List.setIfInBounds_toArray, List.set_cons_zero, List.set_cons_succ]
            refine takeH (i := 2) (v := .slice (some ad) 50 cap) rfl (by kernel_rfl) (by kernel_rfl) (by kernel_rfl) (fun _ _ _ h => h) (Or.inl ⟨by rfl, fun w hSw => ?_⟩) hHeld ?_
            · (clear hSw; go_simp)
            simp only [Act.put, List.setIfInBounds_toArray, List.set_cons_zero, List.set_cons_succ]
            refine takeH (i := 3) (v := .int .i64 k) rfl (by kernel_rfl) (by kernel_rfl) (by kernel_rfl) (fun _ _ _ h => h) (Or.inl ⟨by rfl, fun w hSw => ?_⟩) hHeld ?_
            · (clear hSw; go_simp)
            simp only [Act.put, List.setIfInBounds_toArray, List.set_cons_zero, List.set_cons_succ]
            refine takeH (i := 4) (v := .pointer (some (ad.add k))) rfl (by kernel_rfl) (by kernel_rfl) (by kernel_rfl) (fun _ _ _ h => h) (Or.inl ⟨by rfl, fun w hSw => ?_⟩) hHeld ?_
            · (clear hSw; go_simp)
            simp only [Act.put, List.setIfInBounds_toArray, List.set_cons_zero, List.set_cons_succ]
            refine takeH (i := 5) (v := .int .i64 0) rfl (by kernel_rfl) (by kernel_rfl) (by kernel_rfl) (fun _ _ _ h => h) (Or.inl ⟨by rfl, fun w hSw => ?_⟩) hHeld ?_
            · (have q1 := hSw; clear hSw; go_simp)
            simp only [Act.put, List.setIfInBounds_toArray, List.set_cons_zero, List.set_cons_succ]
            refine wpAnyH_ready (rs := [1]) (by kernel_rfl) (by simp) ?_
            refine AllReadyH.cons rfl (fun K hK => ?_) AllReadyH.nil
            go_simp
            refine (HD.out _ (HN.out.drew HK.out)).mono ?_
            rintro e w4 ⟨rfl, hb4⟩
            have HN4 := Lib.hid (HN.out.next HK.out (undrew hb4))
            clear hb4
            clear hHeld
            dsimp only
            refine hK.out _ _ (HROW.out _ HN4.out) (fun hHeld => ?_)
            clear hK K
            try simp only [Act.put, List.setIfInBounds_toArray, List.set_cons_zero, List.set_cons_succ]
            refine takeH (i := 6) (v := .bool true) rfl (by kernel_rfl) (by kernel_rfl) (by kernel_rfl) (fun _ _ _ h => h) (Or.inl ⟨by rfl, fun w hSw => ?_⟩) hHeld ?_
            · (clear hSw; go_simp)
            simp only [Act.put, List.setIfInBounds_toArray, List.set_cons_zero, List.set_cons_succ]
            refine takeH (i := 7) (v := .bool true) rfl (by kernel_rfl) (by kernel_rfl) (by kernel_rfl) (fun _ _ _ h => h) (Or.inl ⟨by rfl, fun w hSw => ?_⟩) hHeld ?_
            · (clear hSw; go_simp)
            simp only [Act.put, List.setIfInBounds_toArray, List.set_cons_zero, List.set_cons_succ]
            refine takeH (i := 8) (v := .int .i64 k) rfl (by kernel_rfl) (by kernel_rfl) (by kernel_rfl) (fun _ _ _ h => h) (Or.inl ⟨by rfl, fun w hSw => ?_⟩) hHeld ?_
            · (clear hSw; go_simp)
            simp only [Act.put, List.setIfInBounds_toArray, List.set_cons_zero, List.set_cons_succ]
            refine takeH (i := 9) (v := .bool false) rfl (by kernel_rfl) (by kernel_rfl) (by kernel_rfl) (fun _ _ _ h => h) (Or.inl ⟨by rfl, fun w hSw => ?_⟩) hHeld ?_
            · (clear hSw; go_simp)
            simp only [Act.put, List.setIfInBounds_toArray, List.set_cons_zero, List.set_cons_succ]
            refine takeH (i := 10) (v := .bool false) rfl (by kernel_rfl) (by kernel_rfl) (by kernel_rfl) (fun _ _ _ h => h) (Or.inl ⟨by rfl, fun w hSw => ?_⟩) hHeld ?_
            · (clear hSw; go_simp)
            simp only [Act.put, List.setIfInBounds_toArray, List.set_cons_zero, List.set_cons_succ]
            refine wpAnyH_done (by kernel_rfl) ?_ _
            clear hHeld
            have r4 := HROW.out _ HN4.out
            have hst := nst_step HN4.out HK.out HFIT.out 0 (by first | exact HZL.out | exact .inl rfl)
            rw [HSTP.out] at hst
            have HS := Lib.hid hst
            clear hst HD
            go_wp2_with fail
            refine HS.out.mono ?_
            rintro e w5 ⟨u, rfl, h5, h6, h7⟩
            have HN5 := Lib.hid h6
            obtain ⟨Ae, ce, rfl, -⟩ := h5.len
            clear h5 h6 h7 HS
            go_wp2
            go_roundw
            case rel => exact ⟨k + 1, by omega, by go_num, n', HZA.out, HN5.out⟩
            case measure => simp [intOf]; omega
          · have hzd : z = d := by have := HE.out; rw [if_neg h41] at this; exact this
            subst hzd
            have hk41 : ((k : Int) != 41) = true := by simp; omega
            by_cases h49 : k = 49
            · obtain rfl := HES.out.2 h49
              have hk49 : ¬ (k : Int) < 49 := by omega
              have hk49b : decide ((k : Int) < 49) = false := decide_eq_false hk49
              have hkb : ((k : Int) == 49) = true := by simp; omega
              clear h49
              go_wp2_with fail
              refine wp_region_held_drew (S := fun w' => w'.cell? (ad.add k) = some (.int .i64 z)) (by kernel_rfl) (r0) (fun hHeld => ?_)
              refine takeH (i := 0) (v := .pointer (some ⟨g, 0, none⟩)) rfl (by kernel_rfl) (by kernel_rfl) (by kernel_rfl) (fun _ _ _ h => h) (Or.inl ⟨by rfl, fun w hSw => ?_⟩) hHeld ?_
              · (clear hSw; go_simp)
              simp only [Act.put, List.setIfInBounds_toArray, List.set_cons_zero, List.set_cons_succ]
              refine takeH (i := 2) (v := .slice (some ad) 50 cap) rfl (by kernel_rfl) (by kernel_rfl) (by kernel_rfl) (fun _ _ _ h => h) (Or.inl ⟨by rfl, fun w hSw => ?_⟩) hHeld ?_
              · (clear hSw; go_simp)
              simp only [Act.put, List.setIfInBounds_toArray, List.set_cons_zero, List.set_cons_succ]
              refine takeH (i := 3) (v := .int .i64 k) rfl (by kernel_rfl) (by kernel_rfl) (by kernel_rfl) (fun _ _ _ h => h) (Or.inl ⟨by rfl, fun w hSw => ?_⟩) hHeld ?_
              · (clear hSw; go_simp)
              simp only [Act.put, List.setIfInBounds_toArray, List.set_cons_zero, List.set_cons_succ]
              refine takeH (i := 4) (v := .pointer (some (ad.add k))) rfl (by kernel_rfl) (by kernel_rfl) (by kernel_rfl) (fun _ _ _ h => h) (Or.inl ⟨by rfl, fun w hSw => ?_⟩) hHeld ?_
              · (clear hSw; go_simp)
              simp only [Act.put, List.setIfInBounds_toArray, List.set_cons_zero, List.set_cons_succ]
              refine takeH (i := 5) (v := .int .i64 z) rfl (by kernel_rfl) (by kernel_rfl) (by kernel_rfl) (fun _ _ _ h => h) (Or.inl ⟨by rfl, fun w hSw => ?_⟩) hHeld ?_
              · (have q1 := hSw; clear hSw; go_simp)
              simp only [Act.put, List.setIfInBounds_toArray, List.set_cons_zero, List.set_cons_succ]
              refine wpAnyH_ready (rs := [1]) (by kernel_rfl) (by simp) ?_
              refine AllReadyH.cons rfl (fun K hK => ?_) AllReadyH.nil
              go_simp
              refine (HD.out _ (HN.out.drew HK.out)).mono ?_
              rintro e w4 ⟨rfl, hb4⟩
              have HN4 := Lib.hid (HN.out.next HK.out (undrew hb4))
              clear hb4
              clear hHeld
              dsimp only
              refine hK.out _ _ (HROW.out _ HN4.out) (fun hHeld => ?_)
              clear hK K
              try simp only [Act.put, List.setIfInBounds_toArray, List.set_cons_zero, List.set_cons_succ]
              refine takeH (i := 6) (v := .bool false) rfl (by kernel_rfl) (by kernel_rfl) (by kernel_rfl) (fun _ _ _ h => h) (Or.inl ⟨by rfl, fun w hSw => ?_⟩) hHeld ?_
              · (clear hSw; go_simp)
              simp only [Act.put, List.setIfInBounds_toArray, List.set_cons_zero, List.set_cons_succ]
              refine takeH (i := 7) (v := .bool false) rfl (by kernel_rfl) (by kernel_rfl) (by kernel_rfl) (fun _ _ _ h => h) (Or.inl ⟨by rfl, fun w hSw => ?_⟩) hHeld ?_
              · (clear hSw; go_simp)
              simp only [Act.put, List.setIfInBounds_toArray, List.set_cons_zero, List.set_cons_succ]
              refine takeH (i := 8) (v := undef) rfl (by kernel_rfl) (by kernel_rfl) (by kernel_rfl) (fun _ _ _ h => h) (Or.inr ⟨by rfl, rfl⟩) hHeld ?_
              simp only [Act.put, List.setIfInBounds_toArray, List.set_cons_zero, List.set_cons_succ]
              refine takeH (i := 9) (v := undef) rfl (by kernel_rfl) (by kernel_rfl) (by kernel_rfl) (fun _ _ _ h => h) (Or.inr ⟨by rfl, rfl⟩) hHeld ?_
              simp only [Act.put, List.setIfInBounds_toArray, List.set_cons_zero, List.set_cons_succ]
              refine takeH (i := 10) (v := .bool false) rfl (by kernel_rfl) (by kernel_rfl) (by kernel_rfl) (fun _ _ _ h => h) (Or.inl ⟨by rfl, fun w hSw => ?_⟩) hHeld ?_
              · (clear hSw; go_simp)
              simp only [Act.put, List.setIfInBounds_toArray, List.set_cons_zero, List.set_cons_succ]
              refine wpAnyH_done (by kernel_rfl) ?_ _
              clear hHeld
              have r4 := HROW.out _ HN4.out
              have hst := nst_step HN4.out HK.out HFIT.out z (by first | exact HZL.out | exact .inl rfl)
              rw [HSTP.out] at hst
              have HS := Lib.hid hst
              clear hst HD
              go_wp2_with fail
              refine HS.out.mono ?_
              rintro e w5 ⟨u, rfl, h5, h6, h7⟩
              have HN5 := Lib.hid h6
              obtain ⟨ge, ce, rfl, hce⟩ := h5.shape (by simp)
              have k2 : w5.cell? ⟨ge, 2, none⟩ = some (.int .i64 1) := hce 2 _ rfl
              clear h5 h6 h7 HS hce
              go_wp2
              go_roundw
              case rel => exact ⟨k + 1, by omega, by go_num, n', HZA.out, HN5.out⟩
              case measure => simp [intOf]; omega
            · have hk49 : (k : Int) < 49 := by omega
              have hkb : ((k : Int) == 49) = false := by simp; omega
              obtain rfl := HES.out.1 (by omega)
              go_wp2_with fail
              refine wp_region_held_drew (S := fun w' => w'.cell? (ad.add k) = some (.int .i64 z)) (by kernel_rfl) (r0) (fun hHeld => ?_)
              refine takeH (i := 0) (v := .pointer (some ⟨g, 0, none⟩)) rfl (by kernel_rfl) (by kernel_rfl) (by kernel_rfl) (fun _ _ _ h => h) (Or.inl ⟨by rfl, fun w hSw => ?_⟩) hHeld ?_
              · (clear hSw; go_simp)
              simp only [Act.put, List.setIfInBounds_toArray, List.set_cons_zero, List.set_cons_succ]
              refine takeH (i := 2) (v := .slice (some ad) 50 cap) rfl (by kernel_rfl) (by kernel_rfl) (by kernel_rfl) (fun _ _ _ h => h) (Or.inl ⟨by rfl, fun w hSw => ?_⟩) hHeld ?_
              · (clear hSw; go_simp)
              simp only [Act.put, List.setIfInBounds_toArray, List.set_cons_zero, List.set_cons_succ]
              refine takeH (i := 3) (v := .int .i64 k) rfl (by kernel_rfl) (by kernel_rfl) (by kernel_rfl) (fun _ _ _ h => h) (Or.inl ⟨by rfl, fun w hSw => ?_⟩) hHeld ?_
              · (clear hSw; go_simp)
              simp only [Act.put, List.setIfInBounds_toArray, List.set_cons_zero, List.set_cons_succ]
              refine takeH (i := 4) (v := .pointer (some (ad.add k))) rfl (by kernel_rfl) (by kernel_rfl) (by kernel_rfl) (fun _ _ _ h => h) (Or.inl ⟨by rfl, fun w hSw => ?_⟩) hHeld ?_
              · (clear hSw; go_simp)
              simp only [Act.put, List.setIfInBounds_toArray, List.set_cons_zero, List.set_cons_succ]
              refine takeH (i := 5) (v := .int .i64 z) rfl (by kernel_rfl) (by kernel_rfl) (by kernel_rfl) (fun _ _ _ h => h) (Or.inl ⟨by rfl, fun w hSw => ?_⟩) hHeld ?_
              · (have q1 := hSw; clear hSw; go_simp)
              simp only [Act.put, List.setIfInBounds_toArray, List.set_cons_zero, List.set_cons_succ]
              refine wpAnyH_ready (rs := [1]) (by kernel_rfl) (by simp) ?_
              refine AllReadyH.cons rfl (fun K hK => ?_) AllReadyH.nil
              go_simp
              refine (HD.out _ (HN.out.drew HK.out)).mono ?_
              rintro e w4 ⟨rfl, hb4⟩
              have HN4 := Lib.hid (HN.out.next HK.out (undrew hb4))
              clear hb4
              clear hHeld
              dsimp only
              refine hK.out _ _ (HROW.out _ HN4.out) (fun hHeld => ?_)
              clear hK K
              try simp only [Act.put, List.setIfInBounds_toArray, List.set_cons_zero, List.set_cons_succ]
              refine takeH (i := 6) (v := .bool false) rfl (by kernel_rfl) (by kernel_rfl) (by kernel_rfl) (fun _ _ _ h => h) (Or.inl ⟨by rfl, fun w hSw => ?_⟩) hHeld ?_
              · (clear hSw; go_simp)
              simp only [Act.put, List.setIfInBounds_toArray, List.set_cons_zero, List.set_cons_succ]
              refine takeH (i := 7) (v := .bool false) rfl (by kernel_rfl) (by kernel_rfl) (by kernel_rfl) (fun _ _ _ h => h) (Or.inl ⟨by rfl, fun w hSw => ?_⟩) hHeld ?_
              · (clear hSw; go_simp)
              simp only [Act.put, List.setIfInBounds_toArray, List.set_cons_zero, List.set_cons_succ]
              refine takeH (i := 8) (v := undef) rfl (by kernel_rfl) (by kernel_rfl) (by kernel_rfl) (fun _ _ _ h => h) (Or.inr ⟨by rfl, rfl⟩) hHeld ?_
              simp only [Act.put, List.setIfInBounds_toArray, List.set_cons_zero, List.set_cons_succ]
              refine takeH (i := 9) (v := undef) rfl (by kernel_rfl) (by kernel_rfl) (by kernel_rfl) (fun _ _ _ h => h) (Or.inr ⟨by rfl, rfl⟩) hHeld ?_
              simp only [Act.put, List.setIfInBounds_toArray, List.set_cons_zero, List.set_cons_succ]
              refine takeH (i := 10) (v := .bool false) rfl (by kernel_rfl) (by kernel_rfl) (by kernel_rfl) (fun _ _ _ h => h) (Or.inl ⟨by rfl, fun w hSw => ?_⟩) hHeld ?_
              · (clear hSw; go_simp)
              simp only [Act.put, List.setIfInBounds_toArray, List.set_cons_zero, List.set_cons_succ]
              refine wpAnyH_done (by kernel_rfl) ?_ _
              clear hHeld
              have r4 := HROW.out _ HN4.out
              have hst := nst_step HN4.out HK.out HFIT.out z (by first | exact HZL.out | exact .inl rfl)
              rw [HSTP.out] at hst
              have HS := Lib.hid hst
              clear hst HD
              go_wp2_with fail
              refine HS.out.mono ?_
              rintro e w5 ⟨u, rfl, h5, h6, h7⟩
              have HN5 := Lib.hid h6
              obtain ⟨Ae, ce, rfl, -⟩ := h5.len
              clear h5 h6 h7 HS
              go_wp2
              go_roundw
              case rel => exact ⟨k + 1, by omega, by go_num, n', HZA.out, HN5.out⟩
              case measure => simp [intOf]; omega
        · obtain rfl : k = 50 := by omega
          have hzd : n = zdone := by
            rcases hz with h | h
            · omega
            · exact h.2
          subst hzd
          have e8 : zdone.lookV = .agg #[.int .i64 8, .bool true, .int .i64 0, .int .i64 0, .bool false, .int .i64 0] := rfl
          have hl := nst_look HN.out
          rw [e8] at hl
          have HL := Lib.hid hl
          clear hz hlt hk H4 hl
          have f0 := lookF0
          have f3 := lookF3
          go_wp2_with fail
          refine HL.out.mono ?_
          rintro e w8 ⟨rfl, hb8⟩
          have hl2 := nst_look (HN.out.next HK.out hb8)
          rw [e8] at hl2
          have HL2 := Lib.hid hl2
          clear hl2 e8
          have HB := Lib.hid (nxt HN.out.below hb8)
          clear hb8
          go_wp2_with fail
          refine HL2.out.mono ?_
          rintro e w9 ⟨rfl, hb9⟩
          have HB9 := Lib.hid (nxt HB.out hb9)
          clear hb9
          go_wp2
          go_ret
          exact ⟨rfl, HB9.out⟩
end Go.Proofs.YtenfcbmeokenaaaGreat

/- The contract of magnetolaw10.joined. -/
namespace Go.Proofs.YtenfcbmeokenaaaGreat
set_option maxRecDepth 20000
open Go.RowKit
set_option linter.unusedSimpArgs false

/-- Frames put in, one behind the other. -/
def putsN (fs : Nat → Fr) : Nat → List Fr
  | 0 => []
  | k + 1 => ins (fs k) (putsN fs k)
theorem putsN_len (fs : Nat → Fr) : ∀ k, (putsN fs k).length = k
  | 0 => rfl
  | k + 1 => by rw [putsN, ins_len1, putsN_len fs k]
theorem putsN_ok (fs : Nat → Fr) : ∀ k, (∀ i, i < k → (fs i).may = true) → Okq (putsN fs k)
  | 0, _ => ok_nil
  | k + 1, h => ins_ok (putsN_ok fs k fun i hi => h i (by omega)) (h k (by omega))
theorem putsN_mem (fs : Nat → Fr) : ∀ k g, g ∈ putsN fs k → ∃ i, i < k ∧ g = fs i
  | 0, g, h => by cases h
  | k + 1, g, h => by
    rcases ins_mem.1 h with rfl | h1
    · exact ⟨k, by omega, rfl⟩
    · obtain ⟨i, h2, h3⟩ := putsN_mem fs k g h1
      exact ⟨i, by omega, h3⟩
theorem Nst.rebase {w0 w w' : World} {g gq : Nat} {n : Nd} {P : World → (Nat → Prop) → Prop} (h : Nst w w' g gq n P) (hb : Below w0.heap.size w0 w) : Nst w0 w' g gq n P := by
  obtain ⟨vo, vl, vq, h1, h2, h3⟩ := h
  exact ⟨vo, vl, vq, h1.base hb.size, h2, nxt hb h3⟩

set_option maxHeartbeats 1600000 in
theorem joined_any (A : Option Addr) (n cap : Nat) (fs : Nat → Fr) (w : World) (hr : Fl w A n fs) (hn : n ≤ 16) (hm : ∀ i, i < n → (fs i).may = true) :
    Calls Tryz.prog 13 #[.slice A n cap] w fun e w' => ∃ g gq, e = .returned (.pointer (some ⟨g, 0, none⟩)) ∧ Nst w w' g gq (idl (putsN fs n)) NoSide := by
  have HR := Lib.hid hr
  have HM := Lib.hid hm
  have HNN := Lib.hid hn
  clear hr hm hn
  go_enter Tryz.func13, Tryz.ntmps13
  go_wp2_with fail
  refine (nst_new w _ (Below.refl _ _)).mono ?_
  rintro e w1 ⟨g, gq, rfl, h1, -⟩
  have H1 := Lib.hid (h1.to (jn_zero []).symm)
  clear h1
  go_wp2
  go_loopw [4] (fun i wr => ∃ k : Nat, k ≤ 11 ∧ i = .int .i64 k ∧ Nst w wr g gq (jn [] k) NoSide) (fun i _ => 11 - (intOf i).toNat)
  case atStart => exact ⟨0, by omega, rfl, H1.out⟩
  case round =>
    obtain ⟨k, hk, rfl, hn⟩ := hrel
    have HN := Lib.hid hn
    clear hn
    by_cases hlt : k < 11
    · have hlt' : (k : Int) < 11 := by omega
      have hs := nst_step HN.out kept_no (jn_fit hk okfs_nil (by decide)) 1 (.inr rfl)
      rw [jn_step _ hlt] at hs
      have HS := Lib.hid hs
      clear hs
      go_wp2_with fail
      refine HS.out.mono ?_
      rintro e w5 ⟨u, rfl, h5, h6, h7⟩
      have HN5 := Lib.hid h6
      clear h5 h6 h7 HS HN
      go_wp2
      go_roundw
      case rel => exact ⟨k + 1, by omega, by go_num, HN5.out⟩
      case measure => simp [intOf]; omega
    · have hk11 : k = 11 := by omega
      have hltI : ¬ (k : Int) < 11 := by omega
      have H4 := Lib.hid (HN.out.to (by rw [hk11, jn_end]))
      clear HN H1 hlt hk hk11
      rename World => wa
      go_wp2
      go_loopw [5] (fun i wr => ∃ k : Nat, k ≤ n ∧ i = .int .i64 k ∧ Nst w wr g gq (idl (putsN fs k)) NoSide) (fun i _ => n - (intOf i).toNat)
      case atStart => exact ⟨0, Nat.zero_le _, rfl, H4.out⟩
      case round =>
        obtain ⟨j, hj, rfl, hn⟩ := hrel
        have HN := Lib.hid hn
        clear hn
        by_cases hlt : j < n
        · have hlt' : (j : Int) < (n : Int) := by omega
          have hj16 : (j : Int) < 16 := by have := HNN.out; omega
          obtain ⟨ad, rfl, hl, c0, c1, c2, c3, c4, c5, c6, c7, c8, c9, c10, c11⟩ := (HR.out.below HN.out.below).at_ hlt
          have hlen : (idl (putsN fs j)).q.length = j := putsN_len fs j
          have hp := nst_put HN.out kept_no (fs j) (putsN_ok fs j fun i hi => HM.out i (by omega)) (by rw [hlen]; have := HNN.out; omega)
          have he : pE 16 (fs j) (idl (putsN fs j)).q = 0 := by
            unfold pE
            rw [if_neg (by rw [HM.out j hlt]; simp), if_neg (by rw [hlen]; have := HNN.out; omega)]
          have hq : ({ idl (putsN fs j) with q := pL 16 (fs j) (idl (putsN fs j)).q } : Nd) = idl (putsN fs (j + 1)) := by
            have e : pL 16 (fs j) (idl (putsN fs j)).q = ins (fs j) (putsN fs j) := by
              unfold pL
              rw [if_neg]
              · rfl
              · rw [HM.out j hlt, hlen]; have := HNN.out; simp; omega
            rw [e]; rfl
          rw [he, hq] at hp
          have HP := Lib.hid hp
          clear hp he hq hlen
          go_wp2_with fail
          refine HP.out.mono ?_
          rintro e w6 ⟨rfl, h6⟩
          have HN6 := Lib.hid h6
          clear h6 HP
          go_wp2
          go_roundw
          case rel => exact ⟨j + 1, by omega, by go_num, HN6.out⟩
          case measure => simp [intOf]; omega
        · have hjn : j = n := by omega
          have hltJ : ¬ (j : Int) < (n : Int) := by omega
          have H6 := Lib.hid (HN.out.to (by rw [hjn]))
          clear HN hjn hlt hj
          go_wp2
          go_ret
          first | exact ⟨g, gq, rfl, H6.out⟩ | exact ⟨g, rfl, gq, H6.out⟩
end Go.Proofs.YtenfcbmeokenaaaGreat

/- How rows of turns that came in are opened. -/
namespace Go.Proofs.YtenfcbmeokenaaaGreat
set_option maxRecDepth 20000
open Go.ChangeShapes Go.WideShapes Go.ChangeAt Go.RowKit

/-- A turn: whether a frame is put in, the frame, and the level. -/
structure Tn where
  put : Bool
  f : Fr
  lv : Int
instance : Inhabited Tn := ⟨⟨false, Fr.zero, 0⟩⟩
abbrev tnc (t : Tn) : Array Value := #[.bool t.put, .int .i64 t.f.id, .bool t.f.ext, .bool t.f.rtr, .int .i64 t.f.len, .int .u8 (t.f.d 0), .int .u8 (t.f.d 1), .int .u8 (t.f.d 2), .int .u8 (t.f.d 3), .int .u8 (t.f.d 4), .int .u8 (t.f.d 5), .int .u8 (t.f.d 6), .int .u8 (t.f.d 7), .int .i64 t.lv]
def Tn.val (t : Tn) : Value := .agg (tnc t)
/-- The slice value '.slice A n c' holds turns. -/
def Tl (w : World) (A : Option Addr) (n : Nat) (ts : Nat → Tn) : Prop :=
  0 < n → ∃ ad, A = some ad ∧ ad.block < w.heap.size ∧ ∀ j, j < n → ∀ c v, (tnc (ts j))[c]? = some v → w.cell? (ad.add (j * 14 + c)) = some v
theorem Tl.below {w w' : World} {A : Option Addr} {n : Nat} {ts : Nat → Tn} (h : Tl w A n ts) (hb : Below w.heap.size w w') : Tl w' A n ts := fun hn => by
  obtain ⟨ad, e, hl, hc⟩ := h hn
  exact ⟨ad, e, Nat.lt_of_lt_of_le hl hb.size, fun j hj c v hv => (hb.cell (by rw [block_of_add]; exact hl)).trans (hc j hj c v hv)⟩
/-- A turn lies at p. -/
def Txa (w : World) (p : Addr) (t : Tn) : Prop := w.cell? p = some (.bool t.put) ∧ w.cell? ⟨p.block, p.off + 1, none⟩ = some (.int .i64 t.f.id) ∧ w.cell? ⟨p.block, p.off + 2, none⟩ = some (.bool t.f.ext) ∧ w.cell? ⟨p.block, p.off + 3, none⟩ = some (.bool t.f.rtr) ∧ w.cell? ⟨p.block, p.off + 4, none⟩ = some (.int .i64 t.f.len) ∧ w.cell? ⟨p.block, p.off + 5, none⟩ = some (.int .u8 (t.f.d 0)) ∧ w.cell? ⟨p.block, p.off + 6, none⟩ = some (.int .u8 (t.f.d 1)) ∧ w.cell? ⟨p.block, p.off + 7, none⟩ = some (.int .u8 (t.f.d 2)) ∧ w.cell? ⟨p.block, p.off + 8, none⟩ = some (.int .u8 (t.f.d 3)) ∧ w.cell? ⟨p.block, p.off + 9, none⟩ = some (.int .u8 (t.f.d 4)) ∧ w.cell? ⟨p.block, p.off + 10, none⟩ = some (.int .u8 (t.f.d 5)) ∧ w.cell? ⟨p.block, p.off + 11, none⟩ = some (.int .u8 (t.f.d 6)) ∧ w.cell? ⟨p.block, p.off + 12, none⟩ = some (.int .u8 (t.f.d 7)) ∧ w.cell? ⟨p.block, p.off + 13, none⟩ = some (.int .i64 t.lv)
theorem Tl.at_ {w : World} {A : Option Addr} {n k : Nat} {ts : Nat → Tn} (h : Tl w A n ts) (hk : k < n) : ∃ ad, A = some ad ∧ ad.block < w.heap.size ∧ Txa w (ad.add (k * 14)) (ts k) := by
  obtain ⟨ad, e, hl, hc⟩ := h (by omega)
  have h0 := hc k hk
  have g : ∀ c v, 0 < c → (tnc (ts k))[c]? = some v → w.cell? ⟨(ad.add (k * 14)).block, (ad.add (k * 14)).off + c, none⟩ = some v := fun c v hc hv => by
    rw [← add_pos _ hc, add_add]; exact h0 c v hv
  exact ⟨ad, e, hl, h0 0 _ rfl, g 1 _ (by omega) rfl, g 2 _ (by omega) rfl, g 3 _ (by omega) rfl, g 4 _ (by omega) rfl, g 5 _ (by omega) rfl, g 6 _ (by omega) rfl, g 7 _ (by omega) rfl, g 8 _ (by omega) rfl, g 9 _ (by omega) rfl, g 10 _ (by omega) rfl, g 11 _ (by omega) rfl, g 12 _ (by omega) rfl, g 13 _ (by omega) rfl⟩

section
variable {H : Type} {enc : TypeId × Value → H} {W : World} {m : Nat} {x : DataW H × List MemPlace}
theorem turn_cells {cs : List Value} (hf : DataW.trod enc Tryz.prog W 0 (fun _ => true) true m 52 cs = some x) : ∃ t : Tn, t.f.wf ∧ cs = (tnc t).toList := by
  obtain ⟨xs, n, _, _, hl, hxl, hg⟩ := DataW.trod_struct Tryz.underlying52 hf
  rw [show Tryz.prog.cellsOf 52 = 14 by kernel_rfl] at hl
  have hxl' : xs.length = 3 := hxl
  match cs, hl with
  | [c0, c1, c2, c3, c4, c5, c6, c7, c8, c9, c10, c11, c12, c13], _ =>
    have t0 : DataW.trod enc Tryz.prog W 0 (fun _ => true) true n 4 (List.take (Tryz.prog.cellsOf 4) (List.drop 0 [c0, c1, c2, c3, c4, c5, c6, c7, c8, c9, c10, c11, c12, c13])) = xs[0]? := hg 0 _ rfl
    have t1 : DataW.trod enc Tryz.prog W 0 (fun _ => true) true n 32 (List.take (Tryz.prog.cellsOf 32) (List.drop 1 [c0, c1, c2, c3, c4, c5, c6, c7, c8, c9, c10, c11, c12, c13])) = xs[1]? := hg 1 _ rfl
    have t2 : DataW.trod enc Tryz.prog W 0 (fun _ => true) true n 3 (List.take (Tryz.prog.cellsOf 3) (List.drop 13 [c0, c1, c2, c3, c4, c5, c6, c7, c8, c9, c10, c11, c12, c13])) = xs[2]? := hg 2 _ rfl
    rw [List.getElem?_eq_getElem (by omega)] at t0 t1 t2
    simp only [show Tryz.prog.cellsOf 4 = 1 by kernel_rfl, List.drop_zero, List.take_succ_cons, List.take_zero] at t0
    simp only [show Tryz.prog.cellsOf 32 = 12 by kernel_rfl, List.drop_succ_cons, List.drop_zero, List.take_succ_cons, List.take_zero] at t1
    simp only [show Tryz.prog.cellsOf 3 = 1 by kernel_rfl, List.drop_succ_cons, List.drop_zero, List.take_succ_cons, List.take_zero] at t2
    obtain ⟨r, hr, _⟩ := DataW.trod_bool Tryz.underlying4 t0
    obtain ⟨f, hc, hw⟩ := frame_cells t1
    obtain ⟨z, hz, _⟩ := DataW.trod_int Tryz.underlying3 t2
    simp at hr hz
    refine ⟨⟨r, f, z⟩, hw, ?_⟩
    have e : [c0, c1, c2, c3, c4, c5, c6, c7, c8, c9, c10, c11, c12, c13] = c0 :: ([c1, c2, c3, c4, c5, c6, c7, c8, c9, c10, c11, c12] ++ [c13]) := rfl
    rw [e, hc, hr, hz]
    rfl
theorem turns_in {c : Value} (hf : DataW.trod enc Tryz.prog W 0 (fun _ => true) true m 48 [c] = some x) : ∃ a len cap ts, c = .slice a len cap ∧ Tl W a len ts ∧ ∀ i, i < len → (ts i).f.wf := by
  rcases Go.Deep.open_slice Tryz.underlying48 hf with ⟨hcs, _⟩ | ⟨ad, l, c', m', n, D, Pl, hcs, _, hl, hm, hmm, _, hel⟩
  · simp at hcs
    exact ⟨none, 0, 0, fun _ => ⟨false, Fr.zero, 0⟩, hcs, fun h => by omega, fun i hi => by omega⟩
  · simp at hcs
    have hlm : l ≤ m' := by rw [hmm]; split <;> omega
    obtain ⟨ts, hts⟩ := Go.Deep.choose_lt (α := Tn) (n := l) (p := fun i t => t.f.wf ∧ W.cells? 0 (ad.add (i * 14)) 14 = some (tnc t).toList) (fun i hi => by
      obtain ⟨cs', h1, h2⟩ := hel i (by omega)
      rw [show Tryz.prog.cellsOf 52 = 14 by kernel_rfl] at h1
      obtain ⟨t, hw, hc⟩ := turn_cells h2
      exact ⟨t, hw, by rw [h1, hc]⟩)
    refine ⟨some ad, l, c', ts, hcs, fun hn => ⟨ad, rfl, ?_, fun j hj c v hv => ?_⟩, fun i hi => (hts i hi).1⟩
    · obtain ⟨_, _, hc⟩ := World.cells?_some (hts 0 hn).2
      have h0 : W.cell? ((ad.add (0 * 14)).add 0) = some (.bool (ts 0).put) := hc 0 (by omega)
      have hb := World.block_lt_of_cell? W _ h0
      rwa [block_of_add, block_of_add] at hb
    · obtain ⟨_, hln, hc⟩ := World.cells?_some (hts j hj).2
      have hlt : c < 14 := by
        rcases Nat.lt_or_ge c 14 with h | h
        · exact h
        · rw [Array.getElem?_eq_none (by simpa using h)] at hv; cases hv
      have h1 := hc c hlt
      rw [add_add] at h1
      rw [h1, Array.getElem?_toList]
      exact hv
end
/-- The level of a turn. -/
def Tn.z (t : Tn) (d : Int) : Int := if t.lv = 0 ∨ t.lv = 1 then t.lv else d
theorem Tn.z01 {t : Tn} {d : Int} (h : d = 0 ∨ d = 1) : t.z d = 0 ∨ t.z d = 1 := by
  unfold Tn.z
  split
  · assumption
  · exact h
end Go.Proofs.YtenfcbmeokenaaaGreat

/- The contracts of the laws' level and frames. -/
namespace Go.Proofs.YtenfcbmeokenaaaGreat
set_option maxRecDepth 20000
open Go.RowKit
set_option linter.unusedSimpArgs false

set_option maxHeartbeats 800000 in
theorem level_any (t : Tn) (d : Int) (w : World) : Calls Tryz.prog 22 #[.agg (tnc t), .int .i64 d] w fun e w' => e = .returned (.int .i64 (t.z d)) ∧ Below w.heap.size w w' := by
  have hb : Below w.heap.size w (w.alloc (.cells (tnc t) 52)) := (Below.refl _ _).alloc (Nat.le_refl _) _
  have HB := Lib.hid hb
  clear hb
  by_cases h0 : t.lv = 0
  · have e : t.z d = t.lv := by unfold Tn.z; rw [if_pos (.inl h0)]
    rw [e]
    have b0 : (t.lv == 0) = true := by simpa using h0
    go_enter Tryz.func22, Tryz.ntmps22
    go_wp2
    go_ret
    exact ⟨by rw [h0]; rfl, HB.out⟩
  · have b0 : (t.lv == 0) = false := by simpa using h0
    by_cases h1 : t.lv = 1
    · have e : t.z d = t.lv := by unfold Tn.z; rw [if_pos (.inr h1)]
      rw [e]
      have b1 : (t.lv == 1) = true := by simpa using h1
      go_enter Tryz.func22, Tryz.ntmps22
      go_wp2
      go_ret
      exact ⟨by rw [h1]; rfl, HB.out⟩
    · have b1 : (t.lv == 1) = false := by simpa using h1
      have e : t.z d = d := by unfold Tn.z; rw [if_neg (by omega)]
      rw [e]
      go_enter Tryz.func22, Tryz.ntmps22
      go_wp2
      go_ret
      exact ⟨rfl, HB.out⟩

set_option maxHeartbeats 1600000 in
theorem frames_same (A B : Option Addr) (n c1 c2 : Nat) (fs : Nat → Fr) (w : World) (ha : Fl w A n fs) (hb : Fl w B n fs) (hn : n ≤ 1000000) :
    Calls Tryz.prog 25 #[.slice A n c1, .slice B n c2] w fun e w' => e = .returned (.bool true) ∧ Below w.heap.size w w' := by
  have HA := Lib.hid ha
  have HB := Lib.hid hb
  have hnI : (n : Int) ≤ 1000000 := by omega
  clear ha hb
  go_enter Tryz.func25, Tryz.ntmps25
  go_wp2
  go_loopw [5] (fun i wr => ∃ j : Nat, j ≤ n ∧ i = .int .i64 j ∧ Below w.heap.size w wr) (fun i _ => n - (intOf i).toNat)
  case atStart => exact ⟨0, Nat.zero_le _, rfl, Below.refl _ _⟩
  case round =>
    obtain ⟨j, hj, rfl, hb⟩ := hrel
    have HW := Lib.hid hb
    clear hb
    by_cases hlt : j < n
    · have hltI : (j : Int) < (n : Int) := by omega
      obtain ⟨ad, rfl, hl, c0, c1, c2, c3, c4, c5, c6, c7, c8, c9, c10, c11⟩ := (HA.out.below HW.out).at_ hlt
      obtain ⟨bd, rfl, hl2, d0, d1, d2, d3, d4, d5, d6, d7, d8, d9, d10, d11⟩ := (HB.out.below HW.out).at_ hlt
      generalize fs j = f at *
      have hfe := fun W => fneq f f W
      rw [same_refl] at hfe
      go_wp2
      go_quiet (fail)
      go_wp2
      go_roundw
      case rel => exact ⟨j + 1, by omega, by go_num, nxt HW.out (belowN (Below.refl _ _) _)⟩
      case measure => simp [intOf]; omega
    · have hltI : ¬ (j : Int) < (n : Int) := by omega
      go_wp2
      go_ret
      exact ⟨rfl, HW.out⟩
end Go.Proofs.YtenfcbmeokenaaaGreat

/- The contracts of slices.Clone of ints, and of a node's Clone. -/
namespace Go.Proofs.YtenfcbmeokenaaaGreat
set_option maxRecDepth 20000
open Go.RowKit
set_option linter.unusedSimpArgs false

set_option maxHeartbeats 800000 in
theorem iclone_any {w : World} {B : Nat} {v : Value} {zs : List Int} (h : Own w B v zs) (hn : zs.length ≤ 100000) :
    Calls Tryz.prog 41 #[v] w fun e w' => ∃ u, e = .returned u ∧ Own w' w.heap.size u zs ∧ Below w.heap.size w w' := by
  rcases h.2 with ⟨rfl, h0⟩ | ⟨g, cap, cur, rfl, hb, hh, hnc, hcm, hcs, hx⟩
  · have hnl : zs = [] := List.eq_nil_of_length_eq_zero h0
    subst hnl
    clear h
    have heq := fun W : World => Go.Lib.run_eql_slice_nil (P := Tryz.prog) W 26 3 none 0 0 0 0 Tryz.underlying26
    go_enter Tryz.func41, Tryz.ntmps41
    go_wp2
    go_ret
    exact ⟨_, rfl, Own.nil _ _, Below.refl _ _⟩
  · obtain ⟨A, c2, hv, hil, -⟩ := h.il2
    injection hv with e1 e2 e3
    subst e1
    subst e3
    have HO := Lib.hid h
    have HI := Lib.hid hil
    have hg := (Array.getElem?_eq_some_iff.1 hh).1
    clear h hh hcs hx hcm hb hil
    have heq := fun W : World => Go.Lib.run_eql_slice_nil (P := Tryz.prog) W 26 3 (some ⟨g, 0, none⟩) zs.length cap 0 0 Tryz.underlying26
    have HN := Lib.hid hn
    clear hn
    go_enter Tryz.func41, Tryz.ntmps41
    have HF := Lib.hid (show Own (w.alloc (.cells #[] 3)) w.heap.size (.slice (some ⟨w.heap.size, 0, none⟩) 0 0) [] from Own.lit w w.heap.size [] (Nat.le_refl _) (by simp))
    have HS := Lib.hid (HI.out.below (below1 w (.cells #[] 3)))
    go_wp2_with (first | (at_builtin; refine append_ints2 _ (by rfl) _ _ rfl w.heap.size _ [] rfl HF.out _ _ _ zs rfl HS.out (by have := HN.out; simp; omega) (by simp) ?_; intro v' w' h1 h2 h3) | fail)
    go_wp2
    go_ret
    exact ⟨_, rfl, by simpa using h1, Below.grown ((Below.refl _ _).alloc (Nat.le_refl _) _) h2 (by simp) (fun k hk => by injection hk with hk; have hk : w.heap.size = k := hk; omega)⟩
theorem Only.below {g B : Nat} {w w' : World} (h : Only g w w') (hB : B ≤ g) : Below B w w' := ⟨h.os, h.tape, h.output, Nat.le_of_eq h.size.symm, fun k hk => h.block k (by omega)⟩
theorem Que.only {w w' : World} {B g k : Nat} {v : Value} {m : Int} {gs : List Fr} (h : Que w B g v m gs) (ho : Only k w w') (hk : k < B) : Que w' B g v m gs :=
  ⟨(ho.block _ (by have := h.at_; omega)).trans h.q, owns_move h.own fun j hj => ho.block j (by have := (World.ownsRow.lt h.own j hj).1; omega), h.at_⟩
theorem Own.only {w w' : World} {B k : Nat} {v : Value} {zs : List Int} (h : Own w B v zs) (ho : Only k w w') (hk : k < B) : Own w' B v zs :=
  owns_move h fun j hj => ho.block j (by have := (World.ownsRow.lt h j hj).1; omega)
theorem sep_later {w w' : World} {B B' : Nat} {u v : Value} {zs ys : List Int} (h : Own w B u zs) (h' : Own w' B' v ys) (hB : w.heap.size ≤ B') : Sep u v := by
  cases hu : u.ownBlock with
  | none => exact .inl hu
  | some k =>
    refine .inr fun e => ?_
    have h1 := (World.ownsRow.lt h k hu).2
    rw [hu] at e
    have h2 := (World.ownsRow.lt h' k e.symm).1
    omega

abbrev zNode : Array Value := #[.int .i64 0, .int .i64 0, .int .i64 0, .int .i64 0, .bool false, .bool false, .slice none 0 0, .int .i64 0, .int .i64 0, .int .i64 0, .int .i64 0, .int .i64 0, .bool false, .bool false, .int .i64 0, .int .u8 0, .int .u8 0, .int .u8 0, .int .u8 0, .int .u8 0, .int .u8 0, .int .u8 0, .int .u8 0, .slice none 0 0, .bool false, .int .i64 0, .int .i64 0, .bool false, .pointer none]

set_option maxHeartbeats 3200000 in
set_option maxRecDepth 100000 in
theorem nclone_any {w : World} {B : Nat} {p : NP} {n : Nd} (hl : Lay w B p n) (hq : n.q.length ≤ 1000000) (ho : n.own.length ≤ 100000) (hv : n.outL.length ≤ 100000) :
    Calls Tryz.prog 26 #[.pointer (some ⟨p.g, 0, none⟩)] w fun e w' => ∃ p', e = .returned (.pointer (some ⟨p'.g, 0, none⟩)) ∧ Lay w' w.heap.size p' n ∧ Below w.heap.size w w' := by
  obtain ⟨g, gq, vo, vl, vq⟩ := p
  obtain ⟨Ao, co, hvo, -, -⟩ := hl.own.il2
  obtain ⟨Av, cv, hvl, -, -⟩ := hl.lev.il2
  simp only at hvo hvl
  subst hvo
  subst hvl
  have HL := Lib.hid hl
  have HQ := Lib.hid hq
  have HO := Lib.hid ho
  have HV := Lib.hid hv
  have HB1 := Lib.hid (below1 w (.cells (n.cells (.slice Ao n.own.length co) (.slice Av n.outL.length cv) gq) 74))
  have HL1 := Lib.hid (hl.next HB1.out)
  have HK1 := Lib.hid (heap_alloc_new w (.cells (n.cells (.slice Ao n.own.length co) (.slice Av n.outL.length cv) gq) 74))
  have c0 := HL.out.c0
  have c1 := HL.out.c1
  have c2 := HL.out.c2
  have c3 := HL.out.c3
  have c4 := HL.out.c4
  have c5 := HL.out.c5
  have c6 := HL.out.c6
  have c7 := HL.out.c7
  have c8 := HL.out.c8
  have c9 := HL.out.c9
  have c10 := HL.out.c10
  have c11 := HL.out.c11
  have c12 := HL.out.c12
  have c13 := HL.out.c13
  have c14 := HL.out.c14
  have c15 := HL.out.c15
  have c16 := HL.out.c16
  have c17 := HL.out.c17
  have c18 := HL.out.c18
  have c19 := HL.out.c19
  have c20 := HL.out.c20
  have c21 := HL.out.c21
  have c22 := HL.out.c22
  have c23 := HL.out.c23
  have c24 := HL.out.c24
  have c25 := HL.out.c25
  have c26 := HL.out.c26
  have c27 := HL.out.c27
  have c28 := HL.out.c28
  have d28 := HL1.out.c28
  clear hl hq ho hv
  go_enter Tryz.func26, Tryz.ntmps26
  go_upto_region 3 with fail
  go_cut [3] (fun s3 wx => s3 = .pointer (some ⟨w.heap.size, 0, none⟩) ∧ wx = w.alloc (.cells (n.cells (.slice Ao n.own.length co) (.slice Av n.outL.length cv) gq) 74))
  case first =>
    as_aux_lemma =>
      clear d28 c0 c1 c2 c3 c4 c5 c6 c7 c8 c9 c10 c11 c12 c13 c14 c15 c16 c17 c18 c19 c20 c21 c22 c23 c24 c25 c26 c27 c28
      refine wp_region_lit ?_
      refine wpList_plain rfl fun K hK => ?_
      go_simp
      refine hK _ _ ?_
      clear hK K
      refine wpList_plain rfl fun K hK => ?_
      go_simp
      refine hK _ _ ?_
      clear hK K
      refine wpList_load_row rfl 74 (.tmp 7) rfl g rfl 74 (n.cells (.slice Ao n.own.length co) (.slice Av n.outL.length cv) gq) (0, 0) _ HL.out.blk Tryz.underlying74 rfl (by kernel_rfl) ?_
      simp only [Act.put, List.setIfInBounds_toArray, List.set_cons_zero, List.set_cons_succ]
      refine wpList_plain rfl fun K hK => ?_
      go_simp
      refine hK _ _ ?_
      clear hK K
      refine wpList_store_row rfl 74 (.tmp 3) (.tmp 8) rfl w.heap.size (n.cells (.slice Ao n.own.length co) (.slice Av n.outL.length cv) gq) rfl rfl 74 zNode (heap_alloc_new w _) (by kernel_rfl) rfl (by simp [Value.oneCell']) ?_
      rw [World.setRow_alloc_new]
      go_wp2
      go_meet
      case rel => exact ⟨rfl, rfl⟩
  case rest =>
    as_aux_lemma =>
      obtain ⟨rfl, rfl⟩ := hcut
      go_wp2_with fail
      clear d28 c0 c1 c2 c3 c4 c5 c6 c7 c8 c9 c10 c11 c12 c13 c14 c15 c16 c17 c18 c19 c20 c21 c22 c23 c24 c25 c26 c27 c28
      refine (clone_q HL1.out.que HQ.out).mono ?_
      rintro e w1 ⟨gq', u, rfl, hq1, hb1⟩
      have HB2 := Lib.hid (nxt HB1.out hb1)
      have HQ2 := Lib.hid hq1
      have hk := (hb1.block w.heap.size (by simp)).trans HK1.out
      have HK2 := Lib.hid hk
      have HL2 := Lib.hid (HL1.out.next hb1)
      have HZ2 := Lib.hid (show (w.alloc (.cells (n.cells (.slice Ao n.own.length co) (.slice Av n.outL.length cv) gq) 74)).heap.size = w.heap.size + 1 by simp)
      have fz := typed_frozen hk 28
      have k28 := cell_of_row w1 w.heap.size 28 _ _ (0, 0) hk
      clear hb1 hq1 hk HK1
      obtain ⟨wx, hwx⟩ : ∃ wx, w1.setCell ⟨w.heap.size, 28, none⟩ (.pointer (some ⟨gq', 0, none⟩)) = wx := ⟨_, rfl⟩
      have hox : Only w.heap.size w1 wx := by rw [← hwx]; exact (Only.refl _ _).set
      have HOX := Lib.hid hox
      have HKX := Lib.hid (show wx.heap[w.heap.size]? = some (.cells (n.cells (.slice Ao n.own.length co) (.slice Av n.outL.length cv) gq') 74) by rw [← hwx]; exact cells_to (cells_set HK2.out) rfl)
      have HBX := Lib.hid (HB2.out.trans (hox.below (Nat.le_refl _)))
      have HQX := Lib.hid (HQ2.out.only hox (by rw [HZ2.out]; omega))
      have e6 := (HL.out.next HBX.out).c6
      clear hox
      go_wp2_with fail
      clear fz k28 hwx e6
      refine (iclone_any (HL.out.next HBX.out).own HO.out).mono ?_
      rintro e w3 ⟨u1, rfl, ho3, hb3⟩
      obtain ⟨A1, q1, e1, -, -⟩ := ho3.il2
      subst e1
      have HB3 := Lib.hid (nxt HBX.out hb3)
      have HO3 := Lib.hid (ho3.mono HBX.out.size)
      have HQ3 := Lib.hid (HQX.out.next hb3)
      have hk := (hb3.block w.heap.size (by have := HQX.out.lt; have := HQX.out.at_; have := HZ2.out; omega)).trans HKX.out
      have HK3 := Lib.hid hk
      have fz := typed_frozen hk 6
      have k6 := cell_of_row w3 w.heap.size 6 _ _ (0, 0) hk
      have HS3 := Lib.hid (show w.heap.size < wx.heap.size by have := HQX.out.lt; have := HQX.out.at_; have := HZ2.out; omega)
      have HO3b := Lib.hid ho3
      clear hb3 ho3 hk
      obtain ⟨wy, hwy⟩ : ∃ wy, w3.setCell ⟨w.heap.size, 6, none⟩ (.slice A1 n.own.length q1) = wy := ⟨_, rfl⟩
      have hoy : Only w.heap.size w3 wy := by rw [← hwy]; exact (Only.refl _ _).set
      have HKY := Lib.hid (show wy.heap[w.heap.size]? = some (.cells (n.cells (.slice A1 n.own.length q1) (.slice Av n.outL.length cv) gq') 74) by rw [← hwy]; exact cells_to (cells_set HK3.out) rfl)
      have HBY := Lib.hid (HB3.out.trans (hoy.below (Nat.le_refl _)))
      have HQY := Lib.hid (HQ3.out.only hoy (by rw [HZ2.out]; omega))
      have HOY := Lib.hid (HO3b.out.only hoy HS3.out)
      have HSY := Lib.hid hoy.size
      have e23 := (HL.out.next HBY.out).c23
      clear hoy
      go_wp2_with fail
      clear fz k6 hwy e23
      refine (iclone_any (HL.out.next HBY.out).lev HV.out).mono ?_
      rintro e w5 ⟨u2, rfl, ho5, hb5⟩
      obtain ⟨A2, q2, e2, -, -⟩ := ho5.il2
      subst e2
      have HB5 := Lib.hid (nxt HBY.out hb5)
      have HO5 := Lib.hid ho5
      have HQ5 := Lib.hid (HQY.out.next hb5)
      have HP5 := Lib.hid (HOY.out.below hb5)
      have HSZ := Lib.hid (show w.heap.size < wy.heap.size by have := HQY.out.lt; have := HQY.out.at_; have := HZ2.out; omega)
      have hk := (hb5.block w.heap.size HSZ.out).trans HKY.out
      have HK5 := Lib.hid hk
      have fz := typed_frozen hk 23
      have k23 := cell_of_row w5 w.heap.size 23 _ _ (0, 0) hk
      clear hb5 ho5 hk
      obtain ⟨wz, hwz⟩ : ∃ wz, w5.setCell ⟨w.heap.size, 23, none⟩ (.slice A2 n.outL.length q2) = wz := ⟨_, rfl⟩
      have hoz : Only w.heap.size w5 wz := by rw [← hwz]; exact (Only.refl _ _).set
      have HKZ := Lib.hid (show wz.heap[w.heap.size]? = some (.cells (n.cells (.slice A1 n.own.length q1) (.slice A2 n.outL.length q2) gq') 74) by rw [← hwz]; exact cells_to (cells_set HK5.out) rfl)
      have HBZ := Lib.hid (HB5.out.trans (hoz.below (Nat.le_refl _)))
      have HQZ := Lib.hid (HQ5.out.only hoz (by rw [HZ2.out]; omega))
      have HPZ := Lib.hid (HP5.out.only hoz HS3.out)
      have HOZ := Lib.hid (HO5.out.only hoz HSZ.out)
      have HSP := Lib.hid (sep_later (u := (.slice A1 n.own.length q1)) (v := (.slice A2 n.outL.length q2)) HOY.out HO5.out (Nat.le_refl _))
      clear hoz
      go_wp2
      go_ret
      exact ⟨⟨w.heap.size, gq', (.slice A1 n.own.length q1), (.slice A2 n.outL.length q2), u⟩, rfl, ⟨HKZ.out, HPZ.out.mono (Nat.le_of_lt HS3.out), HOZ.out.mono (Nat.le_of_lt HSZ.out), HQZ.out.base (by rw [HZ2.out]; omega), HSP.out, Nat.le_refl _⟩, HBZ.out⟩
theorem nclone_nil (w : World) : Calls Tryz.prog 26 #[.pointer none] w fun e w' => e = .returned (.pointer none) ∧ w' = w := by
  go_enter Tryz.func26, Tryz.ntmps26
  go_wp2
  go_ret
  exact ⟨rfl, rfl⟩
end Go.Proofs.YtenfcbmeokenaaaGreat

/- What is true of a node whatever it has gone through. -/
namespace Go.Proofs.YtenfcbmeokenaaaGreat
set_option maxRecDepth 20000
open Go.RowKit
set_option linter.unusedSectionVars false

/-- Counts behind any event are right. -/
theorem right_snt {c : Ct} (h : c.right = true) (ho : c.o = false) : c.snt.right = true ∧ c.snt.o = false ∧ c.snt.t ≤ c.t + 8 := by
  obtain ⟨t, r, o⟩ := c
  obtain ⟨h1, h2, h3⟩ := right_iff.1 h
  simp only at h1 h2 h3 ho
  subst ho
  have hr : Ct.run ⟨t, r, false⟩ = true := run_iff.2 ⟨rfl, by show 0 ≤ t; simp at h1; omega, by show t ≤ 255; simp at h1; omega, h2, h3⟩
  unfold Ct.snt
  rw [if_pos hr]
  simp at h1
  exact ⟨right_iff.2 ⟨.inr ⟨rfl, by show 0 ≤ max (t - 1) 0; omega, by show max (t - 1) 0 ≤ 255; omega⟩, h2, h3⟩, rfl, by show max (t - 1) 0 ≤ t + 8; omega⟩
theorem right_rcv {c : Ct} (h : c.right = true) (ho : c.o = false) : c.rcv.right = true ∧ c.rcv.o = false ∧ c.rcv.t = c.t := by
  obtain ⟨t, r, o⟩ := c
  obtain ⟨h1, h2, h3⟩ := right_iff.1 h
  simp only at h1 h2 h3 ho
  subst ho
  have hr : Ct.run ⟨t, r, false⟩ = true := run_iff.2 ⟨rfl, by show 0 ≤ t; simp at h1; omega, by show t ≤ 255; simp at h1; omega, h2, h3⟩
  unfold Ct.rcv
  rw [if_pos hr]
  simp at h1
  refine ⟨right_iff.2 ⟨.inr ⟨rfl, h1.1, h1.2⟩, ?_, ?_⟩, rfl, rfl⟩
  · show 0 ≤ if 127 < r then 119 else max (r - 1) 0
    split <;> omega
  · show (if 127 < r then 119 else max (r - 1) 0) ≤ 255
    split <;> omega
theorem right_txx {c : Ct} (h : c.right = true) (ho : c.o = false) : c.txx.right = true ∧ c.txx.t ≤ c.t + 8 := by
  obtain ⟨t, r, o⟩ := c
  obtain ⟨h1, h2, h3⟩ := right_iff.1 h
  simp only at h1 h2 h3 ho
  subst ho
  have hr : Ct.run ⟨t, r, false⟩ = true := run_iff.2 ⟨rfl, by show 0 ≤ t; simp at h1; omega, by show t ≤ 255; simp at h1; omega, h2, h3⟩
  unfold Ct.txx
  rw [if_pos hr]
  simp at h1
  by_cases h8 : 255 < t + 8
  · rw [if_pos h8]
    exact ⟨right_iff.2 ⟨.inl ⟨rfl, rfl⟩, h2, h3⟩, by show (256 : Int) ≤ t + 8; omega⟩
  · rw [if_neg h8]
    exact ⟨right_iff.2 ⟨.inr ⟨rfl, by show 0 ≤ t + 8; omega, by show t + 8 ≤ 255; omega⟩, h2, h3⟩, Int.le_refl _⟩
theorem right_rxx {c : Ct} (x : Int) (hx : 0 ≤ x) (h : c.right = true) (ho : c.o = false) : (c.rxx x).right = true ∧ (c.rxx x).o = false ∧ (c.rxx x).t = c.t := by
  obtain ⟨t, r, o⟩ := c
  obtain ⟨h1, h2, h3⟩ := right_iff.1 h
  simp only at h1 h2 h3 ho
  subst ho
  unfold Ct.rxx
  simp at h1
  split
  · exact ⟨right_iff.2 ⟨.inr ⟨rfl, h1.1, h1.2⟩, by show 0 ≤ min (r + x) 255; omega, by show min (r + x) 255 ≤ 255; omega⟩, rfl, rfl⟩
  · exact ⟨h, rfl, rfl⟩
theorem st_off {c : Ct} : c.st = 2 ↔ c.o = true := by
  unfold Ct.st
  cases c.o
  · simp
    split <;> omega
  · simp

/-- In a frame. -/
structure InS (B : Nat) (n : Nd) : Prop where
  own : ∀ z ∈ n.own, lvl z = true
  kind : n.kind = (kd n.own : Nat)
  nth : n.nth = (pl n.own : Nat)
  go : kd n.own < 9
  b0 : 0 ≤ n.bn
  b1 : n.bn ≤ B
  out : n.tx = true → n.outF ∈ n.q ∧ n.outL = alls n.outF ∧ ∃ b, n.own = (raw n.outF ++ ten (slt b)).take n.own.length
/-- What is true of a node behind B levels. -/
structure Sound (B : Nat) (n : Nd) : Prop where
  m0 : 0 ≤ n.mode
  m1 : n.mode ≤ 10
  s0 : 0 ≤ n.sn
  s1 : n.sn ≤ B
  r0 : 0 ≤ n.rows
  r1 : n.rows ≤ 127
  q : Okq n.q
  qf : Okfs n.q
  ql : n.q.length ≤ 16
  ct : n.ct.right = true
  off : n.ct.o = true ↔ n.mode = 10
  inf : n.mode = 2 → InS B n
theorem own_short {o : List Int} (h : kd o < 9) : o.length < 130 := by
  have h1 := kd_lt h
  have h2 := hDat_le o
  have h3 : sumW (hW o) ≤ 128 := by
    unfold hW wds
    simp only [sumW]
    have : aW (hEx o) + cW (hEx o) ≤ 38 := by cases hEx o <;> decide
    omega
  omega
theorem tx_short {f : Fr} (hm : f.may = true) {b : Bool} {o : List Int} (h : o = (raw f ++ ten (slt b)).take o.length) (hk : kd o < 9) : o.length < (alls f).length := by
  have ha : (alls f).length = (raw f).length + 10 := by rw [show alls f = raw f ++ ten (slt false) from rfl, List.length_append, ten_len]
  have hl : o.length ≤ (raw f).length + 10 := by
    have := congrArg List.length h
    rw [List.length_take, List.length_append, ten_len] at this
    omega
  rcases Nat.lt_or_ge o.length ((raw f).length + 10) with h1 | h1
  · omega
  · exfalso
    rw [List.take_of_length_le (by rw [List.length_append, ten_len]; omega)] at h
    rw [h, kd_tail hm _ (by rw [ten_len]; omega), ten_len] at hk
    exact absurd hk (by decide)
theorem Sound.fit {B : Nat} {n : Nd} (h : Sound B n) (hB : B ≤ 4000000) : Fit n := by
  have a := h.s1
  have b := h.r1
  refine ⟨h.m0, h.m1, h.s0, by omega, h.r0, by omega, h.qf, h.ql, fun h2 => ?_⟩
  have i := h.inf h2
  have hl := own_short i.go
  have b1 := i.b1
  refine ⟨⟨i.own, by omega, fun ht => ?_⟩, ⟨i.own, by omega, .inr i.go, i.b0, by omega, h.ql⟩, h2⟩
  obtain ⟨t1, t2, b, t3⟩ := i.out ht
  rw [t2]
  exact tx_short (h.qf _ t1).1 t3 i.go
theorem Sound.more {B : Nat} {n : Nd} (h : Sound B n) {C : Nat} (hC : B ≤ C) : Sound C n := by
  have a := h.s1
  exact ⟨h.m0, h.m1, h.s0, by omega, h.r0, h.r1, h.q, h.qf, h.ql, h.ct, h.off, fun h2 => by
    have i := h.inf h2
    have b1 := i.b1
    exact ⟨i.own, i.kind, i.nth, i.go, i.b0, by omega, i.out⟩⟩
end Go.Proofs.YtenfcbmeokenaaaGreat

/- What a level makes of a node that is sound: counting, flags, pauses. -/
namespace Go.Proofs.YtenfcbmeokenaaaGreat
set_option maxRecDepth 20000
open Go.RowKit
set_option linter.unusedSectionVars false

theorem Sound.with_ct {B : Nat} {n : Nd} (h : Sound B n) (c : Ct) (hr : c.right = true) (ho : c.o = true ↔ n.mode = 10) : Sound B { n with ct := c } :=
  ⟨h.m0, h.m1, h.s0, h.s1, h.r0, h.r1, h.q, h.qf, h.ql, hr, ho, fun h2 => by
    have i := h.inf h2
    exact ⟨i.own, i.kind, i.nth, i.go, i.b0, i.b1, i.out⟩⟩
theorem Sound.enter {B C : Nat} {n : Nd} (h : Sound B n) {m : Int} (hm : 0 ≤ m ∧ m ≤ 10 ∧ m ≠ 2) (ho : n.ct.o = true ↔ m = 10) : Sound C (n.enter m) :=
  ⟨hm.1, hm.2.1, Int.le_refl 0, by show (0 : Int) ≤ C; omega, Int.le_refl 0, by show (0 : Int) ≤ 127; omega, h.q, h.qf, h.ql, h.ct, ho, fun h2 => absurd h2 hm.2.2⟩
theorem tlN_up {l n z : Int} {B : Nat} (h0 : 0 ≤ n) (h1 : n ≤ B) : 0 ≤ tlN l n z ∧ tlN l n z ≤ (B + 1 : Nat) := by
  unfold tlN
  split <;> omega
theorem Sound.see {B : Nat} {n : Nd} (h : Sound B n) (h2 : n.mode ≠ 2) (z : Int) : Sound (B + 1) (n.see z) := by
  have t := tlN_up (l := n.sl) (z := z) h.s0 h.s1
  exact ⟨h.m0, h.m1, t.1, t.2, h.r0, h.r1, h.q, h.qf, h.ql, h.ct, h.off, fun e => absurd e h2⟩

/-- What a level makes of a node. -/
structure Good (B : Nat) (n : Nd) (r : List Ev × Nd) : Prop where
  s : Sound (B + 1) r.2
  q : (r.2.q = n.q ∧ ∀ e ∈ r.1, e.1 ≠ 1) ∨ ∃ f, f ∈ n.q ∧ r.1 = [(1, f)] ∧ r.2.q = drp f n.q
  t : r.2.ct.t ≤ n.ct.t + 8
  gone : (∃ e ∈ r.1, e.1 = 10) ↔ (n.ct.o = false ∧ r.2.ct.o = true)
  back : (∃ e ∈ r.1, e.1 = 11) ↔ (n.ct.o = true ∧ r.2.ct.o = false)
  len : r.1.length ≤ 3
/-- Nothing is told that counts. -/
def Calm (es : List Ev) : Prop := ∀ e ∈ es, e.1 ≠ 1 ∧ e.1 ≠ 10 ∧ e.1 ≠ 11
theorem calm_nil : Calm [] := fun e h => by cases h
theorem calm_one {k : Int} {f : Fr} (h : k ≠ 1 ∧ k ≠ 10 ∧ k ≠ 11) : Calm [(k, f)] := fun e he => by rw [List.mem_singleton.1 he]; exact h
theorem good_keep {B : Nat} {n n' : Nd} {es : List Ev} (hs : Sound (B + 1) n') (hq : n'.q = n.q) (hc : n'.ct.o = n.ct.o) (ht : n'.ct.t ≤ n.ct.t + 8) (he : Calm es) (hl : es.length ≤ 3) : Good B n (es, n') := by
  refine ⟨hs, .inl ⟨hq, fun e h => (he e h).1⟩, ht, ?_, ?_, hl⟩
  · constructor
    · rintro ⟨e, h, h2⟩
      exact absurd h2 (he e h).2.1
    · rintro ⟨h1, h2⟩
      have h2' : n'.ct.o = true := h2
      rw [hc, h1] at h2'
      cases h2'
  · constructor
    · rintro ⟨e, h, h2⟩
      exact absurd h2 (he e h).2.2
    · rintro ⟨h1, h2⟩
      have h2' : n'.ct.o = false := h2
      rw [hc, h1] at h2'
      cases h2'
theorem cnt_right {n : Nd} {x : Int} (hx : 0 ≤ x) (h : n.ct.right = true) (ho : n.ct.o = false) : (n.cnt x).ct.right = true ∧ (n.cnt x).ct.t ≤ n.ct.t + 8 := by
  unfold Nd.cnt
  show (if n.tx then n.ct.txx else n.ct.rxx x).right = true ∧ (if n.tx then n.ct.txx else n.ct.rxx x).t ≤ n.ct.t + 8
  cases n.tx
  · have a := right_rxx x hx h ho
    rw [if_neg (by simp)]
    exact ⟨a.1, by rw [a.2.2]; omega⟩
  · rw [if_pos rfl]
    exact right_txx h ho
theorem good_cas {B : Nat} {n n' : Nd} {es : List Ev} {x : Int} (hx : 0 ≤ x) (ho : n.ct.o = false) (h : Sound (B + 1) n') (hm : n'.mode ≠ 10) (_h2 : n'.mode ≠ 2) (hq : n'.q = n.q) (hc : n'.ct = n.ct) (he : Calm es) (hl : es.length ≤ 2) : Good B n (es ++ n'.casE x, n'.casN x) := by
  have ho' : n'.ct.o = false := by rw [hc]; exact ho
  obtain ⟨r1, r2⟩ := cnt_right hx h.ct ho'
  rw [hc] at r2
  unfold Nd.casE Nd.casN
  by_cases hs : (n'.cnt x).ct.st = 2
  · rw [if_pos hs, if_pos hs]
    have hoff : (n'.cnt x).ct.o = true := st_off.1 hs
    have hsn : Sound (B + 1) ((n'.cnt x).enter 10) := ⟨by show (0 : Int) ≤ 10; omega, by show (10 : Int) ≤ 10; omega, Int.le_refl 0, by show (0 : Int) ≤ (B + 1 : Nat); omega, Int.le_refl 0, by show (0 : Int) ≤ 127; omega, h.q, h.qf, h.ql, r1, ⟨fun _ => rfl, fun _ => hoff⟩, fun e => by cases e⟩
    refine ⟨hsn, .inl ⟨hq, fun e hm => ?_⟩, r2, ?_, ?_, ?_⟩
    · rcases List.mem_append.1 hm with h1 | h1
      · exact (he e h1).1
      · rw [List.mem_singleton.1 h1]; exact fun e => by cases e
    · exact ⟨fun _ => ⟨ho, hoff⟩, fun _ => ⟨ev 10, List.mem_append.2 (.inr (List.mem_singleton.2 rfl)), rfl⟩⟩
    · constructor
      · rintro ⟨e, hm, h1⟩
        rcases List.mem_append.1 hm with h3 | h3
        · exact absurd h1 (he e h3).2.2
        · rw [List.mem_singleton.1 h3] at h1; cases h1
      · rintro ⟨h1, _⟩
        rw [ho] at h1; cases h1
    · rw [List.length_append]
      show es.length + 1 ≤ 3
      omega
  · rw [if_neg hs, if_neg hs, List.append_nil]
    have hoff : (n'.cnt x).ct.o = false := by
      cases e : (n'.cnt x).ct.o
      · rfl
      · exact absurd (st_off.2 e) hs
    refine good_keep (h.with_ct _ r1 ?_) hq (by rw [hoff, ho]) r2 he (by omega)
    constructor
    · intro e
      have e' : (n'.cnt x).ct.o = true := e
      rw [hoff] at e'; cases e'
    · intro e
      exact absurd e hm
theorem Sound.on {B : Nat} {n : Nd} (h : Sound B n) (hm : n.mode ≠ 10) : n.ct.o = false := by
  cases e : n.ct.o
  · rfl
  · exact absurd (h.off.1 e) hm
theorem Sound.to {B C : Nat} {n : Nd} (h : Sound B n) (hm : n.mode ≠ 10) {m : Int} (hm2 : 0 ≤ m ∧ m ≤ 9 ∧ m ≠ 2) : Sound C (n.enter m) :=
  h.enter ⟨hm2.1, by omega, hm2.2.2⟩ ⟨fun e => absurd (e.symm.trans (h.on hm)) (by simp), fun e => by omega⟩
theorem good_to {B : Nat} {n : Nd} {es : List Ev} (h : Sound B n) (hm : n.mode ≠ 10) {m : Int} (hm2 : 0 ≤ m ∧ m ≤ 9 ∧ m ≠ 2) (he : Calm es) (hl : es.length ≤ 3) : Good B n (es, n.enter m) :=
  good_keep (h.to hm hm2) rfl rfl (by show n.ct.t ≤ n.ct.t + 8; omega) he hl
theorem good_see {B : Nat} {n : Nd} (h : Sound B n) (h2 : n.mode ≠ 2) (z : Int) : Good B n ([], n.see z) :=
  good_keep (h.see h2 z) rfl rfl (by show n.ct.t ≤ n.ct.t + 8; omega) calm_nil (by simp)
theorem good_fail {B : Nat} {n : Nd} {k : Int} (h : Sound B n) (hm : n.mode ≠ 10) (hk : k ≠ 1 ∧ k ≠ 10 ∧ k ≠ 11) : Good B n (n.fail k) := by
  unfold Nd.fail Nd.flg
  have hf : ∀ m : Int, m = 3 ∨ m = 4 → Sound (B + 1) (n.enter m) ∧ (n.enter m).mode ≠ 10 ∧ (n.enter m).mode ≠ 2 := fun m h3 => ⟨h.to hm (by omega), by show m ≠ 10; omega, by show m ≠ 2; omega⟩
  obtain ⟨a, b, c⟩ := hf (if n.pas then 4 else 3) (by split <;> omega)
  exact good_cas (es := [ev k]) (by omega) (h.on hm) a b c rfl rfl (calm_one hk) (by simp)
theorem good_failU {B : Nat} {n : Nd} {k : Int} (h : Sound B n) (hm : n.mode ≠ 10) (hk : k ≠ 1 ∧ k ≠ 10 ∧ k ≠ 11) : Good B n (n.failU k) := by
  unfold Nd.failU Nd.flg
  exact good_to h hm (by split <;> omega) (calm_one hk) (by simp)
theorem good_over {B : Nat} {n : Nd} (h : Sound B n) (hm : n.mode ≠ 10) : Good B n n.over := good_to h hm (by omega) (calm_one (by omega)) (by simp)
theorem good_join {B : Nat} {n : Nd} (h : Sound B n) (hm : n.mode = 0) (z : Int) : Good B n (n.join z) := by
  unfold Nd.join
  split
  · exact good_to h (by omega) (by omega) calm_nil (by simp)
  · exact good_see h (by omega) z
theorem Sound.endF {B C : Nat} {n : Nd} (h : Sound B n) (hm : n.mode ≠ 10) : Sound C n.endF := by
  have a := h.to (C := C) hm (m := 6) (by omega)
  exact ⟨a.m0, a.m1, a.s0, a.s1, a.r0, a.r1, a.q, a.qf, a.ql, a.ct, a.off, fun e => by cases e⟩
theorem Sound.flagN {B : Nat} {n : Nd} (h : Sound B n) (hm : n.mode = 3 ∨ n.mode = 5) : Sound (B + 1) n.flagN ∧ n.flagN.mode ≠ 10 ∧ n.flagN.mode ≠ 2 ∧ n.flagN.q = n.q ∧ n.flagN.ct = n.ct := by
  unfold Nd.flagN
  split
  · exact ⟨h.endF (by omega), by show (6 : Int) ≠ 10; omega, by show (6 : Int) ≠ 2; omega, rfl, rfl⟩
  · exact ⟨h.see (by omega) 0, by show n.mode ≠ 10; omega, by show n.mode ≠ 2; omega, rfl, rfl⟩
theorem good_flag {B : Nat} {n : Nd} (h : Sound B n) (hm : n.mode = 3 ∨ n.mode = 5) (z : Int) : Good B n (n.flag z) := by
  obtain ⟨a, b, c, d, e⟩ := h.flagN hm
  unfold Nd.flag
  split
  · exact good_keep a d (by rw [e]) (by rw [e]; omega) calm_nil (by simp)
  · exact good_cas (es := [ev 4]) (by omega) (h.on (by omega)) a b c d e (calm_one (by omega)) (by simp)
theorem good_pflag {B : Nat} {n : Nd} (h : Sound B n) (hm : n.mode = 4) (z : Int) : Good B n (n.pflag z) := by
  have hp : Sound (B + 1) (n.pflN z) ∧ (n.pflN z).mode ≠ 10 ∧ (n.pflN z).mode ≠ 2 ∧ (n.pflN z).q = n.q ∧ (n.pflN z).ct = n.ct := by
    unfold Nd.pflN
    split
    · exact ⟨h.endF (by omega), by show (6 : Int) ≠ 10; omega, by show (6 : Int) ≠ 2; omega, rfl, rfl⟩
    · have a := h.see (by omega) z
      exact ⟨⟨a.m0, a.m1, a.s0, a.s1, a.r0, a.r1, a.q, a.qf, a.ql, a.ct, a.off, fun e => absurd e (by show n.mode ≠ 2; omega)⟩, by show n.mode ≠ 10; omega, by show n.mode ≠ 2; omega, rfl, rfl⟩
  obtain ⟨a, b, c, d, e⟩ := hp
  unfold Nd.pflag
  split
  · exact good_cas (es := []) (by omega) (h.on (by omega)) a b c d e calm_nil (by simp)
  · exact good_keep a d (by rw [e]) (by rw [e]; omega) calm_nil (by simp)
theorem good_close {B : Nat} {n : Nd} (h : Sound B n) (hm : n.mode = 7) (z : Int) : Good B n (n.close z) := by
  unfold Nd.close
  split
  · unfold Nd.closeN
    split
    · exact good_to h (by omega) (by omega) calm_nil (by simp)
    · exact good_see h (by omega) 1
  · split
    · exact good_over h (by omega)
    · exact good_fail h (by omega) (by omega)
theorem good_wait {B : Nat} {n : Nd} (h : Sound B n) (hm : n.mode = 6) (z : Int) : Good B n (n.wait z) := by
  unfold Nd.wait
  split
  · have h7 : Sound B (n.enter 7) := h.to (by omega) (by omega)
    have g := good_close h7 rfl 1
    exact ⟨g.s, g.q, g.t, g.gone, g.back, g.len⟩
  · split
    · exact good_cas (es := []) (by omega) (h.on (by omega)) (h.see (by omega) 0) (by show n.mode ≠ 10; omega) (by show n.mode ≠ 2; omega) rfl rfl calm_nil (by simp)
    · exact good_see h (by omega) 0
theorem good_off {B : Nat} {n : Nd} (h : Sound B n) (hm : n.mode = 10) (z : Int) : Good B n (n.off z) := by
  have ho : n.ct.o = true := h.off.2 hm
  unfold Nd.off
  split
  · split
    · rename_i h128
      refine good_keep ⟨h.m0, h.m1, Int.le_refl 0, by show (0 : Int) ≤ (B + 1 : Nat); omega, ?_, ?_, h.q, h.qf, h.ql, h.ct, h.off, fun e => absurd e (by show n.mode ≠ 2; omega)⟩ rfl rfl (by show n.ct.t ≤ n.ct.t + 8; omega) calm_nil (by simp)
      · show 0 ≤ n.rows + 1
        have := h.r0; omega
      · show n.rows + 1 ≤ 127
        omega
    · have hr := right_iff.1 h.ct
      refine ⟨⟨by show (0 : Int) ≤ 1; omega, by show (1 : Int) ≤ 10; omega, Int.le_refl 0, by show (0 : Int) ≤ (B + 1 : Nat); omega, Int.le_refl 0, by show (0 : Int) ≤ 127; omega, h.q, h.qf, h.ql, rfl, ⟨fun e => (by cases e), fun e => (by cases e)⟩, fun e => (by cases e)⟩, .inl ⟨rfl, fun e he => by rw [List.mem_singleton.1 he]; exact fun e => by cases e⟩, ?_, ?_, ?_, by simp⟩
      · show (0 : Int) ≤ n.ct.t + 8
        rcases hr.1 with a | a <;> omega
      · constructor
        · rintro ⟨e, he, h1⟩
          rw [List.mem_singleton.1 he] at h1; cases h1
        · rintro ⟨h1, _⟩
          rw [ho] at h1; cases h1
      · exact ⟨fun _ => ⟨ho, rfl⟩, fun _ => ⟨ev 11, List.mem_singleton.2 rfl, rfl⟩⟩
  · exact good_see h (by omega) z
end Go.Proofs.YtenfcbmeokenaaaGreat

/- What a level makes of a node that is sound: in a frame, and all in all. -/
namespace Go.Proofs.YtenfcbmeokenaaaGreat
set_option maxRecDepth 20000
open Go.RowKit
set_option linter.unusedSectionVars false

theorem frame_all (f : Fr) (b : Bool) : ∀ z ∈ raw f ++ ten (slt b), lvl z = true := all_append (raw_all f) (by cases b <;> decide)
theorem six_at {f : Fr} (hm : f.may = true) {b : Bool} {o : List Int} (h : o = (raw f ++ ten (slt b)).take o.length) (hk : kd o = 6) : o.length = (raw f).length + 1 := by
  rcases Nat.lt_or_ge o.length (raw f).length with h1 | h1
  · rw [take_pre (by omega)] at h
    have := raw_low hm h1
    rw [← h] at this
    omega
  · have hl : o.length ≤ (raw f).length + 10 := by
      have := congrArg List.length h
      rw [List.length_take, List.length_append, ten_len] at this
      omega
    obtain ⟨i, hi⟩ : ∃ i, o.length = (raw f).length + i := ⟨o.length - (raw f).length, by omega⟩
    have e : o = raw f ++ (ten (slt b)).take i := by
      rw [h, hi, List.take_length_add_append]
    have hx : ((ten (slt b)).take i).length = i := by rw [List.length_take, ten_len]; omega
    rw [e, kd_tail hm _ (by rw [hx]; omega), hx] at hk
    unfold tl at hk
    split at hk
    · omega
    · split at hk <;> omega
/-- One level more of the frame's own. -/
theorem own_more {f : Fr} {b : Bool} {o : List Int} {z : Int} (h : o = (raw f ++ ten (slt b)).take o.length) (hz : (raw f ++ ten (slt b)).getD o.length 0 = z) (hl : o.length < (raw f).length + 10) : o ++ [z] = (raw f ++ ten (slt b)).take (o.length + 1) := by
  rw [take_get (by rw [List.length_append, ten_len]; exact hl), hz, ← h]
theorem alls_get {f : Fr} {b : Bool} {k : Nat} (h : k ≠ (raw f).length + 1) : (alls f).getD k 0 = (raw f ++ ten (slt b)).getD k 0 := by
  show (raw f ++ ten (slt false)).getD k 0 = _
  rcases Nat.lt_or_ge k (raw f).length with h1 | h1
  · rw [gd_left h1, gd_left h1]
  · rw [gd_right h1, gd_right h1]
    obtain ⟨i, hi⟩ : ∃ i, k = (raw f).length + i := ⟨k - (raw f).length, by omega⟩
    rw [hi, show (raw f).length + i - (raw f).length = i by omega]
    rcases Nat.lt_or_ge i 10 with h2 | h2
    · rw [ten_get _ _ h2, ten_get _ _ h2, if_neg (by omega), if_neg (by omega)]
    · simp [List.getD, List.getElem?_eq_none (show (ten (slt false)).length ≤ i by rw [ten_len]; omega), List.getElem?_eq_none (show (ten (slt b)).length ≤ i by rw [ten_len]; omega)]

section
variable {B : Nat} {n : Nd} {z : Int}
theorem sound_at (h : Sound B n) (hm : n.mode ≠ 10) {C : Nat} {o t L : List Int} {tx : Bool} {F : Fr} (ho : ∀ y ∈ o, lvl y = true) (hk : kd o < 9) (ht : alk t ≤ C) (hx : tx = true → F ∈ n.q ∧ L = alls F ∧ ∃ b, o = (raw F ++ ten (slt b)).take o.length) : Sound C (n.at_ o t tx F L) :=
  ⟨by show (0 : Int) ≤ 2; omega, by show (2 : Int) ≤ 10; omega, Int.le_refl 0, by show (0 : Int) ≤ C; omega, Int.le_refl 0, by show (0 : Int) ≤ 127; omega, h.q, h.qf, h.ql, h.ct, ⟨fun e => absurd (e.symm.trans (h.on hm)) (by simp), fun e => (by cases e)⟩, fun _ => ⟨ho, rfl, rfl, hk, by show (0 : Int) ≤ (alk t : Nat); omega, by show ((alk t : Nat) : Int) ≤ C; omega, hx⟩⟩
theorem good_begin (h : Sound B n) (hm : n.mode ≠ 10) (may : Bool) : Good B n ([], n.begin_ may) := by
  rw [begin_at]
  refine good_keep (sound_at h hm (fun y hy => by rw [List.mem_singleton.1 hy]; rfl) (by decide) (by show 1 ≤ B + 1; omega) fun ht => ?_) rfl rfl (by show n.ct.t ≤ n.ct.t + 8; omega) calm_nil (by simp)
  rw [if_pos ht, if_pos ht]
  have hq : 0 < n.q.length := by
    rw [Bool.and_eq_true] at ht
    exact of_decide_eq_true ht.2
  have hin : n.q.headD Fr.zero ∈ n.q := by
    cases e : n.q with
    | nil => rw [e] at hq; simp at hq
    | cons a l => exact List.mem_cons_self
  refine ⟨hin, rfl, true, ?_⟩
  show [0] = _
  rw [show ([0] : List Int).length = 1 from rfl, take_pre raw_pos, raw_head (h.qf _ hin).1]
theorem good_idle (h : Sound B n) (hm : n.mode = 1) : Good B n (n.idle z) := by
  unfold Nd.idle
  split
  · exact good_begin h (by omega) true
  · split
    · have hs : Sound B ({ n with tx := true } : Nd) := ⟨h.m0, h.m1, h.s0, h.s1, h.r0, h.r1, h.q, h.qf, h.ql, h.ct, h.off, fun e => absurd e (by show n.mode ≠ 2; omega)⟩
      have g := good_fail (k := 4) hs (by show n.mode ≠ 10; omega) (by omega)
      exact ⟨g.s, g.q, g.t, g.gone, g.back, g.len⟩
    · exact good_keep (h.more (by omega)) rfl rfl (by omega) calm_nil (by simp)
theorem good_pause (h : Sound B n) (hm : n.mode = 8) : Good B n (n.pause z) := by
  unfold Nd.pause
  split
  · split
    · exact good_begin h (by omega) _
    · exact good_over h (by omega)
  · split
    · exact good_see h (by omega) 1
    · split
      · exact good_to h (by omega) (by omega) calm_nil (by simp)
      · exact good_to h (by omega) (by omega) calm_nil (by simp)
theorem good_susp (h : Sound B n) (hm : n.mode = 9) : Good B n (n.susp z) := by
  unfold Nd.susp
  split
  · exact good_begin h (by omega) false
  · split
    · exact good_to h (by omega) (by omega) calm_nil (by simp)
    · exact good_see h (by omega) 1
/-- A level is taken. -/
theorem sound_take (h : Sound B n) (hm : n.mode = 2) (hz : lvl z = true) (hx : n.tx = true → n.added = false → ∃ b, n.own ++ [z] = (raw n.outF ++ ten (slt b)).take (n.own.length + 1)) (h9 : kd (n.take z).own < 9) : Sound (B + 1) (n.take z) := by
  have i := h.inf hm
  have t := tlN_up (l := n.bl) (z := z) i.b0 i.b1
  have e1 : (n.take z).mode = n.mode ∧ (n.take z).sn = n.sn ∧ (n.take z).rows = n.rows ∧ (n.take z).q = n.q ∧ (n.take z).ct = n.ct ∧ (n.take z).bn = tlN n.bl n.bn z ∧ (n.take z).tx = n.tx ∧ (n.take z).outF = n.outF ∧ (n.take z).outL = n.outL := by
    unfold Nd.take
    split <;> exact ⟨rfl, rfl, rfl, rfl, rfl, rfl, rfl, rfl, rfl⟩
  obtain ⟨a1, a2, a3, a4, a5, a6, a7, a8, a9⟩ := e1
  have s1 := h.s1
  refine ⟨by rw [a1]; exact h.m0, by rw [a1]; exact h.m1, by rw [a2]; exact h.s0, by rw [a2]; omega, by rw [a3]; exact h.r0, by rw [a3]; exact h.r1, by rw [a4]; exact h.q, by rw [a4]; exact h.qf, by rw [a4]; exact h.ql, by rw [a5]; exact h.ct, by rw [a5, a1]; exact h.off, fun _ => ?_⟩
  refine ⟨take_own i.own hz, ?_, ?_, h9, by rw [a6]; exact t.1, by rw [a6]; exact t.2, ?_⟩
  · unfold Nd.take
    split
    · exact i.kind
    · rfl
  · unfold Nd.take
    split
    · exact i.nth
    · rfl
  · rw [a7, a8, a9, a4]
    intro ht
    obtain ⟨x1, x2, b, x3⟩ := i.out ht
    refine ⟨x1, x2, ?_⟩
    cases ha : n.added
    · obtain ⟨b', hb⟩ := hx ht ha
      have e : (n.take z).own = n.own ++ [z] := by
        unfold Nd.take
        rw [ha, if_neg (by simp)]; rfl
      exact ⟨b', by rw [e, List.length_append, List.length_singleton]; exact hb⟩
    · have e : (n.take z).own = n.own := by
        unfold Nd.take
        rw [ha, if_pos rfl]; rfl
      exact ⟨b, by rw [e]; exact x3⟩
end
end Go.Proofs.YtenfcbmeokenaaaGreat

/- What a level makes of a node that is sound: in a frame, and all in all. -/
namespace Go.Proofs.YtenfcbmeokenaaaGreat
set_option maxRecDepth 20000
open Go.RowKit
set_option linter.unusedSectionVars false

section
variable {B : Nat} {n : Nd} {z : Int}
theorem take_kept : (n.take z).q = n.q ∧ (n.take z).ct = n.ct ∧ (n.take z).tx = n.tx ∧ (n.take z).outF = n.outF ∧ ∀ m, (n.take z).enter m = n.enter m := by
  unfold Nd.take
  split <;> exact ⟨rfl, rfl, rfl, rfl, fun _ => rfl⟩
/-- It tells no frame that it sent. -/
def Mute (n : Nd) (r : List Ev × Nd) : Prop := r.2.q = n.q ∧ ∀ e ∈ r.1, e.1 ≠ 1
theorem good_goOn (h : Sound B n) (hm : n.mode = 2) (hz : lvl z = true) (hx : n.tx = true → n.added = false → ∃ b, n.own ++ [z] = (raw n.outF ++ ten (slt b)).take (n.own.length + 1)) :
    Good B n (n.goOn z) ∧ (n.tx = false → Mute n (n.goOn z)) ∧ (n.goOn z).1.length ≤ 1 := by
  have i := h.inf hm
  have ho := h.on (by omega)
  obtain ⟨e1, e2, e3, e4, e5⟩ := take_kept (n := n) (z := z)
  have hk : (n.take z).kind = (kd (n.take z).own : Nat) := by
    unfold Nd.take
    split
    · exact i.kind
    · rfl
  unfold Nd.goOn Nd.onto
  by_cases h9 : (n.take z).kind = 9
  · rw [if_pos h9]
    unfold Nd.fin
    rw [e3, e5]
    cases ht : n.tx
    · rw [if_neg (by simp)]
      exact ⟨good_to h (by omega) (by omega) calm_nil (by simp), fun _ => ⟨rfl, fun e he => (by cases he)⟩, by simp⟩
    · rw [if_pos rfl, e4, e2, e1]
      obtain ⟨x1, _⟩ := i.out ht
      obtain ⟨r1, r2, r3⟩ := right_snt h.ct ho
      refine ⟨⟨⟨by show (0 : Int) ≤ 8; omega, by show (8 : Int) ≤ 10; omega, Int.le_refl 0, by show (0 : Int) ≤ (B + 1 : Nat); omega, Int.le_refl 0, by show (0 : Int) ≤ 127; omega, drp_ok h.q, fun g hg => h.qf g ((drp_sub n.outF n.q).subset hg), Nat.le_trans (drp_le n.outF n.q) h.ql, r1, ⟨fun e => absurd (e.symm.trans r2) (by simp), fun e => (by cases e)⟩, fun e => (by cases e)⟩, .inr ⟨n.outF, x1, rfl, rfl⟩, r3, ?_, ?_, by simp⟩, fun e => (by cases e), by simp⟩
      · constructor
        · rintro ⟨e, he, h1⟩
          rw [List.mem_singleton.1 he] at h1; cases h1
        · rintro ⟨_, h1⟩
          exact absurd (h1.symm.trans r2) (by simp)
      · constructor
        · rintro ⟨e, he, h1⟩
          rw [List.mem_singleton.1 he] at h1; cases h1
        · rintro ⟨h1, _⟩
          exact absurd (h1.symm.trans ho) (by simp)
  · rw [if_neg h9]
    have h9' : kd (n.take z).own < 9 := by
      have := kd_le (n.take z).own
      omega
    have hs := sound_take h hm hz hx h9'
    split
    · obtain ⟨r1, r2, r3⟩ := right_rcv hs.ct (by rw [e2]; exact ho)
      refine ⟨good_keep (hs.with_ct _ r1 ⟨fun e => absurd (e.symm.trans r2) (by simp), fun e => ?_⟩) e1 (by rw [ho]; exact r2) (by show (n.take z).ct.rcv.t ≤ n.ct.t + 8; rw [r3, e2]; omega) (calm_one (by omega)) (by simp), fun _ => ⟨e1, fun e he => (by rw [List.mem_singleton.1 he]; exact fun e => by cases e)⟩, by simp⟩
      have := hs.off.2 e
      rw [e2, ho] at this
      cases this
    · exact ⟨good_keep hs e1 (by rw [e2]) (by rw [e2]; omega) calm_nil (by simp), fun _ => ⟨e1, fun e he => (by cases he)⟩, by simp⟩
theorem fail_mute {k : Int} (hk : k ≠ 1) : Mute n (n.fail k) ∧ (n.fail k).1.length ≤ 2 := by
  have e : ∀ m : Nd, (m.casN 1).q = m.q ∧ (∀ e ∈ m.casE 1, e.1 ≠ 1) ∧ (m.casE 1).length ≤ 1 := fun m => by
    unfold Nd.casN Nd.casE
    split
    · exact ⟨rfl, fun e he => (by rw [List.mem_singleton.1 he]; exact fun e => by cases e), by simp⟩
    · exact ⟨rfl, fun e he => (by cases he), by simp⟩
  obtain ⟨a, b, c⟩ := e n.flg
  refine ⟨⟨a, fun x hx => ?_⟩, ?_⟩
  · rcases List.mem_cons.1 hx with h1 | h1
    · rw [h1]; exact hk
    · exact b x h1
  · show (n.flg.casE 1).length + 1 ≤ 2
    omega
theorem wrongK_is (n : Nd) (z : Int) : n.wrongK z = 0 ∨ n.wrongK z = 4 ∨ n.wrongK z = 5 ∨ n.wrongK z = 6 ∨ n.wrongK z = 7 := by
  unfold Nd.wrongK
  repeat (first | split | omega)
theorem good_recv (h : Sound B n) (hm : n.mode = 2) (ht : n.tx = false) (hz : lvl z = true) : Good B n (n.recv z) ∧ Mute n (n.recv z) ∧ (n.recv z).1.length ≤ 2 := by
  unfold Nd.recv
  split
  · exact ⟨good_over h (by omega), ⟨rfl, fun e he => (by rw [List.mem_singleton.1 he]; exact fun e => by cases e)⟩, by show 1 ≤ 2; omega⟩
  · split
    · rename_i hw
      have hk := wrongK_is n z
      exact ⟨good_fail h (by omega) (by omega), (fail_mute (by omega)).1, (fail_mute (by omega)).2⟩
    · obtain ⟨a, b, c⟩ := good_goOn h hm hz (fun e => absurd (e.symm.trans ht) (by simp))
      exact ⟨a, b ht, by omega⟩
theorem good_send (h : Sound B n) (hm : n.mode = 2) (ht : n.tx = true) (hz : lvl z = true) : Good B n (n.send z) := by
  have i := h.inf hm
  obtain ⟨x1, x2, b, x3⟩ := i.out ht
  have hf := (h.qf _ x1).1
  have hl : n.own.length < (raw n.outF).length + 10 := by
    have := tx_short hf x3 i.go
    rw [show alls n.outF = raw n.outF ++ ten (slt false) from rfl, List.length_append, ten_len] at this
    exact this
  unfold Nd.send
  split
  · rename_i h6
    have k6 : kd n.own = 6 := by have := i.kind; omega
    have l6 := six_at hf x3 k6
    split
    · rename_i hz0
      subst hz0
      refine (good_goOn h hm hz fun _ _ => ⟨true, ?_⟩).1
      have e : n.own = (raw n.outF ++ ten (slt true)).take n.own.length := by
        have e2 : n.own = raw n.outF ++ (ten (slt b)).take 1 := by
          rw [x3, l6, List.take_length_add_append]
        rw [l6, List.take_length_add_append, e2]
        cases b <;> rfl
      refine own_more e ?_ hl
      rw [l6, gd_right (by omega), show (raw n.outF).length + 1 - (raw n.outF).length = 1 by omega]
      rfl
    · unfold Nd.unheard
      split
      · have a : Sound (B + 1) n.flg := h.to (by omega) (by split <;> omega)
        refine good_keep ⟨a.m0, a.m1, a.s0, a.s1, a.r0, a.r1, a.q, a.qf, a.ql, a.ct, a.off, fun e => absurd e ?_⟩ rfl rfl (by show n.ct.t ≤ n.ct.t + 8; omega) (calm_one (by omega)) (by simp)
        show (if n.pas then 4 else 3 : Int) ≠ 2
        split <;> omega
      · exact good_fail h (by omega) (by omega)
  · rename_i h6
    split
    · exact good_failU h (by omega) (by omega)
    · split
      · rename_i hd
        refine (good_goOn h hm hz fun _ ha => ⟨b, own_more x3 ?_ hl⟩).1
        have e : n.drvIn = n.outL.getD n.own.length 0 := by
          unfold Nd.drvIn
          rw [ht, ha]
          simp
        rw [hd, e, x2]
        refine (alls_get (fun hk => h6 ?_)).symm
        have h6' : kd n.own = 6 := by
          have e2 : n.own = raw n.outF ++ (ten (slt b)).take 1 := by
            rw [x3, hk, List.take_length_add_append]
          rw [e2, kd_tail hf _ (by rw [List.length_take, ten_len]; omega), List.length_take, ten_len]
          rfl
        rw [i.kind, h6']
        rfl
      · exact good_fail h (by omega) (by omega)
theorem good_inF (h : Sound B n) (hm : n.mode = 2) (hz : lvl z = true) : Good B n (n.inF z) := by
  unfold Nd.inF
  have i := h.inf hm
  split
  · have hl : Sound B n.lost := ⟨h.m0, h.m1, h.s0, h.s1, h.r0, h.r1, h.q, h.qf, h.ql, h.ct, h.off, fun _ => ⟨i.own, i.kind, i.nth, i.go, i.b0, i.b1, fun e => by cases e⟩⟩
    obtain ⟨a, ⟨b, c⟩, d⟩ := good_recv (z := z) hl hm rfl hz
    have tell : ∀ k : Int, k ≠ 3 → ((∃ e ∈ ev 3 :: (n.lost.recv z).1, e.1 = k) ↔ ∃ e ∈ (n.lost.recv z).1, e.1 = k) := fun k hk => by
      constructor
      · rintro ⟨e, he, h1⟩
        rcases List.mem_cons.1 he with h2 | h2
        · rw [h2] at h1
          exact absurd h1.symm hk
        · exact ⟨e, h2, h1⟩
      · rintro ⟨e, he, h1⟩
        exact ⟨e, List.mem_cons_of_mem _ he, h1⟩
    refine ⟨a.s, .inl ⟨b, fun e he => ?_⟩, a.t, (tell 10 (by omega)).trans a.gone, (tell 11 (by omega)).trans a.back, ?_⟩
    · rcases List.mem_cons.1 he with h2 | h2
      · rw [h2]; exact fun e => by cases e
      · exact c e h2
    · show (n.lost.recv z).1.length + 1 ≤ 3
      omega
  · split
    · rename_i ht
      exact good_send h hm ht hz
    · rename_i ht
      exact (good_recv h hm (by simpa using ht) hz).1
theorem good_stp (h : Sound B n) (hz : z = 0 ∨ z = 1) : Good B n (n.stp z) := by
  have m0 := h.m0
  have m1 := h.m1
  unfold Nd.stp
  split
  · exact good_join h (by assumption) z
  split
  · exact good_idle h (by assumption)
  split
  · exact good_inF h (by assumption) (by rcases hz with rfl | rfl <;> rfl)
  split
  · exact good_flag h (.inl (by assumption)) z
  split
  · exact good_pflag h (by assumption) z
  split
  · exact good_flag h (.inr (by assumption)) z
  split
  · exact good_wait h (by assumption) z
  split
  · exact good_close h (by assumption) z
  split
  · exact good_pause h (by assumption)
  split
  · exact good_susp h (by assumption)
  · exact good_off h (by omega) z
end
theorem sound_new : Sound 0 Nd.new := ⟨by decide, by decide, by decide, by decide, by decide, by decide, ok_nil, okfs_nil, by decide, rfl, by decide, fun e => by cases e⟩
/-- A frame is put in. -/
theorem sound_put {B : Nat} {n : Nd} (h : Sound B n) (f : Fr) (hf : f.wf) : Sound B { n with q := pL 16 f n.q } := by
  have hmem : ∀ g, g ∈ n.q → g ∈ pL 16 f n.q := fun g hg => by
    unfold pL
    split
    · exact hg
    · exact ins_mem.2 (.inr hg)
  refine ⟨h.m0, h.m1, h.s0, h.s1, h.r0, h.r1, pL_ok h.q, ?_, ?_, h.ct, h.off, fun h2 => ?_⟩
  · show Okfs (pL 16 f n.q)
    unfold pL
    split
    · exact h.qf
    · rename_i hc
      intro g hg
      rcases ins_mem.1 hg with rfl | h1
      · refine ⟨?_, hf⟩
        cases e : g.may
        · exact absurd (.inl e) hc
        · rfl
      · exact h.qf g h1
  · show (pL 16 f n.q).length ≤ 16
    unfold pL
    split
    · exact h.ql
    · rename_i hc
      rw [ins_len1]
      omega
  · have i := h.inf h2
    exact ⟨i.own, i.kind, i.nth, i.go, i.b0, i.b1, fun ht => by
      obtain ⟨x1, x2, x3⟩ := i.out ht
      exact ⟨hmem _ x1, x2, x3⟩⟩
end Go.Proofs.YtenfcbmeokenaaaGreat

