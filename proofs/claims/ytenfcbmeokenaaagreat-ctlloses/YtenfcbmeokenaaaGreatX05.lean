/- A law's node, and what lies beside it. -/
import Derived.Test.YtenfcbmeokenaaaGreatX04
import Derived.Test.YtenfcbmeokenaaaGreatX00
namespace Go.Proofs.YtenfcbmeokenaaaGreat
set_option maxRecDepth 20000
open Go.RowKit
set_option linter.unusedSimpArgs false

/-- What stays, whatever a node turns of its own blocks. -/
def Kept (P : World → (Nat → Prop) → Prop) : Prop := ∀ w w' F F', Moves F F' w w' → P w F → P w' F'
def NoSide : World → (Nat → Prop) → Prop := fun _ _ => True
theorem kept_no : Kept NoSide := fun _ _ _ _ _ _ => trivial
def Both (P Q : World → (Nat → Prop) → Prop) : World → (Nat → Prop) → Prop := fun w F => P w F ∧ Q w F
theorem kept_both {P Q : World → (Nat → Prop) → Prop} (h : Kept P) (h' : Kept Q) : Kept (Both P Q) := fun w w' F F' hm hp => ⟨h w w' F F' hm hp.1, h' w w' F F' hm hp.2⟩
/-- A row of ints beside it. -/
def RowS (B : Nat) (v : Value) (rs : List Int) : World → (Nat → Prop) → Prop := fun w F => Own w B v rs ∧ ∀ k, v.ownBlock = some k → ¬ F k
theorem kept_row (B : Nat) (v : Value) (rs : List Int) : Kept (RowS B v rs) := fun _ _ _ _ hm hp => hm.owns hp.1 hp.2
/-- A row of frames beside it. -/
def FrsS (B : Nat) (v : Value) (gs : List Fr) : World → (Nat → Prop) → Prop := fun w F => Fown w B v gs ∧ ∀ k, v.ownBlock = some k → ¬ F k
theorem kept_frs (B : Nat) (v : Value) (gs : List Fr) : Kept (FrsS B v gs) := fun _ _ _ _ hm hp => hm.owns hp.1 hp.2
/-- A frame's block beside it. -/
def FbS (g : Nat) (f : Fr) : World → (Nat → Prop) → Prop := fun w F => Fb w g f ∧ ¬ F g
theorem kept_fb (g : Nat) (f : Fr) : Kept (FbS g f) := fun _ _ _ _ hm hp => hm.blk hp.1 hp.2

/-- A law's node, and what lies beside it. -/
def Nst (w0 w : World) (g gq : Nat) (n : Nd) (P : World → (Nat → Prop) → Prop) : Prop :=
  ∃ vo vl vq, Lay w w0.heap.size ⟨g, gq, vo, vl, vq⟩ n ∧ P w (NP.fp ⟨g, gq, vo, vl, vq⟩) ∧ Below w0.heap.size w0 w
section
variable {w0 w w' : World} {g gq : Nat} {n : Nd} {P Q : World → (Nat → Prop) → Prop}
theorem Nst.below (h : Nst w0 w g gq n P) : Below w0.heap.size w0 w := h.choose_spec.choose_spec.choose_spec.2.2
theorem Nst.next (h : Nst w0 w g gq n P) (hP : Kept P) (hb : Below w.heap.size w w') : Nst w0 w' g gq n P := by
  obtain ⟨vo, vl, vq, h1, h2, h3⟩ := h
  exact ⟨vo, vl, vq, h1.next hb, hP _ _ _ _ (.of_below hb _) h2, nxt h3 hb⟩
theorem Nst.drew (h : Nst w0 w g gq n P) (hP : Kept P) : Nst w0 w.drew g gq n P := h.next hP (below_drew (Below.refl _ _))
theorem Nst.add (h : Nst w0 w g gq n P) (hP : Kept P) (hb : Below w.heap.size w w') (hq : ∀ F : Nat → Prop, (∀ k, F k → k < w.heap.size) → Q w' F) : Nst w0 w' g gq n (Both P Q) := by
  obtain ⟨vo, vl, vq, h1, h2, h3⟩ := h
  exact ⟨vo, vl, vq, h1.next hb, ⟨hP _ _ _ _ (.of_below hb _) h2, hq _ h1.fp_lt⟩, nxt h3 hb⟩
theorem Nst.side (h : Nst w0 w g gq n P) : ∃ F : Nat → Prop, P w F := by
  obtain ⟨vo, vl, vq, h1, h2, h3⟩ := h
  exact ⟨_, h2⟩
theorem Nst.less (h : Nst w0 w g gq n P) (hq : ∀ F : Nat → Prop, P w F → Q w F) : Nst w0 w g gq n Q := by
  obtain ⟨vo, vl, vq, h1, h2, h3⟩ := h
  exact ⟨vo, vl, vq, h1, hq _ h2, h3⟩
theorem Nst.to (h : Nst w0 w g gq n P) {n' : Nd} (e : n = n') : Nst w0 w g gq n' P := e ▸ h

theorem nst_drive (h : Nst w0 w g gq n P) (hf : n.mode = 2 → Okf n) : Calls Tryz.prog 16 #[.pointer (some ⟨g, 0, none⟩)] w fun e w' => e = .returned (.int .i64 n.drv) ∧ Below w.heap.size w w' := by
  obtain ⟨vo, vl, vq, h1, h2, h3⟩ := h
  exact drv_any (p := ⟨g, gq, vo, vl, vq⟩) h1 hf
theorem nst_look (h : Nst w0 w g gq n P) : Calls Tryz.prog 18 #[.pointer (some ⟨g, 0, none⟩)] w fun e w' => e = .returned n.lookV ∧ Below w.heap.size w w' := by
  obtain ⟨vo, vl, vq, h1, h2, h3⟩ := h
  exact look_any (p := ⟨g, gq, vo, vl, vq⟩) h1
theorem nst_step (h : Nst w0 w g gq n P) (hP : Kept P) (hn : Fit n) (z : Int) (hz : z = 0 ∨ z = 1) : Calls Tryz.prog 17 #[.pointer (some ⟨g, 0, none⟩), .int .i64 z] w fun e w' =>
    ∃ u, e = .returned (.tuple #[u, .int .i64 0]) ∧ Eown w' w.heap.size u (n.stp z).1 ∧ Nst w0 w' g gq (n.stp z).2 P ∧ Below w0.heap.size w w' := by
  obtain ⟨vo, vl, vq, h1, h2, h3⟩ := h
  refine (step_any10 (p := ⟨g, gq, vo, vl, vq⟩) h1 hn z hz).mono ?_
  rintro e w' ⟨u, vo', vl', vq', rfl, g1, g2, g3⟩
  have hb := h1.below g3
  exact ⟨u, rfl, g1, ⟨vo', vl', vq', g2, hP _ _ _ _ g3 h2, h3.trans hb⟩, hb⟩
theorem nst_put (h : Nst w0 w g gq n P) (hP : Kept P) (f : Fr) (hok : Okq n.q) (hn : n.q.length ≤ 1000) : Calls Tryz.prog 23 #[.pointer (some ⟨g, 0, none⟩), f.val] w fun e w' =>
    e = .returned (.int .i64 (pE 16 f n.q)) ∧ Nst w0 w' g gq { n with q := pL 16 f n.q } P := by
  obtain ⟨vo, vl, vq, h1, h2, h3⟩ := h
  refine (nput_any (p := ⟨g, gq, vo, vl, vq⟩) h1 f hok hn).mono ?_
  rintro e w' ⟨vq', rfl, g1, g2⟩
  have hb := h1.below g2
  exact ⟨rfl, vo, vl, vq', g1, hP _ _ _ _ g2 h2, h3.trans hb⟩
theorem nst_queue (h : Nst w0 w g gq n P) (hn : n.q.length ≤ 1000000) : Calls Tryz.prog 19 #[.pointer (some ⟨g, 0, none⟩)] w fun e w' => ∃ u, e = .returned u ∧ Fown w' w.heap.size u n.q ∧ Below w.heap.size w w' := by
  obtain ⟨vo, vl, vq, h1, h2, h3⟩ := h
  exact queue_any (p := ⟨g, gq, vo, vl, vq⟩) h1 hn
theorem nst_new (w0 w : World) (hb : Below w0.heap.size w0 w) : Calls Tryz.prog 21 #[] w fun e w' => ∃ g gq, e = .returned (.pointer (some ⟨g, 0, none⟩)) ∧ Nst w0 w' g gq Nd.new NoSide ∧ Below w.heap.size w w' := by
  refine (new_any w).mono ?_
  rintro e w' ⟨⟨g, gq, vo, vl, vq⟩, rfl, h1, h2⟩
  exact ⟨g, gq, rfl, ⟨vo, vl, vq, h1.base hb.size, trivial, nxt hb h2⟩, h2⟩
end
theorem rowS_new {w : World} {B B' : Nat} {v : Value} {rs : List Int} (h : Own w B v rs) (hB : B' ≤ B) : ∀ F : Nat → Prop, (∀ k, F k → k < B) → RowS B' v rs w F :=
  fun F hF => ⟨h.mono hB, fun k hk hf => by have := (World.ownsRow.lt h k hk).1; have := hF k hf; omega⟩
end Go.Proofs.YtenfcbmeokenaaaGreat

/- A node that joins, sends and receives whole frames, and its pauses. -/
namespace Go.Proofs.YtenfcbmeokenaaaGreat
set_option maxRecDepth 20000

/-- A node that joins, behind i levels 1. -/
def jn (q : List Fr) (i : Nat) : Nd := if i = 0 then { Nd.new with q := q } else if i < 11 then { Nd.new with sl := 1, sn := (i : Nat), q := q } else { Nd.new with mode := 1, q := q }
def idl (q : List Fr) : Nd := { Nd.new with mode := 1, q := q }
theorem jn_end (q : List Fr) : jn q 11 = idl q := rfl
theorem jn_zero (q : List Fr) : jn q 0 = { Nd.new with q := q } := rfl
theorem jn_mid {q : List Fr} {i : Nat} (h0 : i ≠ 0) (h : i < 11) : jn q i = { Nd.new with sl := 1, sn := (i : Nat), q := q } := by unfold jn; rw [if_neg h0, if_pos h]
theorem jn_mode {q : List Fr} {i : Nat} (h : i < 11) : (jn q i).mode = 0 := by
  by_cases h0 : i = 0
  · subst h0; rfl
  · rw [jn_mid h0 h]; rfl
theorem stp_zero {n : Nd} {z : Int} (h : n.mode = 0) : n.stp z = n.join z := by unfold Nd.stp; simp [h]
theorem stp_one {n : Nd} {z : Int} (h : n.mode = 1) : n.stp z = n.idle z := by unfold Nd.stp; simp [h]
theorem stp_eight {n : Nd} {z : Int} (h : n.mode = 8) : n.stp z = n.pause z := by unfold Nd.stp; simp [h]
theorem jn_step (q : List Fr) {i : Nat} (h : i < 11) : (jn q i).stp 1 = ([], jn q (i + 1)) := by
  rw [stp_zero (jn_mode h)]
  by_cases h0 : i = 0
  · subst h0; rfl
  · rw [jn_mid h0 h]
    unfold Nd.join Nd.quiet
    have ht : tlN (1 : Int) (i : Nat) 1 = (i : Int) + 1 := by unfold tlN; rw [if_pos rfl]
    rw [show ({ Nd.new with sl := 1, sn := (i : Nat), q := q } : Nd).sl = 1 from rfl, show ({ Nd.new with sl := 1, sn := (i : Nat), q := q } : Nd).sn = (i : Nat) from rfl, ht]
    by_cases h1 : i = 10
    · subst h1; rfl
    · rw [if_neg (by simp; omega), jn_mid (by omega) (by omega)]
      unfold Nd.see
      rw [show ({ Nd.new with sl := 1, sn := (i : Nat), q := q } : Nd).sl = 1 from rfl, show ({ Nd.new with sl := 1, sn := (i : Nat), q := q } : Nd).sn = (i : Nat) from rfl, ht]
      rfl
theorem jn_drv (q : List Fr) {i : Nat} (h : i < 11) : (jn q i).drv = 1 := by
  unfold Nd.drv
  rw [jn_mode h]; rfl
theorem jn_q (q : List Fr) (i : Nat) : (jn q i).q = q := by unfold jn; split; rfl; split <;> rfl

/-- A node in no frame, that is fit. -/
theorem fit_of {n : Nd} (hm : 0 ≤ n.mode ∧ n.mode ≤ 10 ∧ n.mode ≠ 2) (hs : 0 ≤ n.sn ∧ n.sn ≤ 4000000) (hr : 0 ≤ n.rows ∧ n.rows ≤ 4000000) (hq : Okfs n.q) (hl : n.q.length ≤ 16) : Fit n :=
  ⟨hm.1, hm.2.1, hs.1, hs.2, hr.1, hr.2, hq, hl, fun h => absurd h hm.2.2⟩
theorem fit_of2 {n : Nd} (m s r : Int) (em : n.mode = m) (es : n.sn = s) (er : n.rows = r) (h : 0 ≤ m ∧ m ≤ 10 ∧ m ≠ 2 ∧ 0 ≤ s ∧ s ≤ 4000000 ∧ 0 ≤ r ∧ r ≤ 4000000) (hq : Okfs n.q) (hl : n.q.length ≤ 16) : Fit n := by
  subst em; subst es; subst er
  exact fit_of ⟨h.1, h.2.1, h.2.2.1⟩ ⟨h.2.2.2.1, h.2.2.2.2.1⟩ ⟨h.2.2.2.2.2.1, h.2.2.2.2.2.2⟩ hq hl
theorem jn_fit {q : List Fr} {i : Nat} (h : i ≤ 11) (hq : Okfs q) (hl : q.length ≤ 16) : Fit (jn q i) := by
  by_cases h0 : i = 0
  · subst h0; exact fit_of2 0 0 0 rfl rfl rfl (by omega) hq hl
  · by_cases h1 : i < 11
    · rw [jn_mid h0 h1]
      exact fit_of2 0 (i : Nat) 0 rfl rfl rfl (by omega) hq hl
    · have : i = 11 := by omega
      subst this
      exact fit_of2 1 0 0 rfl rfl rfl (by omega) hq hl
theorem idl_fit {q : List Fr} (hq : Okfs q) (hl : q.length ≤ 16) : Fit (idl q) := fit_of2 1 0 0 rfl rfl rfl (by omega) hq hl
theorem okfs_nil : Okfs [] := fun g hg => by cases hg

section
variable {f : Fr} (hm : f.may = true)
include hm
theorem way_fit {c : Nd} {o L : List Int} {F : Fr} {k : Nat} {b tx : Bool} (hw : Way f b k o) (hk : k < sl_ f + 10) (hq : Okfs c.q) (hl : c.q.length ≤ 16) (hL : tx = true → L = alls f) : Fit (c.at_ o ((enc f b).take k) tx F L) := by
  have ho : ∀ z ∈ o, lvl z = true := by
    obtain ⟨_, h⟩ := hw
    rcases h with ⟨_, j, _, _, rfl, _⟩ | ⟨_, _, rfl⟩
    · exact all_take (raw_all f) j
    · exact all_append (raw_all f) (all_take (by cases b <;> decide) _)
  have hrl : (raw f).length ≤ 200 := by rw [raw_len]; have := bts_le hm; omega
  have hol : o.length < (raw f).length + 11 := by
    obtain ⟨_, h⟩ := hw
    rcases h with ⟨_, j, _, _, rfl, _⟩ | ⟨_, _, rfl⟩
    · rw [List.length_take]; omega
    · rw [List.length_append, List.length_take, ten_len]; omega
  have hsl : sl_ f ≤ 300 := stf_raw_le hm
  have hal : alk ((enc f b).take k) ≤ 400 := by
    have := (alk_spec ((enc f b).take k)).1
    rw [List.length_take, enc_ln] at this; omega
  have hgo : (c.at_ o ((enc f b).take k) tx F L).added = true ∨ kd o < 9 := by
    rw [at_added]
    obtain ⟨_, h⟩ := way_step hm hw hk
    rcases h with ⟨h1, h2, _⟩ | ⟨h1, h2, h3, h4, h5⟩
    · exact .inl (decide_eq_true ⟨h1, h2⟩)
    · rcases h5 with ⟨_, h7, _⟩ | ⟨h6, h7⟩
      · exact .inr (by omega)
      · obtain ⟨t1, _⟩ := way_tail hm h6 h7 hk
        rcases tl_cases (i := k - sl_ f) (by omega) with ⟨a, e⟩ | ⟨a, e⟩ | ⟨a, e⟩ | ⟨a, e⟩ <;> exact .inr (by omega)
  have hout : tx = true → o.length < L.length := fun h => by
    rw [hL h]
    have ha : (alls f).length = (raw f).length + 10 := by rw [alls_raw, List.length_append, ten_len]
    obtain ⟨_, hs⟩ := way_step hm hw hk
    rcases hs with ⟨h1, h2, h3, h4, h5⟩ | ⟨h1, h2, h3, h4, h5⟩
    · obtain ⟨_, h6⟩ := hw
      rcases h6 with ⟨_, j, _, _, rfl, _⟩ | ⟨h7, _, _⟩
      · rw [List.length_take, ha]; omega
      · omega
    · omega
  refine ⟨by show (0 : Int) ≤ 2; omega, by show (2 : Int) ≤ 10; omega, Int.le_refl 0, by show (0 : Int) ≤ 4000000; omega, Int.le_refl 0, by show (0 : Int) ≤ 4000000; omega, hq, hl, fun _ => ⟨⟨ho, by show o.length ≤ 10000; omega, hout⟩, ⟨ho, by show o.length ≤ 9000; omega, hgo, Int.natCast_nonneg _, by show ((alk ((enc f b).take k) : Nat) : Int) ≤ 4000000; omega, hl⟩, rfl⟩⟩

/-- A node that sends a frame, behind k levels of it. -/
def TxAt (c : Nd) (f : Fr) (b : Bool) (k : Nat) (n : Nd) : Prop := (k = 0 ∧ n = c) ∨ (1 ≤ k ∧ ∃ o, Way f b k o ∧ n = c.at_ o ((enc f b).take k) true f (alls f))
theorem enc_zero0 (b : Bool) : (enc f b).getD 0 0 = 0 := by
  have h := way_enc0 hm b
  have h1 : (enc f b).take 1 = [] ++ [(0 : Int)] := h
  exact get_of h1 rfl (by rw [enc_ln]; omega)
omit hm in
theorem sl_pos : 1 ≤ sl_ f := by
  have := (stf_len (raw f)).1
  have := raw_pos (f := f)
  unfold sl_; omega
section
variable {c n : Nd} {gs : List Fr} {k : Nat} {b : Bool}
theorem tx_drive (hc : c.mode = 1) (hq : c.q = f :: gs) (h : TxAt c f b k n) (hk : k < sl_ f + 10) : n.drv = (enc f false).getD k 0 := by
  rcases h with ⟨rfl, rfl⟩ | ⟨h1, o, hw, rfl⟩
  · rw [enc_zero0 hm, drv_one hc, hq, if_pos (by simp)]
  · rw [drv_two rfl, way_tx_drv hm hw hk]
theorem tx_begin (hc : c.mode = 1) (hq : c.q = f :: gs) (b : Bool) : c.stp 0 = ([], c.at_ [0] ((enc f b).take 1) true f (alls f)) := by
  rw [stp_one hc]
  unfold Nd.idle
  rw [if_pos rfl, begin_at, hq, way_enc0 hm]
  simp
theorem tx_step (hc : c.mode = 1) (hq : c.q = f :: gs) (h : TxAt c f b k n) (hk : k < sl_ f + 9) (hs : k = sl_ f + 1 → b = true) : ∃ n', n.stp ((enc f b).getD k 0) = ([], n') ∧ TxAt c f b (k + 1) n' := by
  rcases h with ⟨rfl, rfl⟩ | ⟨h1, o, hw, rfl⟩
  · rw [enc_zero0 hm, tx_begin hm hc hq b]
    exact ⟨_, rfl, .inr ⟨Nat.le_refl _, [0], way_one hm b, rfl⟩⟩
  · obtain ⟨o', w1, w2⟩ := way_tx (c := c) (F := f) hm hw hk hs
    exact ⟨_, w2, .inr ⟨by omega, o', w1, rfl⟩⟩
theorem tx_sent (h : TxAt c f b k n) (hk : k = sl_ f + 9) : n.stp ((enc f b).getD k 0) = ([(1, f)], { c.enter 8 with tx := true, ct := c.ct.snt, q := drp f c.q }) := by
  rcases h with ⟨h0, _⟩ | ⟨h1, o, hw, rfl⟩
  · omega
  · exact way_sent hm hw hk
theorem tx_fit (h : TxAt c f b k n) (hk : k < sl_ f + 10) (hc : Fit c) : Fit n := by
  rcases h with ⟨rfl, rfl⟩ | ⟨h1, o, hw, rfl⟩
  · exact hc
  · exact way_fit hm hw hk hc.q hc.ql fun _ => rfl
end
/-- A node that receives a frame, behind k levels of it. -/
def RxAt (c : Nd) (f : Fr) (k : Nat) (n : Nd) : Prop := (k = 0 ∧ n = c) ∨ (1 ≤ k ∧ ∃ o, Way f true k o ∧ n = c.at_ o ((enc f true).take k) false Fr.zero [])
section
variable {c n : Nd} {k : Nat}
theorem rx_drive (hc : c.mode = 1) (hq : c.q = []) (h : RxAt c f k n) (hk : k < sl_ f + 10) : n.drv = if k = sl_ f + 1 then 0 else 1 := by
  rcases h with ⟨rfl, rfl⟩ | ⟨h1, o, hw, rfl⟩
  · rw [drv_one hc, hq, if_neg (by simp), if_neg (by omega)]
  · rw [drv_two rfl, way_rx_drv hm hw hk]
theorem rx_begin (hc : c.mode = 1) (hq : c.q = []) : c.stp 0 = ([], c.at_ [0] ((enc f true).take 1) false Fr.zero []) := by
  rw [stp_one hc]
  unfold Nd.idle
  rw [if_pos rfl, begin_at, hq, way_enc0 hm]
  rfl
theorem rx_step (hc : c.mode = 1) (hq : c.q = []) (h : RxAt c f k n) (hk : k < sl_ f + 8) : ∃ n', n.stp ((enc f true).getD k 0) = ([], n') ∧ RxAt c f (k + 1) n' := by
  rcases h with ⟨rfl, rfl⟩ | ⟨h1, o, hw, rfl⟩
  · rw [enc_zero0 hm, rx_begin hm hc hq]
    exact ⟨_, rfl, .inr ⟨Nat.le_refl _, [0], way_one hm true, rfl⟩⟩
  · obtain ⟨o', w1, w2⟩ := way_rx (c := c) (F := Fr.zero) (L := []) hm hw hk
    exact ⟨_, w2, .inr ⟨by omega, o', w1, rfl⟩⟩
theorem rx_got (hwf : f.wf) (h : RxAt c f k n) (hk : k = sl_ f + 8) : ∃ n' g, n.stp ((enc f true).getD k 0) = ([(2, g)], n') ∧ RxAt { c with ct := c.ct.rcv } f (k + 1) n' ∧ g.val = f.val := by
  rcases h with ⟨h0, _⟩ | ⟨h1, o, hw, rfl⟩
  · omega
  · obtain ⟨o', g, w1, w2, w3⟩ := way_got (c := c) (F := Fr.zero) (L := []) hm hwf hw hk
    exact ⟨_, g, w2, .inr ⟨by omega, o', w1, rfl⟩, w3⟩
theorem rx_done (h : RxAt c f k n) (hk : k = sl_ f + 9) : n.stp ((enc f true).getD k 0) = ([], { c.enter 8 with tx := false }) := by
  rcases h with ⟨h0, _⟩ | ⟨h1, o, hw, rfl⟩
  · omega
  · exact way_done hm hw hk
theorem rx_fit (h : RxAt c f k n) (hk : k < sl_ f + 10) (hc : Fit c) : Fit n := by
  rcases h with ⟨rfl, rfl⟩ | ⟨h1, o, hw, rfl⟩
  · exact hc
  · exact way_fit hm hw hk hc.q hc.ql fun h => by cases h
end
end

/-- A pause, behind i levels 1. -/
def pz (c : Nd) (i : Nat) : Nd := { c.enter 8 with sl := if i = 0 then 0 else 1, sn := (i : Nat) }
theorem pz_zero (c : Nd) : pz c 0 = c.enter 8 := rfl
theorem pz_step (c : Nd) {i : Nat} (h : i < 2) : (pz c i).stp 1 = ([], pz c (i + 1)) := by
  rw [stp_eight rfl]
  have : i = 0 ∨ i = 1 := by omega
  rcases this with rfl | rfl <;> rfl
theorem pz_end (c : Nd) : (pz c 2).stp 1 = ([], if c.back then c.enter 9 else c.enter 1) := by
  rw [stp_eight rfl]
  unfold Nd.pause
  rw [if_neg (by omega), if_neg (show ¬ (pz c 2).sn ≠ 2 from fun h => h rfl)]
  show (if (pz c 2).back then _ else _) = _
  have e : (pz c 2).back = c.back := rfl
  rw [e]
  cases c.back <;> rfl
theorem pz_drv (c : Nd) (i : Nat) : (pz c i).drv = 1 := rfl
theorem pz_fit {c : Nd} {i : Nat} (h : i ≤ 3) (hc : Okfs c.q) (hl : c.q.length ≤ 16) : Fit (pz c i) := fit_of2 8 (i : Nat) 0 rfl rfl rfl (by omega) hc hl
end Go.Proofs.YtenfcbmeokenaaaGreat

/- The chapter's example: magnetolaw10.awake. -/
namespace Go.Proofs.YtenfcbmeokenaaaGreat
set_option maxRecDepth 20000
open Go.RowKit
set_option linter.unusedSimpArgs false

theorem Eown.shape {w : World} {B : Nat} {v : Value} {es : List Ev} (h : Eown w B v es) (h0 : 0 < es.length) : ∃ ge cap, v = .slice (some ⟨ge, 0, none⟩) es.length cap ∧ ∀ j u, (ecs es)[j]? = some u → w.cell? ⟨ge, j, none⟩ = some u := by
  rcases h.2 with ⟨_, h1⟩ | ⟨g, cap, cur, rfl, _⟩
  · omega
  · refine ⟨g, cap, rfl, fun j u hu => ?_⟩
    have := World.ownsRow.cells h (g := g) rfl j u hu
    rwa [add_zero_off] at this
theorem RowS.cell {w : World} {B n cap j : Nat} {ad : Addr} {rs : List Int} {F : Nat → Prop} (h : RowS B (.slice (some ad) n cap) rs w F) (hj : j < rs.length) : w.cell? (ad.add j) = some (.int .i64 (rs.getD j 0)) := by
  obtain ⟨A, c, e, hi⟩ := h.1.il
  injection e with e1 _ _
  obtain ⟨ad', e2, _, hc⟩ := hi.2 (by omega)
  rw [e2] at e1
  injection e1 with e1
  subst e1
  exact hc j hj
theorem zero_may10 : Fr.zero.may = true := by decide
theorem zero_wf10 : Fr.zero.wf := fun k _ => ⟨by show (0 : Int) ≤ 0; omega, by show (0 : Int) ≤ 255; omega⟩
theorem zero_len (b : Bool) : (enc Fr.zero b).length = 50 := by cases b <;> decide
theorem zero_sl : sl_ Fr.zero = 40 := by decide
theorem okfs_zero : Okfs [Fr.zero] := fun g hg => by rw [List.mem_singleton.1 hg]; exact ⟨zero_may10, zero_wf10⟩
def zdone : Nd := { (idl [Fr.zero]).enter 8 with tx := true, ct := (idl [Fr.zero]).ct.snt, q := drp Fr.zero (idl [Fr.zero]).q }
/-- Behind k levels of the example's frame. -/
def Zat (k : Nat) (n : Nd) : Prop := (k < 50 ∧ TxAt (idl [Fr.zero]) Fr.zero true k n) ∨ (k = 50 ∧ n = zdone)
theorem zdone_fit : Fit zdone := fit_of2 8 0 0 rfl rfl rfl (by omega) okfs_nil (by show (drp Fr.zero [Fr.zero]).length ≤ 16; decide)

set_option maxHeartbeats 4000000 in
set_option maxRecDepth 100000 in
theorem awake10 (w : World) : Calls Tryz.prog 12 #[] w fun e w' => e = .returned (.bool true) ∧ Below w.heap.size w w' := by
  go_enter Tryz.func12, Tryz.ntmps12
  go_wp2_with fail
  refine (nst_new w _ (Below.refl _ _)).mono ?_
  rintro e w1 ⟨g, gq, rfl, h1, -⟩
  have H1 := Lib.hid h1
  clear h1
  go_wp2_with fail
  refine (nst_put H1.out kept_no Fr.zero ok_nil (by decide)).mono ?_
  rintro e w2 ⟨rfl, h2⟩
  rw [show pE 16 Fr.zero Nd.new.q = 0 by decide]
  have H2 := Lib.hid (h2.to (show ({ Nd.new with q := pL 16 Fr.zero Nd.new.q } : Nd) = jn [Fr.zero] 0 from rfl))
  clear h2 H1
  go_wp2_with fail
  refine (encode_ok Fr.zero true _ zero_may10 zero_wf10).mono ?_
  rintro e w3 ⟨v, rfl, ho, hb3⟩
  have h3 := H2.out.add kept_no hb3 (rowS_new ho H2.out.below.size)
  obtain ⟨A, cap, hv, hi, hc⟩ := ho.il2
  rw [zero_len] at hv hi hc
  obtain ⟨ad, rfl, -, -⟩ := hi.2 (by omega)
  subst hv
  have H3 := Lib.hid h3
  have HK := Lib.hid (kept_both kept_no (kept_row w.heap.size (.slice (some ad) 50 cap) (enc Fr.zero true)))
  clear h3 ho hb3 H2 hi hc
  generalize hP : Both NoSide (RowS w.heap.size (.slice (some ad) 50 cap) (enc Fr.zero true)) = P at *
  have HP := Lib.hid hP
  clear hP
  go_wp2
  go_loopw [4] (fun i wr => ∃ k : Nat, k ≤ 11 ∧ i = .int .i64 k ∧ Nst w wr g gq (jn [Fr.zero] k) P) (fun i _ => 11 - (intOf i).toNat)
  case atStart => exact ⟨0, by omega, rfl, H3.out⟩
  case round =>
    obtain ⟨k, hk, rfl, hn⟩ := hrel
    have HN := Lib.hid hn
    clear hn
    by_cases hlt : k < 11
    · have hlt' : (k : Int) < 11 := by omega
      have HD := Lib.hid (nst_drive HN.out fun h => by rw [jn_mode hlt] at h; cases h)
      rw [jn_drv _ hlt] at HD
      go_wp2_with fail
      refine HD.out.mono ?_
      rintro e w4 ⟨rfl, hb4⟩
      have HS := Lib.hid (nst_step (HN.out.next HK.out hb4) HK.out (jn_fit hk okfs_zero (by decide)) 1 (.inr rfl))
      rw [jn_step _ hlt] at HS
      clear hb4 HD
      go_wp2_with fail
      refine HS.out.mono ?_
      rintro e w5 ⟨u, rfl, h5, h6, h7⟩
      have HN5 := Lib.hid h6
      clear h5 h6 h7 HS HN
      go_wp2
      go_roundw
      case rel => exact ⟨k + 1, by omega, by go_num, HN5.out⟩
      case measure => simp [intOf]; omega
    · have hk11 : k = 11 := by omega
      have hltI : ¬ (k : Int) < 11 := by omega
      have H4 := Lib.hid (HN.out.to (by rw [hk11, jn_end]))
      clear HN H3 hlt hk hk11
      rename World => wa
      go_wp2
      go_loopw [5] (fun i wr => ∃ k : Nat, k ≤ 50 ∧ i = .int .i64 k ∧ ∃ n, Zat k n ∧ Nst w wr g gq n P) (fun i _ => 50 - (intOf i).toNat)
      case atStart => exact ⟨0, by omega, rfl, _, .inl ⟨by omega, .inl ⟨rfl, rfl⟩⟩, H4.out⟩
      case round =>
        obtain ⟨k, hk, rfl, n, hz, hn⟩ := hrel
        have HN := Lib.hid hn
        clear hn
        by_cases hlt : k < 50
        · have hlt' : (k : Int) < 50 := by omega
          have hta : TxAt (idl [Fr.zero]) Fr.zero true k n := by
            rcases hz with h | h
            · exact h.2
            · omega
          have HTA := Lib.hid hta
          have HFIT := Lib.hid (tx_fit zero_may10 hta (by rw [zero_sl]; omega) (idl_fit okfs_zero (by decide)))
          have hdr := fun (W : World) (h : Nst w W g gq n P) => nst_drive h fun h => (HFIT.out.inf h).f
          rw [tx_drive zero_may10 rfl rfl hta (by rw [zero_sl]; omega)] at hdr
          have HD := Lib.hid hdr
          have HE := Lib.hid (enc_two (f := Fr.zero) (k := k) (by rw [zero_sl]; omega) true)
          rw [zero_sl] at HE
          have hrow : ∀ W, Nst w W g gq n P → W.cell? (ad.add k) = some (.int .i64 ((enc Fr.zero true).getD k 0)) := fun W h => by
            obtain ⟨F, hF⟩ := h.side
            rw [← HP.out] at hF
            exact hF.2.cell (j := k) (by rw [zero_len]; omega)
          have hzl := way_lvl (f := Fr.zero) (b := true) (k := k) (by rw [zero_sl]; omega)
          have HZL := Lib.hid (lvl_01 hzl)
          have HD1 := Lib.hid (show k = 41 → (enc Fr.zero false).getD k 0 = 1 from fun h => by subst h; decide)
          clear hta hz hdr hzl
          have hstep : ∃ es n', n.stp ((enc Fr.zero true).getD k 0) = (es, n') ∧ Zat (k + 1) n' ∧ (k < 49 → es = []) ∧ (k = 49 → es = [(1, Fr.zero)]) := by
            by_cases h49 : k = 49
            · refine ⟨_, _, tx_sent zero_may10 HTA.out (by rw [zero_sl]; exact h49), .inr ⟨by omega, rfl⟩, fun h => by omega, fun _ => rfl⟩
            · obtain ⟨n', h1, h2⟩ := tx_step zero_may10 rfl rfl HTA.out (by rw [zero_sl]; omega) (fun _ => rfl)
              exact ⟨[], n', h1, .inl ⟨by omega, h2⟩, fun _ => rfl, fun h => absurd h h49⟩
          obtain ⟨es, n', hst, hza, hes, hes9⟩ := hstep
          have HSTP := Lib.hid hst
          have HZA := Lib.hid hza
          have HES := Lib.hid (And.intro hes hes9)
          clear hst hza hes hes9
          generalize (enc Fr.zero true).getD k 0 = z at *
          generalize (enc Fr.zero false).getD k 0 = d at *
          have HROW := Lib.hid hrow
          have r0 := hrow _ HN.out
          clear hrow
          by_cases h41 : k = 41
          · rw [if_pos h41] at HE
            obtain rfl : z = 0 := HE.out
            obtain rfl : d = 1 := HD1.out h41
            have hk41 : ((k : Int) != 41) = false := by simp; omega
            have hk49 : (k : Int) < 49 := by omega
            have hkb : ((k : Int) == 49) = false := by simp; omega
            obtain rfl := HES.out.1 (by omega)
            clear h41
            go_wp2_with fail
            refine wp_region_held_drew (S := fun w' => w'.cell? (ad.add k) = some (.int .i64 0)) (by kernel_rfl) (r0) (fun hHeld => ?_)
            refine takeH (i := 0) (v := .pointer (some ⟨g, 0, none⟩)) rfl (by kernel_rfl) (by kernel_rfl) (by kernel_rfl) (fun _ _ _ h => h) (Or.inl ⟨by rfl, fun w hSw => ?_⟩) hHeld ?_
            · (clear hSw; go_simp)
            simp only [Act.put, List.setIfInBounds_toArray, List.set_cons_zero, List.set_cons_succ]
            refine takeH (i := 2) (v := .slice (some ad) 50 cap) rfl (by kernel_rfl) (by kernel_rfl) (by kernel_rfl) (fun _ _ _ h => h) (Or.inl ⟨by rfl, fun w hSw => ?_⟩) hHeld ?_
            · (clear hSw; go_simp)
            simp only [Act.put, List.setIfInBounds_toArray, List.set_cons_zero, List.set_cons_succ]
            refine takeH (i := 3) (v := .int .i64 k) rfl (by kernel_rfl) (by kernel_rfl) (by kernel_rfl) (fun _ _ _ h => h) (Or.inl ⟨by rfl, fun w hSw => ?_⟩) hHeld ?_
            · (clear hSw; go_simp)
            simp only [Act.put, List.setIfInBounds_toArray, List.set_cons_zero, List.set_cons_succ]
            refine takeH (i := 4) (v := .pointer (some (ad.add k))) rfl (by kernel_rfl) (by kernel_rfl) (by kernel_rfl) (fun _ _ _ h => h) (Or.inl ⟨by rfl, fun w hSw => ?_⟩) hHeld ?_
            · (clear hSw; go_simp)
            simp only [Act.put, List.setIfInBounds_toArray, List.set_cons_zero, List.set_cons_succ]
            refine takeH (i := 5) (v := .int .i64 0) rfl (by kernel_rfl) (by kernel_rfl) (by kernel_rfl) (fun _ _ _ h => h) (Or.inl ⟨by rfl, fun w hSw => ?_⟩) hHeld ?_
            · (have q1 := hSw; clear hSw; go_simp)
            simp only [Act.put, List.setIfInBounds_toArray, List.set_cons_zero, List.set_cons_succ]
            refine wpAnyH_ready (rs := [1]) (by kernel_rfl) (by simp) ?_
            refine AllReadyH.cons rfl (fun K hK => ?_) AllReadyH.nil
            go_simp
            refine (HD.out _ (HN.out.drew HK.out)).mono ?_
            rintro e w4 ⟨rfl, hb4⟩
            have HN4 := Lib.hid (HN.out.next HK.out (undrew hb4))
            clear hb4
            clear hHeld
            dsimp only
            refine hK.out _ _ (HROW.out _ HN4.out) (fun hHeld => ?_)
            clear hK K
            try simp only [Act.put, List.setIfInBounds_toArray, List.set_cons_zero, List.set_cons_succ]
            refine takeH (i := 6) (v := .bool true) rfl (by kernel_rfl) (by kernel_rfl) (by kernel_rfl) (fun _ _ _ h => h) (Or.inl ⟨by rfl, fun w hSw => ?_⟩) hHeld ?_
            · (clear hSw; go_simp)
            simp only [Act.put, List.setIfInBounds_toArray, List.set_cons_zero, List.set_cons_succ]
            refine takeH (i := 7) (v := .bool true) rfl (by kernel_rfl) (by kernel_rfl) (by kernel_rfl) (fun _ _ _ h => h) (Or.inl ⟨by rfl, fun w hSw => ?_⟩) hHeld ?_
            · (clear hSw; go_simp)
            simp only [Act.put, List.setIfInBounds_toArray, List.set_cons_zero, List.set_cons_succ]
            refine takeH (i := 8) (v := .int .i64 k) rfl (by kernel_rfl) (by kernel_rfl) (by kernel_rfl) (fun _ _ _ h => h) (Or.inl ⟨by rfl, fun w hSw => ?_⟩) hHeld ?_
            · (clear hSw; go_simp)
            simp only [Act.put, List.setIfInBounds_toArray, List.set_cons_zero, List.set_cons_succ]
            refine takeH (i := 9) (v := .bool false) rfl (by kernel_rfl) (by kernel_rfl) (by kernel_rfl) (fun _ _ _ h => h) (Or.inl ⟨by rfl, fun w hSw => ?_⟩) hHeld ?_
            · (clear hSw; go_simp)
            simp only [Act.put, List.setIfInBounds_toArray, List.set_cons_zero, List.set_cons_succ]
            refine takeH (i := 10) (v := .bool false) rfl (by kernel_rfl) (by kernel_rfl) (by kernel_rfl) (fun _ _ _ h => h) (Or.inl ⟨by rfl, fun w hSw => ?_⟩) hHeld ?_
            · (clear hSw; go_simp)
            simp only [Act.put, List.setIfInBounds_toArray, List.set_cons_zero, List.set_cons_succ]
            refine wpAnyH_done (by kernel_rfl) ?_ _
            clear hHeld
            have r4 := HROW.out _ HN4.out
            have hst := nst_step HN4.out HK.out HFIT.out 0 (by first | exact HZL.out | exact .inl rfl)
            rw [HSTP.out] at hst
            have HS := Lib.hid hst
            clear hst HD
            go_wp2_with fail
            refine HS.out.mono ?_
            rintro e w5 ⟨u, rfl, h5, h6, h7⟩
            have HN5 := Lib.hid h6
            obtain ⟨Ae, ce, rfl, -⟩ := h5.len
            clear h5 h6 h7 HS
            go_wp2
            go_roundw
            case rel => exact ⟨k + 1, by omega, by go_num, n', HZA.out, HN5.out⟩
            case measure => simp [intOf]; omega
          · have hzd : z = d := by have := HE.out; rw [if_neg h41] at this; exact this
            subst hzd
            have hk41 : ((k : Int) != 41) = true := by simp; omega
            by_cases h49 : k = 49
            · obtain rfl := HES.out.2 h49
              have hk49 : ¬ (k : Int) < 49 := by omega
              have hk49b : decide ((k : Int) < 49) = false := decide_eq_false hk49
              have hkb : ((k : Int) == 49) = true := by simp; omega
              clear h49
              go_wp2_with fail
              refine wp_region_held_drew (S := fun w' => w'.cell? (ad.add k) = some (.int .i64 z)) (by kernel_rfl) (r0) (fun hHeld => ?_)
              refine takeH (i := 0) (v := .pointer (some ⟨g, 0, none⟩)) rfl (by kernel_rfl) (by kernel_rfl) (by kernel_rfl) (fun _ _ _ h => h) (Or.inl ⟨by rfl, fun w hSw => ?_⟩) hHeld ?_
              · (clear hSw; go_simp)
              simp only [Act.put, List.setIfInBounds_toArray, List.set_cons_zero, List.set_cons_succ]
              refine takeH (i := 2) (v := .slice (some ad) 50 cap) rfl (by kernel_rfl) (by kernel_rfl) (by kernel_rfl) (fun _ _ _ h => h) (Or.inl ⟨by rfl, fun w hSw => ?_⟩) hHeld ?_
              · (clear hSw; go_simp)
              simp only [Act.put, List.setIfInBounds_toArray, List.set_cons_zero, List.set_cons_succ]
              refine takeH (i := 3) (v := .int .i64 k) rfl (by kernel_rfl) (by kernel_rfl) (by kernel_rfl) (fun _ _ _ h => h) (Or.inl ⟨by rfl, fun w hSw => ?_⟩) hHeld ?_
              · (clear hSw; go_simp)
              simp only [Act.put, List.setIfInBounds_toArray, List.set_cons_zero, List.set_cons_succ]
              refine takeH (i := 4) (v := .pointer (some (ad.add k))) rfl (by kernel_rfl) (by kernel_rfl) (by kernel_rfl) (fun _ _ _ h => h) (Or.inl ⟨by rfl, fun w hSw => ?_⟩) hHeld ?_
              · (clear hSw; go_simp)
              simp only [Act.put, List.setIfInBounds_toArray, List.set_cons_zero, List.set_cons_succ]
              refine takeH (i := 5) (v := .int .i64 z) rfl (by kernel_rfl) (by kernel_rfl) (by kernel_rfl) (fun _ _ _ h => h) (Or.inl ⟨by rfl, fun w hSw => ?_⟩) hHeld ?_
              · (have q1 := hSw; clear hSw; go_simp)
              simp only [Act.put, List.setIfInBounds_toArray, List.set_cons_zero, List.set_cons_succ]
              refine wpAnyH_ready (rs := [1]) (by kernel_rfl) (by simp) ?_
              refine AllReadyH.cons rfl (fun K hK => ?_) AllReadyH.nil
              go_simp
              refine (HD.out _ (HN.out.drew HK.out)).mono ?_
              rintro e w4 ⟨rfl, hb4⟩
              have HN4 := Lib.hid (HN.out.next HK.out (undrew hb4))
              clear hb4
              clear hHeld
              dsimp only
              refine hK.out _ _ (HROW.out _ HN4.out) (fun hHeld => ?_)
              clear hK K
              try simp only [Act.put, List.setIfInBounds_toArray, List.set_cons_zero, List.set_cons_succ]
              refine takeH (i := 6) (v := .bool false) rfl (by kernel_rfl) (by kernel_rfl) (by kernel_rfl) (fun _ _ _ h => h) (Or.inl ⟨by rfl, fun w hSw => ?_⟩) hHeld ?_
              · (clear hSw; go_simp)
              simp only [Act.put, List.setIfInBounds_toArray, List.set_cons_zero, List.set_cons_succ]
              refine takeH (i := 7) (v := .bool false) rfl (by kernel_rfl) (by kernel_rfl) (by kernel_rfl) (fun _ _ _ h => h) (Or.inl ⟨by rfl, fun w hSw => ?_⟩) hHeld ?_
              · (clear hSw; go_simp)
              simp only [Act.put, List.setIfInBounds_toArray, List.set_cons_zero, List.set_cons_succ]
              refine takeH (i := 8) (v := undef) rfl (by kernel_rfl) (by kernel_rfl) (by kernel_rfl) (fun _ _ _ h => h) (Or.inr ⟨by rfl, rfl⟩) hHeld ?_
              simp only [Act.put, List.setIfInBounds_toArray, List.set_cons_zero, List.set_cons_succ]
              refine takeH (i := 9) (v := undef) rfl (by kernel_rfl) (by kernel_rfl) (by kernel_rfl) (fun _ _ _ h => h) (Or.inr ⟨by rfl, rfl⟩) hHeld ?_
              simp only [Act.put, List.setIfInBounds_toArray, List.set_cons_zero, List.set_cons_succ]
              refine takeH (i := 10) (v := .bool false) rfl (by kernel_rfl) (by kernel_rfl) (by kernel_rfl) (fun _ _ _ h => h) (Or.inl ⟨by rfl, fun w hSw => ?_⟩) hHeld ?_
              · (clear hSw; go_simp)
              simp only [Act.put, List.setIfInBounds_toArray, List.set_cons_zero, List.set_cons_succ]
              refine wpAnyH_done (by kernel_rfl) ?_ _
              clear hHeld
              have r4 := HROW.out _ HN4.out
              have hst := nst_step HN4.out HK.out HFIT.out z (by first | exact HZL.out | exact .inl rfl)
              rw [HSTP.out] at hst
              have HS := Lib.hid hst
              clear hst HD
              go_wp2_with fail
              refine HS.out.mono ?_
              rintro e w5 ⟨u, rfl, h5, h6, h7⟩
              have HN5 := Lib.hid h6
              obtain ⟨ge, ce, rfl, hce⟩ := h5.shape (by simp)
              have k2 : w5.cell? ⟨ge, 2, none⟩ = some (.int .i64 1) := hce 2 _ rfl
              clear h5 h6 h7 HS hce
              go_wp2
              go_roundw
              case rel => exact ⟨k + 1, by omega, by go_num, n', HZA.out, HN5.out⟩
              case measure => simp [intOf]; omega
            · have hk49 : (k : Int) < 49 := by omega
              have hkb : ((k : Int) == 49) = false := by simp; omega
              obtain rfl := HES.out.1 (by omega)
              go_wp2_with fail
              refine wp_region_held_drew (S := fun w' => w'.cell? (ad.add k) = some (.int .i64 z)) (by kernel_rfl) (r0) (fun hHeld => ?_)
              refine takeH (i := 0) (v := .pointer (some ⟨g, 0, none⟩)) rfl (by kernel_rfl) (by kernel_rfl) (by kernel_rfl) (fun _ _ _ h => h) (Or.inl ⟨by rfl, fun w hSw => ?_⟩) hHeld ?_
              · (clear hSw; go_simp)
              simp only [Act.put, List.setIfInBounds_toArray, List.set_cons_zero, List.set_cons_succ]
              refine takeH (i := 2) (v := .slice (some ad) 50 cap) rfl (by kernel_rfl) (by kernel_rfl) (by kernel_rfl) (fun _ _ _ h => h) (Or.inl ⟨by rfl, fun w hSw => ?_⟩) hHeld ?_
              · (clear hSw; go_simp)
              simp only [Act.put, List.setIfInBounds_toArray, List.set_cons_zero, List.set_cons_succ]
              refine takeH (i := 3) (v := .int .i64 k) rfl (by kernel_rfl) (by kernel_rfl) (by kernel_rfl) (fun _ _ _ h => h) (Or.inl ⟨by rfl, fun w hSw => ?_⟩) hHeld ?_
              · (clear hSw; go_simp)
              simp only [Act.put, List.setIfInBounds_toArray, List.set_cons_zero, List.set_cons_succ]
              refine takeH (i := 4) (v := .pointer (some (ad.add k))) rfl (by kernel_rfl) (by kernel_rfl) (by kernel_rfl) (fun _ _ _ h => h) (Or.inl ⟨by rfl, fun w hSw => ?_⟩) hHeld ?_
              · (clear hSw; go_simp)
              simp only [Act.put, List.setIfInBounds_toArray, List.set_cons_zero, List.set_cons_succ]
              refine takeH (i := 5) (v := .int .i64 z) rfl (by kernel_rfl) (by kernel_rfl) (by kernel_rfl) (fun _ _ _ h => h) (Or.inl ⟨by rfl, fun w hSw => ?_⟩) hHeld ?_
              · (have q1 := hSw; clear hSw; go_simp)
              simp only [Act.put, List.setIfInBounds_toArray, List.set_cons_zero, List.set_cons_succ]
              refine wpAnyH_ready (rs := [1]) (by kernel_rfl) (by simp) ?_
              refine AllReadyH.cons rfl (fun K hK => ?_) AllReadyH.nil
              go_simp
              refine (HD.out _ (HN.out.drew HK.out)).mono ?_
              rintro e w4 ⟨rfl, hb4⟩
              have HN4 := Lib.hid (HN.out.next HK.out (undrew hb4))
              clear hb4
              clear hHeld
              dsimp only
              refine hK.out _ _ (HROW.out _ HN4.out) (fun hHeld => ?_)
              clear hK K
              try simp only [Act.put, List.setIfInBounds_toArray, List.set_cons_zero, List.set_cons_succ]
              refine takeH (i := 6) (v := .bool false) rfl (by kernel_rfl) (by kernel_rfl) (by kernel_rfl) (fun _ _ _ h => h) (Or.inl ⟨by rfl, fun w hSw => ?_⟩) hHeld ?_
              · (clear hSw; go_simp)
              simp only [Act.put, List.setIfInBounds_toArray, List.set_cons_zero, List.set_cons_succ]
              refine takeH (i := 7) (v := .bool false) rfl (by kernel_rfl) (by kernel_rfl) (by kernel_rfl) (fun _ _ _ h => h) (Or.inl ⟨by rfl, fun w hSw => ?_⟩) hHeld ?_
              · (clear hSw; go_simp)
              simp only [Act.put, List.setIfInBounds_toArray, List.set_cons_zero, List.set_cons_succ]
              refine takeH (i := 8) (v := undef) rfl (by kernel_rfl) (by kernel_rfl) (by kernel_rfl) (fun _ _ _ h => h) (Or.inr ⟨by rfl, rfl⟩) hHeld ?_
              simp only [Act.put, List.setIfInBounds_toArray, List.set_cons_zero, List.set_cons_succ]
              refine takeH (i := 9) (v := undef) rfl (by kernel_rfl) (by kernel_rfl) (by kernel_rfl) (fun _ _ _ h => h) (Or.inr ⟨by rfl, rfl⟩) hHeld ?_
              simp only [Act.put, List.setIfInBounds_toArray, List.set_cons_zero, List.set_cons_succ]
              refine takeH (i := 10) (v := .bool false) rfl (by kernel_rfl) (by kernel_rfl) (by kernel_rfl) (fun _ _ _ h => h) (Or.inl ⟨by rfl, fun w hSw => ?_⟩) hHeld ?_
              · (clear hSw; go_simp)
              simp only [Act.put, List.setIfInBounds_toArray, List.set_cons_zero, List.set_cons_succ]
              refine wpAnyH_done (by kernel_rfl) ?_ _
              clear hHeld
              have r4 := HROW.out _ HN4.out
              have hst := nst_step HN4.out HK.out HFIT.out z (by first | exact HZL.out | exact .inl rfl)
              rw [HSTP.out] at hst
              have HS := Lib.hid hst
              clear hst HD
              go_wp2_with fail
              refine HS.out.mono ?_
              rintro e w5 ⟨u, rfl, h5, h6, h7⟩
              have HN5 := Lib.hid h6
              obtain ⟨Ae, ce, rfl, -⟩ := h5.len
              clear h5 h6 h7 HS
              go_wp2
              go_roundw
              case rel => exact ⟨k + 1, by omega, by go_num, n', HZA.out, HN5.out⟩
              case measure => simp [intOf]; omega
        · obtain rfl : k = 50 := by omega
          have hzd : n = zdone := by
            rcases hz with h | h
            · omega
            · exact h.2
          subst hzd
          have e8 : zdone.lookV = .agg #[.int .i64 8, .bool true, .int .i64 0, .int .i64 0, .bool false, .int .i64 0] := rfl
          have hl := nst_look HN.out
          rw [e8] at hl
          have HL := Lib.hid hl
          clear hz hlt hk H4 hl
          have f0 := lookF0
          have f3 := lookF3
          go_wp2_with fail
          refine HL.out.mono ?_
          rintro e w8 ⟨rfl, hb8⟩
          have hl2 := nst_look (HN.out.next HK.out hb8)
          rw [e8] at hl2
          have HL2 := Lib.hid hl2
          clear hl2 e8
          have HB := Lib.hid (nxt HN.out.below hb8)
          clear hb8
          go_wp2_with fail
          refine HL2.out.mono ?_
          rintro e w9 ⟨rfl, hb9⟩
          have HB9 := Lib.hid (nxt HB.out hb9)
          clear hb9
          go_wp2
          go_ret
          exact ⟨rfl, HB9.out⟩
end Go.Proofs.YtenfcbmeokenaaaGreat

/- The contract of magnetolaw10.joined. -/
namespace Go.Proofs.YtenfcbmeokenaaaGreat
set_option maxRecDepth 20000
open Go.RowKit
set_option linter.unusedSimpArgs false

/-- Frames put in, one behind the other. -/
def putsN (fs : Nat → Fr) : Nat → List Fr
  | 0 => []
  | k + 1 => ins (fs k) (putsN fs k)
theorem putsN_len (fs : Nat → Fr) : ∀ k, (putsN fs k).length = k
  | 0 => rfl
  | k + 1 => by rw [putsN, ins_len1, putsN_len fs k]
theorem putsN_ok (fs : Nat → Fr) : ∀ k, (∀ i, i < k → (fs i).may = true) → Okq (putsN fs k)
  | 0, _ => ok_nil
  | k + 1, h => ins_ok (putsN_ok fs k fun i hi => h i (by omega)) (h k (by omega))
theorem putsN_mem (fs : Nat → Fr) : ∀ k g, g ∈ putsN fs k → ∃ i, i < k ∧ g = fs i
  | 0, g, h => by cases h
  | k + 1, g, h => by
    rcases ins_mem.1 h with rfl | h1
    · exact ⟨k, by omega, rfl⟩
    · obtain ⟨i, h2, h3⟩ := putsN_mem fs k g h1
      exact ⟨i, by omega, h3⟩
theorem Nst.rebase {w0 w w' : World} {g gq : Nat} {n : Nd} {P : World → (Nat → Prop) → Prop} (h : Nst w w' g gq n P) (hb : Below w0.heap.size w0 w) : Nst w0 w' g gq n P := by
  obtain ⟨vo, vl, vq, h1, h2, h3⟩ := h
  exact ⟨vo, vl, vq, h1.base hb.size, h2, nxt hb h3⟩

set_option maxHeartbeats 1600000 in
theorem joined_any (A : Option Addr) (n cap : Nat) (fs : Nat → Fr) (w : World) (hr : Fl w A n fs) (hn : n ≤ 16) (hm : ∀ i, i < n → (fs i).may = true) :
    Calls Tryz.prog 13 #[.slice A n cap] w fun e w' => ∃ g gq, e = .returned (.pointer (some ⟨g, 0, none⟩)) ∧ Nst w w' g gq (idl (putsN fs n)) NoSide := by
  have HR := Lib.hid hr
  have HM := Lib.hid hm
  have HNN := Lib.hid hn
  clear hr hm hn
  go_enter Tryz.func13, Tryz.ntmps13
  go_wp2_with fail
  refine (nst_new w _ (Below.refl _ _)).mono ?_
  rintro e w1 ⟨g, gq, rfl, h1, -⟩
  have H1 := Lib.hid (h1.to (jn_zero []).symm)
  clear h1
  go_wp2
  go_loopw [4] (fun i wr => ∃ k : Nat, k ≤ 11 ∧ i = .int .i64 k ∧ Nst w wr g gq (jn [] k) NoSide) (fun i _ => 11 - (intOf i).toNat)
  case atStart => exact ⟨0, by omega, rfl, H1.out⟩
  case round =>
    obtain ⟨k, hk, rfl, hn⟩ := hrel
    have HN := Lib.hid hn
    clear hn
    by_cases hlt : k < 11
    · have hlt' : (k : Int) < 11 := by omega
      have hs := nst_step HN.out kept_no (jn_fit hk okfs_nil (by decide)) 1 (.inr rfl)
      rw [jn_step _ hlt] at hs
      have HS := Lib.hid hs
      clear hs
      go_wp2_with fail
      refine HS.out.mono ?_
      rintro e w5 ⟨u, rfl, h5, h6, h7⟩
      have HN5 := Lib.hid h6
      clear h5 h6 h7 HS HN
      go_wp2
      go_roundw
      case rel => exact ⟨k + 1, by omega, by go_num, HN5.out⟩
      case measure => simp [intOf]; omega
    · have hk11 : k = 11 := by omega
      have hltI : ¬ (k : Int) < 11 := by omega
      have H4 := Lib.hid (HN.out.to (by rw [hk11, jn_end]))
      clear HN H1 hlt hk hk11
      rename World => wa
      go_wp2
      go_loopw [5] (fun i wr => ∃ k : Nat, k ≤ n ∧ i = .int .i64 k ∧ Nst w wr g gq (idl (putsN fs k)) NoSide) (fun i _ => n - (intOf i).toNat)
      case atStart => exact ⟨0, Nat.zero_le _, rfl, H4.out⟩
      case round =>
        obtain ⟨j, hj, rfl, hn⟩ := hrel
        have HN := Lib.hid hn
        clear hn
        by_cases hlt : j < n
        · have hlt' : (j : Int) < (n : Int) := by omega
          have hj16 : (j : Int) < 16 := by have := HNN.out; omega
          obtain ⟨ad, rfl, hl, c0, c1, c2, c3, c4, c5, c6, c7, c8, c9, c10, c11⟩ := (HR.out.below HN.out.below).at_ hlt
          have hlen : (idl (putsN fs j)).q.length = j := putsN_len fs j
          have hp := nst_put HN.out kept_no (fs j) (putsN_ok fs j fun i hi => HM.out i (by omega)) (by rw [hlen]; have := HNN.out; omega)
          have he : pE 16 (fs j) (idl (putsN fs j)).q = 0 := by
            unfold pE
            rw [if_neg (by rw [HM.out j hlt]; simp), if_neg (by rw [hlen]; have := HNN.out; omega)]
          have hq : ({ idl (putsN fs j) with q := pL 16 (fs j) (idl (putsN fs j)).q } : Nd) = idl (putsN fs (j + 1)) := by
            have e : pL 16 (fs j) (idl (putsN fs j)).q = ins (fs j) (putsN fs j) := by
              unfold pL
              rw [if_neg]
              · rfl
              · rw [HM.out j hlt, hlen]; have := HNN.out; simp; omega
            rw [e]; rfl
          rw [he, hq] at hp
          have HP := Lib.hid hp
          clear hp he hq hlen
          go_wp2_with fail
          refine HP.out.mono ?_
          rintro e w6 ⟨rfl, h6⟩
          have HN6 := Lib.hid h6
          clear h6 HP
          go_wp2
          go_roundw
          case rel => exact ⟨j + 1, by omega, by go_num, HN6.out⟩
          case measure => simp [intOf]; omega
        · have hjn : j = n := by omega
          have hltJ : ¬ (j : Int) < (n : Int) := by omega
          have H6 := Lib.hid (HN.out.to (by rw [hjn]))
          clear HN hjn hlt hj
          go_wp2
          go_ret
          first | exact ⟨g, gq, rfl, H6.out⟩ | exact ⟨g, rfl, gq, H6.out⟩
end Go.Proofs.YtenfcbmeokenaaaGreat

/- A node that receives a frame, and lets the pause pass. -/
namespace Go.Proofs.YtenfcbmeokenaaaGreat
set_option maxRecDepth 20000

/-- The level at k, 1 behind the frame's. -/
def lv3 (f : Fr) (k : Nat) : Int := if k < sl_ f + 10 then (enc f true).getD k 0 else 1
/-- Idle, without frames; a frame, and three levels 1. -/
def RxA (f : Fr) (k : Nat) (n : Nd) : Prop :=
  (k < sl_ f + 10 ∧ RxAt (idl []) f k n) ∨ (sl_ f + 10 ≤ k ∧ k < sl_ f + 13 ∧ n = pz (idl []) (k - (sl_ f + 10))) ∨ (k = sl_ f + 13 ∧ n = idl [])
section
variable {f : Fr} (hm : f.may = true) (hwf : f.wf) {k : Nat} {n : Nd}
include hm hwf
theorem rxa_step (h : RxA f k n) (hk : k < sl_ f + 13) : (lv3 f k = 0 ∨ lv3 f k = 1) ∧ Fit n ∧ n.drv = (if k = sl_ f + 1 then 0 else 1) ∧
    ∃ es n', n.stp (lv3 f k) = (es, n') ∧ RxA f (k + 1) n' ∧ (k ≠ sl_ f + 8 → es = []) ∧ (k = sl_ f + 8 → ∃ g, es = [(2, g)] ∧ g.val = f.val) := by
  rcases h with ⟨h1, h2⟩ | ⟨h1, h2, rfl⟩ | ⟨h1, _⟩
  · have hl : lv3 f k = (enc f true).getD k 0 := if_pos h1
    rw [hl]
    refine ⟨lvl_01 (way_lvl h1), rx_fit hm h2 h1 (idl_fit okfs_nil (by decide)), rx_drive hm rfl rfl h2 h1, ?_⟩
    by_cases h8 : k < sl_ f + 8
    · obtain ⟨n', a, b⟩ := rx_step hm rfl rfl h2 h8
      exact ⟨[], n', a, .inl ⟨by omega, b⟩, fun _ => rfl, fun h => by omega⟩
    · by_cases h9 : k = sl_ f + 8
      · obtain ⟨n', g, a, b, c⟩ := rx_got hm hwf h2 h9
        exact ⟨_, n', a, .inl ⟨by omega, b⟩, fun h => absurd h9 h, fun _ => ⟨g, rfl, c⟩⟩
      · refine ⟨_, _, rx_done hm h2 (by omega), .inr (.inl ⟨by omega, by omega, ?_⟩), fun _ => rfl, fun h => absurd h h9⟩
        rw [show k + 1 - (sl_ f + 10) = 0 by omega, pz_zero]
        rfl
  · have hl : lv3 f k = 1 := if_neg (by omega)
    rw [hl]
    refine ⟨.inr rfl, pz_fit (by omega) okfs_nil (by decide), ?_, ?_⟩
    · rw [pz_drv, if_neg (by omega)]
    · by_cases h2' : k - (sl_ f + 10) < 2
      · refine ⟨_, _, pz_step _ h2', .inr (.inl ⟨by omega, by omega, ?_⟩), fun _ => rfl, fun h => by omega⟩
        rw [show k + 1 - (sl_ f + 10) = k - (sl_ f + 10) + 1 by omega]
      · rw [show k - (sl_ f + 10) = 2 by omega]
        exact ⟨_, _, pz_end _, .inr (.inr ⟨by omega, rfl⟩), fun _ => rfl, fun h => by omega⟩
  · omega
end
end Go.Proofs.YtenfcbmeokenaaaGreat

