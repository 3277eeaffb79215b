/- The contracts of flag, passiveFlag, close, wait. -/
import Derived.Test.YtenfcbmeokenaaaGreatY3
import Derived.Laws.EntriesVeiled
import Derived.Test.YtenfcbmeokenaaaGreatY1
namespace Go.Proofs.YtenfcbmeokenaaaGreat
set_option maxRecDepth 20000
open Go.RowKit
set_option linter.unusedSimpArgs false

theorem see_endF (n : Nd) (z : Int) : (n.see z).endF = n.endF := rfl

set_option maxHeartbeats 1600000 in
theorem flag_any {w : World} {B : Nat} {p : NP} {n : Nd} (hl : Lay w B p n) (z : Int) (h0 : 0 ≤ n.sn) (h1 : n.sn ≤ 4000000) :
    Calls Tryz.prog 58 #[.pointer (some ⟨p.g, 0, none⟩), .int .i64 z] w (Res B p w (n.flag z)) := by
  have HT := Lib.hid (tell_seen hl 0 h0 h1)
  have HF := Lib.hid (show n.flagN = if tlN n.sl n.sn 0 = 6 then n.endF else n.see 0 from rfl)
  have HD := Lib.hid (show n.flag z = if z = 0 then ([], n.flagN) else (ev 4 :: n.flagN.casE 8, n.flagN.casN 8) from rfl)
  clear hl h0 h1
  generalize tlN n.sl n.sn 0 = k at *
  by_cases hz : z = 0
  · subst hz
    rw [if_pos rfl] at HD
    by_cases hk : k = 6
    · rw [if_pos hk] at HF
      subst hk
      go_enter Tryz.func58, Tryz.ntmps58
      go_wp2_with fail
      refine HT.out.mono ?_
      rintro e w1 ⟨rfl, h1, h2⟩
      have HX0 := Lib.hid (And.intro h1 (NP.moves p h2))
      clear h1 h2
      go_wp2_with fail
      refine (endF_any HX0.out.1).mono ?_
      rintro e w2 ⟨vo1, vl1, vq1, rfl, g1, g2⟩
      rw [see_endF, ← HF.out] at g1
      have HX := Lib.hid (And.intro g1 (HX0.out.2.trans g2))
      clear g1 g2
      go_wp2
      go_ret
      rw [HD.out]
      exact ⟨_, _, _, _, rfl, Eown.nil _ _, HX.out.1, HX.out.2⟩
    · rw [if_neg hk] at HF
      go_enter Tryz.func58, Tryz.ntmps58
      go_wp2_with fail
      refine HT.out.mono ?_
      rintro e w1 ⟨rfl, h1, h2⟩
      rw [← HF.out] at h1
      have HX := Lib.hid (And.intro h1 (NP.moves p h2))
      clear h1 h2
      go_wp2
      go_ret
      rw [HD.out]
      exact ⟨_, _, _, _, rfl, Eown.nil _ _, HX.out.1, HX.out.2⟩
  · rw [if_neg hz] at HD
    by_cases hk : k = 6
    · rw [if_pos hk] at HF
      subst hk
      go_enter Tryz.func58, Tryz.ntmps58
      go_wp2_with fail
      refine HT.out.mono ?_
      rintro e w1 ⟨rfl, h1, h2⟩
      have HX0 := Lib.hid (And.intro h1 (NP.moves p h2))
      clear h1 h2
      go_wp2_with fail
      refine (endF_any HX0.out.1).mono ?_
      rintro e w2 ⟨vo1, vl1, vq1, rfl, g1, g2⟩
      rw [see_endF, ← HF.out] at g1
      have HX := Lib.hid (And.intro g1 (HX0.out.2.trans g2))
      clear g1 g2
      go_wp2_with fail
      refine (evt_any 4 _).mono ?_
      rintro e w4 ⟨u, rfl, h5, h6⟩
      have HU := Lib.hid (And.intro (h5.base HX.out.2.size) (And.intro (HX.out.1.next h6) (HX.out.2.next h6)))
      have hap := (HU.out.1.apart HU.out.2.1)
      have HA := Lib.hid hap
      clear h5 h6 hap
      go_wp2_with fail
      refine (cas_any HU.out.2.1 8).mono ?_
      rintro e w5 ⟨v, vo2, vl2, vq2, rfl, g1, g2, g3⟩
      have hu := HU.out.1.moves g3 HA.out
      have hap := hu.apart g2
      obtain ⟨A, cap, rfl, hcap⟩ := g1.len
      have HU2 := Lib.hid hu
      have HS := Lib.hid g1.es
      have HA2 := Lib.hid hap
      have HG := Lib.hid (And.intro g2 (HU.out.2.2.trans g3))
      have HN := Lib.hid (casE_len n.flagN 8)
      have HSZ := Lib.hid (Nat.le_trans HU.out.2.2.size g3.size)
      clear g1 g2 g3 hap hu hcap
      go_wp2_with (first | (at_builtin; refine append_E _ (by rfl) _ _ rfl w.heap.size _ _ rfl HU2.out _ _ _ _ rfl HS.out (show [ev 4].length + (n.flagN.casE 8).length ≤ 1000000 by have := HN.out; have e : [ev 4].length = 1 := rfl; omega) HSZ.out ?_; intro v' w' h1 h2 h3) | fail)
      go_wp2
      go_ret
      obtain ⟨g2, g3⟩ := HG.out
      rw [HD.out]
      exact ⟨v', _, _, _, rfl, h1, g2.grown h2 HA2.out, g3.grown h2 fun k hk => (World.ownsRow.lt HU2.out k hk).1⟩
    · rw [if_neg hk] at HF
      go_enter Tryz.func58, Tryz.ntmps58
      go_wp2_with fail
      refine HT.out.mono ?_
      rintro e w1 ⟨rfl, h1, h2⟩
      rw [← HF.out] at h1
      have HX := Lib.hid (And.intro h1 (NP.moves p h2))
      clear h1 h2
      go_wp2_with fail
      refine (evt_any 4 _).mono ?_
      rintro e w4 ⟨u, rfl, h5, h6⟩
      have HU := Lib.hid (And.intro (h5.base HX.out.2.size) (And.intro (HX.out.1.next h6) (HX.out.2.next h6)))
      have hap := (HU.out.1.apart HU.out.2.1)
      have HA := Lib.hid hap
      clear h5 h6 hap
      go_wp2_with fail
      refine (cas_any HU.out.2.1 8).mono ?_
      rintro e w5 ⟨v, vo2, vl2, vq2, rfl, g1, g2, g3⟩
      have hu := HU.out.1.moves g3 HA.out
      have hap := hu.apart g2
      obtain ⟨A, cap, rfl, hcap⟩ := g1.len
      have HU2 := Lib.hid hu
      have HS := Lib.hid g1.es
      have HA2 := Lib.hid hap
      have HG := Lib.hid (And.intro g2 (HU.out.2.2.trans g3))
      have HN := Lib.hid (casE_len n.flagN 8)
      have HSZ := Lib.hid (Nat.le_trans HU.out.2.2.size g3.size)
      clear g1 g2 g3 hap hu hcap
      go_wp2_with (first | (at_builtin; refine append_E _ (by rfl) _ _ rfl w.heap.size _ _ rfl HU2.out _ _ _ _ rfl HS.out (show [ev 4].length + (n.flagN.casE 8).length ≤ 1000000 by have := HN.out; have e : [ev 4].length = 1 := rfl; omega) HSZ.out ?_; intro v' w' h1 h2 h3) | fail)
      go_wp2
      go_ret
      obtain ⟨g2, g3⟩ := HG.out
      rw [HD.out]
      exact ⟨v', _, _, _, rfl, h1, g2.grown h2 HA2.out, g3.grown h2 fun k hk => (World.ownsRow.lt HU2.out k hk).1⟩

theorem Lay.put_owed {w : World} {B : Nat} {p : NP} {n : Nd} (h : Lay w B p n) (b : Bool) : Lay (w.setCell ⟨p.g, 4, none⟩ (.bool b)) B p { n with owed := b } ∧ Only p.g w (w.setCell ⟨p.g, 4, none⟩ (.bool b)) := by
  have ho : Only p.g w (w.setCell ⟨p.g, 4, none⟩ (.bool b)) := (Only.refl _ _).set
  exact ⟨h.turn ho (cells_set h.blk) rfl rfl rfl, ho⟩
set_option maxHeartbeats 1600000 in
theorem pflag_any {w : World} {B : Nat} {p : NP} {n : Nd} (hl : Lay w B p n) (z : Int) (h0 : 0 ≤ n.sn) (h1 : n.sn ≤ 4000000) :
    Calls Tryz.prog 59 #[.pointer (some ⟨p.g, 0, none⟩), .int .i64 z] w (Res B p w (n.pflag z)) := by
  have HF := Lib.hid (show n.pflN z = if tlN n.sl n.sn z = 6 then n.endF else { n.see z with owed := n.owed && !(n.owed && z == 0) } from rfl)
  have HD := Lib.hid (show n.pflag z = if n.due z then ((n.pflN z).casE 1, (n.pflN z).casN 1) else ([], n.pflN z) from rfl)
  have c4 := hl.c4
  cases ho : n.owed
  · rw [ho] at c4
    rw [if_neg (show ¬ n.due z = true by unfold Nd.due; rw [ho]; simp)] at HD
    have HT := Lib.hid (tell_seen hl z h0 h1)
    have HE := Lib.hid (show ({ n.see z with owed := n.owed && !(n.owed && z == 0) } : Nd) = n.see z by unfold Nd.see; rw [ho]; rfl)
    clear hl h0 h1
    generalize tlN n.sl n.sn z = k at *
    by_cases hk : k = 6
    · rw [if_pos hk] at HF
      subst hk
      go_enter Tryz.func59, Tryz.ntmps59
      go_wp2_with fail
      refine HT.out.mono ?_
      rintro e w1 ⟨rfl, h1, h2⟩
      have HX0 := Lib.hid (And.intro h1 (NP.moves p h2))
      clear h1 h2
      go_wp2_with fail
      refine (endF_any HX0.out.1).mono ?_
      rintro e w2 ⟨vo1, vl1, vq1, rfl, g1, g2⟩
      rw [see_endF, ← HF.out] at g1
      have HX := Lib.hid (And.intro g1 (HX0.out.2.trans g2))
      clear g1 g2
      go_wp2
      go_ret
      rw [HD.out]
      exact ⟨_, _, _, _, rfl, Eown.nil _ _, HX.out.1, HX.out.2⟩
    · rw [if_neg hk, HE.out] at HF
      go_enter Tryz.func59, Tryz.ntmps59
      go_wp2_with fail
      refine HT.out.mono ?_
      rintro e w1 ⟨rfl, h1, h2⟩
      rw [← HF.out] at h1
      have HX := Lib.hid (And.intro h1 (NP.moves p h2))
      clear h1 h2
      go_wp2
      go_ret
      rw [HD.out]
      exact ⟨_, _, _, _, rfl, Eown.nil _ _, HX.out.1, HX.out.2⟩
  · rw [ho] at c4
    by_cases hz : z = 0
    · subst hz
      rw [if_pos (show n.due 0 = true by unfold Nd.due; rw [ho]; rfl)] at HD
      have f4 := hl.fz 4
      have hp := hl.put_owed false
      have HT := Lib.hid (tell_seen hp.1 0 h0 h1)
      have HO := Lib.hid hp.2
      have HE := Lib.hid (show ({ n.see 0 with owed := n.owed && !(n.owed && (0 : Int) == 0) } : Nd) = ({ n with owed := false } : Nd).see 0 by unfold Nd.see; rw [ho]; rfl)
      clear hl h0 h1 hp
      dsimp only at HT
      generalize tlN n.sl n.sn 0 = k at *
      by_cases hk : k = 6
      · rw [if_pos hk] at HF
        subst hk
        go_enter Tryz.func59, Tryz.ntmps59
        go_wp2_with fail
        refine HT.out.mono ?_
        rintro e w1 ⟨rfl, h1, h2⟩
        have HX0 := Lib.hid (And.intro h1 ((NP.moves p HO.out).trans (NP.moves p h2)))
        clear h1 h2
        go_wp2_with fail
        refine (endF_any HX0.out.1).mono ?_
        rintro e w2 ⟨vo1, vl1, vq1, rfl, g1, g2⟩
        rw [show (({ n with owed := false } : Nd).see 0).endF = n.endF from rfl, ← HF.out] at g1
        have HX := Lib.hid (And.intro g1 (HX0.out.2.trans g2))
        clear g1 g2
        go_wp2_with fail
        refine (cas_any HX.out.1 1).mono ?_
        rintro e w3 ⟨u, vo2, vl2, vq2, rfl, g1, g2, g3⟩
        have HE2 := Lib.hid (And.intro (g1.base HX.out.2.size) (And.intro g2 (HX.out.2.trans g3)))
        clear g1 g2 g3
        go_wp2
        go_ret
        rw [HD.out]
        exact ⟨u, _, _, _, rfl, HE2.out.1, HE2.out.2.1, HE2.out.2.2⟩
      · rw [if_neg hk, HE.out] at HF
        go_enter Tryz.func59, Tryz.ntmps59
        go_wp2_with fail
        refine HT.out.mono ?_
        rintro e w1 ⟨rfl, h1, h2⟩
        rw [← HF.out] at h1
        have HX := Lib.hid (And.intro h1 ((NP.moves p HO.out).trans (NP.moves p h2)))
        clear h1 h2
        go_wp2_with fail
        refine (cas_any HX.out.1 1).mono ?_
        rintro e w3 ⟨u, vo2, vl2, vq2, rfl, g1, g2, g3⟩
        have HE2 := Lib.hid (And.intro (g1.base HX.out.2.size) (And.intro g2 (HX.out.2.trans g3)))
        clear g1 g2 g3
        go_wp2
        go_ret
        rw [HD.out]
        exact ⟨u, _, _, _, rfl, HE2.out.1, HE2.out.2.1, HE2.out.2.2⟩
    · rw [if_neg (show ¬ n.due z = true by unfold Nd.due; rw [ho]; simp [hz])] at HD
      have HT := Lib.hid (tell_seen hl z h0 h1)
      have HE := Lib.hid (show ({ n.see z with owed := n.owed && !(n.owed && z == 0) } : Nd) = n.see z by unfold Nd.see; rw [show (z == 0) = false by simpa using hz, ho]; simp [ho])
      clear hl h0 h1
      generalize tlN n.sl n.sn z = k at *
      by_cases hk : k = 6
      · rw [if_pos hk] at HF
        subst hk
        go_enter Tryz.func59, Tryz.ntmps59
        go_wp2_with fail
        refine HT.out.mono ?_
        rintro e w1 ⟨rfl, h1, h2⟩
        have HX0 := Lib.hid (And.intro h1 (NP.moves p h2))
        clear h1 h2
        go_wp2_with fail
        refine (endF_any HX0.out.1).mono ?_
        rintro e w2 ⟨vo1, vl1, vq1, rfl, g1, g2⟩
        rw [see_endF, ← HF.out] at g1
        have HX := Lib.hid (And.intro g1 (HX0.out.2.trans g2))
        clear g1 g2
        go_wp2
        go_ret
        rw [HD.out]
        exact ⟨_, _, _, _, rfl, Eown.nil _ _, HX.out.1, HX.out.2⟩
      · rw [if_neg hk, HE.out] at HF
        go_enter Tryz.func59, Tryz.ntmps59
        go_wp2_with fail
        refine HT.out.mono ?_
        rintro e w1 ⟨rfl, h1, h2⟩
        rw [← HF.out] at h1
        have HX := Lib.hid (And.intro h1 (NP.moves p h2))
        clear h1 h2
        go_wp2
        go_ret
        rw [HD.out]
        exact ⟨_, _, _, _, rfl, Eown.nil _ _, HX.out.1, HX.out.2⟩
end Go.Proofs.YtenfcbmeokenaaaGreat

/- The contracts of close, wait, pause, suspend, off. -/
namespace Go.Proofs.YtenfcbmeokenaaaGreat
set_option maxRecDepth 20000
open Go.RowKit
set_option linter.unusedSimpArgs false

set_option maxHeartbeats 1600000 in
theorem close_any {w : World} {B : Nat} {p : NP} {n : Nd} (hl : Lay w B p n) (z : Int) (h0 : 0 ≤ n.sn) (h1 : n.sn ≤ 4000000) :
    Calls Tryz.prog 61 #[.pointer (some ⟨p.g, 0, none⟩), .int .i64 z] w (Res B p w (n.close z)) := by
  have HD := Lib.hid (show n.close z = if z = 1 then ([], n.closeN) else if n.sn = 7 then n.over else n.fail 7 from rfl)
  by_cases hz : z = 1
  · subst hz
    rw [if_pos rfl] at HD
    have HT := Lib.hid (tell_seen hl 1 h0 h1)
    have HF := Lib.hid (show n.closeN = if tlN n.sl n.sn 1 = 8 then n.enter 8 else n.see 1 from rfl)
    clear hl h0 h1
    generalize tlN n.sl n.sn 1 = k at *
    by_cases hk : k = 8
    · rw [if_pos hk] at HF
      rw [HF.out] at HD
      subst hk
      go_enter Tryz.func61, Tryz.ntmps61
      go_wp2_with fail
      refine HT.out.mono ?_
      rintro e w1 ⟨rfl, h1, h2⟩
      have HX := Lib.hid (And.intro h1 (NP.moves p h2))
      clear h1 h2
      go_wp2_with fail
      refine (enter_nor HX.out.1 8).mono ?_
      rintro e w3 ⟨vo2, vl2, vq2, rfl, g1, g2⟩
      have HY := Lib.hid (And.intro g1 (HX.out.2.trans g2))
      clear g1 g2
      go_wp2
      go_ret
      rw [HD.out]
      exact ⟨_, _, _, _, rfl, Eown.nil _ _, HY.out.1, HY.out.2⟩
    · rw [if_neg hk] at HF
      rw [HF.out] at HD
      go_enter Tryz.func61, Tryz.ntmps61
      go_wp2_with fail
      refine HT.out.mono ?_
      rintro e w1 ⟨rfl, h1, h2⟩
      have HX := Lib.hid (And.intro h1 (NP.moves p h2))
      clear h1 h2
      go_wp2
      go_ret
      rw [HD.out]
      exact ⟨_, _, _, _, rfl, Eown.nil _ _, HX.out.1, HX.out.2⟩
  · rw [if_neg hz] at HD
    have HL := Lib.hid hl
    have c2 := hl.c2
    clear hl h0 h1
    by_cases hk : n.sn = 7
    · rw [if_pos hk] at HD
      rw [hk] at c2
      go_enter Tryz.func61, Tryz.ntmps61
      go_wp2_with fail
      refine (over_any HL.out).mono ?_
      rintro e w3 ⟨u, vo2, vl2, vq2, rfl, g1, g2, g3⟩
      have HE2 := Lib.hid (And.intro g1 (And.intro g2 g3))
      clear g1 g2 g3
      go_wp2
      go_ret
      rw [HD.out]
      exact ⟨u, _, _, _, rfl, HE2.out.1, HE2.out.2.1, HE2.out.2.2⟩
    · rw [if_neg hk] at HD
      go_enter Tryz.func61, Tryz.ntmps61
      go_wp2_with fail
      refine (fail_any HL.out 7).mono ?_
      rintro e w3 ⟨u, vo2, vl2, vq2, rfl, g1, g2, g3⟩
      have HE2 := Lib.hid (And.intro g1 (And.intro g2 g3))
      clear g1 g2 g3
      go_wp2
      go_ret
      rw [HD.out]
      exact ⟨u, _, _, _, rfl, HE2.out.1, HE2.out.2.1, HE2.out.2.2⟩

theorem heavy_def (n : Nd) : n.heavy = ((tlN n.sl n.sn 0 == 1 && (n.erred && !n.tx)) || tlN n.sl n.sn 0 % 8 == 0) := rfl
theorem tl_pos {l n z : Int} (h : 0 ≤ n) : 1 ≤ tlN l n z := by unfold tlN; split <;> omega
theorem tl_le {l n z : Int} (h : 0 ≤ n) : tlN l n z ≤ n + 1 := by unfold tlN; split <;> omega
set_option maxHeartbeats 1600000 in
theorem wait_any {w : World} {B : Nat} {p : NP} {n : Nd} (hl : Lay w B p n) (z : Int) (hz : z = 0 ∨ z = 1) (h0 : 0 ≤ n.sn) (h1 : n.sn ≤ 4000000) :
    Calls Tryz.prog 60 #[.pointer (some ⟨p.g, 0, none⟩), .int .i64 z] w (Res B p w (n.wait z)) := by
  have HD := Lib.hid (show n.wait z = if z = 1 then (n.enter 7).close 1 else if n.heavy then ((n.see 0).casE 8, (n.see 0).casN 8) else ([], n.see 0) from rfl)
  rcases hz with rfl | rfl
  · rw [if_neg (by omega)] at HD
    have HT := Lib.hid (tell_seen hl 0 h0 h1)
    have HH := Lib.hid (heavy_def n)
    have hkp := tl_pos (l := n.sl) (z := 0) h0
    have hkl := tl_le (l := n.sl) (z := 0) h0
    clear hl
    generalize tlN n.sl n.sn 0 = k at *
    have hkm : k ≤ 4000001 := by omega
    clear hkl h0 h1
    by_cases k1 : k = 1
    · subst k1
      cases her : n.erred
      · rw [her] at HH
        rw [if_neg (by rw [HH.out]; simp)] at HD
        go_enter Tryz.func60, Tryz.ntmps60
        go_wp2_with fail
        refine HT.out.mono ?_
        rintro e w1 ⟨rfl, h1, h2⟩
        have d5 := h1.c5
        have d24 := h1.c24
        rw [show (n.see 0).erred = false from her] at d5
        have HX := Lib.hid (And.intro h1 (NP.moves p h2))
        clear h1 h2
        go_wp2
        go_ret
        rw [HD.out]
        exact ⟨_, _, _, _, rfl, Eown.nil _ _, HX.out.1, HX.out.2⟩
      · cases htx : n.tx
        · rw [her, htx] at HH
          rw [if_pos (by rw [HH.out]; simp)] at HD
          go_enter Tryz.func60, Tryz.ntmps60
          go_wp2_with fail
          refine HT.out.mono ?_
          rintro e w1 ⟨rfl, h1, h2⟩
          have d5 := h1.c5
          have d24 := h1.c24
          rw [show (n.see 0).erred = true from her] at d5
          rw [show (n.see 0).tx = false from htx] at d24
          have HX := Lib.hid (And.intro h1 (NP.moves p h2))
          clear h1 h2
          go_wp2_with fail
          refine (cas_any HX.out.1 8).mono ?_
          rintro e w3 ⟨u, vo2, vl2, vq2, rfl, g1, g2, g3⟩
          have HE2 := Lib.hid (And.intro (g1.base HX.out.2.size) (And.intro g2 (HX.out.2.trans g3)))
          clear g1 g2 g3
          go_wp2
          go_ret
          rw [HD.out]
          exact ⟨u, _, _, _, rfl, HE2.out.1, HE2.out.2.1, HE2.out.2.2⟩
        · rw [her, htx] at HH
          rw [if_neg (by rw [HH.out]; simp)] at HD
          go_enter Tryz.func60, Tryz.ntmps60
          go_wp2_with fail
          refine HT.out.mono ?_
          rintro e w1 ⟨rfl, h1, h2⟩
          have d5 := h1.c5
          have d24 := h1.c24
          rw [show (n.see 0).erred = true from her] at d5
          rw [show (n.see 0).tx = true from htx] at d24
          have HX := Lib.hid (And.intro h1 (NP.moves p h2))
          clear h1 h2
          go_wp2
          go_ret
          rw [HD.out]
          exact ⟨_, _, _, _, rfl, Eown.nil _ _, HX.out.1, HX.out.2⟩
    · have kb : (k == 1) = false := by simpa using k1
      by_cases k8 : k % 8 = 0
      · rw [if_pos (by rw [HH.out, kb, k8]; simp)] at HD
        have kr : (Int.tmod k 8 == 0) = true := by rw [Int.tmod_eq_emod_of_nonneg (by omega), k8]; rfl
        go_enter Tryz.func60, Tryz.ntmps60
        go_wp2_with fail
        refine HT.out.mono ?_
        rintro e w1 ⟨rfl, h1, h2⟩
        have d5 := h1.c5
        have d24 := h1.c24
        have HX := Lib.hid (And.intro h1 (NP.moves p h2))
        clear h1 h2
        go_wp2_with fail
        refine (cas_any HX.out.1 8).mono ?_
        rintro e w3 ⟨u, vo2, vl2, vq2, rfl, g1, g2, g3⟩
        have HE2 := Lib.hid (And.intro (g1.base HX.out.2.size) (And.intro g2 (HX.out.2.trans g3)))
        clear g1 g2 g3
        go_wp2
        go_ret
        rw [HD.out]
        exact ⟨u, _, _, _, rfl, HE2.out.1, HE2.out.2.1, HE2.out.2.2⟩
      · have k8b : (k % 8 == 0) = false := by simpa using k8
        rw [if_neg (by rw [HH.out, kb, k8b]; simp)] at HD
        have kr : (Int.tmod k 8 == 0) = false := by rw [Int.tmod_eq_emod_of_nonneg (by omega), k8b]
        go_enter Tryz.func60, Tryz.ntmps60
        go_wp2_with fail
        refine HT.out.mono ?_
        rintro e w1 ⟨rfl, h1, h2⟩
        have d5 := h1.c5
        have d24 := h1.c24
        have HX := Lib.hid (And.intro h1 (NP.moves p h2))
        clear h1 h2
        go_wp2
        go_ret
        rw [HD.out]
        exact ⟨_, _, _, _, rfl, Eown.nil _ _, HX.out.1, HX.out.2⟩
  · rw [if_pos rfl] at HD
    have HL := Lib.hid hl
    clear hl h0 h1
    go_enter Tryz.func60, Tryz.ntmps60
    go_wp2_with fail
    refine (enter_nor HL.out 7).mono ?_
    rintro e w2 ⟨vo1, vl1, vq1, rfl, g1, g2⟩
    have HX := Lib.hid (And.intro g1 g2)
    clear g1 g2
    go_wp2_with fail
    refine (close_any HX.out.1 1 (Int.le_refl 0) (by show (0 : Int) ≤ 4000000; omega)).mono ?_
    rintro e w3 ⟨u, vo2, vl2, vq2, rfl, g1, g2, g3⟩
    have HE2 := Lib.hid (And.intro (g1.base HX.out.2.size) (And.intro g2 (HX.out.2.trans g3)))
    clear g1 g2 g3
    go_wp2
    go_ret
    rw [HD.out]
    exact ⟨u, _, _, _, rfl, HE2.out.1, HE2.out.2.1, HE2.out.2.2⟩

set_option maxHeartbeats 1600000 in
theorem susp_any {w : World} {B : Nat} {p : NP} {n : Nd} (hl : Lay w B p n) (hq : Okfs n.q) (z : Int) (hz : z = 0 ∨ z = 1) (h0 : 0 ≤ n.sn) (h1 : n.sn ≤ 4000000) :
    Calls Tryz.prog 63 #[.pointer (some ⟨p.g, 0, none⟩), .int .i64 z] w (Res B p w (n.susp z)) := by
  have HD := Lib.hid (show n.susp z = if z = 0 then ([], n.begin_ false) else ([], if tlN n.sl n.sn 1 = 8 then n.enter 1 else n.see 1) from rfl)
  rcases hz with rfl | rfl
  · rw [if_pos rfl] at HD
    have HL := Lib.hid hl
    have HQ := Lib.hid hq
    clear hl h0 h1 hq
    go_enter Tryz.func63, Tryz.ntmps63
    go_wp2_with fail
    refine (begin_any HL.out HQ.out false).mono ?_
    rintro e w3 ⟨vo2, vl2, vq2, rfl, g1, g2⟩
    have HY := Lib.hid (And.intro g1 g2)
    clear g1 g2
    go_wp2
    go_ret
    rw [HD.out]
    exact ⟨_, _, _, _, rfl, Eown.nil _ _, HY.out.1, HY.out.2⟩
  · rw [if_neg (by omega)] at HD
    have HT := Lib.hid (tell_seen hl 1 h0 h1)
    clear hl h0 h1 hq
    generalize tlN n.sl n.sn 1 = k at *
    by_cases hk : k = 8
    · rw [if_pos hk] at HD
      subst hk
      go_enter Tryz.func63, Tryz.ntmps63
      go_wp2_with fail
      refine HT.out.mono ?_
      rintro e w1 ⟨rfl, h1, h2⟩
      have HX := Lib.hid (And.intro h1 (NP.moves p h2))
      clear h1 h2
      go_wp2_with fail
      refine (enter_nor HX.out.1 1).mono ?_
      rintro e w3 ⟨vo2, vl2, vq2, rfl, g1, g2⟩
      have HY := Lib.hid (And.intro g1 (HX.out.2.trans g2))
      clear g1 g2
      go_wp2
      go_ret
      rw [HD.out]
      exact ⟨_, _, _, _, rfl, Eown.nil _ _, HY.out.1, HY.out.2⟩
    · rw [if_neg hk] at HD
      go_enter Tryz.func63, Tryz.ntmps63
      go_wp2_with fail
      refine HT.out.mono ?_
      rintro e w1 ⟨rfl, h1, h2⟩
      have HX := Lib.hid (And.intro h1 (NP.moves p h2))
      clear h1 h2
      go_wp2
      go_ret
      rw [HD.out]
      exact ⟨_, _, _, _, rfl, Eown.nil _ _, HX.out.1, HX.out.2⟩

set_option maxHeartbeats 3000000 in
theorem pause_any {w : World} {B : Nat} {p : NP} {n : Nd} (hl : Lay w B p n) (hq : Okfs n.q) (z : Int) (hz : z = 0 ∨ z = 1) (h0 : 0 ≤ n.sn) (h1 : n.sn ≤ 4000000) :
    Calls Tryz.prog 62 #[.pointer (some ⟨p.g, 0, none⟩), .int .i64 z] w (Res B p w (n.pause z)) := by
  have HD := Lib.hid (show n.pause z = if z = 0 then (if n.sn = 2 then ([], n.begin_ (!n.back)) else n.over)
    else if n.sn ≠ 2 then ([], n.see 1) else if n.back then ([], n.enter 9) else ([], n.enter 1) from rfl)
  have HL := Lib.hid hl
  have HQ := Lib.hid hq
  have HT := Lib.hid (fun (W : World) (h : Below w.heap.size w W) => tell_seen (hl.next h) 1 h0 h1)
  have HBK := Lib.hid (show n.back = (n.pas && n.tx) from rfl)
  have c2 := hl.c2
  clear hl hq h0 h1
  rcases hz with rfl | rfl
  · rw [if_pos rfl] at HD
    by_cases hk : n.sn = 2
    · rw [if_pos hk] at HD
      rw [hk] at c2
      cases hp : n.pas
      · rw [hp] at HBK
        rw [HBK.out] at HD
        go_enter Tryz.func62, Tryz.ntmps62
        go_wp2_with fail
        refine (passive_any HL.out).mono ?_
        rintro e w1 ⟨rfl, hb1⟩
        have HB := Lib.hid hb1
        have hl1 := HL.out.next hb1
        have d24 := hl1.c24
        have HX := Lib.hid (And.intro hl1 (Moves.of_below hb1 p.fp))
        clear hb1 hl1
        rw [hp]
        go_wp2_with fail
        refine (begin_any HX.out.1 HQ.out true).mono ?_
        rintro e w3 ⟨vo2, vl2, vq2, rfl, g1, g2⟩
        have HY := Lib.hid (And.intro g1 (HX.out.2.trans g2))
        clear g1 g2
        go_wp2
        go_ret
        rw [HD.out]
        exact ⟨_, _, _, _, rfl, Eown.nil _ _, HY.out.1, HY.out.2⟩
      · cases htx : n.tx
        · rw [hp, htx] at HBK
          rw [HBK.out] at HD
          go_enter Tryz.func62, Tryz.ntmps62
          go_wp2_with fail
          refine (passive_any HL.out).mono ?_
          rintro e w1 ⟨rfl, hb1⟩
          have HB := Lib.hid hb1
          have hl1 := HL.out.next hb1
          have d24 := hl1.c24
          have HX := Lib.hid (And.intro hl1 (Moves.of_below hb1 p.fp))
          clear hb1 hl1
          rw [hp]
          rw [htx] at d24
          go_wp2_with fail
          refine (begin_any HX.out.1 HQ.out true).mono ?_
          rintro e w3 ⟨vo2, vl2, vq2, rfl, g1, g2⟩
          have HY := Lib.hid (And.intro g1 (HX.out.2.trans g2))
          clear g1 g2
          go_wp2
          go_ret
          rw [HD.out]
          exact ⟨_, _, _, _, rfl, Eown.nil _ _, HY.out.1, HY.out.2⟩
        · rw [hp, htx] at HBK
          rw [HBK.out] at HD
          go_enter Tryz.func62, Tryz.ntmps62
          go_wp2_with fail
          refine (passive_any HL.out).mono ?_
          rintro e w1 ⟨rfl, hb1⟩
          have HB := Lib.hid hb1
          have hl1 := HL.out.next hb1
          have d24 := hl1.c24
          have HX := Lib.hid (And.intro hl1 (Moves.of_below hb1 p.fp))
          clear hb1 hl1
          rw [hp]
          rw [htx] at d24
          go_wp2_with fail
          refine (begin_any HX.out.1 HQ.out false).mono ?_
          rintro e w3 ⟨vo2, vl2, vq2, rfl, g1, g2⟩
          have HY := Lib.hid (And.intro g1 (HX.out.2.trans g2))
          clear g1 g2
          go_wp2
          go_ret
          rw [HD.out]
          exact ⟨_, _, _, _, rfl, Eown.nil _ _, HY.out.1, HY.out.2⟩
    · rw [if_neg hk] at HD
      have hkb : (n.sn == 2) = false := by simpa using hk
      cases hp : n.pas
      · skip
        go_enter Tryz.func62, Tryz.ntmps62
        go_wp2_with fail
        refine (passive_any HL.out).mono ?_
        rintro e w1 ⟨rfl, hb1⟩
        have HB := Lib.hid hb1
        have hl1 := HL.out.next hb1
        have d24 := hl1.c24
        have HX := Lib.hid (And.intro hl1 (Moves.of_below hb1 p.fp))
        clear hb1 hl1
        rw [hp]
        go_wp2_with fail
        refine (over_any HX.out.1).mono ?_
        rintro e w3 ⟨u, vo2, vl2, vq2, rfl, g1, g2, g3⟩
        have HE2 := Lib.hid (And.intro (g1.base HX.out.2.size) (And.intro g2 (HX.out.2.trans g3)))
        clear g1 g2 g3
        go_wp2
        go_ret
        rw [HD.out]
        exact ⟨u, _, _, _, rfl, HE2.out.1, HE2.out.2.1, HE2.out.2.2⟩
      · cases htx : n.tx
        · skip
          go_enter Tryz.func62, Tryz.ntmps62
          go_wp2_with fail
          refine (passive_any HL.out).mono ?_
          rintro e w1 ⟨rfl, hb1⟩
          have HB := Lib.hid hb1
          have hl1 := HL.out.next hb1
          have d24 := hl1.c24
          have HX := Lib.hid (And.intro hl1 (Moves.of_below hb1 p.fp))
          clear hb1 hl1
          rw [hp]
          rw [htx] at d24
          go_wp2_with fail
          refine (over_any HX.out.1).mono ?_
          rintro e w3 ⟨u, vo2, vl2, vq2, rfl, g1, g2, g3⟩
          have HE2 := Lib.hid (And.intro (g1.base HX.out.2.size) (And.intro g2 (HX.out.2.trans g3)))
          clear g1 g2 g3
          go_wp2
          go_ret
          rw [HD.out]
          exact ⟨u, _, _, _, rfl, HE2.out.1, HE2.out.2.1, HE2.out.2.2⟩
        · skip
          go_enter Tryz.func62, Tryz.ntmps62
          go_wp2_with fail
          refine (passive_any HL.out).mono ?_
          rintro e w1 ⟨rfl, hb1⟩
          have HB := Lib.hid hb1
          have hl1 := HL.out.next hb1
          have d24 := hl1.c24
          have HX := Lib.hid (And.intro hl1 (Moves.of_below hb1 p.fp))
          clear hb1 hl1
          rw [hp]
          rw [htx] at d24
          go_wp2_with fail
          refine (over_any HX.out.1).mono ?_
          rintro e w3 ⟨u, vo2, vl2, vq2, rfl, g1, g2, g3⟩
          have HE2 := Lib.hid (And.intro (g1.base HX.out.2.size) (And.intro g2 (HX.out.2.trans g3)))
          clear g1 g2 g3
          go_wp2
          go_ret
          rw [HD.out]
          exact ⟨u, _, _, _, rfl, HE2.out.1, HE2.out.2.1, HE2.out.2.2⟩
  · rw [if_neg (by omega)] at HD
    by_cases hk : n.sn = 2
    · rw [if_neg (fun h => h hk)] at HD
      rw [hk] at c2
      cases hp : n.pas
      · rw [hp] at HBK
        rw [HBK.out] at HD
        go_enter Tryz.func62, Tryz.ntmps62
        go_wp2_with fail
        refine (passive_any HL.out).mono ?_
        rintro e w1 ⟨rfl, hb1⟩
        have HB := Lib.hid hb1
        have hl1 := HL.out.next hb1
        have d24 := hl1.c24
        have HX := Lib.hid (And.intro hl1 (Moves.of_below hb1 p.fp))
        clear hb1 hl1
        rw [hp]
        rw [if_neg (by simp)] at HD
        go_wp2_with fail
        refine (enter_nor HX.out.1 1).mono ?_
        rintro e w3 ⟨vo2, vl2, vq2, rfl, g1, g2⟩
        have HY := Lib.hid (And.intro g1 (HX.out.2.trans g2))
        clear g1 g2
        go_wp2
        go_ret
        rw [HD.out]
        exact ⟨_, _, _, _, rfl, Eown.nil _ _, HY.out.1, HY.out.2⟩
      · cases htx : n.tx
        · rw [hp, htx] at HBK
          rw [HBK.out] at HD
          go_enter Tryz.func62, Tryz.ntmps62
          go_wp2_with fail
          refine (passive_any HL.out).mono ?_
          rintro e w1 ⟨rfl, hb1⟩
          have HB := Lib.hid hb1
          have hl1 := HL.out.next hb1
          have d24 := hl1.c24
          have HX := Lib.hid (And.intro hl1 (Moves.of_below hb1 p.fp))
          clear hb1 hl1
          rw [hp]
          rw [htx] at d24
          rw [if_neg (by simp)] at HD
          go_wp2_with fail
          refine (enter_nor HX.out.1 1).mono ?_
          rintro e w3 ⟨vo2, vl2, vq2, rfl, g1, g2⟩
          have HY := Lib.hid (And.intro g1 (HX.out.2.trans g2))
          clear g1 g2
          go_wp2
          go_ret
          rw [HD.out]
          exact ⟨_, _, _, _, rfl, Eown.nil _ _, HY.out.1, HY.out.2⟩
        · rw [hp, htx] at HBK
          rw [HBK.out] at HD
          go_enter Tryz.func62, Tryz.ntmps62
          go_wp2_with fail
          refine (passive_any HL.out).mono ?_
          rintro e w1 ⟨rfl, hb1⟩
          have HB := Lib.hid hb1
          have hl1 := HL.out.next hb1
          have d24 := hl1.c24
          have HX := Lib.hid (And.intro hl1 (Moves.of_below hb1 p.fp))
          clear hb1 hl1
          rw [hp]
          rw [htx] at d24
          rw [if_pos (show (true && true) = true from rfl)] at HD
          go_wp2_with fail
          refine (enter_nor HX.out.1 9).mono ?_
          rintro e w3 ⟨vo2, vl2, vq2, rfl, g1, g2⟩
          have HY := Lib.hid (And.intro g1 (HX.out.2.trans g2))
          clear g1 g2
          go_wp2
          go_ret
          rw [HD.out]
          exact ⟨_, _, _, _, rfl, Eown.nil _ _, HY.out.1, HY.out.2⟩
    · rw [if_pos hk] at HD
      have hkb : (n.sn == 2) = false := by simpa using hk
      cases hp : n.pas
      · skip
        go_enter Tryz.func62, Tryz.ntmps62
        go_wp2_with fail
        refine (passive_any HL.out).mono ?_
        rintro e w1 ⟨rfl, hb1⟩
        have HB := Lib.hid hb1
        have hl1 := HL.out.next hb1
        have d24 := hl1.c24
        have HX := Lib.hid (And.intro hl1 (Moves.of_below hb1 p.fp))
        clear hb1 hl1
        rw [hp]
        go_wp2_with fail
        refine (HT.out _ HB.out).mono ?_
        rintro e w3 ⟨rfl, g1, g2⟩
        have HY := Lib.hid (And.intro g1 (HX.out.2.trans (NP.moves p g2)))
        clear g1 g2
        go_wp2
        go_ret
        rw [HD.out]
        exact ⟨_, _, _, _, rfl, Eown.nil _ _, HY.out.1, HY.out.2⟩
      · cases htx : n.tx
        · skip
          go_enter Tryz.func62, Tryz.ntmps62
          go_wp2_with fail
          refine (passive_any HL.out).mono ?_
          rintro e w1 ⟨rfl, hb1⟩
          have HB := Lib.hid hb1
          have hl1 := HL.out.next hb1
          have d24 := hl1.c24
          have HX := Lib.hid (And.intro hl1 (Moves.of_below hb1 p.fp))
          clear hb1 hl1
          rw [hp]
          rw [htx] at d24
          go_wp2_with fail
          refine (HT.out _ HB.out).mono ?_
          rintro e w3 ⟨rfl, g1, g2⟩
          have HY := Lib.hid (And.intro g1 (HX.out.2.trans (NP.moves p g2)))
          clear g1 g2
          go_wp2
          go_ret
          rw [HD.out]
          exact ⟨_, _, _, _, rfl, Eown.nil _ _, HY.out.1, HY.out.2⟩
        · skip
          go_enter Tryz.func62, Tryz.ntmps62
          go_wp2_with fail
          refine (passive_any HL.out).mono ?_
          rintro e w1 ⟨rfl, hb1⟩
          have HB := Lib.hid hb1
          have hl1 := HL.out.next hb1
          have d24 := hl1.c24
          have HX := Lib.hid (And.intro hl1 (Moves.of_below hb1 p.fp))
          clear hb1 hl1
          rw [hp]
          rw [htx] at d24
          go_wp2_with fail
          refine (HT.out _ HB.out).mono ?_
          rintro e w3 ⟨rfl, g1, g2⟩
          have HY := Lib.hid (And.intro g1 (HX.out.2.trans (NP.moves p g2)))
          clear g1 g2
          go_wp2
          go_ret
          rw [HD.out]
          exact ⟨_, _, _, _, rfl, Eown.nil _ _, HY.out.1, HY.out.2⟩

set_option maxHeartbeats 2000000 in
theorem off_any {w : World} {B : Nat} {p : NP} {n : Nd} (hl : Lay w B p n) (z : Int) (h0 : 0 ≤ n.sn) (h1 : n.sn ≤ 4000000) (h2 : 0 ≤ n.rows) (h3 : n.rows ≤ 4000000) :
    Calls Tryz.prog 64 #[.pointer (some ⟨p.g, 0, none⟩), .int .i64 z] w (Res B p w (n.off z)) := by
  have HD := Lib.hid (show n.off z = if n.quiet z then (if n.rows + 1 < 128 then ([], n.row0) else ([ev 11], { n.enter 1 with ct := Ct.zero, tx := false }))
    else ([], n.see z) from rfl)
  have HT := Lib.hid (quiet_any hl z h0 h1)
  clear hl h0 h1
  cases hq : n.quiet z
  · rw [hq, if_neg (by simp)] at HD
    go_enter Tryz.func64, Tryz.ntmps64
    go_wp2_with fail
    refine HT.out.mono ?_
    rintro e w1 ⟨rfl, g1, g2⟩
    rw [hq]
    have HX := Lib.hid (And.intro g1 (NP.moves p g2))
    clear g1 g2
    go_wp2
    go_ret
    rw [HD.out]
    exact ⟨_, _, _, _, rfl, Eown.nil _ _, HX.out.1, HX.out.2⟩
  · rw [hq, if_pos rfl] at HD
    by_cases hr : n.rows + 1 < 128
    · rw [if_pos hr] at HD
      go_enter Tryz.func64, Tryz.ntmps64
      go_wp2_with fail
      refine HT.out.mono ?_
      rintro e w1 ⟨rfl, g1, g2⟩
      rw [hq]
      have d1 := g1.c1
      have d2 := g1.c2
      have d3 := g1.c3
      rw [show (n.see z).rows = n.rows from rfl] at d3
      have fz := fun i => g1.fz i
      obtain ⟨W, hW⟩ : ∃ W, ((w1.setCell ⟨p.g, 1, none⟩ (.int .i64 0)).setCell ⟨p.g, 2, none⟩ (.int .i64 0)).setCell ⟨p.g, 3, none⟩ (.int .i64 (n.rows + 1)) = W := ⟨_, rfl⟩
      have ho : Only p.g w1 W := by
        rw [← hW]
        exact (Only.refl _ _).set.set.set
      have hlw : Lay W B p n.row0 := by
        refine g1.turn ho ?_ rfl rfl rfl
        rw [← hW]
        exact cells_set (cells_set (cells_set g1.blk))
      have HX := Lib.hid (And.intro hlw ((NP.moves p g2).trans (NP.moves p ho)))
      have x3 := hlw.c3
      rw [show n.row0.rows = n.rows + 1 from rfl] at x3
      clear g1 g2 hlw ho
      go_wp2
      go_ret
      rw [HD.out]
      exact ⟨_, _, _, _, rfl, Eown.nil _ _, HX.out.1, HX.out.2⟩
    · rw [if_neg hr] at HD
      go_enter Tryz.func64, Tryz.ntmps64
      go_wp2_with fail
      refine HT.out.mono ?_
      rintro e w1 ⟨rfl, g1, g2⟩
      rw [hq]
      have d1 := g1.c1
      have d2 := g1.c2
      have d3 := g1.c3
      rw [show (n.see z).rows = n.rows from rfl] at d3
      have fz := fun i => g1.fz i
      obtain ⟨W, hW⟩ : ∃ W, ((w1.setCell ⟨p.g, 1, none⟩ (.int .i64 0)).setCell ⟨p.g, 2, none⟩ (.int .i64 0)).setCell ⟨p.g, 3, none⟩ (.int .i64 (n.rows + 1)) = W := ⟨_, rfl⟩
      have ho : Only p.g w1 W := by
        rw [← hW]
        exact (Only.refl _ _).set.set.set
      have hlw : Lay W B p n.row0 := by
        refine g1.turn ho ?_ rfl rfl rfl
        rw [← hW]
        exact cells_set (cells_set (cells_set g1.blk))
      have HX := Lib.hid (And.intro hlw ((NP.moves p g2).trans (NP.moves p ho)))
      have x3 := hlw.c3
      rw [show n.row0.rows = n.rows + 1 from rfl] at x3
      have d25 := HX.out.1.c25
      have d26 := HX.out.1.c26
      have d27 := HX.out.1.c27
      have d24 := HX.out.1.c24
      have fw := fun i => HX.out.1.fz i
      clear g1 g2 hlw ho
      go_wp2_with fail
      refine (back_any n.row0.ct _).mono ?_
      rintro e w3 ⟨rfl, hb3⟩
      have hl3 := HX.out.1.next hb3
      have e25 := hl3.c25
      have e26 := hl3.c26
      have e27 := hl3.c27
      have e24 := hl3.c24
      have fy := fun i => hl3.fz i
      have hp := hl3.put_ct Ct.zero rfl
      have hp2 := hp.1.put_tx false
      have HY := Lib.hid (And.intro hp2.1 (((HX.out.2.next hb3).trans (NP.moves p hp.2)).trans (NP.moves p hp2.2)))
      clear hb3 hl3 hp hp2 d25 d26 d27 d24 fw x3 hW d1 d2 d3 fz
      go_wp2_with fail
      refine (enter_nor HY.out.1 1).mono ?_
      rintro e w4 ⟨vo2, vl2, vq2, rfl, g1, g2⟩
      have HZ := Lib.hid (And.intro g1 (HY.out.2.trans g2))
      clear g1 g2
      go_wp2_with fail
      refine (evt_any 11 _).mono ?_
      rintro e w5 ⟨u, rfl, h5, h6⟩
      have HG := Lib.hid (And.intro h5 h6)
      clear h5 h6
      go_wp2
      go_ret
      rw [HD.out]
      exact ⟨u, _, _, _, rfl, HG.out.1.base HZ.out.2.size, HZ.out.1.next HG.out.2, HZ.out.2.next HG.out.2⟩
end Go.Proofs.YtenfcbmeokenaaaGreat

/- The contract of Step. -/
namespace Go.Proofs.YtenfcbmeokenaaaGreat
set_option maxRecDepth 20000
open Go.RowKit
set_option linter.unusedSimpArgs false

abbrev deedsA : Array Value := #[.func (.func 55) #[] #[], .func (.func 56) #[] #[], .func (.func 57) #[] #[], .func (.func 58) #[] #[], .func (.func 59) #[] #[], .func (.func 58) #[] #[], .func (.func 60) #[] #[], .func (.func 61) #[] #[], .func (.func 62) #[] #[], .func (.func 63) #[] #[], .func (.func 64) #[] #[]]
set_option maxHeartbeats 800000 in
theorem deeds_any (w : World) : Calls Tryz.prog 33 #[] w fun e w' => e = .returned (.agg deedsA) ∧ Below w.heap.size w w' := by
  have hmf : ∀ (fn : Fn) (first cap : Array Value) (w : World), (Instr.makeFunc fn first cap).run Tryz.prog w = .ok (.func fn first cap) w := fun _ _ _ _ => rfl
  go_enter Tryz.func33, Tryz.ntmps33
  go_wp2
  refine bodyPost_ret (v := .agg deedsA) (by rw [results_cellK rfl]; go_simp) rfl ⟨rfl, (Below.refl _ _).alloc (Nat.le_refl _) _⟩

theorem ix11 (k : Nat) (hk : k < 11) (v : Value) (e : deedsA[k]? = some v) (w : World) : (Instr.index 76 (.agg deedsA) (.int .i64 (k : Int))).run Tryz.prog w = .ok v w := by
  have h1 : (0 : Int) ≤ (k : Int) ∧ (k : Int) < 11 := by omega
  have e2 := e
  rw [← Array.getElem?_toList] at e2
  simp [Instr.index, run_underlying Tryz.underlying76, asIntOf, h1, part, isAgg, run_underlying Tryz.underlying75]
  rw [if_pos hk, e2]
  rfl
/-- A step tells events, and leaves a node. -/
def Sts (B : Nat) (p : NP) (w : World) (r : List Ev × Nd) (e : Ending) (w' : World) : Prop :=
  ∃ u vo vl vq, e = .returned (.tuple #[u, .int .i64 0]) ∧ Eown w' w.heap.size u r.1 ∧ Lay w' B ⟨p.g, p.gq, vo, vl, vq⟩ r.2 ∧ Moves p.fp (NP.fp ⟨p.g, p.gq, vo, vl, vq⟩) w w'
theorem Res.drew {B : Nat} {p : NP} {w : World} {r : List Ev × Nd} {e : Ending} {w' : World} (h : Res B p w.drew r e w') : Res B p w r e w' := by
  obtain ⟨u, vo, vl, vq, h1, h2, h3, h4⟩ := h
  exact ⟨u, vo, vl, vq, h1, h2, h3, h4.undrew⟩

theorem step_nil (z : Int) (w : World) : Calls Tryz.prog 17 #[.pointer none, .int .i64 z] w fun e w' => e = .returned (.tuple #[.slice none 0 0, .int .i64 2]) ∧ w = w' := by
  go_enter Tryz.func17, Tryz.ntmps17
  go_wp2
  go_ret2
  exact ⟨rfl, rfl⟩
theorem step_bad {w : World} {B : Nat} {p : NP} {n : Nd} (_hl : Lay w B p n) (z : Int) (h0 : z ≠ 0) (h1 : z ≠ 1) : Calls Tryz.prog 17 #[.pointer (some ⟨p.g, 0, none⟩), .int .i64 z] w fun e w' => e = .returned (.tuple #[.slice none 0 0, .int .i64 10]) ∧ w = w' := by
  clear _hl
  have b0 : (z != 0) = true := by simpa using h0
  have b1 : (z != 1) = true := by simpa using h1
  go_enter Tryz.func17, Tryz.ntmps17
  go_wp2
  go_ret2
  exact ⟨rfl, rfl⟩

set_option maxHeartbeats 1600000 in
set_option maxRecDepth 100000 in
theorem step_by {w : World} {B : Nat} {p : NP} {n : Nd} {F : FuncId} {r : List Ev × Nd} (hl : Lay w B p n) (z : Int) (hz : z = 0 ∨ z = 1)
    (hcall : ∀ (args : Array Value) (W : World), (callFunc F args).run Tryz.prog W = .ok (.enter F args) W)
    (hix : ∀ W : World, (Instr.index 76 (.agg deedsA) (.int .i64 n.mode)).run Tryz.prog W = .ok (.func (.func F) #[] #[]) W)
    (hf : ∀ W, Lay W B p n → Calls Tryz.prog F #[.pointer (some ⟨p.g, 0, none⟩), .int .i64 z] W (Res B p W r)) :
    Calls Tryz.prog 17 #[.pointer (some ⟨p.g, 0, none⟩), .int .i64 z] w (Sts B p w r) := by
  have HL := Lib.hid hl
  have HF := Lib.hid hf
  have c0 := hl.c0
  clear hl hf
  rcases hz with rfl | rfl
  · go_enter Tryz.func17, Tryz.ntmps17
    go_wp2_with fail
    refine wp_region_held_drew (S := fun _ => True) (by kernel_rfl) trivial (fun hHeld => ?_)
    refine takeH (i := 1) (v := .pointer (some ⟨p.g, 0, none⟩)) rfl (by kernel_rfl) (by kernel_rfl) (by kernel_rfl) (fun _ _ _ h => h) (Or.inl ⟨by rfl, fun w hSw => ?_⟩) hHeld ?_
    · (clear hSw; go_simp)
    simp only [Act.put, List.setIfInBounds_toArray, List.set_cons_zero, List.set_cons_succ]
    refine takeH (i := 2) (v := .pointer (some ⟨p.g, 0, none⟩)) rfl (by kernel_rfl) (by kernel_rfl) (by kernel_rfl) (fun _ _ _ h => h) (Or.inl ⟨by rfl, fun w hSw => ?_⟩) hHeld ?_
    · (clear hSw; go_simp)
    simp only [Act.put, List.setIfInBounds_toArray, List.set_cons_zero, List.set_cons_succ]
    refine takeH (i := 3) (v := .pointer (some ⟨p.g, 0, none⟩)) rfl (by kernel_rfl) (by kernel_rfl) (by kernel_rfl) (fun _ _ _ h => h) (Or.inl ⟨by rfl, fun w hSw => ?_⟩) hHeld ?_
    · (clear hSw; go_simp)
    simp only [Act.put, List.setIfInBounds_toArray, List.set_cons_zero, List.set_cons_succ]
    refine takeH (i := 4) (v := .pointer (some ⟨p.g, 0, none⟩)) rfl (by kernel_rfl) (by kernel_rfl) (by kernel_rfl) (fun _ _ _ h => h) (Or.inl ⟨by rfl, fun w hSw => ?_⟩) hHeld ?_
    · (clear hSw; go_simp)
    simp only [Act.put, List.setIfInBounds_toArray, List.set_cons_zero, List.set_cons_succ]
    refine takeH (i := 7) (v := .pointer (some ⟨p.g, 0, none⟩)) rfl (by kernel_rfl) (by kernel_rfl) (by kernel_rfl) (fun _ _ _ h => h) (Or.inl ⟨by rfl, fun w hSw => ?_⟩) hHeld ?_
    · (clear hSw; go_simp)
    simp only [Act.put, List.setIfInBounds_toArray, List.set_cons_zero, List.set_cons_succ]
    refine takeH (i := 8) (v := .int .i64 0) rfl (by kernel_rfl) (by kernel_rfl) (by kernel_rfl) (fun _ _ _ h => h) (Or.inl ⟨by rfl, fun w hSw => ?_⟩) hHeld ?_
    · (clear hSw; go_simp)
    simp only [Act.put, List.setIfInBounds_toArray, List.set_cons_zero, List.set_cons_succ]
    refine wpAnyH_ready (rs := [0, 5]) (by kernel_rfl) (by simp) ?_
    refine AllReadyH.cons rfl (fun K hK => ?_) (AllReadyH.cons rfl (fun K hK => ?_) AllReadyH.nil)
    · go_simp
      refine (deeds_any _).mono ?_
      rintro e w1 ⟨rfl, hb1⟩
      have HB := Lib.hid (undrew hb1)
      clear hb1
      have d0 := (HL.out.next HB.out).c0
      dsimp only
      refine hK.out _ _ trivial (fun hHeld => ?_)
      clear hK K
      try simp only [Act.put, List.setIfInBounds_toArray, List.set_cons_zero, List.set_cons_succ]
      refine wpAnyH_ready (rs := [5]) (by kernel_rfl) (by simp) ?_
      refine AllReadyH.cons rfl (fun K hK => ?_) AllReadyH.nil
      go_simp
      refine hK.out _ _ trivial (fun hHeld => ?_)
      clear hK K
      try simp only [Act.put, List.setIfInBounds_toArray, List.set_cons_zero, List.set_cons_succ]
      refine takeH (i := 6) (v := .func (.func F) #[] #[]) rfl (by kernel_rfl) (by kernel_rfl) (by kernel_rfl) (fun _ _ _ h => h) (Or.inl ⟨by rfl, fun w hSw => ?_⟩) hHeld ?_
      · (clear hSw; go_simp)
      simp only [Act.put, List.setIfInBounds_toArray, List.set_cons_zero, List.set_cons_succ]
      refine wpAnyH_ready (rs := [9]) (by kernel_rfl) (by simp) ?_
      refine AllReadyH.cons rfl (fun K hK => ?_) AllReadyH.nil
      go_simp
      refine (HF.out _ (HL.out.next HB.out)).mono ?_
      rintro e w5 ⟨u, vo, vl, vq, rfl, g1, g2, g3⟩
      have HG := Lib.hid (And.intro (g1.base HB.out.size) (And.intro g2 ((Moves.of_below HB.out p.fp).trans g3)))
      obtain ⟨A, cap, hu, hc⟩ := g1.len
      subst hu
      clear g1 g2 g3 hc
      dsimp only
      refine hK.out _ _ trivial (fun hHeld => ?_)
      clear hK K
      try simp only [Act.put, List.setIfInBounds_toArray, List.set_cons_zero, List.set_cons_succ]
      refine takeH (i := 10) (v := .slice A r.1.length cap) rfl (by kernel_rfl) (by kernel_rfl) (by kernel_rfl) (fun _ _ _ h => h) (Or.inl ⟨by rfl, fun w hSw => ?_⟩) hHeld ?_
      · (clear hSw; go_simp)
      simp only [Act.put, List.setIfInBounds_toArray, List.set_cons_zero, List.set_cons_succ]
      refine takeH (i := 11) (v := .int .i64 0) rfl (by kernel_rfl) (by kernel_rfl) (by kernel_rfl) (fun _ _ _ h => h) (Or.inl ⟨by rfl, fun w hSw => ?_⟩) hHeld ?_
      · (clear hSw; go_simp)
      simp only [Act.put, List.setIfInBounds_toArray, List.set_cons_zero, List.set_cons_succ]
      refine wpAnyH_done (by kernel_rfl) ?_ _
      clear hHeld
      go_wp2
      go_ret2
      exact ⟨_, _, _, _, rfl, HG.out.1, HG.out.2.1, HG.out.2.2⟩
    · have d0 : w.drew.cell? ⟨p.g, 0, none⟩ = some (.int .i64 n.mode) := c0
      go_simp
      refine hK.out _ _ trivial (fun hHeld => ?_)
      clear hK K
      try simp only [Act.put, List.setIfInBounds_toArray, List.set_cons_zero, List.set_cons_succ]
      refine wpAnyH_ready (rs := [0]) (by kernel_rfl) (by simp) ?_
      refine AllReadyH.cons rfl (fun K hK => ?_) AllReadyH.nil
      go_simp
      refine (deeds_any _).mono ?_
      rintro e w1 ⟨rfl, hb1⟩
      have HB := Lib.hid (undrew hb1)
      clear hb1
      have d0 := (HL.out.next HB.out).c0
      dsimp only
      refine hK.out _ _ trivial (fun hHeld => ?_)
      clear hK K
      try simp only [Act.put, List.setIfInBounds_toArray, List.set_cons_zero, List.set_cons_succ]
      refine takeH (i := 6) (v := .func (.func F) #[] #[]) rfl (by kernel_rfl) (by kernel_rfl) (by kernel_rfl) (fun _ _ _ h => h) (Or.inl ⟨by rfl, fun w hSw => ?_⟩) hHeld ?_
      · (clear hSw; go_simp)
      simp only [Act.put, List.setIfInBounds_toArray, List.set_cons_zero, List.set_cons_succ]
      refine wpAnyH_ready (rs := [9]) (by kernel_rfl) (by simp) ?_
      refine AllReadyH.cons rfl (fun K hK => ?_) AllReadyH.nil
      go_simp
      refine (HF.out _ (HL.out.next HB.out)).mono ?_
      rintro e w5 ⟨u, vo, vl, vq, rfl, g1, g2, g3⟩
      have HG := Lib.hid (And.intro (g1.base HB.out.size) (And.intro g2 ((Moves.of_below HB.out p.fp).trans g3)))
      obtain ⟨A, cap, hu, hc⟩ := g1.len
      subst hu
      clear g1 g2 g3 hc
      dsimp only
      refine hK.out _ _ trivial (fun hHeld => ?_)
      clear hK K
      try simp only [Act.put, List.setIfInBounds_toArray, List.set_cons_zero, List.set_cons_succ]
      refine takeH (i := 10) (v := .slice A r.1.length cap) rfl (by kernel_rfl) (by kernel_rfl) (by kernel_rfl) (fun _ _ _ h => h) (Or.inl ⟨by rfl, fun w hSw => ?_⟩) hHeld ?_
      · (clear hSw; go_simp)
      simp only [Act.put, List.setIfInBounds_toArray, List.set_cons_zero, List.set_cons_succ]
      refine takeH (i := 11) (v := .int .i64 0) rfl (by kernel_rfl) (by kernel_rfl) (by kernel_rfl) (fun _ _ _ h => h) (Or.inl ⟨by rfl, fun w hSw => ?_⟩) hHeld ?_
      · (clear hSw; go_simp)
      simp only [Act.put, List.setIfInBounds_toArray, List.set_cons_zero, List.set_cons_succ]
      refine wpAnyH_done (by kernel_rfl) ?_ _
      clear hHeld
      go_wp2
      go_ret2
      exact ⟨_, _, _, _, rfl, HG.out.1, HG.out.2.1, HG.out.2.2⟩
  · go_enter Tryz.func17, Tryz.ntmps17
    go_wp2_with fail
    refine wp_region_held_drew (S := fun _ => True) (by kernel_rfl) trivial (fun hHeld => ?_)
    refine takeH (i := 1) (v := .pointer (some ⟨p.g, 0, none⟩)) rfl (by kernel_rfl) (by kernel_rfl) (by kernel_rfl) (fun _ _ _ h => h) (Or.inl ⟨by rfl, fun w hSw => ?_⟩) hHeld ?_
    · (clear hSw; go_simp)
    simp only [Act.put, List.setIfInBounds_toArray, List.set_cons_zero, List.set_cons_succ]
    refine takeH (i := 2) (v := .pointer (some ⟨p.g, 0, none⟩)) rfl (by kernel_rfl) (by kernel_rfl) (by kernel_rfl) (fun _ _ _ h => h) (Or.inl ⟨by rfl, fun w hSw => ?_⟩) hHeld ?_
    · (clear hSw; go_simp)
    simp only [Act.put, List.setIfInBounds_toArray, List.set_cons_zero, List.set_cons_succ]
    refine takeH (i := 3) (v := .pointer (some ⟨p.g, 0, none⟩)) rfl (by kernel_rfl) (by kernel_rfl) (by kernel_rfl) (fun _ _ _ h => h) (Or.inl ⟨by rfl, fun w hSw => ?_⟩) hHeld ?_
    · (clear hSw; go_simp)
    simp only [Act.put, List.setIfInBounds_toArray, List.set_cons_zero, List.set_cons_succ]
    refine takeH (i := 4) (v := .pointer (some ⟨p.g, 0, none⟩)) rfl (by kernel_rfl) (by kernel_rfl) (by kernel_rfl) (fun _ _ _ h => h) (Or.inl ⟨by rfl, fun w hSw => ?_⟩) hHeld ?_
    · (clear hSw; go_simp)
    simp only [Act.put, List.setIfInBounds_toArray, List.set_cons_zero, List.set_cons_succ]
    refine takeH (i := 7) (v := .pointer (some ⟨p.g, 0, none⟩)) rfl (by kernel_rfl) (by kernel_rfl) (by kernel_rfl) (fun _ _ _ h => h) (Or.inl ⟨by rfl, fun w hSw => ?_⟩) hHeld ?_
    · (clear hSw; go_simp)
    simp only [Act.put, List.setIfInBounds_toArray, List.set_cons_zero, List.set_cons_succ]
    refine takeH (i := 8) (v := .int .i64 1) rfl (by kernel_rfl) (by kernel_rfl) (by kernel_rfl) (fun _ _ _ h => h) (Or.inl ⟨by rfl, fun w hSw => ?_⟩) hHeld ?_
    · (clear hSw; go_simp)
    simp only [Act.put, List.setIfInBounds_toArray, List.set_cons_zero, List.set_cons_succ]
    refine wpAnyH_ready (rs := [0, 5]) (by kernel_rfl) (by simp) ?_
    refine AllReadyH.cons rfl (fun K hK => ?_) (AllReadyH.cons rfl (fun K hK => ?_) AllReadyH.nil)
    · go_simp
      refine (deeds_any _).mono ?_
      rintro e w1 ⟨rfl, hb1⟩
      have HB := Lib.hid (undrew hb1)
      clear hb1
      have d0 := (HL.out.next HB.out).c0
      dsimp only
      refine hK.out _ _ trivial (fun hHeld => ?_)
      clear hK K
      try simp only [Act.put, List.setIfInBounds_toArray, List.set_cons_zero, List.set_cons_succ]
      refine wpAnyH_ready (rs := [5]) (by kernel_rfl) (by simp) ?_
      refine AllReadyH.cons rfl (fun K hK => ?_) AllReadyH.nil
      go_simp
      refine hK.out _ _ trivial (fun hHeld => ?_)
      clear hK K
      try simp only [Act.put, List.setIfInBounds_toArray, List.set_cons_zero, List.set_cons_succ]
      refine takeH (i := 6) (v := .func (.func F) #[] #[]) rfl (by kernel_rfl) (by kernel_rfl) (by kernel_rfl) (fun _ _ _ h => h) (Or.inl ⟨by rfl, fun w hSw => ?_⟩) hHeld ?_
      · (clear hSw; go_simp)
      simp only [Act.put, List.setIfInBounds_toArray, List.set_cons_zero, List.set_cons_succ]
      refine wpAnyH_ready (rs := [9]) (by kernel_rfl) (by simp) ?_
      refine AllReadyH.cons rfl (fun K hK => ?_) AllReadyH.nil
      go_simp
      refine (HF.out _ (HL.out.next HB.out)).mono ?_
      rintro e w5 ⟨u, vo, vl, vq, rfl, g1, g2, g3⟩
      have HG := Lib.hid (And.intro (g1.base HB.out.size) (And.intro g2 ((Moves.of_below HB.out p.fp).trans g3)))
      obtain ⟨A, cap, hu, hc⟩ := g1.len
      subst hu
      clear g1 g2 g3 hc
      dsimp only
      refine hK.out _ _ trivial (fun hHeld => ?_)
      clear hK K
      try simp only [Act.put, List.setIfInBounds_toArray, List.set_cons_zero, List.set_cons_succ]
      refine takeH (i := 10) (v := .slice A r.1.length cap) rfl (by kernel_rfl) (by kernel_rfl) (by kernel_rfl) (fun _ _ _ h => h) (Or.inl ⟨by rfl, fun w hSw => ?_⟩) hHeld ?_
      · (clear hSw; go_simp)
      simp only [Act.put, List.setIfInBounds_toArray, List.set_cons_zero, List.set_cons_succ]
      refine takeH (i := 11) (v := .int .i64 0) rfl (by kernel_rfl) (by kernel_rfl) (by kernel_rfl) (fun _ _ _ h => h) (Or.inl ⟨by rfl, fun w hSw => ?_⟩) hHeld ?_
      · (clear hSw; go_simp)
      simp only [Act.put, List.setIfInBounds_toArray, List.set_cons_zero, List.set_cons_succ]
      refine wpAnyH_done (by kernel_rfl) ?_ _
      clear hHeld
      go_wp2
      go_ret2
      exact ⟨_, _, _, _, rfl, HG.out.1, HG.out.2.1, HG.out.2.2⟩
    · have d0 : w.drew.cell? ⟨p.g, 0, none⟩ = some (.int .i64 n.mode) := c0
      go_simp
      refine hK.out _ _ trivial (fun hHeld => ?_)
      clear hK K
      try simp only [Act.put, List.setIfInBounds_toArray, List.set_cons_zero, List.set_cons_succ]
      refine wpAnyH_ready (rs := [0]) (by kernel_rfl) (by simp) ?_
      refine AllReadyH.cons rfl (fun K hK => ?_) AllReadyH.nil
      go_simp
      refine (deeds_any _).mono ?_
      rintro e w1 ⟨rfl, hb1⟩
      have HB := Lib.hid (undrew hb1)
      clear hb1
      have d0 := (HL.out.next HB.out).c0
      dsimp only
      refine hK.out _ _ trivial (fun hHeld => ?_)
      clear hK K
      try simp only [Act.put, List.setIfInBounds_toArray, List.set_cons_zero, List.set_cons_succ]
      refine takeH (i := 6) (v := .func (.func F) #[] #[]) rfl (by kernel_rfl) (by kernel_rfl) (by kernel_rfl) (fun _ _ _ h => h) (Or.inl ⟨by rfl, fun w hSw => ?_⟩) hHeld ?_
      · (clear hSw; go_simp)
      simp only [Act.put, List.setIfInBounds_toArray, List.set_cons_zero, List.set_cons_succ]
      refine wpAnyH_ready (rs := [9]) (by kernel_rfl) (by simp) ?_
      refine AllReadyH.cons rfl (fun K hK => ?_) AllReadyH.nil
      go_simp
      refine (HF.out _ (HL.out.next HB.out)).mono ?_
      rintro e w5 ⟨u, vo, vl, vq, rfl, g1, g2, g3⟩
      have HG := Lib.hid (And.intro (g1.base HB.out.size) (And.intro g2 ((Moves.of_below HB.out p.fp).trans g3)))
      obtain ⟨A, cap, hu, hc⟩ := g1.len
      subst hu
      clear g1 g2 g3 hc
      dsimp only
      refine hK.out _ _ trivial (fun hHeld => ?_)
      clear hK K
      try simp only [Act.put, List.setIfInBounds_toArray, List.set_cons_zero, List.set_cons_succ]
      refine takeH (i := 10) (v := .slice A r.1.length cap) rfl (by kernel_rfl) (by kernel_rfl) (by kernel_rfl) (fun _ _ _ h => h) (Or.inl ⟨by rfl, fun w hSw => ?_⟩) hHeld ?_
      · (clear hSw; go_simp)
      simp only [Act.put, List.setIfInBounds_toArray, List.set_cons_zero, List.set_cons_succ]
      refine takeH (i := 11) (v := .int .i64 0) rfl (by kernel_rfl) (by kernel_rfl) (by kernel_rfl) (fun _ _ _ h => h) (Or.inl ⟨by rfl, fun w hSw => ?_⟩) hHeld ?_
      · (clear hSw; go_simp)
      simp only [Act.put, List.setIfInBounds_toArray, List.set_cons_zero, List.set_cons_succ]
      refine wpAnyH_done (by kernel_rfl) ?_ _
      clear hHeld
      go_wp2
      go_ret2
      exact ⟨_, _, _, _, rfl, HG.out.1, HG.out.2.1, HG.out.2.2⟩

/-- A node may take a step. -/
structure Fit (n : Nd) : Prop where
  m0 : 0 ≤ n.mode
  m1 : n.mode ≤ 10
  s0 : 0 ≤ n.sn
  s1 : n.sn ≤ 4000000
  r0 : 0 ≤ n.rows
  r1 : n.rows ≤ 4000000
  q : Okfs n.q
  ql : n.q.length ≤ 16
  inf : n.mode = 2 → Inf n
theorem lvl_of {z : Int} (h : z = 0 ∨ z = 1) : lvl z = true := by rcases h with rfl | rfl <;> rfl
theorem step_any10 {w : World} {B : Nat} {p : NP} {n : Nd} (hl : Lay w B p n) (hn : Fit n) (z : Int) (hz : z = 0 ∨ z = 1) :
    Calls Tryz.prog 17 #[.pointer (some ⟨p.g, 0, none⟩), .int .i64 z] w (Sts B p w (n.stp z)) := by
  have h0 := hn.m0
  have h1 := hn.m1
  by_cases hm : n.mode = 0
  · rw [show n.stp z = n.join z by unfold Nd.stp; simp [hm]]
    exact step_by hl z hz (fun args W => by go_simp) (fun W => by rw [hm]; exact ix11 0 (by omega) _ rfl W) fun W h => join_any h z hn.s0 hn.s1
  by_cases hm : n.mode = 1
  · rw [show n.stp z = n.idle z by unfold Nd.stp; simp [hm]]
    exact step_by hl z hz (fun args W => by go_simp) (fun W => by rw [hm]; exact ix11 1 (by omega) _ rfl W) fun W h => idle_any h hm hn.q z
  by_cases hm : n.mode = 2
  · rw [show n.stp z = n.inF z by unfold Nd.stp; simp [hm]]
    exact step_by hl z hz (fun args W => by go_simp) (fun W => by rw [hm]; exact ix11 2 (by omega) _ rfl W) fun W h => inF_any h (hn.inf hm) z (lvl_of hz)
  by_cases hm : n.mode = 3
  · rw [show n.stp z = n.flag z by unfold Nd.stp; simp [hm]]
    exact step_by hl z hz (fun args W => by go_simp) (fun W => by rw [hm]; exact ix11 3 (by omega) _ rfl W) fun W h => flag_any h z hn.s0 hn.s1
  by_cases hm : n.mode = 4
  · rw [show n.stp z = n.pflag z by unfold Nd.stp; simp [hm]]
    exact step_by hl z hz (fun args W => by go_simp) (fun W => by rw [hm]; exact ix11 4 (by omega) _ rfl W) fun W h => pflag_any h z hn.s0 hn.s1
  by_cases hm : n.mode = 5
  · rw [show n.stp z = n.flag z by unfold Nd.stp; simp [hm]]
    exact step_by hl z hz (fun args W => by go_simp) (fun W => by rw [hm]; exact ix11 5 (by omega) _ rfl W) fun W h => flag_any h z hn.s0 hn.s1
  by_cases hm : n.mode = 6
  · rw [show n.stp z = n.wait z by unfold Nd.stp; simp [hm]]
    exact step_by hl z hz (fun args W => by go_simp) (fun W => by rw [hm]; exact ix11 6 (by omega) _ rfl W) fun W h => wait_any h z hz hn.s0 hn.s1
  by_cases hm : n.mode = 7
  · rw [show n.stp z = n.close z by unfold Nd.stp; simp [hm]]
    exact step_by hl z hz (fun args W => by go_simp) (fun W => by rw [hm]; exact ix11 7 (by omega) _ rfl W) fun W h => close_any h z hn.s0 hn.s1
  by_cases hm : n.mode = 8
  · rw [show n.stp z = n.pause z by unfold Nd.stp; simp [hm]]
    exact step_by hl z hz (fun args W => by go_simp) (fun W => by rw [hm]; exact ix11 8 (by omega) _ rfl W) fun W h => pause_any h hn.q z hz hn.s0 hn.s1
  by_cases hm : n.mode = 9
  · rw [show n.stp z = n.susp z by unfold Nd.stp; simp [hm]]
    exact step_by hl z hz (fun args W => by go_simp) (fun W => by rw [hm]; exact ix11 9 (by omega) _ rfl W) fun W h => susp_any h hn.q z hz hn.s0 hn.s1
  have hm : n.mode = 10 := by omega
  rw [show n.stp z = n.off z by unfold Nd.stp; simp [hm]]
  exact step_by hl z hz (fun args W => by go_simp) (fun W => by rw [hm]; exact ix11 10 (by omega) _ rfl W) fun W h => off_any h z hn.s0 hn.s1 hn.r0 hn.r1
end Go.Proofs.YtenfcbmeokenaaaGreat

/- The contracts of New, Put, Queue, Look. -/
namespace Go.Proofs.YtenfcbmeokenaaaGreat
set_option maxRecDepth 20000
open Go.RowKit
set_option linter.unusedSimpArgs false

theorem NP.fp_new {p : NP} {B : Nat} (h1 : B ≤ p.g) (h2 : B ≤ p.gq) (h3 : p.vo = .slice none 0 0) (h4 : p.vl = .slice none 0 0) (h5 : ∀ k, p.vq.ownBlock = some k → B ≤ k) : ∀ k, p.fp k → B ≤ k := by
  rintro k (rfl | rfl | h | h | h)
  · exact h1
  · exact h2
  · rw [h3] at h; cases h
  · rw [h4] at h; cases h
  · exact h5 k h

set_option maxHeartbeats 800000 in
theorem new_any (w : World) : Calls Tryz.prog 21 #[] w fun e w' => ∃ p, e = .returned (.pointer (some ⟨p.g, 0, none⟩)) ∧ Lay w' w.heap.size p Nd.new ∧ Below w.heap.size w w' := by
  go_enter Tryz.func21, Tryz.ntmps21
  go_wp2_with fail
  refine (new_ok 16 w (by omega) (by omega)).mono ?_
  rintro e w1 ⟨rfl, h1, h2⟩
  have HQ := Lib.hid h1
  have HB := Lib.hid h2
  clear h1 h2
  go_wp2
  go_ret
  have hbb : Below w1.heap.size w1 (w1.alloc (.cells (Nd.new.cells (.slice none 0 0) (.slice none 0 0) w.heap.size) 74)) := (Below.refl _ _).alloc (Nat.le_refl _) _
  refine ⟨⟨w1.heap.size, w.heap.size, .slice none 0 0, .slice none 0 0, .slice none 0 0⟩, rfl, ⟨heap_alloc_new w1 _, Own.nil _ _, Own.nil _ _, HQ.out.next hbb, .inl rfl, HB.out.size⟩, nxt HB.out hbb⟩

theorem nput_nil (f : Fr) (w : World) : Calls Tryz.prog 23 #[.pointer none, f.val] w fun e w' => e = .returned (.int .i64 2) ∧ Below w.heap.size w w' := by
  have HB := Lib.hid (boxed f w)
  go_enter Tryz.func23, Tryz.ntmps23
  go_wp2
  go_ret
  exact ⟨rfl, HB.out⟩
theorem nqueue_nil (w : World) : Calls Tryz.prog 19 #[.pointer none] w fun e w' => e = .returned (.slice none 0 0) ∧ w = w' := by
  go_enter Tryz.func19, Tryz.ntmps19
  go_wp2
  go_ret
  exact ⟨rfl, rfl⟩
set_option maxHeartbeats 400000 in
theorem queue_any {w : World} {B : Nat} {p : NP} {n : Nd} (hl : Lay w B p n) (hn : n.q.length ≤ 1000000) :
    Calls Tryz.prog 19 #[.pointer (some ⟨p.g, 0, none⟩)] w fun e w' => ∃ u, e = .returned u ∧ Fown w' w.heap.size u n.q ∧ Below w.heap.size w w' := by
  have HL := Lib.hid hl
  have c28 := hl.c28
  have HN := Lib.hid hn
  clear hl hn
  go_enter Tryz.func19, Tryz.ntmps19
  go_wp2_with fail
  refine (all_q HL.out.que HN.out).mono ?_
  rintro e w1 ⟨u, rfl, h1, h2⟩
  have HX := Lib.hid (And.intro h1 h2)
  clear h1 h2
  obtain ⟨A, c, rfl, -, -⟩ := HX.out.1.fl
  go_wp2
  go_ret
  exact ⟨_, rfl, HX.out.1, HX.out.2⟩

set_option maxHeartbeats 1600000 in
set_option maxRecDepth 100000 in
theorem nput_any {w : World} {B : Nat} {p : NP} {n : Nd} (hl : Lay w B p n) (f : Fr) (hok : Okq n.q) (hn : n.q.length ≤ 1000) :
    Calls Tryz.prog 23 #[.pointer (some ⟨p.g, 0, none⟩), f.val] w fun e w' => ∃ vq, e = .returned (.int .i64 (pE 16 f n.q)) ∧ Lay w' B { p with vq := vq } { n with q := pL 16 f n.q } ∧ Moves p.fp (NP.fp { p with vq := vq }) w w' := by
  have HL := Lib.hid hl
  have HN := Lib.hid hn
  have HOK := Lib.hid hok
  have HB := Lib.hid (boxed f w)
  have HL1 := Lib.hid (hl.next (boxed f w))
  clear hl hn hok
  go_enter Tryz.func23, Tryz.ntmps23
  go_wp2_with fail
  refine wp_region_held_drew (S := fun w' => w'.cell? ⟨p.g, 28, none⟩ = some (.pointer (some ⟨p.gq, 0, none⟩)) ∧ Fb w' w.heap.size f) (by kernel_rfl) ⟨HL1.out.c28, fb_new w f⟩ (fun hHeld => ?_)
  refine takeH (i := 0) (v := .pointer (some ⟨p.g, 0, none⟩)) rfl (by kernel_rfl) (by kernel_rfl) (by kernel_rfl) (fun _ _ _ h => h) (Or.inl ⟨by rfl, fun w hSw => ?_⟩) hHeld ?_
  · (clear hSw; go_simp)
  simp only [Act.put, List.setIfInBounds_toArray, List.set_cons_zero, List.set_cons_succ]
  refine takeH (i := 1) (v := .pointer (some ⟨p.g, 0, none⟩)) rfl (by kernel_rfl) (by kernel_rfl) (by kernel_rfl) (fun _ _ _ h => h) (Or.inl ⟨by rfl, fun w hSw => ?_⟩) hHeld ?_
  · (clear hSw; go_simp)
  simp only [Act.put, List.setIfInBounds_toArray, List.set_cons_zero, List.set_cons_succ]
  refine takeH (i := 2) (v := .pointer (some ⟨p.g, 28, none⟩)) rfl (by kernel_rfl) (by kernel_rfl) (by kernel_rfl) (fun _ _ _ h => h) (Or.inl ⟨by rfl, fun w hSw => ?_⟩) hHeld ?_
  · (clear hSw; go_simp)
  simp only [Act.put, List.setIfInBounds_toArray, List.set_cons_zero, List.set_cons_succ]
  refine takeH (i := 3) (v := .pointer (some ⟨p.gq, 0, none⟩)) rfl (by kernel_rfl) (by kernel_rfl) (by kernel_rfl) (fun _ _ _ h => h) (Or.inl ⟨by rfl, fun w hSw => ?_⟩) hHeld ?_
  · (have q1 := hSw.1; clear hSw; go_simp)
  simp only [Act.put, List.setIfInBounds_toArray, List.set_cons_zero, List.set_cons_succ]
  refine takeH (i := 4) (v := f.val) rfl (by kernel_rfl) (by kernel_rfl) (by kernel_rfl) (fun _ _ _ h => h) (Or.inl ⟨by rfl, fun w hSw => ?_⟩) hHeld ?_
  · (obtain ⟨q0, q1, q2, q3, q4, q5, q6, q7, q8, q9, q10, q11⟩ := hSw.2.bx; clear hSw; go_simp)
  simp only [Act.put, List.setIfInBounds_toArray, List.set_cons_zero, List.set_cons_succ]
  refine wpAnyH_ready (rs := [5]) (by kernel_rfl) (by simp) ?_
  refine AllReadyH.cons rfl (fun K hK => ?_) AllReadyH.nil
  go_simp
  refine (put_q (f := f) HL1.out.drew.que HOK.out HN.out HL1.out.size).mono ?_
  rintro e w5 ⟨u, rfl, g1, g2⟩
  have ht := HL1.out.drew.turnq g1 g2
  have hfb5 := ht.2.blk (show (w.alloc (.cells f.cells 32)).drew.heap[w.heap.size]? = _ from fb_new w f) (fb_apart HL.out)
  have HT := Lib.hid (And.intro ht.1 (((Moves.of_below HB.out p.fp).drew).trans ht.2))
  have HFD := Lib.hid (show Fb w5 w.heap.size f from hfb5.1)
  clear hHeld g1 g2 ht hfb5
  dsimp only
  refine hK.out _ _ ⟨HT.out.1.c28, HFD.out⟩ (fun hHeld => ?_)
  clear hK K
  try simp only [Act.put, List.setIfInBounds_toArray, List.set_cons_zero, List.set_cons_succ]
  refine takeH (i := 6) (v := .int .i64 (pE 16 f n.q)) rfl (by kernel_rfl) (by kernel_rfl) (by kernel_rfl) (fun _ _ _ h => h) (Or.inl ⟨by rfl, fun w hSw => ?_⟩) hHeld ?_
  · (clear hSw; go_simp)
  simp only [Act.put, List.setIfInBounds_toArray, List.set_cons_zero, List.set_cons_succ]
  refine wpAnyH_done (by kernel_rfl) ?_ _
  clear hHeld
  go_wp2
  go_ret
  exact ⟨_, rfl, HT.out.1, HT.out.2⟩

/-- What one sees of a node. -/
abbrev Nd.lookV (n : Nd) : Value := .agg #[.int .i64 n.mode, .bool n.tx, .int .i64 n.ct.t, .int .i64 n.ct.r, .bool n.ct.o, .int .i64 (n.q.length : Nat)]
abbrev look0 : Value := .agg #[.int .i64 0, .bool false, .int .i64 0, .int .i64 0, .bool false, .int .i64 0]
theorem lookF0 (m : Int) (x : Bool) (t r : Int) (o : Bool) (l : Int) (w : World) : (Instr.field 43 (.agg #[.int .i64 m, .bool x, .int .i64 t, .int .i64 r, .bool o, .int .i64 l]) 0).run Tryz.prog w = .ok (.int .i64 m) w := by kernel_rfl
theorem lookF1 (m : Int) (x : Bool) (t r : Int) (o : Bool) (l : Int) (w : World) : (Instr.field 43 (.agg #[.int .i64 m, .bool x, .int .i64 t, .int .i64 r, .bool o, .int .i64 l]) 1).run Tryz.prog w = .ok (.bool x) w := by kernel_rfl
theorem lookF2 (m : Int) (x : Bool) (t r : Int) (o : Bool) (l : Int) (w : World) : (Instr.field 43 (.agg #[.int .i64 m, .bool x, .int .i64 t, .int .i64 r, .bool o, .int .i64 l]) 2).run Tryz.prog w = .ok (.agg #[.int .i64 t, .int .i64 r, .bool o]) w := by kernel_rfl
theorem lookF3 (m : Int) (x : Bool) (t r : Int) (o : Bool) (l : Int) (w : World) : (Instr.field 43 (.agg #[.int .i64 m, .bool x, .int .i64 t, .int .i64 r, .bool o, .int .i64 l]) 3).run Tryz.prog w = .ok (.int .i64 l) w := by kernel_rfl
set_option maxHeartbeats 800000 in
theorem look_nil (w : World) : Calls Tryz.prog 18 #[.pointer none] w fun e w' => e = .returned look0 ∧ Below w.heap.size w w' := by
  go_enter Tryz.func18, Tryz.ntmps18
  go_wp2
  refine bodyPost_ret (v := look0) (by rw [results_cellK rfl]; go_simp) rfl ⟨rfl, (Below.refl _ _).alloc (Nat.le_refl _) _⟩

set_option maxHeartbeats 1600000 in
set_option maxRecDepth 100000 in
theorem look_any {w : World} {B : Nat} {p : NP} {n : Nd} (hl : Lay w B p n) :
    Calls Tryz.prog 18 #[.pointer (some ⟨p.g, 0, none⟩)] w fun e w' => e = .returned n.lookV ∧ Below w.heap.size w w' := by
  have HL := Lib.hid hl
  have hb : Below w.heap.size w (w.alloc (.cells #[.int .i64 0, .bool false, .int .i64 0, .int .i64 0, .bool false, .int .i64 0] 43)) := (Below.refl _ _).alloc (Nat.le_refl _) _
  have HB := Lib.hid hb
  have HL1 := Lib.hid (hl.next hb)
  have hglt := hl.lt
  clear hl hb
  go_enter Tryz.func18, Tryz.ntmps18
  go_wp2_with fail
  refine wp_region_held_drew (S := fun w' => w'.heap[p.g]? = some (.cells (n.cells p.vo p.vl p.gq) 74)) (by kernel_rfl) HL1.out.blk (fun hHeld => ?_)
  refine takeH (i := 0) (v := .pointer (some ⟨p.g, 0, none⟩)) rfl (by kernel_rfl) (by kernel_rfl) (by kernel_rfl) (fun _ _ _ h => h) (Or.inl ⟨by rfl, fun w hSw => ?_⟩) hHeld ?_
  · (clear hSw; go_simp)
  simp only [Act.put, List.setIfInBounds_toArray, List.set_cons_zero, List.set_cons_succ]
  refine takeH (i := 1) (v := .pointer (some ⟨p.g, 0, none⟩)) rfl (by kernel_rfl) (by kernel_rfl) (by kernel_rfl) (fun _ _ _ h => h) (Or.inl ⟨by rfl, fun w hSw => ?_⟩) hHeld ?_
  · (clear hSw; go_simp)
  simp only [Act.put, List.setIfInBounds_toArray, List.set_cons_zero, List.set_cons_succ]
  refine takeH (i := 2) (v := .pointer (some ⟨p.g, 0, none⟩)) rfl (by kernel_rfl) (by kernel_rfl) (by kernel_rfl) (fun _ _ _ h => h) (Or.inl ⟨by rfl, fun w hSw => ?_⟩) hHeld ?_
  · (clear hSw; go_simp)
  simp only [Act.put, List.setIfInBounds_toArray, List.set_cons_zero, List.set_cons_succ]
  refine takeH (i := 3) (v := .pointer (some ⟨p.g, 0, none⟩)) rfl (by kernel_rfl) (by kernel_rfl) (by kernel_rfl) (fun _ _ _ h => h) (Or.inl ⟨by rfl, fun w hSw => ?_⟩) hHeld ?_
  · (clear hSw; go_simp)
  simp only [Act.put, List.setIfInBounds_toArray, List.set_cons_zero, List.set_cons_succ]
  refine takeH (i := 4) (v := .int .i64 n.mode) rfl (by kernel_rfl) (by kernel_rfl) (by kernel_rfl) (fun _ _ _ h => h) (Or.inl ⟨by rfl, fun w hSw => ?_⟩) hHeld ?_
  · (have q1 : w.cell? ⟨p.g, 0, none⟩ = some (.int .i64 n.mode) := cell_of_row w p.g 0 _ _ (0, 0) hSw; clear hSw; go_simp)
  simp only [Act.put, List.setIfInBounds_toArray, List.set_cons_zero, List.set_cons_succ]
  refine takeH (i := 5) (v := .pointer (some ⟨p.g, 0, none⟩)) rfl (by kernel_rfl) (by kernel_rfl) (by kernel_rfl) (fun _ _ _ h => h) (Or.inl ⟨by rfl, fun w hSw => ?_⟩) hHeld ?_
  · (clear hSw; go_simp)
  simp only [Act.put, List.setIfInBounds_toArray, List.set_cons_zero, List.set_cons_succ]
  refine takeH (i := 6) (v := .pointer (some ⟨p.g, 0, none⟩)) rfl (by kernel_rfl) (by kernel_rfl) (by kernel_rfl) (fun _ _ _ h => h) (Or.inl ⟨by rfl, fun w hSw => ?_⟩) hHeld ?_
  · (clear hSw; go_simp)
  simp only [Act.put, List.setIfInBounds_toArray, List.set_cons_zero, List.set_cons_succ]
  refine takeH (i := 7) (v := .pointer (some ⟨p.g, 24, none⟩)) rfl (by kernel_rfl) (by kernel_rfl) (by kernel_rfl) (fun _ _ _ h => h) (Or.inl ⟨by rfl, fun w hSw => ?_⟩) hHeld ?_
  · (clear hSw; go_simp)
  simp only [Act.put, List.setIfInBounds_toArray, List.set_cons_zero, List.set_cons_succ]
  refine takeH (i := 8) (v := .bool n.tx) rfl (by kernel_rfl) (by kernel_rfl) (by kernel_rfl) (fun _ _ _ h => h) (Or.inl ⟨by rfl, fun w hSw => ?_⟩) hHeld ?_
  · (have q1 : w.cell? ⟨p.g, 24, none⟩ = some (.bool n.tx) := cell_of_row w p.g 24 _ _ (0, 0) hSw; clear hSw; go_simp)
  simp only [Act.put, List.setIfInBounds_toArray, List.set_cons_zero, List.set_cons_succ]
  refine takeH (i := 9) (v := .pointer (some ⟨p.g, 0, none⟩)) rfl (by kernel_rfl) (by kernel_rfl) (by kernel_rfl) (fun _ _ _ h => h) (Or.inl ⟨by rfl, fun w hSw => ?_⟩) hHeld ?_
  · (clear hSw; go_simp)
  simp only [Act.put, List.setIfInBounds_toArray, List.set_cons_zero, List.set_cons_succ]
  refine takeH (i := 10) (v := .pointer (some ⟨p.g, 0, none⟩)) rfl (by kernel_rfl) (by kernel_rfl) (by kernel_rfl) (fun _ _ _ h => h) (Or.inl ⟨by rfl, fun w hSw => ?_⟩) hHeld ?_
  · (clear hSw; go_simp)
  simp only [Act.put, List.setIfInBounds_toArray, List.set_cons_zero, List.set_cons_succ]
  refine takeH (i := 11) (v := .pointer (some ⟨p.g, 25, none⟩)) rfl (by kernel_rfl) (by kernel_rfl) (by kernel_rfl) (fun _ _ _ h => h) (Or.inl ⟨by rfl, fun w hSw => ?_⟩) hHeld ?_
  · (clear hSw; go_simp)
  simp only [Act.put, List.setIfInBounds_toArray, List.set_cons_zero, List.set_cons_succ]
  refine takeH (i := 12) (v := n.ct.val) rfl (by kernel_rfl) (by kernel_rfl) (by kernel_rfl) (fun _ _ _ h => h) (Or.inl ⟨by rfl, fun w hSw => ?_⟩) hHeld ?_
  · (have q1 : w.cell? ⟨p.g, 25, none⟩ = some (.int .i64 n.ct.t) := cell_of_row w p.g 25 _ _ (0, 0) hSw; have q2 : w.cell? ⟨p.g, 26, none⟩ = some (.int .i64 n.ct.r) := cell_of_row w p.g 26 _ _ (0, 0) hSw; have q3 : w.cell? ⟨p.g, 27, none⟩ = some (.bool n.ct.o) := cell_of_row w p.g 27 _ _ (0, 0) hSw; clear hSw; go_simp)
  simp only [Act.put, List.setIfInBounds_toArray, List.set_cons_zero, List.set_cons_succ]
  refine takeH (i := 13) (v := .pointer (some ⟨p.g, 0, none⟩)) rfl (by kernel_rfl) (by kernel_rfl) (by kernel_rfl) (fun _ _ _ h => h) (Or.inl ⟨by rfl, fun w hSw => ?_⟩) hHeld ?_
  · (clear hSw; go_simp)
  simp only [Act.put, List.setIfInBounds_toArray, List.set_cons_zero, List.set_cons_succ]
  refine takeH (i := 14) (v := .pointer (some ⟨p.g, 0, none⟩)) rfl (by kernel_rfl) (by kernel_rfl) (by kernel_rfl) (fun _ _ _ h => h) (Or.inl ⟨by rfl, fun w hSw => ?_⟩) hHeld ?_
  · (clear hSw; go_simp)
  simp only [Act.put, List.setIfInBounds_toArray, List.set_cons_zero, List.set_cons_succ]
  refine takeH (i := 15) (v := .pointer (some ⟨p.g, 28, none⟩)) rfl (by kernel_rfl) (by kernel_rfl) (by kernel_rfl) (fun _ _ _ h => h) (Or.inl ⟨by rfl, fun w hSw => ?_⟩) hHeld ?_
  · (clear hSw; go_simp)
  simp only [Act.put, List.setIfInBounds_toArray, List.set_cons_zero, List.set_cons_succ]
  refine takeH (i := 16) (v := .pointer (some ⟨p.gq, 0, none⟩)) rfl (by kernel_rfl) (by kernel_rfl) (by kernel_rfl) (fun _ _ _ h => h) (Or.inl ⟨by rfl, fun w hSw => ?_⟩) hHeld ?_
  · (have q1 : w.cell? ⟨p.g, 28, none⟩ = some (.pointer (some ⟨p.gq, 0, none⟩)) := cell_of_row w p.g 28 _ _ (0, 0) hSw; clear hSw; go_simp)
  simp only [Act.put, List.setIfInBounds_toArray, List.set_cons_zero, List.set_cons_succ]
  refine wpAnyH_ready (rs := [17]) (by kernel_rfl) (by simp) ?_
  refine AllReadyH.cons rfl (fun K hK => ?_) AllReadyH.nil
  go_simp
  refine (len_q HL1.out.drew.que).mono ?_
  rintro e w5 ⟨rfl, rfl⟩
  dsimp only
  refine hK.out _ _ hHeld (fun hHeld => ?_)
  clear hK K
  try simp only [Act.put, List.setIfInBounds_toArray, List.set_cons_zero, List.set_cons_succ]
  refine takeH (i := 18) (v := n.lookV) rfl (by kernel_rfl) (by kernel_rfl) (by kernel_rfl) (fun _ _ _ h => h) (Or.inl ⟨by rfl, fun w hSw => ?_⟩) hHeld ?_
  · (clear hSw; go_simp)
  simp only [Act.put, List.setIfInBounds_toArray, List.set_cons_zero, List.set_cons_succ]
  obtain ⟨W, hW⟩ : ∃ W, (w.alloc (.cells #[.int .i64 0, .bool false, .int .i64 0, .int .i64 0, .bool false, .int .i64 0] 43)).drew = W := ⟨_, rfl⟩
  have hwl : W.heap[w.heap.size]? = some (.cells #[.int .i64 0, .bool false, .int .i64 0, .int .i64 0, .bool false, .int .i64 0] 43) := by rw [← hW]; exact heap_alloc_new w _
  have HBW := Lib.hid (show Below w.heap.size w W by rw [← hW]; exact below_drew HB.out)
  rw [hW] at hHeld ⊢
  clear hW
  have l0 := cell_of_row W w.heap.size 0 _ _ (0, 0) hwl
  have l1 := cell_of_row W w.heap.size 1 _ _ (0, 0) hwl
  have l2 := cell_of_row W w.heap.size 2 _ _ (0, 0) hwl
  have l3 := cell_of_row W w.heap.size 3 _ _ (0, 0) hwl
  have l4 := cell_of_row W w.heap.size 4 _ _ (0, 0) hwl
  have l5 := cell_of_row W w.heap.size 5 _ _ (0, 0) hwl
  have fz := fun i => typed_frozen hwl i
  have HH := Lib.hid hHeld
  have hbs : ∀ (x0 x1 x2 x3 x4 x5 : Value), Only w.heap.size W ((((((W.setCell ⟨w.heap.size, 0, none⟩ x0).setCell ⟨w.heap.size, 1, none⟩ x1).setCell ⟨w.heap.size, 2, none⟩ x2).setCell ⟨w.heap.size, 3, none⟩ x3).setCell ⟨w.heap.size, 4, none⟩ x4).setCell ⟨w.heap.size, 5, none⟩ x5) := fun _ _ _ _ _ _ => (Only.refl _ _).set.set.set.set.set.set
  have HO := Lib.hid hbs
  clear hHeld hbs hwl
  refine wpAnyH_ready (rs := [19]) (by kernel_rfl) (by simp) ?_
  refine AllReadyH.cons rfl (fun K hK => ?_) AllReadyH.nil
  go_simp
  refine hK.out _ _ (((HO.out _ _ _ _ _ _).block _ (by omega)).trans HH.out) (fun hHeld => ?_)
  clear hK K
  try simp only [Act.put, List.setIfInBounds_toArray, List.set_cons_zero, List.set_cons_succ]
  refine wpAnyH_done (by kernel_rfl) ?_ _
  clear hHeld
  go_wp2
  refine bodyPost_ret (v := n.lookV) (by rw [results_cellK rfl]; go_simp) rfl ⟨rfl, ?_⟩
  have ho := HO.out (.int .i64 n.mode) (.bool n.tx) (.int .i64 n.ct.t) (.int .i64 n.ct.r) (.bool n.ct.o) (.int .i64 (n.q.length : Nat))
  exact ⟨ho.os.trans HBW.out.os, ho.tape.trans HBW.out.tape, ho.output.trans HBW.out.output, Nat.le_trans HBW.out.size (Nat.le_of_eq ho.size.symm), fun k hk => (ho.block k (by omega)).trans (HBW.out.block k hk)⟩
end Go.Proofs.YtenfcbmeokenaaaGreat

/- A frame's way over the bus: which of its own levels there are behind so many levels. -/
namespace Go.Proofs.YtenfcbmeokenaaaGreat
set_option maxRecDepth 20000

def slt (b : Bool) : Int := if b then 0 else 1
theorem enc_def (f : Fr) (b : Bool) : enc f b = stf (raw f) ++ ten (slt b) := by cases b <;> rfl
/-- How many levels a frame has on the bus up to its sum. -/
def sl_ (f : Fr) : Nat := (stf (raw f)).length
theorem ten_len (s : Int) : (ten s).length = 10 := rfl
theorem enc_ln (f : Fr) (b : Bool) : (enc f b).length = sl_ f + 10 := by rw [enc_def, List.length_append]; rfl

/-- Behind k levels of the frame's there are its own levels o. -/
def Way (f : Fr) (b : Bool) (k : Nat) (o : List Int) : Prop :=
  1 ≤ k ∧ ((k ≤ sl_ f ∧ ∃ j, 1 ≤ j ∧ j ≤ (raw f).length ∧ o = (raw f).take j ∧ (stf o = (enc f b).take k ∨ alk ((enc f b).take k) = 5 ∧ stf o = (enc f b).take k ++ [1 - lst ((enc f b).take k)])) ∨
    (sl_ f < k ∧ k ≤ sl_ f + 10 ∧ o = raw f ++ (ten (slt b)).take (k - sl_ f)))

theorem gd_left {a b : List Int} {n : Nat} (h : n < a.length) : (a ++ b).getD n 0 = a.getD n 0 := by simp [List.getD, List.getElem?_append_left h]
theorem gd_right {a b : List Int} {n : Nat} (h : a.length ≤ n) : (a ++ b).getD n 0 = b.getD (n - a.length) 0 := by simp [List.getD, List.getElem?_append_right h]
theorem gd_mem {a : List Int} {n : Nat} (h : n < a.length) : a.getD n 0 ∈ a := by
  have e : a.getD n 0 = a[n] := by simp [h]
  rw [e]; exact List.getElem_mem h
theorem take_pre {a r : List Int} {k : Nat} (h : k ≤ a.length) : (a ++ r).take k = a.take k := by rw [List.take_append_of_le_length h]
section
variable {f : Fr} (hm : f.may = true)
include hm
theorem raw_low {j : Nat} (h : j < (raw f).length) : kd ((raw f).take j) ≤ 4 := (raw_upto hm).low j h
theorem raw_le5 (j : Nat) : kd ((raw f).take j) ≤ 5 := by
  rcases Nat.lt_or_ge j (raw f).length with h1 | h1
  · have := raw_low hm h1; omega
  · rw [List.take_of_length_le h1, kd_raw hm]; exact Nat.le_refl _
omit hm in
theorem stf_pre (a b : List Int) : (stf a).length ≤ (stf (a ++ b)).length ∧ (stf (a ++ b)).take (stf a).length = stf a := by
  obtain ⟨r, hr⟩ := stf_more a b
  rw [hr]
  exact ⟨by rw [List.length_append]; omega, List.take_left⟩
omit hm in
theorem raw_split {j : Nat} : (raw f) = (raw f).take j ++ (raw f).drop j := (List.take_append_drop _ _).symm
omit hm in
theorem stf_take (j : Nat) (b : Bool) : (stf ((raw f).take j)).length ≤ sl_ f ∧ (enc f b).take (stf ((raw f).take j)).length = stf ((raw f).take j) := by
  have h := stf_pre ((raw f).take j) ((raw f).drop j)
  rw [List.take_append_drop] at h
  refine ⟨h.1, ?_⟩
  rw [enc_def, take_pre h.1, h.2]
omit hm in
theorem raw_pos : 1 ≤ (raw f).length := by rw [raw_len, bts_len]; omega
theorem raw_head : (raw f).take 1 = [0] := by
  have h0 := (raw_upto hm).zero
  have h1 := raw_pos (f := f)
  have hl := (raw_upto hm).lev
  cases hr : raw f with
  | nil => rw [hr] at h1; simp at h1
  | cons a l =>
    rw [hr] at h0 hl
    have ha := hl a (by simp)
    rcases lvl_01 ha with e | e
    · rw [e]; rfl
    · subst e; exact absurd h0 (show ¬ one (1 :: l) 0 = false by unfold one; simp)
theorem way_one (b : Bool) : Way f b 1 [0] := by
  have h1 := raw_head hm
  have h2 := stf_take (f := f) 1 b
  rw [h1] at h2
  have e : stf [0] = [0] := rfl
  rw [e] at h2
  exact ⟨Nat.le_refl _, .inl ⟨h2.1, 1, Nat.le_refl _, raw_pos, h1.symm, .inl (by rw [e]; exact h2.2.symm)⟩⟩
theorem way_enc0 (b : Bool) : (enc f b).take 1 = [0] := by
  have h2 := stf_take (f := f) 1 b
  rw [raw_head hm] at h2
  exact h2.2
omit hm in
theorem take_get {l : List Int} {k : Nat} (h : k < l.length) : l.take (k + 1) = l.take k ++ [l.getD k 0] := by
  rw [List.take_add_one, List.getElem?_eq_getElem h]
  simp [h]
omit hm in
theorem get_of {l a : List Int} {k : Nat} {x : Int} (h : l.take (k + 1) = a ++ [x]) (ha : a.length = k) (hk : k < l.length) : l.getD k 0 = x := by
  rw [take_get hk] at h
  have := List.append_inj_right h (by rw [List.length_take]; omega)
  simpa using this
/-- One level more. -/
theorem way_step {b : Bool} {k : Nat} {o : List Int} (h : Way f b k o) (hk : k < sl_ f + 10) :
    lvl ((enc f b).getD k 0) = true ∧
    ((kd o ≤ 5 ∧ alk ((enc f b).take k) = 5 ∧ (enc f b).getD k 0 = 1 - lst ((enc f b).take k) ∧ Way f b (k + 1) o ∧ k < sl_ f) ∨
     (¬ (kd o ≤ 5 ∧ alk ((enc f b).take k) = 5) ∧ o.length < (raw f).length + 10 ∧ (enc f b).getD k 0 = (raw f ++ ten (slt b)).getD o.length 0 ∧ Way f b (k + 1) (o ++ [(enc f b).getD k 0]) ∧
      ((k < sl_ f ∧ kd o ≤ 4 ∧ kd (o ++ [(enc f b).getD k 0]) ≤ 5 ∧ o.length < (raw f).length) ∨ (sl_ f ≤ k ∧ o = raw f ++ (ten (slt b)).take (k - sl_ f))))) := by
  obtain ⟨h1, h2⟩ := h
  have hlen := enc_ln f b
  have hkl : k < (enc f b).length := by omega
  have hall : ∀ z ∈ enc f b, lvl z = true := by
    rw [enc_def]
    exact all_append (stf_lvl _ (raw_all f)) (by cases b <;> decide)
  refine ⟨?_, ?_⟩
  · refine hall _ ?_
    exact gd_mem hkl
  rcases h2 with ⟨hks, j, hj1, hj2, rfl, ht⟩ | ⟨hks, hk10, rfl⟩
  · rcases ht with ht | ⟨h5, ht⟩
    · have ha : alk ((enc f b).take k) ≤ 4 := by rw [← ht]; exact alk_stf _
      have hsl : (stf ((raw f).take j)).length = k := by rw [ht, List.length_take]; omega
      refine .inr ⟨fun x => by omega, by rw [List.length_take]; omega, ?_⟩
      rcases Nat.lt_or_ge j (raw f).length with hj | hj
      · have ho := take_get hj
        have hst : stf ((raw f).take (j + 1)) = sput (stf ((raw f).take j)) ((raw f).getD j 0) := by rw [ho, stf_snoc]
        have hx := stf_take (f := f) (j + 1) b
        have hz : (enc f b).getD k 0 = (raw f).getD j 0 ∧ k < sl_ f ∧ (stf ((raw f).take (j + 1)) = (enc f b).take (k + 1) ∨ alk ((enc f b).take (k + 1)) = 5 ∧ stf ((raw f).take (j + 1)) = (enc f b).take (k + 1) ++ [1 - lst ((enc f b).take (k + 1))]) := by
          by_cases h5 : alk (stf ((raw f).take j) ++ [(raw f).getD j 0]) = 5
          · rw [sput_five h5] at hst
            have hle : k + 2 ≤ sl_ f := by
              have := hx.1
              rw [hst] at this
              simp only [List.length_append, List.length_singleton, hsl] at this
              omega
            have hE : (enc f b).take (k + 1) = stf ((raw f).take j) ++ [(raw f).getD j 0] := by
              have h3 := hx.2
              rw [hst] at h3
              have h4 := congrArg (List.take (k + 1)) h3
              rw [List.take_take, List.length_append, List.length_append, hsl] at h4
              simp only [List.length_singleton] at h4
              rw [Nat.min_eq_left (by omega)] at h4
              rw [h4, List.take_left' (by rw [List.length_append, hsl]; rfl)]
            refine ⟨get_of hE hsl hkl, by omega, .inr ⟨by rw [hE]; exact h5, ?_⟩⟩
            rw [hE, lst_snoc]; exact hst
          · rw [sput_else h5] at hst
            have hle : k + 1 ≤ sl_ f := by
              have := hx.1
              rw [hst] at this
              simp only [List.length_append, List.length_singleton, hsl] at this
              omega
            have hE : (enc f b).take (k + 1) = stf ((raw f).take j) ++ [(raw f).getD j 0] := by
              have h3 := hx.2
              rw [hst, List.length_append, hsl] at h3
              exact h3
            exact ⟨get_of hE hsl hkl, by omega, .inl (by rw [hE]; exact hst)⟩
        obtain ⟨hz1, hz2, hz3⟩ := hz
        have hol : ((raw f).take j).length = j := by rw [List.length_take]; omega
        rw [hz1, hol]
        refine ⟨?_, ?_, .inl ⟨hz2, raw_low hm hj, ?_, hj⟩⟩
        · rw [gd_left hj]
        · rw [← ho]
          exact ⟨by omega, .inl ⟨by omega, j + 1, by omega, by omega, rfl, hz3⟩⟩
        · rw [← ho]; exact raw_le5 hm _
      · have hj' : j = (raw f).length := by omega
        subst hj'
        rw [List.take_length] at ht hsl ⊢
        have hks' : k = sl_ f := hsl.symm
        have hE : (enc f b).getD k 0 = (ten (slt b)).getD 0 0 := by
          rw [enc_def, gd_right (by rw [hks']; exact Nat.le_refl _), hks']
          unfold sl_
          rw [Nat.sub_self]
        refine ⟨?_, ?_, .inr ⟨by omega, by rw [hks', Nat.sub_self]; simp⟩⟩
        · rw [hE, gd_right (Nat.le_refl _), Nat.sub_self]
        · refine ⟨by omega, .inr ⟨by omega, by omega, ?_⟩⟩
          rw [hE, hks', show sl_ f + 1 - sl_ f = 1 by omega]
          rfl
    · have hst : (stf ((raw f).take j)).length = k + 1 := by rw [ht, List.length_append, List.length_take]; simp; omega
      have hx := stf_take (f := f) j b
      rw [hst] at hx
      have hE : (enc f b).take (k + 1) = (enc f b).take k ++ [1 - lst ((enc f b).take k)] := hx.2.trans ht
      have hz := get_of hE (by rw [List.length_take]; omega) hkl
      refine .inl ⟨raw_le5 hm _, h5, hz, ⟨by omega, .inl ⟨by omega, j, hj1, hj2, rfl, .inl hx.2.symm⟩⟩, by omega⟩
  · have hi : 1 ≤ k - sl_ f := by omega
    have hkd : kd (raw f ++ (ten (slt b)).take (k - sl_ f)) = tl (k - sl_ f) := by
      rw [kd_tail hm _ (by rw [List.length_take, ten_len]; omega), List.length_take, ten_len, Nat.min_eq_left (by omega)]
    have h6 : 6 ≤ kd (raw f ++ (ten (slt b)).take (k - sl_ f)) := by
      rw [hkd]; unfold tl
      split
      · omega
      · split <;> omega
    have hol : (raw f ++ (ten (slt b)).take (k - sl_ f)).length = (raw f).length + (k - sl_ f) := by rw [List.length_append, List.length_take, ten_len]; omega
    have hE : (enc f b).getD k 0 = (ten (slt b)).getD (k - sl_ f) 0 := by
      rw [enc_def, gd_right (by unfold sl_ at hks; omega)]
      rfl
    refine .inr ⟨fun x => by omega, by rw [hol]; omega, ?_, ⟨by omega, .inr ⟨by omega, by omega, ?_⟩⟩, .inr ⟨by omega, rfl⟩⟩
    · rw [hE, hol, gd_right (by omega)]
      congr 1
      omega
    · rw [hE, List.append_assoc, show k + 1 - sl_ f = k - sl_ f + 1 by omega, take_get (by rw [ten_len]; omega)]
end
end Go.Proofs.YtenfcbmeokenaaaGreat

/- A node on a frame's way: as it receives, and as it sends. -/
namespace Go.Proofs.YtenfcbmeokenaaaGreat
set_option maxRecDepth 20000

section
variable {f : Fr} (hm : f.may = true)
include hm
theorem raw_hdr (x : List Int) : ∃ n i : Nat, f.len = (n : Int) ∧ n ≤ 8 ∧ f.id = (i : Int) ∧ raw f ++ x = hdr f n (ofB (csum (bts f)) 15 ++ x) := by
  obtain ⟨n, hn, h8⟩ := len_nat hm
  obtain ⟨i, hi⟩ := id_nat hm
  refine ⟨n, i, hn, h8, hi, ?_⟩
  unfold raw
  rw [List.append_assoc, bts_hdr hn (by omega)]
theorem raw_ahead (x : List Int) : ahead (raw f ++ x) = (bts f).length ∧ hEx (raw f ++ x) = f.ext ∧ one (raw f ++ x) 0 = false := by
  obtain ⟨n, i, hn, h8, hi, e⟩ := raw_hdr hm x
  rw [e]
  exact ⟨by rw [hdr_ahead hi (by omega) hn (by omega), bts_len], hdr_ext hi, hdr_zero⟩
theorem raw_rok2 (x : List Int) : rok (raw f ++ x) = true := by
  obtain ⟨h1, h2, h3⟩ := raw_ahead hm x
  unfold rok
  rw [h1, h2, decide_eq_false (by rw [List.length_append, raw_len, bts_len]; omega)]
  have e : (raw f ++ x).take ((bts f).length + 15) = raw f := by rw [← raw_len]; exact List.take_left
  rw [e]
  unfold raw
  rw [rgt_own _ (bts_all f) (csum_lt _)]
  simp
theorem raw_fF (hwf : f.wf) (x : List Int) : (fF (raw f ++ x)).val = f.val := by
  obtain ⟨h1, h2, h3⟩ := raw_ahead hm x
  unfold fF
  rw [if_neg]
  · exact raw_frame hm hwf x
  · rw [h1, h2, h3, List.length_append, raw_len, bts_len]
    intro h
    rcases h with h | h | h
    · omega
    · omega
    · cases h
omit hm in
theorem nx_pl (a c d j : Nat) (h3 : 3 ≤ j) (h : j ≤ 9) : (nx (wds a c d) (1 + a + c + d + 15 + j) 0).2 = j - 3 := by
  unfold wds
  simp only [nx]
  rw [if_neg (by omega), if_neg (by omega), if_neg (by omega), if_neg (by omega), if_neg (by omega)]
  rw [show 1 + a + c + d + 15 + j - 1 - a - c - d - 15 = j by omega]
  have : j = 3 ∨ j = 4 ∨ j = 5 ∨ j = 6 ∨ j = 7 ∨ j = 8 ∨ j = 9 := by omega
  rcases this with rfl | rfl | rfl | rfl | rfl | rfl | rfl <;> rfl
theorem pl_tail (x : List Int) (h3 : 3 ≤ x.length) (h : x.length ≤ 9) : pl (raw f ++ x) = x.length - 3 := by
  unfold pl
  rw [raw_W hm, List.length_append, raw_len2, nx_pl _ _ _ _ h3 h]
end

/-- A node in a frame: behind the levels t, of which o are the frame's. -/
def Nd.at_ (c : Nd) (o t : List Int) (tx : Bool) (F : Fr) (L : List Int) : Nd :=
  ⟨2, 0, 0, 0, false, false, o, (kd o : Nat), (pl o : Nat), lst t, (alk t : Nat), F, L, tx, c.ct, c.q⟩
section
variable {c : Nd} {o t L : List Int} {tx : Bool} {F : Fr} {z : Int}
theorem at_added : (c.at_ o t tx F L).added = decide (kd o ≤ 5 ∧ alk t = 5) := by
  unfold Nd.added Nd.at_
  by_cases h1 : kd o ≤ 5
  · by_cases h2 : alk t = 5
    · simp [h1, h2]; omega
    · simp [h2]; omega
  · simp [h1]; omega
theorem tl_alk (t : List Int) (z : Int) : tlN (lst t) (alk t : Nat) z = (alk (t ++ [z]) : Nat) := by
  by_cases h : z = lst t
  · rw [alk_same h, tlN, if_pos h]; omega
  · rw [alk_other h, tlN, if_neg h]; rfl
theorem at_take_yes (h : kd o ≤ 5 ∧ alk t = 5) : (c.at_ o t tx F L).take z = c.at_ o (t ++ [z]) tx F L := by
  unfold Nd.take
  rw [at_added, decide_eq_true h, if_pos rfl]
  unfold Nd.told Nd.at_
  simp only [Nd.mk.injEq, true_and, and_true]
  exact ⟨(lst_snoc _ _).symm, tl_alk t z⟩
theorem at_take_no (h : ¬ (kd o ≤ 5 ∧ alk t = 5)) : (c.at_ o t tx F L).take z = c.at_ (o ++ [z]) (t ++ [z]) tx F L := by
  unfold Nd.take
  rw [at_added, decide_eq_false h, if_neg (by simp)]
  unfold Nd.told Nd.takeOwn Nd.at_
  simp only [Nd.mk.injEq, true_and, and_true]
  exact ⟨(lst_snoc _ _).symm, tl_alk t z⟩
theorem begin_at (n : Nd) (may : Bool) : n.begin_ may = n.at_ [0] [0] (may && decide (0 < n.q.length)) (if may && decide (0 < n.q.length) then n.q.headD Fr.zero else Fr.zero) (if may && decide (0 < n.q.length) then alls (n.q.headD Fr.zero) else []) := rfl
theorem at_drv : (c.at_ o t tx F L).drvIn = if tx && decide (kd o ≤ 5 ∧ alk t = 5) then oth (lst t) else if tx then L.getD o.length 0 else if kd o = 6 ∧ rok o = true then 0 else 1 := by
  unfold Nd.drvIn
  rw [at_added]
  show (if tx && decide (kd o ≤ 5 ∧ alk t = 5) then oth (lst t) else if tx then L.getD o.length 0 else if ((kd o : Nat) : Int) == 6 && rok o then 0 else 1) = _
  split
  · rfl
  · split
    · rfl
    · by_cases h6 : kd o = 6
      · cases hr : rok o <;> simp [h6]
      · rw [if_neg (by simp; omega), if_neg (by simp [h6])]
/-- What is behind a level that is taken. -/
theorem at_onto (h9 : kd o ≠ 9) (h8 : ¬ (kd o = 8 ∧ pl o = 6 ∧ tx = false)) : (c.at_ o t tx F L).onto = ([], c.at_ o t tx F L) := by
  unfold Nd.onto
  rw [if_neg (show ¬ (c.at_ o t tx F L).kind = 9 from fun e => h9 (by have e' : ((kd o : Nat) : Int) = 9 := e; omega)), if_neg]
  rintro ⟨a, b, e⟩
  have a' : ((kd o : Nat) : Int) = 8 := a
  have b' : ((pl o : Nat) : Int) = 6 := b
  exact h8 ⟨by omega, by omega, e⟩
theorem oth_flip (t : List Int) (h : lvl (lst t) = true) : oth (lst t) = 1 - lst t := by
  rcases lvl_01 h with e | e <;> rw [e] <;> rfl
theorem at_two : (c.at_ o t tx F L).mode = 2 := rfl
theorem stp_two {n : Nd} (h : n.mode = 2) : n.stp z = n.inF z := by unfold Nd.stp; simp [h]
theorem at_recv (h8 : ¬ (kd o = 8 ∧ z = 0)) (hw : (c.at_ o t tx F L).wrongK z = 0) : (c.at_ o t tx F L).recv z = (c.at_ o t tx F L).goOn z := by
  unfold Nd.recv
  rw [if_neg, if_neg (fun h => h hw)]
  rintro ⟨a, _, e⟩
  have a' : ((kd o : Nat) : Int) = 8 := a
  exact h8 ⟨by omega, e⟩
theorem at_inF_rx : (c.at_ o t false F L).inF z = (c.at_ o t false F L).recv z := rfl
theorem at_wrong : (c.at_ o t tx F L).wrongK z = if (c.at_ o t tx F L).drvIn < z then 4 else if kd o ≤ 5 ∧ alk t = 5 then (if z = lst t then 5 else 0)
    else if kd o = 5 ∨ kd o = 7 ∨ kd o = 8 then (if z = 0 then 7 else if kd o = 7 ∧ rok o = false then 6 else 0) else 0 := by
  unfold Nd.wrongK
  rw [at_added]
  have e5 : ((c.at_ o t tx F L).kind = 5 ∨ (c.at_ o t tx F L).kind = 7 ∨ (c.at_ o t tx F L).kind = 8) ↔ (kd o = 5 ∨ kd o = 7 ∨ kd o = 8) := by
    show (((kd o : Nat) : Int) = 5 ∨ ((kd o : Nat) : Int) = 7 ∨ ((kd o : Nat) : Int) = 8) ↔ _
    omega
  have e7 : ((c.at_ o t tx F L).kind = 7 ∧ rok (c.at_ o t tx F L).own = false) ↔ (kd o = 7 ∧ rok o = false) := by
    show (((kd o : Nat) : Int) = 7 ∧ rok o = false) ↔ _
    constructor
    · rintro ⟨a, b⟩; exact ⟨by omega, b⟩
    · rintro ⟨a, b⟩; exact ⟨by omega, b⟩
  simp only [e5, e7, decide_eq_true_eq]
  rfl
end

section
variable {f : Fr} (hm : f.may = true) {c : Nd} {o L : List Int} {F : Fr} {k : Nat}
include hm
/-- The levels of the fields behind the sum. -/
theorem way_tail {b : Bool} (hk : sl_ f ≤ k) (ho : o = raw f ++ (ten (slt b)).take (k - sl_ f)) (hk9 : k < sl_ f + 10) :
    kd o = tl (k - sl_ f) ∧ rok o = true ∧ (enc f b).getD k 0 = (ten (slt b)).getD (k - sl_ f) 0 ∧ (3 ≤ k - sl_ f → pl o = k - sl_ f - 3) := by
  have hl : ((ten (slt b)).take (k - sl_ f)).length = k - sl_ f := by rw [List.length_take, ten_len]; omega
  refine ⟨?_, ?_, ?_, fun h3 => ?_⟩
  · rw [ho, kd_tail hm _ (by omega), hl]
  · rw [ho]; exact raw_rok2 hm _
  · rw [enc_def, gd_right (by unfold sl_ at hk; omega)]; rfl
  · rw [ho, pl_tail hm _ (by omega) (by omega), hl]
omit hm in
theorem ten_get (s : Int) (i : Nat) (h : i < 10) : (ten s).getD i 0 = if i = 1 then s else 1 := by
  have : i = 0 ∨ i = 1 ∨ i = 2 ∨ i = 3 ∨ i = 4 ∨ i = 5 ∨ i = 6 ∨ i = 7 ∨ i = 8 ∨ i = 9 := by omega
  rcases this with rfl | rfl | rfl | rfl | rfl | rfl | rfl | rfl | rfl | rfl <;> rfl
omit hm in
theorem tl_cases {i : Nat} (h : i < 10) : (i = 0 ∧ tl i = 5) ∨ (i = 1 ∧ tl i = 6) ∨ (i = 2 ∧ tl i = 7) ∨ (3 ≤ i ∧ tl i = 8) := by
  unfold tl
  rcases Nat.lt_or_ge i 3 with h3 | h3
  · rw [if_pos h3]; omega
  · rw [if_neg (by omega), if_pos h]; omega

/-- What one that receives drives. -/
theorem way_rx_drv {b : Bool} (hw : Way f b k o) (hk : k < sl_ f + 10) : (c.at_ o ((enc f b).take k) false F L).drvIn = if k = sl_ f + 1 then 0 else 1 := by
  rw [at_drv]
  obtain ⟨_, h⟩ := way_step hm hw hk
  rcases h with ⟨h1, h2, h3, h4, h5⟩ | ⟨h1, h2, h3, h4, h5⟩
  · rw [if_neg (by simp), if_neg (by simp), if_neg (by omega), if_neg (by omega)]
  · rcases h5 with ⟨h6, h7, h8, h9⟩ | ⟨h6, h7⟩
    · rw [if_neg (by simp), if_neg (by simp), if_neg (by omega), if_neg (by omega)]
    · obtain ⟨t1, t2, t3, t4⟩ := way_tail hm h6 h7 hk
      rw [if_neg (by simp), if_neg (by simp), t1, t2]
      rcases tl_cases (i := k - sl_ f) (by omega) with ⟨a, e⟩ | ⟨a, e⟩ | ⟨a, e⟩ | ⟨a, e⟩
      · rw [e, if_neg (by simp), if_neg (by omega)]
      · rw [e, if_pos (by simp), if_pos (by omega)]
      · rw [e, if_neg (by simp), if_neg (by omega)]
      · rw [e, if_neg (by simp), if_neg (by omega)]
/-- A level that goes on, along the way. -/
theorem way_onto {b : Bool} {tx : Bool} (hw : Way f b k o) (hk : k < sl_ f + 10) :
    ∃ o', Way f b (k + 1) o' ∧ (c.at_ o ((enc f b).take k) tx F L).goOn ((enc f b).getD k 0) = (c.at_ o' ((enc f b).take (k + 1)) tx F L).onto ∧
      (k < sl_ f → kd o' ≤ 5) ∧ (sl_ f ≤ k → o' = raw f ++ (ten (slt b)).take (k + 1 - sl_ f)) := by
  obtain ⟨_, h⟩ := way_step hm hw hk
  have hE : (enc f b).take (k + 1) = (enc f b).take k ++ [(enc f b).getD k 0] := take_get (by rw [enc_ln]; exact hk)
  rcases h with ⟨h1, h2, h3, h4, h5⟩ | ⟨h1, h2, h3, h4, h5⟩
  · refine ⟨o, h4, ?_, fun _ => h1, fun h => by omega⟩
    unfold Nd.goOn
    rw [at_take_yes ⟨h1, h2⟩, hE]
  · refine ⟨_, h4, ?_, fun h => ?_, fun h => ?_⟩
    · unfold Nd.goOn
      rw [at_take_no h1, hE]
    · rcases h5 with ⟨_, _, h8, _⟩ | ⟨h6, _⟩
      · exact h8
      · omega
    · rcases h5 with ⟨h6, _⟩ | ⟨h6, h7⟩
      · omega
      · obtain ⟨t1, t2, t3, t4⟩ := way_tail hm h6 h7 hk
        rw [t3, show k + 1 - sl_ f = k - sl_ f + 1 by omega, take_get (by rw [ten_len]; omega)]
        exact (congrArg (· ++ _) h7).trans (List.append_assoc _ _ _)
theorem way_kd {b : Bool} (hk : k ≤ sl_ f + 9) (ho : sl_ f < k → o = raw f ++ (ten (slt b)).take (k - sl_ f)) (h5 : k ≤ sl_ f → kd o ≤ 5) : kd o ≠ 9 ∧ (kd o = 8 ∧ pl o = 6 → k = sl_ f + 9) := by
  rcases Nat.lt_or_ge (sl_ f) k with h | h
  · obtain ⟨t1, t2, t3, t4⟩ := way_tail hm (by omega) (ho h) (by omega)
    rcases tl_cases (i := k - sl_ f) (by omega) with ⟨a, e⟩ | ⟨a, e⟩ | ⟨a, e⟩ | ⟨a, e⟩
    · omega
    · exact ⟨by omega, fun h => by omega⟩
    · exact ⟨by omega, fun h => by omega⟩
    · exact ⟨by omega, fun h => by have := t4 a; omega⟩
  · have := h5 h
    exact ⟨by omega, fun h => by omega⟩
omit hm in
theorem way_lvl {b : Bool} (hk : k < sl_ f + 10) : lvl ((enc f b).getD k 0) = true := by
  have hall : ∀ z ∈ enc f b, lvl z = true := by
    rw [enc_def]
    exact all_append (stf_lvl _ (raw_all f)) (by cases b <;> decide)
  exact hall _ (gd_mem (by rw [enc_ln]; exact hk))
/-- Nothing is wrong, along the way. -/
theorem way_right (hw : Way f true k o) (hk : k < sl_ f + 10) : (c.at_ o ((enc f true).take k) false F L).wrongK ((enc f true).getD k 0) = 0 ∧ ¬ (kd o = 8 ∧ (enc f true).getD k 0 = 0) := by
  have hd := way_rx_drv (c := c) (L := L) (F := F) hm hw hk
  have hl := way_lvl (b := true) hk
  rw [at_wrong, hd]
  obtain ⟨_, h⟩ := way_step hm hw hk
  rcases h with ⟨h1, h2, h3, h4, h5⟩ | ⟨h1, h2, h3, h4, h5⟩
  · refine ⟨?_, fun h => by omega⟩
    rw [if_neg (show ¬ k = sl_ f + 1 by omega), if_neg (by rcases lvl_01 hl with e | e <;> rw [e] <;> omega), if_pos ⟨h1, h2⟩, if_neg (by omega)]
  · rcases h5 with ⟨h6, h7, h8, h9⟩ | ⟨h6, h7⟩
    · refine ⟨?_, fun h => by omega⟩
      rw [if_neg (show ¬ k = sl_ f + 1 by omega), if_neg (by rcases lvl_01 hl with e | e <;> rw [e] <;> omega), if_neg h1, if_neg (by omega)]
    · obtain ⟨t1, t2, t3, t4⟩ := way_tail hm h6 h7 hk
      rw [t3, ten_get _ _ (by omega), show slt true = 0 from rfl]
      rcases tl_cases (i := k - sl_ f) (by omega) with ⟨a, e⟩ | ⟨a, e⟩ | ⟨a, e⟩ | ⟨a, e⟩
      · rw [if_neg (show ¬ k - sl_ f = 1 by omega), if_neg (show ¬ k = sl_ f + 1 by omega), if_neg (by omega), if_neg h1]
        refine ⟨?_, fun h => by omega⟩
        rw [if_pos (by omega), if_neg (by omega), if_neg (by omega)]
      · rw [if_pos (show k - sl_ f = 1 by omega), if_pos (show k = sl_ f + 1 by omega), if_neg (by omega), if_neg h1]
        refine ⟨?_, fun h => by omega⟩
        rw [if_neg (by omega)]
      · rw [if_neg (show ¬ k - sl_ f = 1 by omega), if_neg (show ¬ k = sl_ f + 1 by omega), if_neg (by omega), if_neg h1]
        refine ⟨?_, fun h => by omega⟩
        rw [if_pos (by omega), if_neg (by omega), if_neg (by rw [t2]; simp)]
      · rw [if_neg (show ¬ k - sl_ f = 1 by omega), if_neg (show ¬ k = sl_ f + 1 by omega), if_neg (by omega), if_neg h1]
        refine ⟨?_, fun h => by omega⟩
        rw [if_pos (by omega), if_neg (by omega), if_neg (by omega)]
/-- One that receives, level by level. -/
theorem way_rx (hw : Way f true k o) (hk : k < sl_ f + 8) : ∃ o', Way f true (k + 1) o' ∧ (c.at_ o ((enc f true).take k) false F L).stp ((enc f true).getD k 0) = ([], c.at_ o' ((enc f true).take (k + 1)) false F L) := by
  obtain ⟨h1, h2⟩ := way_right (c := c) (L := L) (F := F) hm hw (by omega)
  obtain ⟨o', w1, w2, w3, w4⟩ := way_onto (c := c) (L := L) (F := F) (tx := false) hm hw (by omega)
  obtain ⟨k1, k2⟩ := way_kd hm (b := true) (k := k + 1) (o := o') (by omega) (fun h => w4 (by omega)) (fun h => w3 (by omega))
  refine ⟨o', w1, ?_⟩
  rw [stp_two rfl, at_inF_rx, at_recv h2 h1, w2, at_onto k1 (fun h => by have := k2 ⟨h.1, h.2.1⟩; omega)]
omit hm in
theorem at_got {o t : List Int} (h8 : kd o = 8) (h6 : pl o = 6) : (c.at_ o t false F L).onto = ([(2, fF o)], ({ c with ct := c.ct.rcv } : Nd).at_ o t false F L) := by
  unfold Nd.onto
  rw [if_neg (show ¬ (c.at_ o t false F L).kind = 9 from fun e => by have e' : ((kd o : Nat) : Int) = 9 := e; omega), if_pos ⟨show ((kd o : Nat) : Int) = 8 by omega, show ((pl o : Nat) : Int) = 6 by omega, rfl⟩]
  rfl
theorem way_got (hwf : f.wf) (hw : Way f true k o) (hk : k = sl_ f + 8) : ∃ o' g, Way f true (k + 1) o' ∧ (c.at_ o ((enc f true).take k) false F L).stp ((enc f true).getD k 0) = ([(2, g)], ({ c with ct := c.ct.rcv } : Nd).at_ o' ((enc f true).take (k + 1)) false F L) ∧ g.val = f.val := by
  obtain ⟨h1, h2⟩ := way_right (c := c) (L := L) (F := F) hm hw (by omega)
  obtain ⟨o', w1, w2, w3, w4⟩ := way_onto (c := c) (L := L) (F := F) (tx := false) hm hw (by omega)
  have ho := w4 (by omega)
  obtain ⟨t1, t2, t3, t4⟩ := way_tail hm (b := true) (k := k + 1) (o := o') (by omega) ho (by omega)
  refine ⟨o', fF o', w1, ?_, ?_⟩
  · rw [stp_two rfl, at_inF_rx, at_recv h2 h1, w2, at_got]
    · rw [t1, show k + 1 - sl_ f = 9 by omega]; rfl
    · rw [t4 (by omega)]; omega
  · rw [ho]; exact raw_fF hm hwf _
theorem way_end {b tx : Bool} {o : List Int} (ho : o = raw f ++ (ten (slt b)).take 10) : (c.at_ o ((enc f b).take (sl_ f + 10)) tx F L).onto = (c.at_ o ((enc f b).take (sl_ f + 10)) tx F L).fin := by
  unfold Nd.onto
  rw [if_pos]
  show ((kd o : Nat) : Int) = 9
  rw [ho, kd_tail hm _ (by rw [List.length_take, ten_len]; omega)]; rfl
theorem way_done (hw : Way f true k o) (hk : k = sl_ f + 9) : (c.at_ o ((enc f true).take k) false F L).stp ((enc f true).getD k 0) = ([], { c.enter 8 with tx := false }) := by
  obtain ⟨h1, h2⟩ := way_right (c := c) (L := L) (F := F) hm hw (by omega)
  obtain ⟨o', w1, w2, w3, w4⟩ := way_onto (c := c) (L := L) (F := F) (tx := false) hm hw (by omega)
  have ho := w4 (by omega)
  rw [show k + 1 - sl_ f = 10 by omega] at ho
  rw [stp_two rfl, at_inF_rx, at_recv h2 h1, w2, show k + 1 = sl_ f + 10 by omega, way_end hm ho]
  rfl
omit hm in
theorem enc_two (h : k < sl_ f + 10) (b : Bool) : (enc f b).getD k 0 = if k = sl_ f + 1 then slt b else (enc f false).getD k 0 := by
  rcases Nat.lt_or_ge k (sl_ f) with h1 | h1
  · rw [if_neg (by omega), enc_def, enc_def, gd_left (by unfold sl_ at h1; omega), gd_left (by unfold sl_ at h1; omega)]
  · rw [enc_def f b, enc_def f false, gd_right (by unfold sl_ at h1; omega), gd_right (by unfold sl_ at h1; omega)]
    show (ten (slt b)).getD (k - sl_ f) 0 = if k = sl_ f + 1 then slt b else (ten (slt false)).getD (k - sl_ f) 0
    rw [ten_get _ _ (by omega), ten_get _ _ (by omega)]
    by_cases h2 : k = sl_ f + 1
    · rw [if_pos h2, if_pos (by omega)]
    · rw [if_neg h2, if_neg (by omega), if_neg (by omega)]
/-- What one that sends drives: its frame's level, whether or not somebody acknowledges. -/
theorem way_tx_drv {b : Bool} (hw : Way f b k o) (hk : k < sl_ f + 10) : (c.at_ o ((enc f b).take k) true F (alls f)).drvIn = (enc f false).getD k 0 := by
  rw [at_drv]
  have hz := way_lvl (b := b) hk
  have he := enc_two hk b
  obtain ⟨_, h⟩ := way_step hm hw hk
  rcases h with ⟨h1, h2, h3, h4, h5⟩ | ⟨h1, h2, h3, h4, h5⟩
  · rw [if_pos (by simp [h1, h2]), oth_flip _ ?_, ← h3, he, if_neg (by omega)]
    rw [h3] at hz
    rcases lvl_01 hz with e | e
    · rw [show lst ((enc f b).take k) = 1 by omega]; rfl
    · rw [show lst ((enc f b).take k) = 0 by omega]; rfl
  · rw [if_neg (by simp; omega), if_pos rfl]
    have ha : alls f = raw f ++ ten (slt false) := rfl
    rw [ha]
    rcases h5 with ⟨h6, h7, h8, h9⟩ | ⟨h6, h7⟩
    · rw [gd_left h9]
      rw [gd_left h9, he, if_neg (by omega)] at h3
      exact h3.symm
    · obtain ⟨t1, t2, t3, t4⟩ := way_tail hm h6 h7 hk
      have hol : o.length = (raw f).length + (k - sl_ f) := by rw [h7, List.length_append, List.length_take, ten_len]; omega
      rw [hol, gd_right (by omega), show (raw f).length + (k - sl_ f) - (raw f).length = k - sl_ f by omega, enc_def, gd_right (by unfold sl_ at h6; omega)]
      rfl
/-- The field in which a level of the slot comes. -/
theorem way_six {b : Bool} (hw : Way f b k o) (hk : k < sl_ f + 10) : kd o = 6 ↔ k = sl_ f + 1 := by
  obtain ⟨_, h⟩ := way_step hm hw hk
  rcases h with ⟨h1, h2, h3, h4, h5⟩ | ⟨h1, h2, h3, h4, h5⟩
  · omega
  · rcases h5 with ⟨h6, h7, h8, h9⟩ | ⟨h6, h7⟩
    · omega
    · obtain ⟨t1, t2, t3, t4⟩ := way_tail hm h6 h7 hk
      rcases tl_cases (i := k - sl_ f) (by omega) with ⟨a, e⟩ | ⟨a, e⟩ | ⟨a, e⟩ | ⟨a, e⟩ <;> omega
omit hm in
theorem at_inF_tx {o t L : List Int} {F : Fr} {z : Int} (h : ¬ z < (c.at_ o t true F L).drvIn) : (c.at_ o t true F L).inF z = (c.at_ o t true F L).send z := by
  unfold Nd.inF Nd.loses
  rw [decide_eq_false h, if_neg (by simp)]
  rfl
theorem way_send {b : Bool} (hw : Way f b k o) (hk : k < sl_ f + 10) (hs : k = sl_ f + 1 → b = true) :
    (c.at_ o ((enc f b).take k) true F (alls f)).stp ((enc f b).getD k 0) = (c.at_ o ((enc f b).take k) true F (alls f)).goOn ((enc f b).getD k 0) := by
  have hd := way_tx_drv (c := c) (F := F) hm hw hk
  have h6 := way_six hm hw hk
  have he := enc_two hk b
  rw [stp_two rfl]
  by_cases hk1 : k = sl_ f + 1
  · have hb := hs hk1
    subst hb
    rw [if_pos hk1, show slt true = 0 from rfl] at he
    have k6 := h6.2 hk1
    have hlo : (c.at_ o ((enc f true).take k) true F (alls f)).loses ((enc f true).getD k 0) = false := by
      unfold Nd.loses
      rw [show ((c.at_ o ((enc f true).take k) true F (alls f)).kind == 1) = false from by show (((kd o : Nat) : Int) == 1) = false; simp; omega]
      simp
    unfold Nd.inF
    rw [hlo, if_neg (by simp)]
    show (c.at_ o ((enc f true).take k) true F (alls f)).send ((enc f true).getD k 0) = _
    unfold Nd.send
    have e6 : (c.at_ o ((enc f true).take k) true F (alls f)).kind = 6 := by show ((kd o : Nat) : Int) = 6; omega
    rw [if_pos e6, if_pos he]
  · rw [if_neg hk1] at he
    rw [at_inF_tx (by rw [hd, he]; omega)]
    unfold Nd.send
    have e6 : ¬ (c.at_ o ((enc f b).take k) true F (alls f)).kind = 6 := fun e => hk1 (h6.1 (by have e' : ((kd o : Nat) : Int) = 6 := e; omega))
    rw [if_neg e6, hd, he, if_neg (by omega), if_pos rfl]
/-- One that sends, level by level. -/
theorem way_tx {b : Bool} (hw : Way f b k o) (hk : k < sl_ f + 9) (hs : k = sl_ f + 1 → b = true) : ∃ o', Way f b (k + 1) o' ∧ (c.at_ o ((enc f b).take k) true F (alls f)).stp ((enc f b).getD k 0) = ([], c.at_ o' ((enc f b).take (k + 1)) true F (alls f)) := by
  obtain ⟨o', w1, w2, w3, w4⟩ := way_onto (c := c) (L := alls f) (F := F) (tx := true) hm hw (by omega)
  obtain ⟨k1, k2⟩ := way_kd hm (b := b) (k := k + 1) (o := o') (by omega) (fun h => w4 (by omega)) (fun h => w3 (by omega))
  refine ⟨o', w1, ?_⟩
  rw [way_send hm hw (by omega) hs, w2, at_onto k1 (fun h => by cases h.2.2)]
theorem way_sent {b : Bool} (hw : Way f b k o) (hk : k = sl_ f + 9) : (c.at_ o ((enc f b).take k) true F (alls f)).stp ((enc f b).getD k 0) = ([(1, F)], { c.enter 8 with tx := true, ct := c.ct.snt, q := drp F c.q }) := by
  obtain ⟨o', w1, w2, w3, w4⟩ := way_onto (c := c) (L := alls f) (F := F) (tx := true) hm hw (by omega)
  have ho := w4 (by omega)
  rw [show k + 1 - sl_ f = 10 by omega] at ho
  rw [way_send hm hw (by omega) (by omega), w2, show k + 1 = sl_ f + 10 by omega, way_end hm ho]
  rfl
end
end Go.Proofs.YtenfcbmeokenaaaGreat

