/- A play's memory, and what is true of it. -/
import Derived.Test.YtalpbnfebcafgaaGreatY8
import Derived.Test.YtalpbnfebcafgaaGreatY7
import Derived.Test.YtalpbnfebcafgaaGreatY6
import Derived.BigQuiet
namespace Go.Proofs.YtalpbnfebcafgaaGreat
set_option maxRecDepth 20000
open Go.RowKit
set_option linter.unusedSimpArgs false

theorem rows_ne {w : World} {B B' n n' s s' : Nat} {e e' : TypeId} {u v : Value} {xs ys : List Value} (h : w.ownsRow B e s u n xs) (h' : w.ownsRow B' e' s' v n' ys) (hT : e ≠ e') : ∀ k, u.ownBlock = some k → ¬ own11 v k := by
  intro k hk hf
  rcases h.2 with ⟨e0, _⟩ | ⟨b, cap, cur, e0, _, hh, _⟩
  · rw [e0] at hk; cases hk
  · rw [e0] at hk
    injection hk with hk
    have hk : b = k := hk
    subst hk
    exact owns_ne h' hh hT hf
theorem Amp.nrow {w : World} {B B' g n s : Nat} {l : List Ac} {f : Int → Value} {e : TypeId} {v : Value} {ys : List Value} (h : Amp w B g l f) (h' : w.ownsRow B' e s v n ys) (hT : 35 ≠ e) : ∀ k, amF g f k → ¬ own11 v k := by
  rintro k (rfl | ⟨t, hk⟩) hf
  · obtain ⟨es, c, ho⟩ := h.mp.obj
    rcases h'.2 with ⟨e0, _⟩ | ⟨b, cap, cur, e0, _, hh, _⟩
    · unfold own11 at hf; rw [e0] at hf; cases hf
    · unfold own11 at hf; rw [e0] at hf; injection hf with hf; have hf : b = k := hf; subst hf; rw [hh] at ho; cases ho
  · exact rows_ne (h.own t) h' hT k hk hf
theorem own_ge {w : World} {B n s : Nat} {e : TypeId} {v : Value} {ys : List Value} (h : w.ownsRow B e s v n ys) : ∀ k, own11 v k → B ≤ k := fun k hk => (World.ownsRow.lt h k hk).1
theorem moves_below {w0 w w' : World} {F F' : Nat → Prop} (h : Moves F F' w w') (hF : ∀ k, F k → w0.heap.size ≤ k) (hb : Below w0.heap.size w0 w) : Below w0.heap.size w0 w' := hb.trans (h.below hF hb.size)
/-- A play's memory: the bus, its runs, its events, the acts. -/
structure Pst (w0 w : World) (g : Nat) (pv : Value) (qs : List NP) (gm : Nat) (l : List Ac) (f : Int → Value) (u v : Value) (b : Bs) (rs : List Rn) (es : List Be) : Prop where
  bus : BLay w w0.heap.size ⟨g, pv, qs⟩ b
  runs : Gown rnT w w0.heap.size u rs
  evs : Gown evT w w0.heap.size v es
  map : Amp w w0.heap.size gm l f
  bel : Below w0.heap.size w0 w
section
variable {w0 w w' : World} {g gm : Nat} {pv u v u' v' : Value} {qs qs' : List NP} {l : List Ac} {f : Int → Value} {b b' : Bs} {rs rs' : List Rn} {es es' : List Be}
theorem Pst.next (h : Pst w0 w g pv qs gm l f u v b rs es) (hb : Below w.heap.size w w') : Pst w0 w' g pv qs gm l f u v b rs es :=
  ⟨h.bus.next hb, h.runs.below hb, h.evs.below hb, h.map.below hb, nxt h.bel hb⟩
theorem Pst.turn (h : Pst w0 w g pv qs gm l f u v b rs es) (hm : Moves (BP.fp ⟨g, pv, qs⟩) (BP.fp ⟨g, pv, qs'⟩) w w') (hb : BLay w' w0.heap.size ⟨g, pv, qs'⟩ b') : Pst w0 w' g pv qs' gm l f u v b' rs es :=
  ⟨hb, (h.runs.moves hm (h.bus.typed h.runs (by decide) (by decide) (by decide) (by decide) (by decide) (by decide))).1, (h.evs.moves hm (h.bus.typed h.evs (by decide) (by decide) (by decide) (by decide) (by decide) (by decide))).1,
    (h.map.apart hm (h.map.nbus h.bus)).1, moves_below hm h.bus.fp_ge h.bel⟩
theorem Pst.run (h : Pst w0 w g pv qs gm l f u v b rs es) (hm : Moves (own11 u) (own11 u') w w') (hu : Gown rnT w' w0.heap.size u' rs') : Pst w0 w' g pv qs gm l f u' v b rs' es :=
  ⟨(h.bus.apart hm fun k hk hf => h.bus.typed h.runs (by decide) (by decide) (by decide) (by decide) (by decide) (by decide) k hf hk).1, hu, (h.evs.moves hm (rows_ne h.evs h.runs (by decide))).1,
    (h.map.apart hm (h.map.nrow h.runs (by decide))).1, moves_below hm (own_ge h.runs) h.bel⟩
theorem Pst.ev (h : Pst w0 w g pv qs gm l f u v b rs es) (hm : Moves (own11 v) (own11 v') w w') (hv : Gown evT w' w0.heap.size v' es') : Pst w0 w' g pv qs gm l f u v' b rs es' :=
  ⟨(h.bus.apart hm fun k hk hf => h.bus.typed h.evs (by decide) (by decide) (by decide) (by decide) (by decide) (by decide) k hf hk).1, (h.runs.moves hm (rows_ne h.runs h.evs (by decide))).1, hv,
    (h.map.apart hm (h.map.nrow h.evs (by decide))).1, moves_below hm (own_ge h.evs) h.bel⟩
end
theorem joinR_len (rs : List Rn) (r : Rn) : (joinR rs r).length ≤ rs.length + 1 := by
  rcases List.eq_nil_or_concat rs with rfl | ⟨ss, y, rfl⟩
  · simp [joinR]
  · rw [List.concat_eq_append, join_snoc]
    split <;> simp
theorem joinR_n {rs : List Rn} {r : Rn} {K : Int} (h : ∀ y ∈ rs, 0 ≤ y.n ∧ y.n ≤ K) (hr : r.n = 1) (hK : 0 ≤ K) : ∀ y ∈ joinR rs r, 0 ≤ y.n ∧ y.n ≤ K + 1 := by
  rcases List.eq_nil_or_concat rs with rfl | ⟨ss, y, rfl⟩
  · intro y hy
    simp [joinR] at hy
    subst hy
    omega
  · rw [List.concat_eq_append] at *
    rw [join_snoc]
    have hy := h y (by simp)
    split
    · intro z hz
      rcases List.mem_append.1 hz with hz | hz
      · have := h z (by simp [hz]); omega
      · simp at hz; subst hz; show 0 ≤ y.n + r.n ∧ y.n + r.n ≤ K + 1; omega
    · intro z hz
      simp at hz
      rcases hz with hz | rfl | rfl
      · have := h z (by simp [hz]); omega
      · omega
      · omega
/-- What is true of a play, tick by tick. -/
structure PlOk (N k : Nat) (p : Pl) : Prop where
  len : p.b.L.length = N
  t : p.b.t = k
  snd : ∀ n ∈ p.b.L, Sound k n
  rl : p.rs.length ≤ k
  rn : ∀ y ∈ p.rs, 0 ≤ y.n ∧ y.n ≤ (k : Int)
  el : p.es.length ≤ 96 * k
theorem evs_len {b : Bs} {T : Nat} (hS : ∀ n ∈ b.L, Sound T n) (hL : b.L.length ≤ 32) (x d : Nat) : (b.evs x 0 d).length ≤ 96 := by
  have := tells_len (l := lvO (drvO b.L 0 d)) (x := x) (m := 0) (t := b.t) hS (lvO_01 _) b.L.length (Nat.le_refl _)
  unfold Bs.evs
  omega
theorem plays_ok {N : Nat} {l : List Ac} (hN : N ≤ 32) (hwf : ∀ a ∈ l, a.f.wf) : ∀ k, PlOk N k (plays N l k)
  | 0 => ⟨by simp [plays, Bs.new], rfl, fun n hn => by
      have : n = Nd.new := by simp [plays, Bs.new] at hn; exact hn.2
      rw [this]; exact sound_new, by simp [plays], by simp [plays], by simp [plays]⟩
  | k + 1 => by
    have ih := plays_ok hN hwf k
    obtain ⟨p, hp⟩ : ∃ p, plays N l k = p := ⟨_, rfl⟩
    rw [plays, hp]
    rw [hp] at ih
    have hs := dos_sound ih.snd (atT l p.b.t) fun a ha => hwf a (List.mem_filter.1 ha).1
    have hl := dos_len p.b (atT l p.b.t)
    refine ⟨?_, ?_, ?_, ?_, ?_, ?_⟩
    · show (sees _ _ _ _ _).length = N
      rw [sees_len, hl, ih.len]
    · show (p.b.dos (atT l p.b.t)).1.t + 1 = _
      rw [dos_t, ih.t]
    · exact sees_sound hs (lvO_01 _)
    · have := joinR_len p.rs ((p.b.dos (atT l p.b.t)).1.run 0 4294967295)
      have := ih.rl
      show (joinR _ _).length ≤ _
      omega
    · have := joinR_n ih.rn (show ((p.b.dos (atT l p.b.t)).1.run 0 4294967295).n = 1 from rfl) (by omega)
      intro y hy
      have := this y hy
      push_cast
      exact this
    · show (p.es ++ _).length ≤ _
      have := evs_len hs (by rw [hl, ih.len]; exact hN) (p.b.dos (atT l p.b.t)).2 4294967295
      have := ih.el
      rw [List.length_append]
      omega
end Go.Proofs.YtalpbnfebcafgaaGreat

/- The contract of Play. -/
namespace Go.Proofs.YtalpbnfebcafgaaGreat
set_option maxRecDepth 20000
open Go.RowKit
set_option linter.unusedSimpArgs false

theorem results_ttt {fn : Func} {p u v : Tmp} (h : fn.results = #[.tmp p, .tmp u, .tmp v]) (tmps : Array Value) (P : Program) (w : World) :
    (results fn tmps).run P w = .ok (.tuple #[tmps.getD p undef, tmps.getD u undef, tmps.getD v undef]) w := by
  simp only [results, h]
  simp [Sem.run_bind, Result.andThen]
theorem wf_nat {k : Nat} (h : k ≤ 1000000) : (Lit.int .i64 (k : Int)).wf = true := by
  have h1 : IntKind.i64.min = -9223372036854775808 := by decide
  have h2 : IntKind.i64.max = 9223372036854775807 := by decide
  simp only [Lit.wf, h1, h2, Bool.and_eq_true, decide_eq_true_eq]
  omega

set_option maxHeartbeats 6400000 in
set_option maxRecDepth 100000 in
theorem play_any {w : World} {A : Option Addr} {m c : Nat} {l : List Ac} (h : Gs acT w A m l) (hm : m ≤ 1000) (N : Nat) (h1 : 1 ≤ N) (h32 : N ≤ 32) (hc : chkA N l = 0) (hwf : ∀ a ∈ l, a.f.wf ∧ (Lit.int .i64 a.t).wf = true) (T : Nat) (hT : T ≤ 5000) :
    Calls Tryz.prog 11 #[.int .i64 (N : Nat), .int .i64 (T : Nat), .slice A m c] w fun e w' => ∃ u v, e = .returned (.tuple #[u, v, .int .i64 0]) ∧ Gown rnT w' w.heap.size u (plays N l T).rs ∧ Gown evT w' w.heap.size v (plays N l T).es ∧ Below w.heap.size w w' := by
  have hck := check11 (c := c) h N ⟨by omega, by omega⟩ (by omega)
  rw [hc] at hck
  have HCK := Lib.hid hck
  have HG := Lib.hid h
  have HIN := Lib.hid (chkA_ok.1 hc)
  have HWF := Lib.hid (fun a ha => (hwf a ha).1)
  have HTW := Lib.hid (fun a ha => (hwf a ha).2)
  have HOK := Lib.hid (fun k => plays_ok (N := N) (l := l) h32 (fun a ha => (hwf a ha).1) k)
  have hT0 : decide ((T : Int) < 0) = false := by simp
  have hT1 : ¬ (1048576 : Int) < (T : Int) := by omega
  clear h hc hwf hck
  go_enter Tryz.func11, Tryz.ntmps11
  go_wp2_with fail
  refine HCK.out.mono ?_
  rintro e w1 ⟨rfl, hb1⟩
  have HB1 := Lib.hid hb1
  clear hb1
  go_wp2_with fail
  refine (bnew_any N h1 h32 _).mono ?_
  rintro e w2 ⟨⟨g, pv, ps⟩, rfl, hl, hb2⟩
  have HL2 := Lib.hid (hl.base HB1.out.size)
  have HB2 := Lib.hid (nxt HB1.out hb2)
  clear hl hb2
  go_wp2_with fail
  refine (byTick_any (HG.out.below HB2.out) hm HTW.out).mono ?_
  rintro e w3 ⟨gm, f, rfl, hamp, hb3⟩
  have HP3 := Lib.hid (show Pst w w3 g pv ps gm l f (.slice none 0 0) (.slice none 0 0) (Bs.new N) [] [] from ⟨HL2.out.next hb3, Gown.nil _ _ _, Gown.nil _ _ _, ⟨hamp.mp, fun t => (hamp.own t).base HB2.out.size, hamp.sep, Nat.le_trans HB2.out.size hamp.at_⟩, nxt HB2.out hb3⟩)
  clear hamp hb3 HL2 HB2 HB1
  go_wp2
  go_loopw [13, 14, 39] (fun u v i wr => ∃ (k : Nat) (qs : List NP), k ≤ T ∧ i = .int .i64 k ∧ Pst w wr g pv qs gm l f u v (plays N l k).b (plays N l k).rs (plays N l k).es) (fun _ _ i _ => T - (intOf i).toNat)
  case atStart => exact ⟨0, ps, Nat.zero_le _, rfl, HP3.out⟩
  case round =>
    obtain ⟨k, qs, hk, rfl, hp⟩ := hrel
    have hok := HOK.out k
    have hpn : plays N l (k + 1) = (plays N l k).next l := rfl
    obtain ⟨p, hpp⟩ : ∃ p, plays N l k = p := ⟨_, rfl⟩
    rw [hpp] at hp hok hpn
    obtain ⟨⟨L, t⟩, rs, es⟩ := p
    have hkt : t = k := hok.t
    subst hkt
    obtain ⟨Au, cu, hu, -⟩ := hp.runs.len
    obtain ⟨Av, cv, hv, -⟩ := hp.evs.len
    simp only at hu hv
    obtain ⟨nu, hnu⟩ : ∃ nu, rs.length = nu := ⟨_, rfl⟩
    obtain ⟨nv, hnv⟩ : ∃ nv, es.length = nv := ⟨_, rfl⟩
    rw [hnu] at hu
    rw [hnv] at hv
    subst hu; subst hv
    have HP := Lib.hid hp
    by_cases hlt : t < T
    · have hlt' : (t : Int) < (T : Int) := by omega
      have htw : (Lit.int .i64 (t : Int)).wf = true := wf_nat (by omega)
      have hlook := hp.map.mp.look htw
      obtain ⟨Af, cf, hft, -⟩ := (hp.map.own (t : Int)).len
      obtain ⟨nf, hnf⟩ : ∃ nf, (atI l (t : Int)).length = nf := ⟨_, rfl⟩
      rw [hnf] at hft
      rw [hft] at hlook
      have hnfl : nf ≤ 1000 := by
        rw [← hnf]
        have h1 := List.length_filter_le (fun x : Ac => x.t == (t : Int)) l
        have h2 := HG.out.1
        unfold atI
        omega
      have hrow := hp.map.own (t : Int)
      rw [hft] at hrow
      have hLl : L.length = N := hok.len
      have HDO := Lib.hid (do_any (T := t) hp.bus (by show L.length ≤ 32; omega) hok.snd hrow hnfl hnf (fun a ha => by have h2 := HIN.out a (List.mem_filter.1 ha).1; show 0 ≤ a.n ∧ a.n < (L.length : Int); rw [hLl]; exact ⟨h2.2.1, h2.2.2.1⟩) (fun a ha => HWF.out a (List.mem_filter.1 ha).1))
      have hd1 := dos_len ⟨L, t⟩ (atT l t)
      have hd2 := dos_t ⟨L, t⟩ (atT l t)
      have hd3 := dos_sound hok.snd (atT l t) (fun a ha => HWF.out a (List.mem_filter.1 ha).1)
      have hd4 := dos_lt (N := N) ⟨L, t⟩ (atT l t) (fun a ha => by have h2 := HIN.out a (List.mem_filter.1 ha).1; exact ⟨h2.2.1, h2.2.2.1⟩)
      have HPN := Lib.hid hpn
      have HRL := Lib.hid hok.rl
      have HRN := Lib.hid hok.rn
      have HEL := Lib.hid hok.el
      rw [show atI l (t : Int) = atT l t from rfl] at HDO
      unfold Pl.next at HPN
      simp only at HPN hd1 hd2
      obtain ⟨⟨bd, x⟩, hbx⟩ : ∃ bx, Bs.dos ⟨L, t⟩ (atT l t) = bx := ⟨_, rfl⟩
      rw [hbx] at HDO HPN hd1 hd2 hd3 hd4
      simp only at HDO HPN hd1 hd2 hd3 hd4
      have hx32 : x < 4294967296 := Nat.lt_of_lt_of_le hd4 (Nat.le_trans (Nat.pow_le_pow_right (n := 2) (i := N) (j := 32) (by omega) h32) (by decide))
      have hmk := mask_in hd4 h32
      have HEV := Lib.hid (evs_len hd3 (by omega) x 4294967295)
      have HST := Lib.hid (fun (W : World) (q2 : List NP) (hW : BLay W w.heap.size ⟨g, pv, q2⟩ bd) => bstep_any (T := t) hW (by omega) hd3 (by omega) (by omega) x hx32 (by rw [hd1, hLl]; exact hmk))
      obtain ⟨rn, hrn⟩ : ∃ rn, bd.run 0 4294967295 = rn := ⟨_, rfl⟩
      obtain ⟨ev, hev⟩ : ∃ ev, bd.evs x 0 4294967295 = ev := ⟨_, rfl⟩
      have hrn1 : rn.n = 1 := by rw [← hrn]; rfl
      rw [hev] at HEV HST HPN
      rw [hrn] at HST HPN
      clear hp hok hpn hrow hft hnf hd1 hd2 hd3 hd4 hmk hbx hrn hev htw hLl
      go_wp2_with fail
      refine HDO.out.mono ?_
      rintro e w4 ⟨q4, rfl, h4, m4⟩
      have HP4 := Lib.hid (HP.out.turn m4 h4)
      clear h4 m4 hlook HP HDO
      go_wp2_with fail
      refine (HST.out _ _ HP4.out.bus).mono ?_
      rintro e w5 ⟨ue, q5, rfl, he5, h5, m5⟩
      have HP5 := Lib.hid (HP4.out.turn m5 h5)
      have HE5 := Lib.hid (he5.base HP4.out.bel.size)
      obtain ⟨Ae, ce, hue, -⟩ := he5.len
      obtain ⟨ne, hne⟩ : ∃ ne, ev.length = ne := ⟨_, rfl⟩
      rw [hne] at hue
      subst hue
      clear he5 h5 m5 HP4 HST
      obtain ⟨rn0, rn1, rn2⟩ := rn
      have hrn0 : rn0 = 1 := hrn1
      clear hrn1
      subst hrn0
      have HAL := Lib.hid ((Below.refl w5.heap.size w5).alloc (Nat.le_refl _) (.cells (Rn.c ⟨1, rn1, rn2⟩) 50))
      have HP6 := Lib.hid (HP5.out.next HAL.out)
      have HE6 := Lib.hid (HE5.out.below HAL.out)
      have HJ := Lib.hid (joinR_any HP6.out.runs HP6.out.bel.size ⟨1, rn1, rn2⟩ (by have := HRL.out; omega) (fun y hy => by have := HRN.out y hy; omega) ⟨by show (0 : Int) ≤ 1; omega, by show (1 : Int) ≤ 2000000; omega⟩)
      go_wp2_with fail
      refine HJ.out.mono ?_
      rintro e w7 ⟨u7, rfl, h7, m7⟩
      have HP7 := Lib.hid (HP6.out.run m7 h7)
      have HE7 := Lib.hid (HE6.out.moves m7 (rows_ne HE6.out HP6.out.runs (by decide))).1
      obtain ⟨A7, c7, hu7, -⟩ := h7.len
      obtain ⟨n7, hn7⟩ : ∃ n7, (joinR rs ⟨1, rn1, rn2⟩).length = n7 := ⟨_, rfl⟩
      rw [hn7] at hu7
      subst hu7
      have HGS := Lib.hid (show Gs evT w7 (some ⟨0, 0, none⟩) 0 [] → True from fun _ => trivial)
      have hgs := HE7.out.gs
      rw [hne] at hgs
      have HGE := Lib.hid hgs
      clear h7 m7 hn7 HJ HP6 HP5 HE5 HE6 HGS hgs
      go_wp2_with (first | (at_builtin; refine append_E11 evT _ (by rfl) _ _ rfl w.heap.size _ es rfl HP7.out.evs Ae ne ce ev rfl HGE.out (by have h1 := HEL.out; have h2 := HEV.out; omega) HP7.out.bel.size ?_; intro v8 w8 h8 g8 l8) | fail)
      have HP8 := Lib.hid (HP7.out.ev (Moves.row g8 l8) h8)
      obtain ⟨A8, c8, hv8, -⟩ := h8.len
      obtain ⟨n8, hn8⟩ : ∃ n8, (es ++ ev).length = n8 := ⟨_, rfl⟩
      rw [hn8] at hv8
      subst hv8
      clear h8 g8 l8 hn8 HP7
      go_wp2
      go_roundw
      case rel => exact ⟨t + 1, q5, by omega, by go_num, by rw [HPN.out]; exact HP8.out⟩
      case measure => simp [intOf]; omega
    · have hlt' : ¬ (t : Int) < (T : Int) := by omega
      have : t = T := by omega
      subst this
      have HPP := Lib.hid hpp
      clear hp hok hpn hpp
      go_wp2
      refine bodyPost_ret (v := .tuple #[.slice Au nu cu, .slice Av nv cv, .int .i64 0]) (by rw [results_ttt rfl]; go_simp) rfl ?_
      rw [HPP.out]
      exact ⟨_, _, rfl, HP.out.runs, HP.out.evs, HP.out.bel⟩
end Go.Proofs.YtalpbnfebcafgaaGreat

/- Rows of runs, and of events, that are the same. -/
namespace Go.Proofs.YtalpbnfebcafgaaGreat
set_option maxRecDepth 20000
open Go.RowKit
set_option linter.unusedSimpArgs false

theorem rneqA (n b : Int) (d : Nat) (w : World) : (binOp .neq 50 (.agg #[.int .i64 n, .int .i64 b, .int .u32 (d : Nat)]) (.agg #[.int .i64 n, .int .i64 b, .int .u32 (d : Nat)])).run Tryz.prog w = .ok (.bool false) w := by
  have h : (Op.equalIn 10000 50 (.agg #[.int .i64 n, .int .i64 b, .int .u32 (d : Nat)]) (.agg #[.int .i64 n, .int .i64 b, .int .u32 (d : Nat)])).run Tryz.prog w = .ok true w := by go_simp
  rw [run_neq_struct, h]; rfl
theorem bevneq (t n : Nat) (e : Ev) (w : World) : (binOp .neq 41 (.agg (becs (t, n, e)).toArray) (.agg (becs (t, n, e)).toArray)).run Tryz.prog w = .ok (.bool false) w := by
  have h33 := eq33
  have h : (Op.equalIn 10000 41 (.agg (becs (t, n, e)).toArray) (.agg (becs (t, n, e)).toArray)).run Tryz.prog w = .ok true w := by go_simp
  rw [run_neq_struct, h]; rfl
/-- A row that has the same cells. -/
theorem Gs.same {w : World} {A : Option Addr} {m : Nat} {xs ys : List Be} (h : Gs evT w A m ys) (e : ys.map becs = xs.map becs) : Gs evT w A m xs := by
  have hl : ys.length = xs.length := by have := congrArg List.length e; simpa using this
  have hf : evT.f ys = evT.f xs := by
    unfold Elt.f
    rw [List.flatMap_def, List.flatMap_def]
    exact congrArg List.flatten e
  refine ⟨hl ▸ h.1, fun hm => ?_⟩
  obtain ⟨ad, h1, h2, h3⟩ := h.2 hm
  exact ⟨ad, h1, h2, fun j u hu => h3 j u (hf ▸ hu)⟩
set_option maxHeartbeats 1600000 in
theorem runs_same {w : World} {A A' : Option Addr} {m c c' : Nat} {xs : List Rn} (h : Gs rnT w A m xs) (h' : Gs rnT w A' m xs) (hm : m ≤ 1000000) :
    Calls Tryz.prog 23 #[.slice A m c, .slice A' m c'] w fun e w' => e = .returned (.bool true) ∧ Below w.heap.size w w' := by
  have HA := Lib.hid h
  have HA' := Lib.hid h'
  have hne := rneqA
  clear h h'
  go_enter Tryz.func23, Tryz.ntmps23
  go_wp2
  go_loopw [5] (fun i wr => ∃ k : Nat, k ≤ m ∧ i = .int .i64 k ∧ Below w.heap.size w wr) (fun i _ => m - (intOf i).toNat)
  case atStart => exact ⟨0, Nat.zero_le _, rfl, Below.refl _ _⟩
  case round =>
    obtain ⟨k, hk, rfl, hb⟩ := hrel
    have HB := Lib.hid hb
    by_cases hlt : k < m
    · have hlt' : (k : Int) < (m : Int) := by omega
      have hkl : k < xs.length := by rw [HA.out.1]; exact hlt
      have hx : xs[k]? = some xs[k] := List.getElem?_eq_getElem hkl
      obtain ⟨r, hr⟩ : ∃ r, xs[k] = r := ⟨_, rfl⟩
      rw [hr] at hx
      obtain ⟨ad, rfl, hal, a0, a1, a2⟩ := (HA.out.below hb).rn hx
      obtain ⟨ad', rfl, hal', c0, c1, c2⟩ := (HA'.out.below hb).rn hx
      obtain ⟨rn, rb, rd⟩ := r
      simp only at a0 a1 a2 c0 c1 c2
      clear hx hr hb hkl
      go_wp2_with fail
      go_quiet (fail)
      go_wp2
      go_roundw
      case rel => exact ⟨k + 1, by omega, by go_num, belowN HB.out _⟩
      case measure => simp [intOf]; omega
    · have hlt' : ¬ (k : Int) < (m : Int) := by omega
      go_wp2
      go_ret
      exact ⟨rfl, HB.out⟩
set_option maxHeartbeats 1600000 in
theorem events_same {w : World} {A A' : Option Addr} {m c c' : Nat} {xs : List Be} (h : Gs evT w A m xs) (h' : Gs evT w A' m xs) (hm : m ≤ 1000000) :
    Calls Tryz.prog 13 #[.slice A m c, .slice A' m c'] w fun e w' => e = .returned (.bool true) ∧ Below w.heap.size w w' := by
  have HA := Lib.hid h
  have HA' := Lib.hid h'
  clear h h'
  go_enter Tryz.func13, Tryz.ntmps13
  go_wp2
  go_loopw [5] (fun i wr => ∃ k : Nat, k ≤ m ∧ i = .int .i64 k ∧ Below w.heap.size w wr) (fun i _ => m - (intOf i).toNat)
  case atStart => exact ⟨0, Nat.zero_le _, rfl, Below.refl _ _⟩
  case round =>
    obtain ⟨k, hk, rfl, hb⟩ := hrel
    have HB := Lib.hid hb
    by_cases hlt : k < m
    · have hlt' : (k : Int) < (m : Int) := by omega
      have hkl : k < xs.length := by rw [HA.out.1]; exact hlt
      have hx : xs[k]? = some xs[k] := List.getElem?_eq_getElem hkl
      obtain ⟨r, hr⟩ : ∃ r, xs[k] = r := ⟨_, rfl⟩
      rw [hr] at hx
      obtain ⟨ad, rfl, hal, a0, a1, a2, a3, a4, a5, a6, a7, a8, a9, a10, a11, a12, a13, a14⟩ := (HA.out.below hb).ev hx
      obtain ⟨ad', rfl, hal', c0, c1, c2, c3, c4, c5, c6, c7, c8, c9, c10, c11, c12, c13, c14⟩ := (HA'.out.below hb).ev hx
      obtain ⟨t, n, e⟩ := r
      have hne := bevneq t n e
      simp only at a0 a1 a2 a3 a4 a5 a6 a7 a8 a9 a10 a11 a12 a13 a14 c0 c1 c2 c3 c4 c5 c6 c7 c8 c9 c10 c11 c12 c13 c14
      clear hx hr hb hkl
      go_wp2_with fail
      go_quiet (fail)
      go_wp2
      go_roundw
      case rel => exact ⟨k + 1, by omega, by go_num, belowN HB.out _⟩
      case measure => simp [intOf]; omega
    · have hlt' : ¬ (k : Int) < (m : Int) := by omega
      go_wp2
      go_ret
      exact ⟨rfl, HB.out⟩
end Go.Proofs.YtalpbnfebcafgaaGreat

/- The levels of runs. -/
namespace Go.Proofs.YtalpbnfebcafgaaGreat
set_option maxRecDepth 20000
open Go.RowKit
set_option linter.unusedSimpArgs false

/-- The levels of runs, tick by tick. -/
def lvls (rs : List Rn) : List Int := rs.flatMap fun r => List.replicate r.n.toNat r.b
theorem lvls_snoc (rs : List Rn) (r : Rn) : lvls (rs ++ [r]) = lvls rs ++ List.replicate r.n.toNat r.b := by simp [lvls]
theorem lvls_pre (rs : List Rn) (k : Nat) : (lvls (rs.take k)).length ≤ (lvls rs).length := by
  conv => rhs; rw [← List.take_append_drop k rs]
  unfold lvls
  rw [List.flatMap_append, List.length_append]
  omega
set_option maxHeartbeats 3200000 in
set_option maxRecDepth 100000 in
theorem levels_any {w : World} {A : Option Addr} {m c : Nat} {rs : List Rn} (h : Gs rnT w A m rs) (hm2 : m ≤ 5000) (h0 : ∀ r ∈ rs, 0 ≤ r.n) (hT : (lvls rs).length ≤ 5000) :
    Calls Tryz.prog 12 #[.slice A m c] w fun e w' => ∃ v, e = .returned v ∧ Own w' w.heap.size v (lvls rs) ∧ Below w.heap.size w w' := by
  have HG := Lib.hid h
  have H0 := Lib.hid h0
  have HT := Lib.hid hT
  clear h h0 hT
  go_enter Tryz.func12, Tryz.ntmps12
  go_wp2
  go_loopw [3, 4] (fun v i wr => ∃ k : Nat, k ≤ m ∧ i = .int .i64 k ∧ Own wr w.heap.size v (lvls (rs.take k)) ∧ Below w.heap.size w wr) (fun _ i _ => m - (intOf i).toNat)
  case atStart => exact ⟨0, Nat.zero_le _, rfl, Own.nil _ _, Below.refl _ _⟩
  case round =>
    obtain ⟨k, hk, rfl, hg, hb⟩ := hrel
    have HB := Lib.hid hb
    obtain ⟨Av, cv, hv, -, -⟩ := hg.il2
    obtain ⟨nv, hnv⟩ : ∃ nv, (lvls (rs.take k)).length = nv := ⟨_, rfl⟩
    rw [hnv] at hv
    subst hv
    have HGV := Lib.hid hg
    by_cases hlt : k < m
    · have hlt' : (k : Int) < (m : Int) := by omega
      have hkl : k < rs.length := by rw [HG.out.1]; exact hlt
      have hx : rs[k]? = some rs[k] := List.getElem?_eq_getElem hkl
      obtain ⟨r, hr⟩ : ∃ r, rs[k] = r := ⟨_, rfl⟩
      rw [hr] at hx
      have hr0 := H0.out r (List.mem_of_getElem? hx)
      have hTK : lvls (rs.take (k + 1)) = lvls (rs.take k) ++ List.replicate r.n.toNat r.b := by rw [List.take_add_one, hx]; exact lvls_snoc _ _
      have hle := lvls_pre rs (k + 1)
      rw [hTK, List.length_append, List.length_replicate, hnv] at hle
      obtain ⟨rn, rb, rd⟩ := r
      simp only at hr0 hle hTK
      obtain ⟨n, rfl⟩ := Int.eq_ofNat_of_zero_le hr0
      simp only [Int.toNat_natCast] at hle hTK
      have HTK := Lib.hid hTK
      have HLE := Lib.hid (show nv + n ≤ 5000 from Nat.le_trans hle HT.out)
      have HNV := Lib.hid hnv
      have HX := Lib.hid hx
      clear hTK hle hr hr0 hkl hnv hg hx
      go_wp2
      go_loopw [3, 5] (fun v i wi => ∃ (j : Nat) (A' : Option Addr) (c' : Nat), j ≤ n ∧ i = .int .i64 j ∧ v = .slice A' (nv + j) c' ∧ Own wi w.heap.size v (lvls (rs.take k) ++ List.replicate j rb) ∧ Below w.heap.size w wi) (fun _ i _ => n - (intOf i).toNat)
      case atStart => exact ⟨0, Av, cv, Nat.zero_le _, rfl, rfl, by simpa using HGV.out, HB.out⟩
      case round =>
        rename World => wi
        obtain ⟨j, A', c', hj, rfl, rfl, hgi, hbi⟩ := hrel
        have HBI := Lib.hid hbi
        have hnv5 : nv + n ≤ 5000 := HLE.out
        obtain ⟨ad, rfl, hal, a0, a1, a2⟩ := ((HG.out).below hbi).rn HX.out
        simp only at a0 a1 a2
        by_cases hlj : j < n
        · have hlj' : (j : Int) < (n : Int) := by omega
          have hl5 : (nv : Int) + (j : Int) < 5000 := by omega
          have HAL := Lib.hid (hbi.alloc hbi.size (.cells #[.int .i64 rb] 3))
          have HGA := Lib.hid (hgi.below ((Below.refl wi.heap.size wi).alloc (Nat.le_refl _) (.cells #[.int .i64 rb] 3)))
          have HLI := Lib.hid (show Il (wi.alloc (.cells #[.int .i64 rb] 3)) (some ⟨wi.heap.size, 0, none⟩) 1 [rb] from (Own.lit wi 0 [rb] (Nat.zero_le _) (by simp)).il_at)
          have HLL := Lib.hid (show (lvls (rs.take k) ++ List.replicate j rb).length + 1 ≤ 1000000 by rw [List.length_append, List.length_replicate, HNV.out]; omega)
          have HSN := Lib.hid (show lvls (rs.take k) ++ List.replicate (j + 1) rb = lvls (rs.take k) ++ List.replicate j rb ++ [rb] by rw [List.replicate_succ', List.append_assoc])
          clear hgi hbi
          go_wp2_with (first | (at_builtin; refine append_ints2 _ (by rfl) _ _ rfl w.heap.size _ _ rfl HGA.out (some ⟨wi.heap.size, 0, none⟩) 1 1 [rb] rfl HLI.out HLL.out HAL.out.size ?_; intro v' w' h1 h2 h3) | fail)
          rw [← HSN.out] at h1
          have H1 := Lib.hid h1
          have H2 := Lib.hid (HAL.out.grown h2 HAL.out.size HGA.out.row)
          obtain ⟨A2, c2, hv2, -, -⟩ := h1.il2
          have hl2 : (lvls (rs.take k) ++ List.replicate (j + 1) rb).length = nv + (j + 1) := by rw [List.length_append, List.length_replicate, HNV.out]
          rw [hl2] at hv2
          subst hv2
          clear h1 h2 h3 hl2
          go_wp2
          go_roundw
          case rel => exact ⟨j + 1, A2, c2, by omega, by go_num, rfl, H1.out, H2.out⟩
          case measure => simp [intOf]; omega
        · have hlj' : ¬ (j : Int) < (n : Int) := by omega
          have : j = n := by omega
          subst this
          rw [← HTK.out] at hgi
          have HGI := Lib.hid hgi
          clear hgi hbi
          go_wp2
          go_roundw
          case rel => exact ⟨k + 1, by omega, by go_num, HGI.out, HBI.out⟩
          case measure => simp [intOf]; omega
    · have hlt' : ¬ (k : Int) < (m : Int) := by omega
      have : k = m := by omega
      subst this
      rw [List.take_of_length_le (by rw [HG.out.1]; exact Nat.le_refl _)] at hg
      have HF := Lib.hid hg
      clear hg hb hnv HGV
      go_wp2
      go_ret
      exact ⟨_, rfl, HF.out, HB.out⟩
end Go.Proofs.YtalpbnfebcafgaaGreat

