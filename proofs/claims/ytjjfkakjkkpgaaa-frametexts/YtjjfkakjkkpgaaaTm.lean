/- Texts and frames are one to one. -/
import Derived.Test.YtjjfkakjkkpgaaaPa
namespace Go.Proofs.Ytjjfkakjkkpgaaa

theorem ne35_of {l : List UInt8} (h : ∀ c ∈ l, hok c = true) : ∀ c ∈ l, (!(c == 35)) = true := by
  intro c hc
  have := h c hc
  cases h35 : (c == 35)
  · rfl
  · rw [eq_of_beq h35, hok_35] at this; cases this
theorem led_app {p : UInt8 → Bool} {x : UInt8} (hx : p x = false) : ∀ (a b : List UInt8), (∀ c ∈ a, p c = true) → led p (a ++ x :: b) = a.length := by
  intro a
  induction a with
  | nil => intro b _; rw [List.nil_append, led_cons, hx]; rfl
  | cons c a ih =>
    intro b h
    rw [List.cons_append, led_cons, if_pos (h c (by simp)), ih b (fun y hy => h y (by simp [hy]))]; rfl
theorem mrk_app {a b : List UInt8} (h : ∀ c ∈ a, hok c = true) : mrk (a ++ 35 :: b) = a.length := led_app (by rfl) a b (ne35_of h)
theorem split_mrk {l : List UInt8} (h : mrk l < l.length) : l = l.take (mrk l) ++ 35 :: l.drop (mrk l + 1) := by
  have h35 : l[mrk l] = 35 := by
    cases hb : (l[mrk l] == 35)
    · exfalso
      have := led_succ (fun x => !(x == 35)) l (mrk l) l[mrk l] (Nat.le_refl _) (List.getElem?_eq_getElem h) (by rw [hb]; rfl)
      have e : led (fun x => !(x == 35)) l = mrk l := rfl
      omega
    · exact eq_of_beq hb
  rw [← h35, ← List.drop_eq_getElem_cons h, List.take_append_drop]

theorem val_parts {f g : Fr} (h1 : f.id = g.id) (h2 : f.ext = g.ext) (h3 : f.rtr = g.rtr) (h4 : f.len = g.len) (h5 : ∀ k, k < 8 → f.d k = g.d k) : f.val = g.val := by
  simp only [Fr.val, Fr.cells, h1, h2, h3, h4, h5 0 (by omega), h5 1 (by omega), h5 2 (by omega), h5 3 (by omega), h5 4 (by omega), h5 5 (by omega), h5 6 (by omega), h5 7 (by omega)]
theorem may_same {f g : Fr} (h1 : f.id = g.id) (h2 : f.ext = g.ext) (h3 : f.rtr = g.rtr) (h4 : f.len = g.len) (h5 : ∀ k, k < 8 → f.d k = g.d k) (h : f.may = true) : g.may = true := by
  obtain ⟨a0, a1, a2, a3, a4⟩ := may_parts h
  have hm : f.most = g.most := by unfold Fr.most; rw [h2]
  refine may_of (by omega) (by omega) (by omega) (by omega) fun k hk => ?_
  rw [← h5 k hk, ← h3, ← h4]
  exact a4 k hk

theorem prs_hok (d : Nat → Int) : ∀ n, ∀ c ∈ prs d n, hok c = true := by
  intro n
  induction n with
  | zero => intro c h; cases h
  | succ n ih =>
    intro c h
    rcases List.mem_append.1 h with h | h
    · exact ih c h
    · exact hx_hok _ _ c h
theorem prs_pre (d : Nat → Int) (k : Nat) : ∀ n, k ≤ n → (prs d n).take (2 * k) = prs d k := by
  intro n
  induction n with
  | zero => intro h; have : k = 0 := by omega
            subst this; rfl
  | succ n ih =>
    intro h
    rcases Nat.lt_or_ge n k with h' | h'
    · have : k = n + 1 := by omega
      subst this
      exact List.take_of_length_le (by rw [prs_len]; exact Nat.le_refl _)
    · rw [prs, List.take_append_of_le_length (by rw [prs_len]; omega), ih h']
theorem pr_prs (d : Nat → Int) (k n : Nat) (h : k < n) : pr (prs d n) k = hx 2 (d k).toNat := by
  unfold pr
  rw [show (k + 1) * 2 = 2 * (k + 1) by omega, prs_pre d (k + 1) n (by omega), show k * 2 = (prs d k).length by rw [prs_len]; omega, prs]
  exact List.drop_left
theorem head_ne82 {l : List UInt8} (h : ∀ c ∈ l, hok c = true) : ¬ l.head? = some 82 := by
  intro hh
  have := h 82 (List.mem_of_mem_head? hh)
  rw [hok_82] at this; cases this

/-- What stands behind the mark in a frame's text. -/
theorem tail_ok {f : Fr} (hm : f.may = true) (hw : f.wf) : cok f.tail = true ∧ (cfr f.tail).rtr = f.rtr ∧ (cfr f.tail).len = f.len ∧ ∀ k, k < 8 → (cfr f.tail).d k = f.d k := by
  obtain ⟨_, _, h2, h3, h4⟩ := may_parts hm
  cases hr : f.rtr
  · have e : f.tail = prs f.d f.len.toNat := by unfold Fr.tail; rw [hr]; rfl
    obtain ⟨n, hn⟩ := Int.eq_ofNat_of_zero_le h2
    rw [e, hn, Int.toNat_natCast]
    have hall := prs_hok f.d n
    have hne := head_ne82 hall
    have hl := prs_len f.d n
    have ec : cfr (prs f.d n) = frp (prs f.d n) n := by unfold cfr; rw [if_neg hne, hl, show 2 * n / 2 = n by omega]
    rw [ec]
    refine ⟨?_, rfl, ?_, fun k hk => ?_⟩
    · unfold cok
      rw [if_neg hne, hl, show 2 * n % 2 = 0 by omega, show decide (2 * n ≤ 16) = true by simp; omega, List.all_eq_true.2 hall]; rfl
    · simp only [frp]; rw [hl, show 2 * n / 2 = n by omega]
    · simp only [frp]
      by_cases hkn : k < n
      · rw [if_pos hkn, pr_prs _ _ _ hkn]
        have := hw k hk
        rw [hval_hx 2 _ (by omega)]; omega
      · rw [if_neg hkn]
        rcases h4 k hk with h | h
        · exact h.symm
        · omega
  · have e : f.tail = 82 :: hx 1 f.len.toNat := by unfold Fr.tail; rw [hr]; rfl
    obtain ⟨n, hn⟩ := Int.eq_ofNat_of_zero_le h2
    have e2 : hx 1 n = [hd n] := by simp only [hx, List.nil_append]; rw [Nat.mod_eq_of_lt (by omega)]
    rw [e, hn, Int.toNat_natCast, e2]
    have ho := hok_hd n (by omega)
    refine ⟨by simp [cok, ho], rfl, ?_, fun k hk => ?_⟩
    · have : (cfr [82, hd n]).len = hv (hd n) := rfl
      rw [this, hv_hd n (by omega)]
    · have : (cfr [82, hd n]).d k = 0 := rfl
      rw [this]
      rcases h4 k hk with h | h
      · exact h.symm
      · rw [hr] at h; cases h.1

/-- A frame's text is parsed as it. -/
theorem text_parsed {f : Fr} (hm : f.may = true) (hw : f.wf) : perr f.text = 0 ∧ (pout f.text).val = f.val ∧ f.text.length ≤ 25 := by
  obtain ⟨h0, h1, h2, h3, _⟩ := may_parts hm
  obtain ⟨t1, t2, t3, t4⟩ := tail_ok hm hw
  obtain ⟨i, hi⟩ := Int.eq_ofNat_of_zero_le h0
  obtain ⟨wd, hwd⟩ : ∃ wd, (if f.ext then 8 else 3) = wd := ⟨_, rfl⟩
  have e0 : f.text = hx wd i ++ 35 :: f.tail := by
    unfold Fr.text Fr.head; rw [hwd, hi]; simp
  have hb : i < 16 ^ wd := by
    unfold Fr.most at h1
    rw [← hwd]
    cases hx : f.ext <;> simp [hx] at h1 ⊢ <;> omega
  have hmk : mrk f.text = wd := by rw [e0, mrk_app (hx_hok wd i), hx_len]
  have htk : f.text.take wd = hx wd i := by rw [e0, ← hx_len wd i]; rw [hx_len]; exact List.take_left' (hx_len wd i)
  have hdr : f.text.drop (wd + 1) = f.tail := by
    rw [e0, show hx wd i ++ 35 :: f.tail = (hx wd i ++ [35]) ++ f.tail by simp]
    exact List.drop_left' (by simp [hx_len])
  have hlen : f.text.length = wd + 1 + f.tail.length := by rw [e0]; simp [hx_len]; omega
  have h38 : (wd == 3 || wd == 8) = true ∧ (wd == 8) = f.ext ∧ wd ≤ 8 := by
    rw [← hwd]; cases f.ext <;> simp
  have hf : pfm f.text = true := by
    unfold pfm
    rw [hmk, htk, hdr, t1, h38.1, List.all_eq_true.2 (hx_hok wd i), show decide (wd < f.text.length) = true by simp; omega]; rfl
  have p1 : (pfr f.text).id = f.id := by
    show ((hval (f.text.take (mrk f.text)) : Nat) : Int) = f.id
    rw [hmk, htk, hval_hx wd i hb, hi]
  have p2 : (pfr f.text).ext = f.ext := by
    show (mrk f.text == 8) = f.ext
    rw [hmk]; exact h38.2.1
  have p3 : (pfr f.text).rtr = f.rtr := by
    show (cfr (f.text.drop (mrk f.text + 1))).rtr = f.rtr
    rw [hmk, hdr, t2]
  have p4 : (pfr f.text).len = f.len := by
    show (cfr (f.text.drop (mrk f.text + 1))).len = f.len
    rw [hmk, hdr, t3]
  have p5 : ∀ k, k < 8 → (pfr f.text).d k = f.d k := by
    intro k hk
    show (cfr (f.text.drop (mrk f.text + 1))).d k = f.d k
    rw [hmk, hdr]; exact t4 k hk
  have hpm : (pfr f.text).may = true := may_same p1.symm p2.symm p3.symm p4.symm (fun k hk => (p5 k hk).symm) hm
  have he : perr f.text = 0 := by unfold perr; rw [hf, if_pos rfl]; exact err_ok hpm
  refine ⟨he, ?_, ?_⟩
  · unfold pout; rw [he, if_pos rfl]
    exact val_parts p1 p2 p3 p4 p5
  · have : f.tail.length ≤ 16 := by
      unfold Fr.tail
      cases f.rtr
      · simp only [Bool.false_eq_true, if_false]; rw [prs_len]; omega
      · simp [hx]
    omega

theorem frp_text {l : List UInt8} {n : Nat} (hl : l.length = 2 * n) (h : ∀ c ∈ l, hok c = true) : ∀ k, k ≤ n → prs (frp l n).d k = l.take (2 * k) := by
  intro k
  induction k with
  | zero => intro _; rfl
  | succ k ih =>
    intro hk
    have hp : (pr l k).length = 2 := pr_len (by omega)
    have e : (frp l n).d k = (hval (pr l k) : Int) := by
      show (if k < n then (hval (pr l k) : Int) else 0) = _
      rw [if_pos (by omega)]
    rw [prs, ih (by omega), e, Int.toNat_natCast]
    have := hx_hval (pr l k) (fun c hc => h c (pr_sub hc))
    rw [hp] at this
    rw [this]
    unfold pr
    rw [show (k + 1) * 2 = 2 * (k + 1) by omega, show k * 2 = 2 * k by omega]
    have e2 : l.take (2 * k) = (l.take (2 * (k + 1))).take (2 * k) := by rw [List.take_take]; congr 1; omega
    rw [e2, List.take_append_drop]

/-- Whatever is parsed is right, and written as it stood. -/
theorem parsed_text {l : List UInt8} (h : perr l = 0) : (pout l).may = true ∧ (pout l).wf ∧ (pout l).text = l := by
  have e1 : pout l = pfr l := by unfold pout; rw [if_pos h]
  have hf : pfm l = true := by
    cases hf : pfm l
    · unfold perr at h; rw [hf] at h; cases h
    · rfl
  have hm : (pfr l).may = true := by
    unfold perr at h; rw [hf, if_pos rfl] at h
    cases hm : (pfr l).may
    · rw [err_no hm] at h; cases h
    · rfl
  rw [e1]
  unfold pfm at hf
  simp only [Bool.and_eq_true, decide_eq_true_eq, Bool.or_eq_true, beq_iff_eq] at hf
  obtain ⟨⟨⟨hlt, h38⟩, hall⟩, hc⟩ := hf
  have hall' := List.all_eq_true.1 hall
  have hs := split_mrk hlt
  have htl : (l.take (mrk l)).length = mrk l := by rw [List.length_take]; omega
  have hhead : (pfr l).head = l.take (mrk l) ++ [35] := by
    unfold Fr.head
    have e3 : (if (pfr l).ext then 8 else 3) = mrk l := by
      show (if (mrk l == 8) then 8 else 3) = mrk l
      rcases h38 with h | h <;> rw [h] <;> rfl
    rw [e3]
    have e4 : (pfr l).id.toNat = hval (l.take (mrk l)) := Int.toNat_natCast _
    rw [e4]
    have := hx_hval _ hall'
    rw [htl] at this
    rw [this]
  suffices hh : (pfr l).wf ∧ (pfr l).tail = l.drop (mrk l + 1) by
    refine ⟨hm, hh.1, ?_⟩
    unfold Fr.text
    rw [hhead, hh.2]
    conv => rhs; rw [hs]
    simp
  have d1 : (pfr l).d = (cfr (l.drop (mrk l + 1))).d := rfl
  have d2 : (pfr l).rtr = (cfr (l.drop (mrk l + 1))).rtr := rfl
  have d3 : (pfr l).len = (cfr (l.drop (mrk l + 1))).len := rfl
  unfold Fr.wf Fr.tail
  rw [d1, d2, d3]
  generalize l.drop (mrk l + 1) = t at *
  unfold cok at hc
  by_cases h82 : t.head? = some 82
  · rw [if_pos h82] at hc
    simp only [Bool.and_eq_true, beq_iff_eq] at hc
    obtain ⟨c, rfl⟩ : ∃ c, t = [82, c] := by
      match t, hc.1, h82 with
      | [a, c], _, h => simp at h; exact ⟨c, by rw [h]⟩
    have ho : hok c = true := by simpa using hc.2
    have hr := hv_range c
    have h0 : 0 ≤ hv c := by simpa [hok] using ho
    refine ⟨fun k _ => ⟨Int.le_refl _, by show (0 : Int) ≤ 255; omega⟩, ?_⟩
    show 82 :: hx 1 (hv c).toNat = [82, c]
    have e2 : hx 1 (hv c).toNat = [hd (hv c).toNat] := by simp only [hx, List.nil_append]; rw [Nat.mod_eq_of_lt (by omega)]
    rw [e2, hd_hv c ho]
  · rw [if_neg h82] at hc
    simp only [Bool.and_eq_true, beq_iff_eq, decide_eq_true_eq] at hc
    obtain ⟨⟨h2, h16⟩, ha⟩ := hc
    obtain ⟨n, hn⟩ : ∃ n, t.length = 2 * n := ⟨t.length / 2, by omega⟩
    have ec : cfr t = frp t n := by unfold cfr; rw [if_neg h82, hn, show 2 * n / 2 = n by omega]
    rw [ec]
    refine ⟨fun k _ => ?_, ?_⟩
    · show 0 ≤ (if k < n then (hval (pr t k) : Int) else 0) ∧ (if k < n then (hval (pr t k) : Int) else 0) ≤ 255
      split
      · have := hval_lt (pr t k)
        rw [pr_len (by omega)] at this
        omega
      · omega
    · have e5 : (frp t n).len.toNat = n := by
        show ((t.length / 2 : Nat) : Int).toNat = n
        rw [Int.toNat_natCast]; omega
      have e6 : (frp t n).rtr = false := rfl
      rw [e5, e6]
      simp only [Bool.false_eq_true, if_false]
      rw [frp_text hn (List.all_eq_true.1 ha) n (Nat.le_refl _), ← hn]
      exact List.take_length
end Go.Proofs.Ytjjfkakjkkpgaaa
