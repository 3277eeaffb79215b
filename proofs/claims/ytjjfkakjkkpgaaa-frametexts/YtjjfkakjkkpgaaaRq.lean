/- The contract of the reference's Parse, whole. -/
import Derived.Test.YtjjfkakjkkpgaaaRla
import Derived.Test.YtjjfkakjkkpgaaaRlb
import Derived.Test.YtjjfkakjkkpgaaaPm
import Derived.Test.YtjjfkakjkkpgaaaRh
namespace Go.Proofs.Ytjjfkakjkkpgaaa
open Go.RowKit

set_option maxHeartbeats 1600000 in
theorem rp_none1 (s : ByteArray) (w : World) (hs : s.size ≤ 100) (h : s.size ≤ 3) :
    Calls Try.prog 21 #[.string s] w fun e w' => e = .returned (.tuple #[Fr.zero.val, .int .i64 11]) ∧ Below w.heap.size w w' := by
  have a1 : decide ((8 : Int) < (s.size : Int)) = false := by simp; omega
  have a2 : (s.size : Int) ≤ 3 := by omega
  have hs' : (s.size : Int) ≤ 100 := by omega
  go_enter Try.func21, Try.ntmps21
  go_wp2
  refine bodyPost_ret (v := .tuple #[Fr.zero.val, .int .i64 11]) (by rw [results_cell_tmp rfl]; go_simp; decide) rfl ⟨rfl, ?_⟩
  exact alloc2 w _ _

set_option maxHeartbeats 1600000 in
theorem rp_none2 (s : ByteArray) (w : World) (hs : s.size ≤ 100) (h : s.size ≤ 8) (h3 : 3 < s.size) (e3 : s[3] ≠ 35) :
    Calls Try.prog 21 #[.string s] w fun e w' => e = .returned (.tuple #[Fr.zero.val, .int .i64 11]) ∧ Below w.heap.size w w' := by
  have a1 : decide ((8 : Int) < (s.size : Int)) = false := by simp; omega
  have a2 : decide ((s.size : Int) ≤ 3) = false := by simp; omega
  have a4 : (3 : Int) < (s.size : Int) := by omega
  have a3 := not35' e3
  clear e3
  have hs' : (s.size : Int) ≤ 100 := by omega
  go_enter Try.func21, Try.ntmps21
  go_wp2
  refine bodyPost_ret (v := .tuple #[Fr.zero.val, .int .i64 11]) (by rw [results_cell_tmp rfl]; go_simp; decide) rfl ⟨rfl, ?_⟩
  exact alloc2 w _ _

set_option maxHeartbeats 1600000 in
theorem rp_none3 (s : ByteArray) (w : World) (hs : s.size ≤ 100) (h8 : 8 < s.size) (e8 : s[8] ≠ 35) (e3 : s[3] ≠ 35) :
    Calls Try.prog 21 #[.string s] w fun e w' => e = .returned (.tuple #[Fr.zero.val, .int .i64 11]) ∧ Below w.heap.size w w' := by
  have a1 : (8 : Int) < (s.size : Int) := by omega
  have a2 : decide ((s.size : Int) ≤ 3) = false := by simp; omega
  have a4 : (3 : Int) < (s.size : Int) := by omega
  have a3 := not35' e3
  have a5 := not35 e8
  clear e3 e8
  have hs' : (s.size : Int) ≤ 100 := by omega
  go_enter Try.func21, Try.ntmps21
  go_wp2
  refine bodyPost_ret (v := .tuple #[Fr.zero.val, .int .i64 11]) (by rw [results_cell_tmp rfl]; go_simp; decide) rfl ⟨rfl, ?_⟩
  exact alloc2 w _ _

theorem rp_bad (s s1 s2 : ByteArray) (w : World) (p : Nat) (hat : At s p) (hx0 : s.extract 0 p = s1) (hx1 : s.extract (p + 1) s.size = s2) (hs : s.size ≤ 100) (HN : Hid (∀ w : World, Calls Try.prog 36 #[.string s1] w fun e w' => e = .returned (.int .i64 (-1)) ∧ w = w')) :
    Calls Try.prog 21 #[.string s] w fun e w' => e = .returned (.tuple #[Fr.zero.val, .int .i64 11]) ∧ Below w.heap.size w w' := by
  rcases hat with ⟨rfl, hv⟩ | ⟨rfl, hv⟩ | ⟨rfl, hv⟩
  · exact rp_bad_8 s s1 s2 w hv hx0 hx1 hs HN
  · exact rp_bad_3a s s1 s2 w hv hx0 hx1 hs HN
  · exact rp_bad_3b s s1 s2 w hv hx0 hx1 hs HN

theorem rp_r (s s1 s2 : ByteArray) (id : Nat) (w : World) (p : Nat) (hat : At s p) (hx0 : s.extract 0 p = s1) (hx1 : s.extract (p + 1) s.size = s2) (hs : s.size ≤ 100) (HN : Hid (∀ w : World, Calls Try.prog 36 #[.string s1] w fun e w' => e = .returned (.int .i64 (id : Int)) ∧ w = w')) (g1 : (s2.size : Int) = 2) (z1 : 1 < s2.size) (g2 : ((s2[0].toNat : Int) == 82) = true) (n : Int) (F : Fr) (hF : F = ⟨(id : Int), p == 8, true, n, fun _ => 0⟩) (HD : Hid (∀ w : World, Calls Try.prog 37 #[.int .u8 (s2[1].toNat : Int)] w fun e w' => e = .returned (.int .i64 n) ∧ w = w')) (fo : Fr) (er : Int) (H : Hid (n < 0 ∧ er = 11 ∧ fo = Fr.zero ∨ 0 ≤ n ∧ (F.err = 0 ∧ er = 0 ∧ fo = F ∨ F.err = 14 ∧ er = 14 ∧ fo = Fr.zero))) :
    Calls Try.prog 21 #[.string s] w fun e w' => e = .returned (.tuple #[fo.val, .int .i64 er]) ∧ Below w.heap.size w w' := by
  rcases hat with ⟨rfl, hv⟩ | ⟨rfl, hv⟩ | ⟨rfl, hv⟩
  · exact rp_r_8 s s1 s2 id w hv hx0 hx1 hs HN g1 z1 g2 n F hF HD fo er H
  · exact rp_r_3a s s1 s2 id w hv hx0 hx1 hs HN g1 z1 g2 n F hF HD fo er H
  · exact rp_r_3b s s1 s2 id w hv hx0 hx1 hs HN g1 z1 g2 n F hF HD fo er H

theorem rp_odd (s s1 s2 : ByteArray) (id : Nat) (w : World) (p : Nat) (hat : At s p) (hx0 : s.extract 0 p = s1) (hx1 : s.extract (p + 1) s.size = s2) (hs : s.size ≤ 100) (HN : Hid (∀ w : World, Calls Try.prog 36 #[.string s1] w fun e w' => e = .returned (.int .i64 (id : Int)) ∧ w = w')) (g1 : ((s2.size : Int) == 2) = false) (h : ((s2.size : Int) % 2 != 0) = true) :
    Calls Try.prog 21 #[.string s] w fun e w' => e = .returned (.tuple #[Fr.zero.val, .int .i64 11]) ∧ Below w.heap.size w w' := by
  rcases hat with ⟨rfl, hv⟩ | ⟨rfl, hv⟩ | ⟨rfl, hv⟩
  · exact rp_odd_8 s s1 s2 id w hv hx0 hx1 hs HN g1 h
  · exact rp_odd_3a s s1 s2 id w hv hx0 hx1 hs HN g1 h
  · exact rp_odd_3b s s1 s2 id w hv hx0 hx1 hs HN g1 h

theorem rp_far (s s1 s2 : ByteArray) (id : Nat) (w : World) (p : Nat) (hat : At s p) (hx0 : s.extract 0 p = s1) (hx1 : s.extract (p + 1) s.size = s2) (hs : s.size ≤ 100) (HN : Hid (∀ w : World, Calls Try.prog 36 #[.string s1] w fun e w' => e = .returned (.int .i64 (id : Int)) ∧ w = w')) (g1 : ((s2.size : Int) == 2) = false) (h : ((s2.size : Int) % 2 != 0) = false) (h2 : 16 < (s2.size : Int)) :
    Calls Try.prog 21 #[.string s] w fun e w' => e = .returned (.tuple #[Fr.zero.val, .int .i64 11]) ∧ Below w.heap.size w w' := by
  rcases hat with ⟨rfl, hv⟩ | ⟨rfl, hv⟩ | ⟨rfl, hv⟩
  · exact rp_far_8 s s1 s2 id w hv hx0 hx1 hs HN g1 h h2
  · exact rp_far_3a s s1 s2 id w hv hx0 hx1 hs HN g1 h h2
  · exact rp_far_3b s s1 s2 id w hv hx0 hx1 hs HN g1 h h2

theorem rp_off_ne (s s1 s2 : ByteArray) (id : Nat) (w : World) (p : Nat) (hat : At s p) (hx0 : s.extract 0 p = s1) (hx1 : s.extract (p + 1) s.size = s2) (hs : s.size ≤ 100) (HN : Hid (∀ w : World, Calls Try.prog 36 #[.string s1] w fun e w' => e = .returned (.int .i64 (id : Int)) ∧ w = w')) (g1 : ((s2.size : Int) == 2) = false) (h : ((s2.size : Int) % 2 != 0) = false) (h2 : (s2.size : Int) < 15) (HR : Hid (∀ w : World, Calls Try.prog 36 #[.string s2] w fun e w' => e = .returned (.int .i64 (-1)) ∧ w = w')) :
    Calls Try.prog 21 #[.string s] w fun e w' => e = .returned (.tuple #[Fr.zero.val, .int .i64 11]) ∧ Below w.heap.size w w' := by
  rcases hat with ⟨rfl, hv⟩ | ⟨rfl, hv⟩ | ⟨rfl, hv⟩
  · exact rp_off_ne_8 s s1 s2 id w hv hx0 hx1 hs HN g1 h h2 HR
  · exact rp_off_ne_3a s s1 s2 id w hv hx0 hx1 hs HN g1 h h2 HR
  · exact rp_off_ne_3b s s1 s2 id w hv hx0 hx1 hs HN g1 h h2 HR

theorem rp_off_eq (s s1 s2 : ByteArray) (id : Nat) (w : World) (p : Nat) (hat : At s p) (hx0 : s.extract 0 p = s1) (hx1 : s.extract (p + 1) s.size = s2) (hs : s.size ≤ 100) (HN : Hid (∀ w : World, Calls Try.prog 36 #[.string s1] w fun e w' => e = .returned (.int .i64 (id : Int)) ∧ w = w')) (g1 : (s2.size : Int) = 2) (g0 : 0 < s2.size) (g2 : ((s2[0].toNat : Int) == 82) = false) (HR : Hid (∀ w : World, Calls Try.prog 36 #[.string s2] w fun e w' => e = .returned (.int .i64 (-1)) ∧ w = w')) :
    Calls Try.prog 21 #[.string s] w fun e w' => e = .returned (.tuple #[Fr.zero.val, .int .i64 11]) ∧ Below w.heap.size w w' := by
  rcases hat with ⟨rfl, hv⟩ | ⟨rfl, hv⟩ | ⟨rfl, hv⟩
  · exact rp_off_eq_8 s s1 s2 id w hv hx0 hx1 hs HN g1 g0 g2 HR
  · exact rp_off_eq_3a s s1 s2 id w hv hx0 hx1 hs HN g1 g0 g2 HR
  · exact rp_off_eq_3b s s1 s2 id w hv hx0 hx1 hs HN g1 g0 g2 HR

theorem rp_loop_nn (s s1 s2 : ByteArray) (id : Nat) (w : World) (p : Nat) (hat : At s p) (hx0 : s.extract 0 p = s1) (hx1 : s.extract (p + 1) s.size = s2) (hs : s.size ≤ 100) (HN : Hid (∀ w : World, Calls Try.prog 36 #[.string s1] w fun e w' => e = .returned (.int .i64 (id : Int)) ∧ w = w')) (g1 : ((s2.size : Int) == 2) = false) (r : List UInt8) (n : Nat) (hs2 : s2 = str r) (hl : r.length = 2 * n) (hn8 : n ≤ 8) (z : Int) (hz : decide (z < 0) = false) (HR : Hid (∀ w : World, Calls Try.prog 36 #[.string s2] w fun e w' => e = .returned (.int .i64 z) ∧ w = w')) (fo : Fr) (er : Int) (H : Hid ((∀ c ∈ r, hok c = true) ∧ ((frq id (p == 8) r n).err = 0 ∧ er = 0 ∧ fo = frq id (p == 8) r n ∨ (frq id (p == 8) r n).err = 14 ∧ er = 14 ∧ fo = Fr.zero) ∨ (¬ ∀ c ∈ r, hok c = true) ∧ er = 11 ∧ fo = Fr.zero)) :
    Calls Try.prog 21 #[.string s] w fun e w' => e = .returned (.tuple #[fo.val, .int .i64 er]) ∧ Below w.heap.size w w' := by
  rcases hat with ⟨rfl, hv⟩ | ⟨rfl, hv⟩ | ⟨rfl, hv⟩
  · exact rp_loop_nn_8 s s1 s2 id w hv hx0 hx1 hs HN g1 r n hs2 hl hn8 z hz HR fo er H
  · exact rp_loop_nn_3a s s1 s2 id w hv hx0 hx1 hs HN g1 r n hs2 hl hn8 z hz HR fo er H
  · exact rp_loop_nn_3b s s1 s2 id w hv hx0 hx1 hs HN g1 r n hs2 hl hn8 z hz HR fo er H

theorem rp_loop_nz (s s1 s2 : ByteArray) (id : Nat) (w : World) (p : Nat) (hat : At s p) (hx0 : s.extract 0 p = s1) (hx1 : s.extract (p + 1) s.size = s2) (hs : s.size ≤ 100) (HN : Hid (∀ w : World, Calls Try.prog 36 #[.string s1] w fun e w' => e = .returned (.int .i64 (id : Int)) ∧ w = w')) (g1 : ((s2.size : Int) == 2) = false) (r : List UInt8) (n : Nat) (hs2 : s2 = str r) (hl : r.length = 2 * n) (hn8 : n ≤ 8) (z : Int) (hz : z < 0) (h15 : decide ((s2.size : Int) < 15) = false) (HR : Hid (∀ w : World, Calls Try.prog 36 #[.string s2] w fun e w' => e = .returned (.int .i64 z) ∧ w = w')) (fo : Fr) (er : Int) (H : Hid ((∀ c ∈ r, hok c = true) ∧ ((frq id (p == 8) r n).err = 0 ∧ er = 0 ∧ fo = frq id (p == 8) r n ∨ (frq id (p == 8) r n).err = 14 ∧ er = 14 ∧ fo = Fr.zero) ∨ (¬ ∀ c ∈ r, hok c = true) ∧ er = 11 ∧ fo = Fr.zero)) :
    Calls Try.prog 21 #[.string s] w fun e w' => e = .returned (.tuple #[fo.val, .int .i64 er]) ∧ Below w.heap.size w w' := by
  rcases hat with ⟨rfl, hv⟩ | ⟨rfl, hv⟩ | ⟨rfl, hv⟩
  · exact rp_loop_nz_8 s s1 s2 id w hv hx0 hx1 hs HN g1 r n hs2 hl hn8 z hz h15 HR fo er H
  · exact rp_loop_nz_3a s s1 s2 id w hv hx0 hx1 hs HN g1 r n hs2 hl hn8 z hz h15 HR fo er H
  · exact rp_loop_nz_3b s s1 s2 id w hv hx0 hx1 hs HN g1 r n hs2 hl hn8 z hz h15 HR fo er H

theorem rp_loop_en (s s1 s2 : ByteArray) (id : Nat) (w : World) (p : Nat) (hat : At s p) (hx0 : s.extract 0 p = s1) (hx1 : s.extract (p + 1) s.size = s2) (hs : s.size ≤ 100) (HN : Hid (∀ w : World, Calls Try.prog 36 #[.string s1] w fun e w' => e = .returned (.int .i64 (id : Int)) ∧ w = w')) (g1 : ((s2.size : Int) == 2) = true) (g0 : 0 < s2.size) (g2 : ((s2[0].toNat : Int) == 82) = false) (r : List UInt8) (n : Nat) (hs2 : s2 = str r) (hl : r.length = 2 * n) (hn8 : n ≤ 8) (z : Int) (hz : decide (z < 0) = false) (HR : Hid (∀ w : World, Calls Try.prog 36 #[.string s2] w fun e w' => e = .returned (.int .i64 z) ∧ w = w')) (fo : Fr) (er : Int) (H : Hid ((∀ c ∈ r, hok c = true) ∧ ((frq id (p == 8) r n).err = 0 ∧ er = 0 ∧ fo = frq id (p == 8) r n ∨ (frq id (p == 8) r n).err = 14 ∧ er = 14 ∧ fo = Fr.zero) ∨ (¬ ∀ c ∈ r, hok c = true) ∧ er = 11 ∧ fo = Fr.zero)) :
    Calls Try.prog 21 #[.string s] w fun e w' => e = .returned (.tuple #[fo.val, .int .i64 er]) ∧ Below w.heap.size w w' := by
  rcases hat with ⟨rfl, hv⟩ | ⟨rfl, hv⟩ | ⟨rfl, hv⟩
  · exact rp_loop_en_8 s s1 s2 id w hv hx0 hx1 hs HN g1 g0 g2 r n hs2 hl hn8 z hz HR fo er H
  · exact rp_loop_en_3a s s1 s2 id w hv hx0 hx1 hs HN g1 g0 g2 r n hs2 hl hn8 z hz HR fo er H
  · exact rp_loop_en_3b s s1 s2 id w hv hx0 hx1 hs HN g1 g0 g2 r n hs2 hl hn8 z hz HR fo er H

/-- What the tail says, once the mark is found and the ID read. -/
theorem rp_tail (l : List UInt8) (p : Nat) (w : World) (hn : l.length ≤ 100) (hp : p = 3 ∨ p = 8) (hat : At (str l) p) (h35 : l[p]? = some 35) (ha : ∀ c ∈ l.take p, hok c = true) :
    Calls Try.prog 21 #[.string (str l)] w fun e w' => e = .returned (.tuple #[(pout l).val, .int .i64 (perr l)]) ∧ Below w.heap.size w w' := by
  obtain ⟨hm, hf⟩ := pfm_at hp h35 ha
  have hs : (str l).size ≤ 100 := by rw [str_size]; exact hn
  have hx0 : (str l).extract 0 p = str (l.take p) := by rw [str_extract]; rfl
  have hx1 : (str l).extract (p + 1) (str l).size = str (l.drop (p + 1)) := by rw [str_extract, str_size, List.take_of_length_le (Nat.le_refl _)]
  have HN := Lib.hid (fun w => rnum_ok (l.take p) w (by rw [List.length_take]; omega) ha)
  have hr100 : (l.drop (p + 1)).length ≤ 100 := by rw [List.length_drop]; omega
  generalize hid : hval (l.take p) = id at *
  generalize hr : l.drop (p + 1) = r at *
  have hsz : (str r).size = r.length := str_size r
  have bad : cok r = false → perr l = 11 ∧ pout l = Fr.zero := fun h => perr_no (by rw [hm, h])
  by_cases hR : r.length = 2 ∧ r.head? = some 82
  · obtain ⟨c, rfl⟩ : ∃ c, r = [82, c] := by
      match r, hR.1, hR.2 with
      | [a, c], _, h => simp at h; exact ⟨c, by rw [h]⟩
    have hck : cok [82, c] = hok c := by simp [cok]
    have hcf : cfr [82, c] = ⟨0, false, true, hv c, fun _ => 0⟩ := rfl
    rw [hcf] at hf
    have HD := Lib.hid (fun w => digit_any c w)
    refine rp_r (str l) _ (str [82, c]) id w p hat hx0 hx1 hs HN (by rw [hsz]; rfl) (by rw [hsz]; simp) rfl (hv c) (pfr l) hf HD (pout l) (perr l) (Lib.hid ?_)
    cases ho : hok c
    · have h0 : hv c < 0 := by simpa [hok] using ho
      have := bad (by rw [hck, ho])
      exact .inl ⟨h0, this.1, this.2⟩
    · have h0 : 0 ≤ hv c := by simpa [hok] using ho
      have hpf : pfm l = true := by rw [hm, hck, ho]
      obtain ⟨e1, e2⟩ := perr_ok hpf
      refine .inr ⟨h0, ?_⟩
      rcases e2 with ⟨a, b⟩ | ⟨a, b⟩
      · exact .inl ⟨a, by rw [e1, a], b⟩
      · exact .inr ⟨a, by rw [e1, a], b⟩
  have hck : r.head? = some 82 → cok r = false := fun h => by
    unfold cok; rw [if_pos h, show (r.length == 2) = false by simp; intro h2; exact hR ⟨h2, h⟩]; rfl
  by_cases hodd : r.length % 2 ≠ 0
  · have hc : cok r = false := by
      by_cases h : r.head? = some 82
      · exact hck h
      · unfold cok; rw [if_neg h, show (r.length % 2 == 0) = false by simpa using hodd]; rfl
    obtain ⟨e1, e2⟩ := bad hc
    rw [e1, e2]
    exact rp_odd (str l) _ (str r) id w p hat hx0 hx1 hs HN (by rw [hsz]; simp; omega) (by rw [hsz]; simp; omega)
  by_cases hfar : 16 < r.length
  · have hc : cok r = false := by
      by_cases h : r.head? = some 82
      · exact hck h
      · unfold cok; rw [if_neg h, show decide (r.length ≤ 16) = false by simp; omega]; simp
    obtain ⟨e1, e2⟩ := bad hc
    rw [e1, e2]
    exact rp_far (str l) _ (str r) id w p hat hx0 hx1 hs HN (by rw [hsz]; simp; omega) (by rw [hsz]; simp; omega) (by rw [hsz]; omega)
  obtain ⟨n, hl⟩ : ∃ n, r.length = 2 * n := ⟨r.length / 2, by omega⟩
  have hc : r.head? ≠ some 82 → cok r = r.all hok := fun h => by
    unfold cok; rw [if_neg h, show (r.length % 2 == 0) = true by simp; omega, show decide (r.length ≤ 16) = true by simp; omega]; rfl
  have h82 : (∀ c ∈ r, hok c = true) → r.head? ≠ some 82 := fun h => head_ne82 h
  have hno : (¬ ∀ c ∈ r, hok c = true) → cok r = false := fun h => by
    by_cases h8 : r.head? = some 82
    · exact hck h8
    · rw [hc h8]
      cases h' : r.all hok
      · rfl
      · exact absurd (List.all_eq_true.1 h') h
  have hF : (∀ c ∈ r, hok c = true) → pfr l = frq id (p == 8) r n := fun h => by
    rw [hf]; unfold cfr frq; rw [if_neg (h82 h), hl, show 2 * n / 2 = n by omega]
  have H : Hid ((∀ c ∈ r, hok c = true) ∧ ((frq id (p == 8) r n).err = 0 ∧ perr l = 0 ∧ pout l = frq id (p == 8) r n ∨ (frq id (p == 8) r n).err = 14 ∧ perr l = 14 ∧ pout l = Fr.zero) ∨ (¬ ∀ c ∈ r, hok c = true) ∧ perr l = 11 ∧ pout l = Fr.zero) := Lib.hid (by
    by_cases h : ∀ c ∈ r, hok c = true
    · refine .inl ⟨h, ?_⟩
      have hpf : pfm l = true := by rw [hm, hc (h82 h)]; exact List.all_eq_true.2 h
      obtain ⟨e1, e2⟩ := perr_ok hpf
      rw [e1, ← hF h]
      rcases e2 with ⟨a, b⟩ | ⟨a, b⟩
      · exact .inl ⟨a, a, b⟩
      · exact .inr ⟨a, a, b⟩
    · exact .inr ⟨h, bad (hno h)⟩)
  have g0 : r.length = 2 → ∃ h0 : 0 < (str r).size, (((str r)[0].toNat : Int) == 82) = false := fun h2 => by
    have h0 : 0 < (str r).size := by rw [hsz]; omega
    refine ⟨h0, ?_⟩
    have hat0 := str_at r 0 h0
    have hne : (str r)[0] ≠ 82 := fun h => hR ⟨h2, by rw [List.head?_eq_getElem?, hat0, h]⟩
    have := beq_byte (c := (str r)[0]) (n := 82) (by omega)
    rw [show (((str r)[0].toNat : Int) == 82) = ((str r)[0] == 82) from this]
    simpa using hne
  by_cases hall : ∀ c ∈ r, hok c = true
  · by_cases h15 : r.length ≤ 15
    · have HR := Lib.hid (fun w => rnum_ok r w h15 hall)
      by_cases h2 : r.length = 2
      · obtain ⟨q0, q1⟩ := g0 h2
        exact rp_loop_en (str l) _ (str r) id w p hat hx0 hx1 hs HN (by rw [hsz, h2]; rfl) q0 q1 r n rfl hl (by omega) _ (by simp) HR _ _ H
      · exact rp_loop_nn (str l) _ (str r) id w p hat hx0 hx1 hs HN (by rw [hsz]; simp; omega) r n rfl hl (by omega) _ (by simp) HR _ _ H
    · have HR := Lib.hid (fun w => rnum_hw r w hr100 hall)
      by_cases hz : hw r < 0
      · exact rp_loop_nz (str l) _ (str r) id w p hat hx0 hx1 hs HN (by rw [hsz]; simp; omega) r n rfl hl (by omega) _ hz (by rw [hsz]; simp; omega) HR _ _ H
      · exact rp_loop_nn (str l) _ (str r) id w p hat hx0 hx1 hs HN (by rw [hsz]; simp; omega) r n rfl hl (by omega) _ (by simpa using hz) HR _ _ H
  · obtain ⟨e1, e2⟩ := bad (hno hall)
    by_cases h15 : r.length < 15
    · have HR := Lib.hid (fun w => rnum_bad r w hr100 hall)
      rw [e1, e2]
      by_cases h2 : r.length = 2
      · obtain ⟨q0, q1⟩ := g0 h2
        exact rp_off_eq (str l) _ (str r) id w p hat hx0 hx1 hs HN (by rw [hsz, h2]; rfl) q0 q1 HR
      · exact rp_off_ne (str l) _ (str r) id w p hat hx0 hx1 hs HN (by rw [hsz]; simp; omega) (by rw [hsz]; simp; omega) (by rw [hsz]; omega) HR
    · have HR := Lib.hid (fun w => rnum_bad r w hr100 hall)
      exact rp_loop_nz (str l) _ (str r) id w p hat hx0 hx1 hs HN (by rw [hsz]; simp; omega) r n rfl hl (by omega) _ (by decide) (by rw [hsz]; simp; omega) HR _ _ H

theorem rparse_any (l : List UInt8) (w : World) (hn : l.length ≤ 100) :
    Calls Try.prog 21 #[.string (str l)] w fun e w' => e = .returned (.tuple #[(pout l).val, .int .i64 (perr l)]) ∧ Below w.heap.size w w' := by
  have hs : (str l).size ≤ 100 := by rw [str_size]; exact hn
  have hsz := str_size l
  have hx0 : ∀ p, (str l).extract 0 p = str (l.take p) := fun p => by rw [str_extract]; rfl
  have hx1 : ∀ p, (str l).extract (p + 1) (str l).size = str (l.drop (p + 1)) := fun p => by rw [str_extract, str_size, List.take_of_length_le (Nat.le_refl _)]
  have some_at : ∀ k (h : k < (str l).size), l[k]? = some (str l)[k] := str_at l
  by_cases h8 : l[8]? = some 35
  · have h8s : 8 < (str l).size := by rw [hsz]; exact (List.getElem?_eq_some_iff.1 h8).1
    have e8 : (str l)[8] = 35 := by have := some_at 8 h8s; rw [h8] at this; injection this with this; exact this.symm
    have hat : At (str l) 8 := .inl ⟨rfl, h8s, e8⟩
    by_cases ha : ∀ c ∈ l.take 8, hok c = true
    · exact rp_tail l 8 w hn (.inr rfl) hat h8 ha
    · obtain ⟨e1, e2⟩ := perr_no (pfm_bad8 h8 ha)
      rw [e1, e2]
      exact rp_bad (str l) _ _ w 8 hat (hx0 8) (hx1 8) hs (Lib.hid fun w => rnum_bad (l.take 8) w (by rw [List.length_take]; omega) ha)
  · by_cases h3 : l[3]? = some 35
    · have h3s : 3 < (str l).size := by rw [hsz]; exact (List.getElem?_eq_some_iff.1 h3).1
      have e3 : (str l)[3] = 35 := by have := some_at 3 h3s; rw [h3] at this; injection this with this; exact this.symm
      have hat : At (str l) 3 := by
        by_cases hle : (str l).size ≤ 8
        · exact .inr (.inl ⟨rfl, hle, h3s, e3⟩)
        · have h8s : 8 < (str l).size := by omega
          exact .inr (.inr ⟨rfl, h8s, fun h => h8 (by rw [some_at 8 h8s, h]), e3⟩)
      by_cases ha : ∀ c ∈ l.take 3, hok c = true
      · exact rp_tail l 3 w hn (.inl rfl) hat h3 ha
      · obtain ⟨e1, e2⟩ := perr_no (pfm_bad3 h8 ha)
        rw [e1, e2]
        exact rp_bad (str l) _ _ w 3 hat (hx0 3) (hx1 3) hs (Lib.hid fun w => rnum_bad (l.take 3) w (by rw [List.length_take]; omega) ha)
    · obtain ⟨e1, e2⟩ := perr_no (pfm_none h3 h8)
      rw [e1, e2]
      by_cases hle : (str l).size ≤ 3
      · exact rp_none1 (str l) w hs hle
      · have h3s : 3 < (str l).size := by omega
        have n3 : (str l)[3] ≠ 35 := fun h => h3 (by rw [some_at 3 h3s, h])
        by_cases hle8 : (str l).size ≤ 8
        · exact rp_none2 (str l) w hs hle8 h3s n3
        · have h8s : 8 < (str l).size := by omega
          exact rp_none3 (str l) w hs h8s (fun h => h8 (by rw [some_at 8 h8s, h])) n3
end Go.Proofs.Ytjjfkakjkkpgaaa
