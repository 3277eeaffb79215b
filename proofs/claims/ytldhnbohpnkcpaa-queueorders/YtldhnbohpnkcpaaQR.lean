/- How rows of acts that came in are opened; what acts make of a queue. -/
import Derived.Test.YtldhnbohpnkcpaaQO
import Derived.Test.YtldhnbohpnkcpaaOp3
import Derived.Test.YtldhnbohpnkcpaaOpn
namespace Go.Proofs.Ytldhnbohpnkcpaa
open Go.ChangeShapes Go.WideShapes Go.ChangeAt Go.RowKit

/-- The cells of an act. -/
abbrev actc (a : Bool × Fr) : Array Value := #[.bool a.1, .int .i64 a.2.id, .bool a.2.ext, .bool a.2.rtr, .int .i64 a.2.len, .int .u8 (a.2.d 0), .int .u8 (a.2.d 1), .int .u8 (a.2.d 2), .int .u8 (a.2.d 3), .int .u8 (a.2.d 4), .int .u8 (a.2.d 5), .int .u8 (a.2.d 6), .int .u8 (a.2.d 7)]
/-- The slice value '.slice A n c' holds acts. -/
def Al (w : World) (A : Option Addr) (n : Nat) (ac : Nat → Bool × Fr) : Prop :=
  0 < n → ∃ ad, A = some ad ∧ ad.block < w.heap.size ∧ ∀ j, j < n → ∀ c v, (actc (ac j))[c]? = some v → w.cell? (ad.add (j * 13 + c)) = some v
theorem Al.below {w w' : World} {A : Option Addr} {n : Nat} {ac : Nat → Bool × Fr} (h : Al w A n ac) (hb : Below w.heap.size w w') : Al w' A n ac := fun hn => by
  obtain ⟨ad, e, hl, hc⟩ := h hn
  exact ⟨ad, e, Nat.lt_of_lt_of_le hl hb.size, fun j hj c v hv => (hb.cell (by rw [block_of_add]; exact hl)).trans (hc j hj c v hv)⟩
/-- An act lies at p. -/
def Axa (w : World) (p : Addr) (d : Bool) (f : Fr) : Prop := w.cell? p = some (.bool d) ∧ w.cell? ⟨p.block, p.off + 1, none⟩ = some (.int .i64 f.id) ∧ w.cell? ⟨p.block, p.off + 2, none⟩ = some (.bool f.ext) ∧ w.cell? ⟨p.block, p.off + 3, none⟩ = some (.bool f.rtr) ∧ w.cell? ⟨p.block, p.off + 4, none⟩ = some (.int .i64 f.len) ∧ w.cell? ⟨p.block, p.off + 5, none⟩ = some (.int .u8 (f.d 0)) ∧ w.cell? ⟨p.block, p.off + 6, none⟩ = some (.int .u8 (f.d 1)) ∧ w.cell? ⟨p.block, p.off + 7, none⟩ = some (.int .u8 (f.d 2)) ∧ w.cell? ⟨p.block, p.off + 8, none⟩ = some (.int .u8 (f.d 3)) ∧ w.cell? ⟨p.block, p.off + 9, none⟩ = some (.int .u8 (f.d 4)) ∧ w.cell? ⟨p.block, p.off + 10, none⟩ = some (.int .u8 (f.d 5)) ∧ w.cell? ⟨p.block, p.off + 11, none⟩ = some (.int .u8 (f.d 6)) ∧ w.cell? ⟨p.block, p.off + 12, none⟩ = some (.int .u8 (f.d 7))
theorem Al.at_ {w : World} {A : Option Addr} {n k : Nat} {ac : Nat → Bool × Fr} (h : Al w A n ac) (hk : k < n) : ∃ ad, A = some ad ∧ ad.block < w.heap.size ∧ Axa w (ad.add (k * 13)) (ac k).1 (ac k).2 := by
  obtain ⟨ad, e, hl, hc⟩ := h (by omega)
  have h0 := hc k hk
  have g : ∀ c v, 0 < c → (actc (ac k))[c]? = some v → w.cell? ⟨(ad.add (k * 13)).block, (ad.add (k * 13)).off + c, none⟩ = some v := fun c v hc hv => by
    rw [← add_pos _ hc, add_add]; exact h0 c v hv
  exact ⟨ad, e, hl, h0 0 _ rfl, g 1 _ (by omega) rfl, g 2 _ (by omega) rfl, g 3 _ (by omega) rfl, g 4 _ (by omega) rfl, g 5 _ (by omega) rfl, g 6 _ (by omega) rfl, g 7 _ (by omega) rfl, g 8 _ (by omega) rfl, g 9 _ (by omega) rfl, g 10 _ (by omega) rfl, g 11 _ (by omega) rfl, g 12 _ (by omega) rfl⟩

section
variable {H : Type} {enc : TypeId × Value → H} {W : World} {m : Nat} {x : DataW H × List MemPlace}
theorem act_cells {cs : List Value} (hf : DataW.trod enc Try.prog W 0 (fun _ => true) true m 36 cs = some x) : ∃ a : Bool × Fr, cs = (actc a).toList := by
  obtain ⟨xs, n, _, _, hl, hxl, hg⟩ := DataW.trod_struct Try.underlying36 hf
  rw [show Try.prog.cellsOf 36 = 13 by kernel_rfl] at hl
  have hxl' : xs.length = 2 := hxl
  match cs, hl with
  | c0 :: cs, hl =>
    have t0 : DataW.trod enc Try.prog W 0 (fun _ => true) true n 4 (List.take (Try.prog.cellsOf 4) (List.drop 0 (c0 :: cs))) = xs[0]? := hg 0 _ rfl
    have t1 : DataW.trod enc Try.prog W 0 (fun _ => true) true n 34 (List.take (Try.prog.cellsOf 34) (List.drop 1 (c0 :: cs))) = xs[1]? := hg 1 _ rfl
    rw [List.getElem?_eq_getElem (by omega)] at t0 t1
    simp only [show Try.prog.cellsOf 4 = 1 by kernel_rfl, List.drop_zero, List.take_succ_cons, List.take_zero] at t0
    simp only [show Try.prog.cellsOf 34 = 12 by kernel_rfl, List.drop_succ_cons, List.drop_zero] at t1
    rw [List.take_of_length_le (by simp at hl; omega)] at t1
    obtain ⟨r, hr, _⟩ := DataW.trod_bool Try.underlying4 t0
    obtain ⟨f, hc, _⟩ := frame_cells t1
    simp at hr
    exact ⟨(r, f), by rw [hr, hc]⟩
theorem acts_in {c : Value} (hf : DataW.trod enc Try.prog W 0 (fun _ => true) true m 22 [c] = some x) : ∃ a len cap ac, c = .slice a len cap ∧ Al W a len ac := by
  rcases Go.Deep.open_slice Try.underlying22 hf with ⟨hcs, _⟩ | ⟨ad, l, c', m', n, D, Pl, hcs, _, hl, hm, hmm, _, hel⟩
  · simp at hcs
    exact ⟨none, 0, 0, fun _ => (false, Fr.zero), hcs, fun h => by omega⟩
  · simp at hcs
    have hlm : l ≤ m' := by rw [hmm]; split <;> omega
    obtain ⟨ac, has⟩ := Go.Deep.choose_lt (α := Bool × Fr) (n := l) (p := fun i a => W.cells? 0 (ad.add (i * 13)) 13 = some (actc a).toList) (fun i hi => by
      obtain ⟨cs', h1, h2⟩ := hel i (by omega)
      rw [show Try.prog.cellsOf 36 = 13 by kernel_rfl] at h1
      obtain ⟨a, hc⟩ := act_cells h2
      exact ⟨a, by rw [h1, hc]⟩)
    refine ⟨some ad, l, c', ac, hcs, fun hn => ⟨ad, rfl, ?_, fun j hj c v hv => ?_⟩⟩
    · obtain ⟨_, _, hc⟩ := World.cells?_some (has 0 hn)
      have h0 : W.cell? ((ad.add (0 * 13)).add 0) = some (.bool (ac 0).1) := hc 0 (by omega)
      have hb := World.block_lt_of_cell? W _ h0
      rwa [block_of_add, block_of_add] at hb
    · obtain ⟨_, hln, hc⟩ := World.cells?_some (has j hj)
      have hlt : c < 13 := by
        rcases Nat.lt_or_ge c 13 with h | h
        · exact h
        · rw [Array.getElem?_eq_none (by simpa using h)] at hv; cases hv
      have h1 := hc c hlt
      rw [add_add] at h1
      rw [h1, Array.getElem?_toList]
      exact hv
end

/-- What the first k acts make of a queue. -/
def runA (m : Int) (ac : Nat → Bool × Fr) : Nat → List Fr
  | 0 => []
  | k + 1 => aL m (ac k) (runA m ac k)
theorem runA_ok (m : Int) (ac : Nat → Bool × Fr) : ∀ k, Okq (runA m ac k)
  | 0 => ok_nil
  | k + 1 => aL_ok (runA_ok m ac k)
theorem runA_le {m : Int} (hm : 0 ≤ m) (ac : Nat → Bool × Fr) : ∀ k, ((runA m ac k).length : Int) ≤ m
  | 0 => by simpa [runA] using hm
  | k + 1 => aL_le (runA_le hm ac k)
end Go.Proofs.Ytldhnbohpnkcpaa
