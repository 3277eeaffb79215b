/- The contract of slices.Index over frames. -/
import Derived.Test.YtldhnbohpnkcpaaQE
import Derived.Test.YtldhnbohpnkcpaaQD
namespace Go.Proofs.Ytldhnbohpnkcpaa
open Go.RowKit

/-- Where f is first among fs. -/
def Found (f : Fr) (fs : Nat → Fr) (n : Nat) (r : Int) : Prop := (∃ k : Nat, k < n ∧ r = k ∧ f.same (fs k) = true ∧ ∀ j, j < k → f.same (fs j) = false) ∨ (r = -1 ∧ ∀ j, j < n → f.same (fs j) = false)

set_option maxHeartbeats 1600000 in
set_option maxRecDepth 100000 in
theorem index_any (f : Fr) (A : Option Addr) (n c : Nat) (fs : Nat → Fr) (w : World) (h : Fl w A n fs) (hn : n ≤ 1000000) :
    Calls Try.prog 40 #[.slice A n c, f.val] w fun e w' => ∃ r, e = .returned (.int .i64 r) ∧ Found f fs n r ∧ Below w.heap.size w w' := by
  have HL := Lib.hid (h.below (boxed f w))
  have HB := Lib.hid (boxed f w)
  have HX := Lib.hid (bx_new w f)
  clear h
  go_enter Try.func40, Try.ntmps40
  go_wp2
  go_loopw [8] (fun i wr => ∃ k : Nat, k ≤ n ∧ i = .int .i64 k ∧ (∀ j, j < k → f.same (fs j) = false) ∧ Below (w.heap.size + 1) (w.alloc (.cells f.cells 34)) wr) (fun i _ => n - (intOf i).toNat)
  case atStart => exact ⟨0, Nat.zero_le _, rfl, fun j hj => by omega, Below.refl _ _⟩
  case round =>
    obtain ⟨k, hk, rfl, hz, hb⟩ := hrel
    have hb' : Below (w.alloc (.cells f.cells 34)).heap.size (w.alloc (.cells f.cells 34)) wr := by simpa using hb
    have HZ := Lib.hid hz
    have HBB := Lib.hid hb
    have HBW := Lib.hid (nxt HB.out hb')
    by_cases hlt : k < n
    · have hlt' : (k : Int) < (n : Int) := by omega
      obtain ⟨c0, c1, c2, c3, c4, c5, c6, c7, c8, c9, c10, c11⟩ := bx_past hb'
      obtain ⟨ad, rfl, hl, d0, d1, d2, d3, d4, d5, d6, d7, d8, d9, d10, d11⟩ := (HL.out.below hb').at_ hlt
      have hfe := fun W => feq f (fs k) W
      clear hb hb' hz
      cases hs : f.same (fs k)
      · have HS := Lib.hid hs
        rw [hs] at hfe
        clear hs
        go_wp2
        go_quiet (fail)
        go_wp2
        go_roundw
        case rel => exact ⟨k + 1, by omega, by go_num, fun j hj => by
          rcases Nat.lt_or_ge j k with h | h
          · exact HZ.out j h
          · rw [show j = k by omega]; exact HS.out, belowN HBB.out _⟩
        case measure => simp [intOf]; omega
      · have HS := Lib.hid hs
        rw [hs] at hfe
        clear hs
        go_wp2
        go_quiet (fail)
        go_wp2
        go_ret
        exact ⟨k, rfl, .inl ⟨k, hlt, rfl, HS.out, HZ.out⟩, belowN HBW.out _⟩
    · clear hb hb' hz
      go_wp2
      go_ret
      exact ⟨-1, rfl, .inr ⟨rfl, fun j hj => HZ.out j (by omega)⟩, HBW.out⟩
end Go.Proofs.Ytldhnbohpnkcpaa
