/- The contracts of bits.Len, slices.pdqsortCmpFunc and slices.SortFunc, for up to twelve places, with Order's closure. -/
import Derived.Test.YtjbbneagikogbaaAI
namespace Go.Proofs.Ytjbbneagikogbaa
open Go.RowKit

set_option maxRecDepth 100000 in
set_option maxHeartbeats 1600000 in
theorem pdq_any (fs : Nat → Fr) (gl : Nat) (A : Option Addr) (n cap : Nat) (w1 : World) (hs : Sees w1 gl A n cap fs) (hn : n ≤ 12) (hmay : ∀ i, i < n → (fs i).may = true) (g c : Nat) (ps : List Nat) (hl : ps.length = n) (hp : ∀ p ∈ ps, p < n)
    (w : World) (hb : Below w1.heap.size w1 w) (ho : Own w w1.heap.size (.slice (some ⟨g, 0, none⟩) n c) (asI ps)) (hg : w1.heap.size ≤ g) (lim : Int) :
    Calls Try.prog 36 #[.slice (some ⟨g, 0, none⟩) n c, .int .i64 0, .int .i64 n, .int .i64 lim, .func (.func 29) #[] #[.pointer (some ⟨gl, 0, none⟩)]] w fun e w' => e = .returned (.tuple #[]) ∧ Below w1.heap.size w1 w' ∧
      ∃ qs : List Nat, qs.Perm ps ∧ Up (fun i => (fs i).plc) qs n ∧ Own w' w1.heap.size (.slice (some ⟨g, 0, none⟩) n c) (asI qs) := by
  have HI := Lib.hid (isort_any fs gl A n cap w1 hs hn hmay g c ps hl hp w hb ho hg)
  have hn' : (n : Int) ≤ 12 := by omega
  clear hs hmay hp hb ho
  go_enter Try.func36, Try.ntmps36
  go_wp2
  go_loopw [1, 2] (fun va vb wr => va = .int .i64 0 ∧ vb = .int .i64 n ∧ wr = w) (fun _ _ _ => 0)
  case atStart => exact ⟨rfl, rfl, rfl⟩
  case round =>
    obtain ⟨rfl, rfl, rfl⟩ := hrel
    go_wp2_with fail
    refine HI.out.mono ?_
    rintro e w2 ⟨rfl, r⟩
    have R := Lib.hid r
    clear r
    go_wp2
    (try simp only [Exit.inBlock, Exit.then]); refine bodyPost_ret (results_none rfl _ _ _) rfl ?_
    exact ⟨rfl, R.out⟩

set_option maxRecDepth 100000 in
theorem len64_any (n : Nat) (w : World) (hn : n ≤ 12) : Calls Try.prog 47 #[.int .u64 n] w fun e w' => (∃ r : Int, e = .returned (.int .i64 r)) ∧ w = w' := by
  rcases (show n = 0 ∨ n = 1 ∨ n = 2 ∨ n = 3 ∨ n = 4 ∨ n = 5 ∨ n = 6 ∨ n = 7 ∨ n = 8 ∨ n = 9 ∨ n = 10 ∨ n = 11 ∨ n = 12 by omega) with rfl | rfl | rfl | rfl | rfl | rfl | rfl | rfl | rfl | rfl | rfl | rfl | rfl <;>
  (go_enter Try.func47, Try.ntmps47; go_wp2; go_ret; exact ⟨⟨_, rfl⟩, rfl⟩)
theorem len_any (n : Nat) (w : World) (hn : n ≤ 12) : Calls Try.prog 37 #[.int .u64 n] w fun e w' => (∃ r : Int, e = .returned (.int .i64 r)) ∧ w = w' := by
  go_enter Try.func37, Try.ntmps37
  go_wp2_with fail
  refine (len64_any n w hn).mono ?_
  rintro e w2 ⟨⟨r, rfl⟩, rfl⟩
  go_wp2
  go_ret
  exact ⟨⟨_, rfl⟩, rfl⟩

set_option maxRecDepth 100000 in
theorem sort_any (fs : Nat → Fr) (gl : Nat) (A : Option Addr) (n cap : Nat) (w1 : World) (hs : Sees w1 gl A n cap fs) (hn : n ≤ 12) (hmay : ∀ i, i < n → (fs i).may = true) (g c : Nat) (ps : List Nat) (hl : ps.length = n) (hp : ∀ p ∈ ps, p < n)
    (w : World) (hb : Below w1.heap.size w1 w) (ho : Own w w1.heap.size (.slice (some ⟨g, 0, none⟩) n c) (asI ps)) (hg : w1.heap.size ≤ g) :
    Calls Try.prog 28 #[.slice (some ⟨g, 0, none⟩) n c, .func (.func 29) #[] #[.pointer (some ⟨gl, 0, none⟩)]] w fun e w' => e = .returned (.tuple #[]) ∧ Below w1.heap.size w1 w' ∧
      ∃ qs : List Nat, qs.Perm ps ∧ Up (fun i => (fs i).plc) qs n ∧ Own w' w1.heap.size (.slice (some ⟨g, 0, none⟩) n c) (asI qs) := by
  have HI := Lib.hid (pdq_any fs gl A n cap w1 hs hn hmay g c ps hl hp w hb ho hg)
  have hw : IntKind.u64.wrap (n : Int) = (n : Int) := by rw [IntKind.wrap_u64]; omega
  clear hs hmay hp hb ho
  go_enter Try.func28, Try.ntmps28
  go_wp2_with fail
  refine (len_any n w hn).mono ?_
  rintro e w2 ⟨⟨r, rfl⟩, rfl⟩
  go_wp2_with fail
  refine (HI.out r).mono ?_
  rintro e w2 ⟨rfl, r⟩
  have R := Lib.hid r
  clear r
  go_wp2
  go_end0
  exact ⟨rfl, R.out⟩
end Go.Proofs.Ytjbbneagikogbaa
