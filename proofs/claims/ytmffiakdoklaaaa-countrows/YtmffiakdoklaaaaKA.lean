/- The contracts of count's calls. -/
import Derived.Test.YtmffiakdoklaaaaKM
namespace Go.Proofs.Ytmffiakdoklaaaa
open Go.RowKit

theorem within_any (n : Int) (w : World) : Calls Try.prog 22 #[.int .i64 n] w fun e w' => e = .returned (.bool (wth n)) ∧ w' = w := by
  by_cases h0 : 0 ≤ n
  · by_cases h1 : n ≤ 255
    · go_enter Try.func22, Try.ntmps22
      go_wp2
      go_ret
      exact ⟨ret_bool (by simp [wth]; omega), rfl⟩
    · go_enter Try.func22, Try.ntmps22
      go_wp2
      go_ret
      exact ⟨ret_bool (by simp [wth]; omega), rfl⟩
  · go_enter Try.func22, Try.ntmps22
    go_wp2
    go_ret
    exact ⟨ret_bool (by simp [wth]; omega), rfl⟩

set_option maxHeartbeats 800000 in
theorem check_any (c : Ct) (w : World) : Calls Try.prog 13 #[c.val] w fun e w' => e = .returned (.int .i64 c.err) ∧ Below w.heap.size w w' := by
  have HB := Lib.hid (below1 w (.cells c.cells 23))
  obtain ⟨t, r, o⟩ := c
  have HE : Ct.err ⟨t, r, o⟩ = if (if o then t == 256 else decide (0 ≤ t) && decide (t ≤ 255)) && (decide (0 ≤ r) && decide (r ≤ 255)) then 0 else 10 := rfl
  rw [HE]
  clear HE
  generalize ha : decide (0 ≤ t) = a
  generalize hb : decide (t ≤ 255) = b
  generalize hc : decide (0 ≤ r) = c
  generalize hd : decide (r ≤ 255) = d
  generalize hz : (t == 256) = z
  cases a <;> cases b <;> cases c <;> cases d <;> cases z <;> cases o <;> (
    go_enter Try.func13, Try.ntmps13
    go_wp2
    go_ret
    exact ⟨rfl, HB.out⟩)

theorem state_any (c : Ct) (w : World) : Calls Try.prog 12 #[c.val] w fun e w' => e = .returned (.int .i64 c.st) ∧ Below w.heap.size w w' := by
  have HB := Lib.hid (below1 w (.cells c.cells 23))
  obtain ⟨t, r, o⟩ := c
  have HE : Ct.st ⟨t, r, o⟩ = if o then 2 else if (decide (127 < t) || decide (127 < r)) then 1 else 0 := by simp [Ct.st]
  rw [HE]
  clear HE
  generalize ha : decide (127 < t) = a
  generalize hb : decide (127 < r) = b
  cases o <;> cases a <;> cases b <;> (
    go_enter Try.func12, Try.ntmps12
    go_wp2
    go_ret
    exact ⟨rfl, HB.out⟩)
end Go.Proofs.Ytmffiakdoklaaaa
