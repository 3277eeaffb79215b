/- The walk of the law BitsBack. -/
import Derived.Test.YtiaecljigldmhaaL6nn
import Derived.Test.YtiaecljigldmhaaL6ny
import Derived.Test.YtiaecljigldmhaaL6yn
import Derived.Test.YtiaecljigldmhaaL6yy
namespace Go.Proofs.Ytiaecljigldmhaa
open Go.RowKit

set_option maxRecDepth 100000 in
set_option maxHeartbeats 1000000 in
theorem law6 (A : Option Addr) (n cap : Nat) (zs : List Int) (s : ByteArray) (m : Nat) (w : World) (hr : Il w A n zs) (hn : m < 18446744073709551616) :
    Calls Try.prog 6 #[.slice A n cap, .string s, .int .u64 m] w fun e w' => e = .returned (.bool true) ∧ Below w.heap.size w w' := by
  by_cases hl : 300 < n
  · have g1 : decide ((300 : Int) < (n : Int)) = true := by simp; omega
    have HR := Lib.hid hr; have HN := Lib.hid hn
    clear hr hn
    go_enter Try.func6, Try.ntmps6
    go_wp2_with (go_at_call 9; (refine (awake_ok _).mono ?_); rintro e w1 ⟨rfl, hb1⟩)
    go_ret
    exact ⟨rfl, hb1⟩
  by_cases hs : 300 < s.size
  · have g1 : decide ((300 : Int) < (n : Int)) = false := by simp; omega
    have g0 : decide ((300 : Int) < (s.size : Int)) = true := by simp; omega
    have HR := Lib.hid hr; have HN := Lib.hid hn
    clear hr hn
    go_enter Try.func6, Try.ntmps6
    go_wp2_with (go_at_call 9; (refine (awake_ok _).mono ?_); rintro e w1 ⟨rfl, hb1⟩)
    go_ret
    exact ⟨rfl, hb1⟩
  rcases (show 0 ≤ chk zs ∨ chk zs < 0 from by omega) with hc | hc
  · rcases (show 0 ≤ mis s.data.toList ∨ mis s.data.toList < 0 from by omega) with hm | hm
    · exact law6_nn A n cap zs s m w hr hn (by omega) (by omega) hc hm
    · exact law6_ny A n cap zs s m w hr hn (by omega) (by omega) hc hm
  · rcases (show 0 ≤ mis s.data.toList ∨ mis s.data.toList < 0 from by omega) with hm | hm
    · exact law6_yn A n cap zs s m w hr hn (by omega) (by omega) hc hm
    · exact law6_yy A n cap zs s m w hr hn (by omega) (by omega) hc hm
end Go.Proofs.Ytiaecljigldmhaa
