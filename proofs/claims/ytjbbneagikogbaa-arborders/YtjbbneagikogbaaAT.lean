/- Order, Winner and Wrong, told apart by what the frames are. -/
import Derived.Test.YtjbbneagikogbaaAQ
import Derived.Test.YtjbbneagikogbaaAR
namespace Go.Proofs.Ytjbbneagikogbaa
open Go.RowKit

/-- Two of the first n have the same levels. -/
def Same (fs : Nat → Fr) (n : Nat) : Prop := ∃ a b, a < b ∧ b < n ∧ (fs a).plc = (fs b).plc
theorem srt_apart {fs : Nat → Fr} {n : Nat} {ps : List Nat} (h : Srt (fun i => (fs i).plc) n ps) : ¬ Same fs n := by
  rintro ⟨a, b, h1, h2, h3⟩
  have := h.inj (i := a) (k := b) (by omega) h2 h3
  omega
section
variable (fs : Nat → Fr) (A : Option Addr) (n cap : Nat) (w : World) (hr : Fl w A n fs) (hn : n ≤ 12) (hmay : ∀ i, i < n → (fs i).may = true)
include hr hn hmay
theorem order_same (hs : Same fs n) : Calls Try.prog 16 #[.slice A n cap] w fun e w' => e = .returned (.tuple #[.slice none 0 0, .int .i64 23]) ∧ Below w.heap.size w w' :=
  (order_in fs A n cap w hr hn hmay).mono fun e w' ⟨hb, h⟩ => by
    rcases h with ⟨rfl, _⟩ | ⟨g, c, ps, _, h, _⟩
    · exact ⟨rfl, hb⟩
    · exact (srt_apart h hs).elim
theorem order_ok (hs : ¬ Same fs n) : Calls Try.prog 16 #[.slice A n cap] w fun e w' => ∃ g c ps, e = .returned (.tuple #[.slice (some ⟨g, 0, none⟩) n c, .int .i64 0]) ∧ Srt (fun i => (fs i).plc) n ps ∧ Own w' w.heap.size (.slice (some ⟨g, 0, none⟩) n c) (asI ps) ∧ Below w.heap.size w w' :=
  (order_in fs A n cap w hr hn hmay).mono fun e w' ⟨hb, h⟩ => by
    rcases h with ⟨_, h⟩ | ⟨g, c, ps, h1, h2, h3⟩
    · exact (hs h).elim
    · exact ⟨g, c, ps, h1, h2, h3, hb⟩
theorem winner_same (h0 : 0 < n) (hs : Same fs n) : Calls Try.prog 15 #[.slice A n cap] w fun e w' => e = .returned (.tuple #[.int .i64 0, .int .i64 23]) ∧ Below w.heap.size w w' :=
  (winner_in fs A n cap w hr hn h0 hmay).mono fun e w' ⟨hb, h⟩ => by
    rcases h with ⟨rfl, _⟩ | ⟨ps, _, h⟩
    · exact ⟨rfl, hb⟩
    · exact (srt_apart h hs).elim
theorem winner_ok (h0 : 0 < n) (hs : ¬ Same fs n) : Calls Try.prog 15 #[.slice A n cap] w fun e w' => ∃ ps, e = .returned (.tuple #[.int .i64 (ps.getD 0 0 : Nat), .int .i64 0]) ∧ Srt (fun i => (fs i).plc) n ps ∧ Below w.heap.size w w' :=
  (winner_in fs A n cap w hr hn h0 hmay).mono fun e w' ⟨hb, h⟩ => by
    rcases h with ⟨_, h⟩ | ⟨ps, h1, h2⟩
    · exact (hs h).elim
    · exact ⟨ps, h1, h2, hb⟩
theorem rwrong_same (hs : Same fs n) : Calls Try.prog 12 #[.slice A n cap] w fun e w' => e = .returned (.int .i64 23) ∧ Below w.heap.size w w' :=
  (rwrong_any fs A n cap w hr (by omega)).mono fun e w' ⟨hb, h⟩ => by
    rcases h with ⟨_, i, hi, h⟩ | ⟨_, ⟨rfl, _⟩ | ⟨_, h⟩⟩
    · rw [hmay i hi] at h; cases h
    · exact ⟨rfl, hb⟩
    · obtain ⟨a, b, h1, h2, h3⟩ := hs
      exact (h b a h1 h2 h3.symm).elim
theorem rwrong_ok (hs : ¬ Same fs n) : Calls Try.prog 12 #[.slice A n cap] w fun e w' => e = .returned (.int .i64 0) ∧ Below w.heap.size w w' :=
  (rwrong_any fs A n cap w hr (by omega)).mono fun e w' ⟨hb, h⟩ => by
    rcases h with ⟨_, i, hi, h⟩ | ⟨_, ⟨_, i, k, h1, h2, h3⟩ | ⟨rfl, _⟩⟩
    · rw [hmay i hi] at h; cases h
    · exact (hs ⟨k, i, h1, h2, h3.symm⟩).elim
    · exact ⟨rfl, hb⟩
end
theorem rwrong_bad (fs : Nat → Fr) (A : Option Addr) (n cap : Nat) (w : World) (hr : Fl w A n fs) (hn : n ≤ 12) (hbad : ∃ i, i < n ∧ (fs i).may = false) : Calls Try.prog 12 #[.slice A n cap] w fun e w' => e = .returned (.int .i64 14) ∧ Below w.heap.size w w' :=
  (rwrong_any fs A n cap w hr (by omega)).mono fun e w' ⟨hb, h⟩ => by
    rcases h with ⟨rfl, _⟩ | ⟨h, _⟩
    · exact ⟨rfl, hb⟩
    · obtain ⟨i, hi, h'⟩ := hbad
      rw [h i hi] at h'; cases h'
theorem may_or (fs : Nat → Fr) (n : Nat) : (∃ i, i < n ∧ (fs i).may = false) ∨ ∀ i, i < n → (fs i).may = true := by
  rcases Classical.em (∃ i, i < n ∧ (fs i).may = false) with h | h
  · exact .inl h
  · refine .inr fun i hi => ?_
    cases hm : (fs i).may with
    | true => rfl
    | false => exact absurd ⟨i, hi, hm⟩ h
end Go.Proofs.Ytjbbneagikogbaa
