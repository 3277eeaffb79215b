/- The contract of frame.content. -/
import Derived.Test.YtjjfkakjkkpgaaaTx
import Derived.Laws.ResultCell
namespace Go.Proofs.Ytjjfkakjkkpgaaa
open Go.RowKit

def Fr.zero : Fr := ⟨0, false, false, 0, fun _ => 0⟩
/-- The frame f with byte k turned. -/
def Fr.put (f : Fr) (k : Nat) (z : Int) : Fr := { f with d := fun j => if j = k then z else f.d j }
/-- Block g is just the frame f, not frozen. -/
def Fb (w : World) (g : Nat) (f : Fr) : Prop := w.heap[g]? = some (.cells f.cells 24)
theorem Fb.bx {w : World} {g : Nat} {f : Fr} (h : Fb w g f) : Bx w g f := bx_of h
theorem Fb.frozen {w : World} {g : Nat} {f : Fr} (h : Fb w g f) (i : Nat) : w.frozen? ⟨g, i, none⟩ = false := by
  unfold Fb at h
  simp [World.frozen?, h]
theorem Fb.lt {w : World} {g : Nat} {f : Fr} (h : Fb w g f) : g < w.heap.size := h.bx.lt
theorem Fb.below {w w' : World} {B g : Nat} {f : Fr} (h : Fb w g f) (hb : Below B w w') (hg : g < B) : Fb w' g f := (hb.block g hg).trans h
theorem Fb.put {w : World} {g : Nat} {f : Fr} (h : Fb w g f) (k : Nat) (hk : k < 8) (z : Int) : Fb (w.setCell ⟨g, 4 + k, none⟩ (.int .u8 z)) g (f.put k z) := by
  have e : f.cells.setIfInBounds (4 + k) (.int .u8 z) = (f.put k z).cells := by
    match k, hk with
    | 0, _ | 1, _ | 2, _ | 3, _ | 4, _ | 5, _ | 6, _ | 7, _ => rfl
  unfold Fb at h ⊢
  rw [← e]
  generalize f.cells = cs at *
  simp [World.setCell, Array.getElem?_modify, h]
theorem Fb.away {w : World} {g g' i : Nat} {v : Value} {f : Fr} (h : Fb w g f) (hne : g' ≠ g) : Fb (w.setCell ⟨g', i, none⟩ v) g f := by
  unfold Fb at h ⊢
  simp [World.setCell, Array.getElem?_modify, h, hne]
theorem fb_new (w : World) (f : Fr) : Fb (w.alloc (.cells f.cells 24)) w.heap.size f := heap_alloc_new w _

/-- The k-th pair. -/
def pr (l : List UInt8) (k : Nat) : List UInt8 := (l.take ((k + 1) * 2)).drop (k * 2)
theorem pr_len {l : List UInt8} {k : Nat} (h : (k + 1) * 2 ≤ l.length) : (pr l k).length = 2 := by
  unfold pr; rw [List.length_drop, List.length_take]; omega
theorem pr_all {l : List UInt8} {n : Nat} (hl : l.length = 2 * n) (h : ∀ j, j < n → ∀ c ∈ pr l j, hok c = true) : ∀ c ∈ l, hok c = true := by
  intro c hc
  obtain ⟨i, hi, rfl⟩ := List.mem_iff_getElem.1 hc
  refine h (i / 2) (by omega) _ ?_
  unfold pr
  rw [List.mem_drop_iff_getElem]
  refine ⟨i % 2, by rw [List.length_take]; omega, ?_⟩
  rw [List.getElem_take]
  congr 1; omega
theorem pr_sub {l : List UInt8} {k : Nat} {c : UInt8} (h : c ∈ pr l k) : c ∈ l := List.mem_of_mem_take (List.mem_of_mem_drop h)
/-- The frame of the first k pairs. -/
def frp (l : List UInt8) (k : Nat) : Fr := ⟨0, false, false, ((l.length / 2 : Nat) : Int), fun j => if j < k then (hval (pr l j) : Int) else 0⟩
theorem frp_step (l : List UInt8) (k : Nat) : (frp l k).put k (hval (pr l k)) = frp l (k + 1) := by
  unfold Fr.put frp
  simp only [Fr.mk.injEq, true_and]
  funext j
  rcases Nat.lt_trichotomy j k with h | h | h
  · rw [if_neg (by omega), if_pos h, if_pos (by omega)]
  · subst h; rw [if_pos rfl, if_pos (by omega)]
  · rw [if_neg (by omega), if_neg (by omega), if_neg (by omega)]

set_option maxHeartbeats 800000 in
theorem content_r0 (l : List UInt8) (w : World) (hn : l.length ≤ 200) (hl : l.length ≠ 1) :
    Calls Try.prog 35 #[.string (str (82 :: l))] w fun e w' => e = .returned (.tuple #[Fr.zero.val, .bool false]) ∧ Below w.heap.size w w' := by
  have hs := str_size l
  have hsn : ((str l).size : Int) ≠ 1 := by omega
  have HS := Lib.hid hs
  go_enter Try.func35, Try.ntmps35
  go_wp2_with fail
  refine (cutp_yes l _ (by omega)).mono ?_
  rintro e w' ⟨rfl, rfl⟩
  clear hs
  generalize str l = s at *
  have h1 : ((s.size : Int) != 1) = true := by simpa [bne] using hsn
  go_wp2
  refine bodyPost_ret (v := .tuple #[Fr.zero.val, .bool false]) (by rw [results_cell_tmp rfl]; go_simp; decide) rfl ⟨rfl, ?_⟩
  exact (Below.refl _ _).alloc (Nat.le_refl _) _

set_option maxHeartbeats 800000 in
theorem content_r1 (c : UInt8) (w : World) (hc : hok c = true) :
    Calls Try.prog 35 #[.string (str [82, c])] w fun e w' => e = .returned (.tuple #[(Fr.val ⟨0, false, true, hv c, fun _ => 0⟩), .bool true]) ∧ Below w.heap.size w w' := by
  have h15 := hv_range c
  have h0 : 0 ≤ hv c := by simpa [hok] using hc
  have hs : (str [c]).size = 1 := str_size [c]
  have HN := Lib.hid (number_ok [c] · (by simp) (by simpa using hc))
  have HV := Lib.hid (show ((hval [c] : Nat) : Int) = hv c by simp [hval]; omega)
  go_enter Try.func35, Try.ntmps35
  go_wp2_with fail
  refine (cutp_yes [c] _ (by simp)).mono ?_
  rintro e w' ⟨rfl, rfl⟩
  generalize str [c] = s at *
  go_wp2_with fail
  refine (HN.out _).mono ?_
  rintro e w' ⟨rfl, rfl⟩
  rw [HV.out]
  go_wp2
  refine bodyPost_ret (v := .tuple #[(Fr.val ⟨0, false, true, hv c, fun _ => 0⟩), .bool true]) (by rw [results_cell_tmp rfl]; go_simp) rfl ⟨rfl, ?_⟩
  exact (Below.refl _ _).alloc (Nat.le_refl _) _

set_option maxHeartbeats 800000 in
theorem content_r2 (c : UInt8) (w : World) (hc : hok c = false) :
    Calls Try.prog 35 #[.string (str [82, c])] w fun e w' => e = .returned (.tuple #[(Fr.val ⟨0, false, true, 0, fun _ => 0⟩), .bool false]) ∧ Below w.heap.size w w' := by
  have hs : (str [c]).size = 1 := str_size [c]
  have HN := Lib.hid (number_bad [c] · (by simp) (by simp [hc]))
  go_enter Try.func35, Try.ntmps35
  go_wp2_with fail
  refine (cutp_yes [c] _ (by simp)).mono ?_
  rintro e w' ⟨rfl, rfl⟩
  generalize str [c] = s at *
  go_wp2_with fail
  refine (HN.out _).mono ?_
  rintro e w' ⟨rfl, rfl⟩
  go_wp2
  refine bodyPost_ret (v := .tuple #[(Fr.val ⟨0, false, true, 0, fun _ => 0⟩), .bool false]) (by rw [results_cell_tmp rfl]; go_simp) rfl ⟨rfl, ?_⟩
  exact (Below.refl _ _).alloc (Nat.le_refl _) _

set_option maxHeartbeats 800000 in
theorem content_odd (l : List UInt8) (w : World) (hn : l.length ≤ 200) (hne : ∀ t, l ≠ 82 :: t) (hl : l.length % 2 ≠ 0 ∨ 16 < l.length) :
    Calls Try.prog 35 #[.string (str l)] w fun e w' => e = .returned (.tuple #[Fr.zero.val, .bool false]) ∧ Below w.heap.size w w' := by
  have hs := str_size l
  rw [← hs] at hl
  have HN := Lib.hid (cutp_no l · (by omega) hne)
  have hsz : ((str l).size : Int) ≤ 200 := by omega
  generalize str l = s at *
  clear hs
  by_cases h2 : s.size % 2 = 0
  · have h2' : ((s.size : Int) % 2 != 0) = false := by simp; omega
    have h3 : 16 < (s.size : Int) := by omega
    go_enter Try.func35, Try.ntmps35
    go_wp2_with fail
    refine (HN.out _).mono ?_
    rintro e w' ⟨rfl, rfl⟩
    go_wp2
    refine bodyPost_ret (v := .tuple #[Fr.zero.val, .bool false]) (by rw [results_cell_tmp rfl]; go_simp; decide) rfl ⟨rfl, ?_⟩
    exact (Below.refl _ _).alloc (Nat.le_refl _) _
  · have h2' : ((s.size : Int) % 2 != 0) = true := by simp; omega
    go_enter Try.func35, Try.ntmps35
    go_wp2_with fail
    refine (HN.out _).mono ?_
    rintro e w' ⟨rfl, rfl⟩
    go_wp2
    refine bodyPost_ret (v := .tuple #[Fr.zero.val, .bool false]) (by rw [results_cell_tmp rfl]; go_simp; decide) rfl ⟨rfl, ?_⟩
    exact (Below.refl _ _).alloc (Nat.le_refl _) _

theorem fb_two1 (w : World) (f g : Fr) : Fb ((w.alloc (.cells f.cells 24)).alloc (.cells g.cells 24)) w.heap.size f :=
  (fb_new w f).below (B := w.heap.size + 1) (((Below.refl _ _).alloc (by simp) _)) (by omega)
theorem fb_two2 (w : World) (f g : Fr) : Fb ((w.alloc (.cells f.cells 24)).alloc (.cells g.cells 24)) (w.heap.size + 1) g := by
  have h := fb_new (w.alloc (.cells f.cells 24)) g
  simpa using h
theorem alloc2 (w : World) (a b : Obj) : Below w.heap.size w ((w.alloc a).alloc b) := ((Below.refl _ _).alloc (Nat.le_refl _) _).alloc (by simp) _

end Go.Proofs.Ytjjfkakjkkpgaaa
