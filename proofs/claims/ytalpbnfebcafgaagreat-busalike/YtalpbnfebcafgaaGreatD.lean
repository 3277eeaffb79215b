/- The contracts of bits.Parse, bits.Text, and of the reference's Text. -/
import Derived.Test.YtalpbnfebcafgaaGreatC
import Derived.Laws.BytesArg
import Derived.Laws.Concat
namespace Go.Proofs.YtalpbnfebcafgaaGreat
set_option maxRecDepth 20000
open Go.RowKit

/-- The levels that bytes name. -/
def lvs (bs : List UInt8) : List Int := bs.map fun c => (c.toNat : Int) - 48
/-- The text of levels. -/
def txt (zs : List Int) : ByteArray := strOfNums (zs.map fun z => 48 + z)
theorem lvs_len (bs : List UInt8) : (lvs bs).length = bs.length := by simp [lvs]
theorem txt_size (zs : List Int) : (txt zs).size = zs.length := by simp [txt, strOfNums_size]

/-- The first k numbers of zs are those of ys. -/
def Front (ys : List Int) (k : Nat) (zs : List Int) : Prop := zs.length = ys.length ∧ ∀ j, j < k → zs[j]? = ys[j]?
theorem Front.step {ys zs : List Int} {k : Nat} {z : Int} (h : Front ys k zs) (hz : ys[k]? = some z) : Front ys (k + 1) (zs.set k z) := by
  refine ⟨by rw [List.length_set]; exact h.1, fun j hj => ?_⟩
  have hk : k < zs.length := by
    rw [h.1]
    rcases Nat.lt_or_ge k ys.length with h | h
    · exact h
    · rw [List.getElem?_eq_none h] at hz; cases hz
  rcases Nat.lt_or_ge j k with hlt | hge
  · rw [List.getElem?_set_ne (by omega)]; exact h.2 j hlt
  · have e : j = k := by omega
    subst e
    rw [List.getElem?_set_self hk, hz]
theorem Front.all {ys zs : List Int} {k : Nat} (h : Front ys k zs) (hk : ys.length ≤ k) : zs = ys := by
  apply List.ext_getElem?
  intro j
  rcases Nat.lt_or_ge j k with hlt | hge
  · exact h.2 j hlt
  · rw [List.getElem?_eq_none (by rw [h.1]; omega), List.getElem?_eq_none (by omega)]

theorem sub48 {c : UInt8} (h : lvb c = true) : ((c.toNat : Int) - 48) % 256 = (c.toNat : Int) - 48 := by
  rcases lvb_01 h with rfl | rfl <;> rfl

theorem add48 {z : Int} (h : z = 0 ∨ z = 1) : (48 + z) % 256 = 48 + z := by rcases h with rfl | rfl <;> rfl

def SlOk3 (zs : List Int) (w : World) (e : Ending) (w' : World) : Prop :=
  ∃ A cap, e = .returned (.tuple #[.slice A zs.length cap, .int .i64 0, .int .i64 0]) ∧ Il w' A zs.length zs ∧ Below w.heap.size w w'

theorem info5 : ∃ i, Tryz.prog.info? 5 = some i ∧ i.zero = some (.int .u8 0) ∧ i.size = 1 ∧ i.bytes = 1 := info_parts (by kernel_rfl)
theorem make47 (n : Nat) (hn : n ≤ 100000) (w : World) : (Instr.makeSlice 74 (.int .i64 (n : Int)) (.int .i64 (n : Int))).run Tryz.prog w =
    .ok (.slice (some ⟨w.heap.size, 0, none⟩) n n) (w.alloc (.cells ((List.replicate n 0).map (Value.int .u8)).toArray 5)) := by
  obtain ⟨i, hi, hz, hs, hb⟩ := info5
  have hr := run_make (P := Tryz.prog) w 74 5 i _ Tryz.underlying74 hi hz .i64 .i64 n n (by omega) (by omega) (by rw [hb]; omega) (by omega)
  have e : madeCells (Value.int .u8 0).cells (n * i.size) = ((List.replicate n 0).map (Value.int .u8)).toArray := by
    rw [hs, Nat.mul_one]
    apply Array.toList_inj.1
    show (madeCells #[Value.int .u8 0] n).toList = _
    rw [toList_madeCells_one]; simp
  simp only [Int.toNat_natCast] at hr
  rw [hr, e]
theorem conv47 {w : World} {g : Nat} {zs : List Int} (h : Arr .u8 5 w g zs) : (convert 74 9 (.slice (some ⟨g, 0, none⟩) zs.length zs.length)).run Tryz.prog w = .ok (.string (strOfNums zs)) w := by
  refine run_convert_bytes_arg w 74 5 Tryz.underlying74 Tryz.underlying5 g 0 zs.length zs.length zs rfl (fun i hi => ?_) 9 Tryz.underlying9
  rw [Nat.zero_add]; exact h.cell hi

theorem txt_step (zs : List Int) (k : Nat) (z : Int) (hz : zs[k]? = some z) (b : UInt8) (hb : UInt8.ofNat (48 + z).toNat = b) : txt (zs.take (k + 1)) = txt (zs.take k) ++ (⟨#[b]⟩ : ByteArray) := by
  rw [List.take_add_one, hz]
  apply ByteArray.ext
  simp [txt, strOfNums, hb]
theorem txt_take_size (zs : List Int) (k : Nat) : (txt (zs.take k)).size ≤ k := by rw [txt_size]; exact List.length_take_le _ _

end Go.Proofs.YtalpbnfebcafgaaGreat
