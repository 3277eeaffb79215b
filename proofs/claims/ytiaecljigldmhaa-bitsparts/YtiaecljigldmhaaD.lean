/- The contracts of bits.Parse, bits.Text, and of the reference's Text. -/
import Derived.Test.YtiaecljigldmhaaC
import Derived.Laws.BytesArg
import Derived.Laws.Concat
namespace Go.Proofs.Ytiaecljigldmhaa
open Go.RowKit

/-- The levels that bytes name. -/
def lvs (bs : List UInt8) : List Int := bs.map fun c => (c.toNat : Int) - 48
/-- The text of levels. -/
def txt (zs : List Int) : ByteArray := strOfNums (zs.map fun z => 48 + z)
theorem lvs_len (bs : List UInt8) : (lvs bs).length = bs.length := by simp [lvs]
theorem txt_size (zs : List Int) : (txt zs).size = zs.length := by simp [txt, strOfNums_size]

/-- The first k numbers of zs are those of ys. -/
def Front (ys : List Int) (k : Nat) (zs : List Int) : Prop := zs.length = ys.length ∧ ∀ j, j < k → zs[j]? = ys[j]?
theorem Front.step {ys zs : List Int} {k : Nat} {z : Int} (h : Front ys k zs) (hz : ys[k]? = some z) : Front ys (k + 1) (zs.set k z) := by
  refine ⟨by rw [List.length_set]; exact h.1, fun j hj => ?_⟩
  have hk : k < zs.length := by
    rw [h.1]
    rcases Nat.lt_or_ge k ys.length with h | h
    · exact h
    · rw [List.getElem?_eq_none h] at hz; cases hz
  rcases Nat.lt_or_ge j k with hlt | hge
  · rw [List.getElem?_set_ne (by omega)]; exact h.2 j hlt
  · have e : j = k := by omega
    subst e
    rw [List.getElem?_set_self hk, hz]
theorem Front.all {ys zs : List Int} {k : Nat} (h : Front ys k zs) (hk : ys.length ≤ k) : zs = ys := by
  apply List.ext_getElem?
  intro j
  rcases Nat.lt_or_ge j k with hlt | hge
  · exact h.2 j hlt
  · rw [List.getElem?_eq_none (by rw [h.1]; omega), List.getElem?_eq_none (by omega)]

theorem sub48 {c : UInt8} (h : lvb c = true) : ((c.toNat : Int) - 48) % 256 = (c.toNat : Int) - 48 := by
  rcases lvb_01 h with rfl | rfl <;> rfl

theorem add48 {z : Int} (h : z = 0 ∨ z = 1) : (48 + z) % 256 = 48 + z := by rcases h with rfl | rfl <;> rfl

def SlOk3 (zs : List Int) (w : World) (e : Ending) (w' : World) : Prop :=
  ∃ A cap, e = .returned (.tuple #[.slice A zs.length cap, .int .i64 0, .int .i64 0]) ∧ Il w' A zs.length zs ∧ Below w.heap.size w w'

set_option maxHeartbeats 400000 in
theorem parse_bad (s : ByteArray) (w : World) (hn : s.size ≤ 100000) (hm : 0 ≤ mis s.data.toList) :
    Calls Try.prog 14 #[.string s] w fun e w' => e = .returned (.tuple #[.slice none 0 0, .int .i64 (mis s.data.toList), .int .i64 11]) ∧ w = w' := by
  go_enter Try.func14, Try.ntmps14
  go_wp2_with (go_at_call 23; (with_reducible refine (misspelt_any _ _ (by omega)).mono ?_); rintro e w' ⟨rfl, rfl⟩)
  go_ret3
  exact ⟨rfl, rfl⟩

set_option maxHeartbeats 400000 in
theorem parse_ok (s : ByteArray) (w : World) (hn : s.size ≤ 100000) (hl : ∀ c ∈ s.data.toList, lvb c = true) :
    Calls Try.prog 14 #[.string s] w (SlOk3 (lvs s.data.toList) w) := by
  have hmk := make22 s.size (by omega)
  have HB := Lib.hid (Arr.new w .i64 3 (List.replicate s.size 0))
  have HM := Lib.hid (fst_of_all lvb _ hl)
  have HL := Lib.hid hl
  clear hl
  generalize ((List.replicate s.size 0).map (Value.int .i64)).toArray = cs at hmk HB
  go_enter Try.func14, Try.ntmps14
  go_wp2_with (go_at_call 23; (with_reducible refine (misspelt_any _ _ (by omega)).mono ?_); rintro e w' ⟨rfl, rfl⟩; rw [mis, HM.out])
  go_loopw [18] (fun i wr => ∃ (k : Nat) (zs : List Int), k ≤ s.size ∧ i = .int .i64 k ∧ Arr .i64 3 wr w.heap.size zs ∧ Front (lvs s.data.toList) k zs ∧ Below w.heap.size w wr) (fun i _ => s.size - (intOf i).toNat)
  case atStart => exact ⟨0, List.replicate s.size 0, Nat.zero_le _, rfl, HB.out, ⟨by simp [lvs], fun j h => by omega⟩, (Below.refl _ _).alloc (Nat.le_refl _) _⟩
  case round =>
    obtain ⟨k, zs, hk, rfl, ha, hf, hbel⟩ := hrel
    by_cases hlt : k < s.size
    · have hc := ha.cell (i := k) (by have := hf.1; simp [lvs] at this; omega)
      have hz := ha.frozen k
      have HA := Lib.hid ha; have HF := Lib.hid hf; have HS := Lib.hid (byte_some s k hlt)
      clear ha hf
      generalize zs.getD k 0 = x at hc
      go_wp2
      go_roundw
      case rel =>
        rw [sub48 (HL.out _ (List.mem_of_getElem? HS.out))]
        exact ⟨k + 1, _, by omega, by go_num, HA.out.put _ _, HF.out.step (by simp only [lvs, List.getElem?_map, HS.out]; rfl), hbel.setCell (Nat.le_refl _) _⟩
      case measure => simp [intOf]; omega
    · go_wp2
      go_ret3
      have e := hf.all (show (lvs s.data.toList).length ≤ k by simp [lvs]; omega)
      subst e
      have hi := ha.il
      refine ⟨some ⟨w.heap.size, 0, none⟩, s.size, ?_, hi, hbel⟩
      rw [lvs_len]; rfl
theorem info5 : ∃ i, Try.prog.info? 5 = some i ∧ i.zero = some (.int .u8 0) ∧ i.size = 1 ∧ i.bytes = 1 := info_parts (by kernel_rfl)
theorem make47 (n : Nat) (hn : n ≤ 100000) (w : World) : (Instr.makeSlice 47 (.int .i64 (n : Int)) (.int .i64 (n : Int))).run Try.prog w =
    .ok (.slice (some ⟨w.heap.size, 0, none⟩) n n) (w.alloc (.cells ((List.replicate n 0).map (Value.int .u8)).toArray 5)) := by
  obtain ⟨i, hi, hz, hs, hb⟩ := info5
  have hr := run_make (P := Try.prog) w 47 5 i _ Try.underlying47 hi hz .i64 .i64 n n (by omega) (by omega) (by rw [hb]; omega) (by omega)
  have e : madeCells (Value.int .u8 0).cells (n * i.size) = ((List.replicate n 0).map (Value.int .u8)).toArray := by
    rw [hs, Nat.mul_one]
    apply Array.toList_inj.1
    show (madeCells #[Value.int .u8 0] n).toList = _
    rw [toList_madeCells_one]; simp
  simp only [Int.toNat_natCast] at hr
  rw [hr, e]
theorem conv47 {w : World} {g : Nat} {zs : List Int} (h : Arr .u8 5 w g zs) : (convert 47 9 (.slice (some ⟨g, 0, none⟩) zs.length zs.length)).run Try.prog w = .ok (.string (strOfNums zs)) w := by
  refine run_convert_bytes_arg w 47 5 Try.underlying47 Try.underlying5 g 0 zs.length zs.length zs rfl (fun i hi => ?_) 9 Try.underlying9
  rw [Nat.zero_add]; exact h.cell hi

set_option maxHeartbeats 400000 in
theorem text_bad (A : Option Addr) (n cap : Nat) (zs : List Int) (w : World) (hr : Il w A n zs) (hn : n ≤ 100000) (hl : 0 ≤ chk zs) :
    Calls Try.prog 11 #[.slice A n cap] w fun e w' => e = .returned (.tuple #[.string ByteArray.empty, .int .i64 (chk zs), .int .i64 10]) ∧ w = w' := by
  go_enter Try.func11, Try.ntmps11
  go_wp2_with (go_at_call 12; (with_reducible refine (check_any _ _ _ _ _ hr (by omega)).mono ?_); rintro e w' ⟨rfl, rfl⟩)
  go_ret3
  exact ⟨rfl, rfl⟩

set_option maxHeartbeats 400000 in
theorem text_ok (A : Option Addr) (n cap : Nat) (zs : List Int) (w : World) (hr : Il w A n zs) (hn : n ≤ 100000) (hl : ∀ z ∈ zs, lvl z = true) :
    Calls Try.prog 11 #[.slice A n cap] w fun e w' => e = .returned (.tuple #[.string (txt zs), .int .i64 0, .int .i64 0]) ∧ Below w.heap.size w w' := by
  have hmk := make47 n (by omega)
  have HB := Lib.hid (Arr.new w .u8 5 (List.replicate n 0))
  have HM := Lib.hid (fst_of_all lvl _ hl)
  have HL := Lib.hid hl
  clear hl
  generalize ((List.replicate n 0).map (Value.int .u8)).toArray = cs at hmk HB
  go_enter Try.func11, Try.ntmps11
  go_wp2_with (go_at_call 12; (with_reducible refine (check_any _ _ _ _ _ hr (by omega)).mono ?_); rintro e w' ⟨rfl, rfl⟩; rw [chk, HM.out])
  go_loopw [18] (fun i wr => ∃ (k : Nat) (ys : List Int), k ≤ n ∧ i = .int .i64 k ∧ Arr .u8 5 wr w.heap.size ys ∧ Front (zs.map fun z => 48 + z) k ys ∧ Below w.heap.size w wr) (fun i _ => n - (intOf i).toNat)
  case atStart => exact ⟨0, List.replicate n 0, Nat.zero_le _, rfl, HB.out, ⟨by simp [hr.1], fun j h => by omega⟩, (Below.refl _ _).alloc (Nat.le_refl _) _⟩
  case round =>
    obtain ⟨k, ys, hk, rfl, ha, hf, hbel⟩ := hrel
    by_cases hlt : k < n
    · have hc := ha.cell (i := k) (by have := hf.1; simp [hr.1] at this; omega)
      have hz := ha.frozen k
      obtain ⟨ad, z, rfl, hx, hd⟩ := (hr.below hbel).at_ hlt
      have HA := Lib.hid ha; have HF := Lib.hid hf; have HX := Lib.hid hx; have HR := Lib.hid hr
      clear ha hf hx hr
      generalize ys.getD k 0 = x at hc
      go_wp2
      go_roundw
      case rel =>
        rw [add48 (all_at HL.out HX.out)]
        exact ⟨k + 1, _, by omega, by go_num, HA.out.put _ _, HF.out.step (by simp only [List.getElem?_map, HX.out]; rfl), hbel.setCell (Nat.le_refl _) _⟩
      case measure => simp [intOf]; omega
    · have e := hf.all (show (zs.map fun z => 48 + z).length ≤ k by simp [hr.1]; omega)
      subst e
      have hcv := conv47 ha
      rw [List.length_map, hr.1] at hcv
      have HA := Lib.hid ha; have HF := Lib.hid hf; have HR := Lib.hid hr
      clear ha hf hr
      go_wp2
      go_ret3
      exact ⟨rfl, hbel⟩
theorem txt_step (zs : List Int) (k : Nat) (z : Int) (hz : zs[k]? = some z) (b : UInt8) (hb : UInt8.ofNat (48 + z).toNat = b) : txt (zs.take (k + 1)) = txt (zs.take k) ++ (⟨#[b]⟩ : ByteArray) := by
  rw [List.take_add_one, hz]
  apply ByteArray.ext
  simp [txt, strOfNums, hb]
theorem txt_take_size (zs : List Int) (k : Nat) : (txt (zs.take k)).size ≤ k := by rw [txt_size]; exact List.length_take_le _ _

set_option maxHeartbeats 400000 in
theorem rtext_ok (A : Option Addr) (n cap : Nat) (zs : List Int) (w : World) (hr : Il w A n zs) (hn : n ≤ 100000) (hl : ∀ z ∈ zs, lvl z = true) :
    Calls Try.prog 13 #[.slice A n cap] w fun e w' => e = .returned (.string (txt zs)) ∧ w = w' := by
  have HL := Lib.hid hl
  clear hl
  go_enter Try.func13, Try.ntmps13
  go_wp2
  go_loop [3, 4] (fun v i => ∃ k : Nat, k ≤ n ∧ i = .int .i64 k ∧ v = .string (txt (zs.take k))) (fun _ i => n - (intOf i).toNat)
  case atStart => exact ⟨0, Nat.zero_le _, rfl, rfl⟩
  case round =>
    obtain ⟨k, hk, rfl, rfl⟩ := hrel
    by_cases hlt : k < n
    · obtain ⟨ad, z, rfl, hz, hc⟩ := hr.at_ hlt
      have hsz := txt_take_size zs k
      have HS0 := fun h => Lib.hid (txt_step zs k z hz 48 h)
      have HS1 := fun h => Lib.hid (txt_step zs k z hz 49 h)
      have HR := Lib.hid hr; have HZ := Lib.hid hz
      have h01 := all_at HL.out hz
      clear hr hz
      generalize txt (zs.take k) = t at *
      rcases h01 with rfl | rfl
      · have H := HS0 rfl
        clear HS0 HS1
        go_wp2
        go_round
        case rel => exact ⟨k + 1, by omega, by go_num, by rw [H.out]⟩
        case measure => simp [intOf]; omega
      · have H := HS1 rfl
        clear HS0 HS1
        go_wp2
        go_round
        case rel => exact ⟨k + 1, by omega, by go_num, by rw [H.out]⟩
        case measure => simp [intOf]; omega
    · go_wp2
      go_ret
      exact ⟨by rw [show zs.take k = zs from List.take_of_length_le (by rw [hr.1]; omega)]; rfl, rfl⟩
end Go.Proofs.Ytiaecljigldmhaa
