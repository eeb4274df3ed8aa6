import Derived.Test.YtlfmgellojjndaaDoorV
import Derived.Test.YtlfmgellojjndaaDoorW
import Derived.KernelRfl
import Derived.Test.YtlfmgellojjndaaDoorTy
import Derived.Test.YtlfmgellojjndaaDoorMd5P
namespace Go.Proofs.YtlfmgellojjndaaDoor
open Go.RowKit
set_option linter.unusedVariables false
set_option linter.unusedSimpArgs false
def u32 (n : Nat) : Data := .int .u32 n
@[go_sem] theorem data_u32 (n : Nat) : D.data (u32 n) = .data (.int .u32 n) := rfl
def sw (s : M5.St) : List Data := [u32 s.a, u32 s.b, u32 s.c, u32 s.d]
@[go_sem] theorem sw_all (s : M5.St) : (∀ x ∈ sw s, x.cell = true) ↔ True := ⟨fun _ => trivial, fun _ x h => by simp [sw] at h; rcases h with rfl | rfl | rfl | rfl <;> rfl⟩
@[go_sem] theorem sw_length (s : M5.St) : (sw s).length = 4 := rfl
@[go_sem] theorem sw_0 (s : M5.St) : (sw s)[0]? = some (.int .u32 s.a) := rfl
@[go_sem] theorem sw_1 (s : M5.St) : (sw s)[1]? = some (.int .u32 s.b) := rfl
@[go_sem] theorem sw_2 (s : M5.St) : (sw s)[2]? = some (.int .u32 s.c) := rfl
@[go_sem] theorem sw_3 (s : M5.St) : (sw s)[3]? = some (.int .u32 s.d) := rfl
@[go_sem] theorem sw_take (s : M5.St) : List.take 4 (sw s) = sw s := rfl
@[go_sem] theorem sw_taked (s : M5.St) : List.take 4 ((sw s).map D.data) = (sw s).map D.data := rfl
@[go_sem] theorem over_sw (a b c d : D) (s : M5.St) : over [a, b, c, d] 0 ((sw s).map D.data) = (sw s).map D.data := rfl
@[go_sem] theorem over_sw2 (t s : M5.St) : over ((sw t).map D.data) 0 ((sw s).map D.data) = (sw s).map D.data := rfl
def stD (s : M5.St) : Data := .agg (sw s)
theorem sw_at (s : M5.St) (i : Nat) (h : i < 16) : (sw s)[((i : Int) / 4).toNat]? = some (.int .u32 (s.at (i / 4))) := by
  have : ((i : Int) / 4).toNat = i / 4 := by omega
  rw [this]
  have h4 : i / 4 < 4 := by omega
  generalize i / 4 = k at h4
  match k, h4 with
  | 0, _ | 1, _ | 2, _ | 3, _ => rfl
def bs (s : M5.St) (i : Nat) : List Data := (List.range 16).map fun j => if j < i then u8 (M5.outb s j) else u8 0
theorem bs_set (s : M5.St) (i : Nat) (h : i < 16) : ((bs s i).map D.data).set i (.data (u8 (M5.outb s i))) = (bs s (i + 1)).map D.data := by
  apply List.ext_getElem?
  intro j
  rw [List.getElem?_set]
  simp only [bs, List.map_map, List.getElem?_map, List.length_map, List.length_range, List.getElem?_range]
  by_cases hj : j < 16
  · by_cases e : i = j
    · subst e
      simp [h, List.getElem?_range]
    · have : (j < i + 1) ↔ (j < i) := by omega
      simp [e, hj, List.getElem?_range, this]
  · by_cases e : i = j
    · omega
    · simp [e, List.getElem?_eq_none, hj]
@[go_sem] theorem bs_length (s : M5.St) (i : Nat) : (bs s i).length = 16 := by simp [bs]
theorem bs_cell (s : M5.St) (i : Nat) : ∀ x ∈ bs s i, x.cell = true := fun x hx => by
  obtain ⟨j, _, rfl⟩ := List.mem_map.1 hx
  split <;> rfl
theorem bs_zero (s : M5.St) : bs s 0 = List.replicate 16 (u8 0) := rfl
theorem bs_end (s : M5.St) : bs s 16 = (List.range 16).map fun i => u8 (M5.outb s i) := by
  unfold bs
  apply List.map_congr_left
  intro j hj
  simp [List.mem_range.1 hj]
theorem outb_int (s : M5.St) (i : Nat) : ((s.at (i / 4) : Nat) : Int) / 2 ^ (8 * ((i : Int) % 4)).toNat % 256 = (M5.outb s i : Int) := by
  unfold M5.outb
  have h : (8 * ((i : Int) % 4)).toNat = 8 * (i % 4) := by omega
  rw [h]
  have h2 : (256 : Nat) ^ (i % 4) = 2 ^ (8 * (i % 4)) := by rw [Nat.pow_mul]
  rw [h2]
  rw [Int.natCast_emod, Int.natCast_ediv, Int.natCast_pow]
  rfl
set_option maxRecDepth 100000 in
theorem bytesOf_pc (Γ : Nat → Option (List Data)) (s : M5.St) : PC Tryd.prog Γ 17 [stD s] (.agg ((List.range 16).map fun i => u8 (M5.outb s i))) := by
  refine pc_by mixed Tryd.func17 rfl (fun args w => Tryd.call17 args w) ?_
  simp -implicitDefEqProofs (disch := omega) [go_sem, stD, Tryd.f17]
  refine loop_of (σ := { i : Nat // i ≤ 16 }) (fun i => ⟨envL [(1, .ptr 0 0), (2, .ptr 1 0), (3, .ptr 2 0), (5, .data (.int .i64 i.1))], hpL [(0, .blk true ((sw s).map .data)), (1, .blk true ((List.replicate 16 (.data (u8 0))))), (2, .blk true ((bs s i.1).map .data))], 4, 0, 21⟩) (fun i => 16 - i.1) ⟨0, by omega⟩ ?_ ?_
  · apply weak_lists <;> simp [go_sem, bs_zero, List.replicate, u8]
  · rintro ⟨i, hi⟩
    simp -implicitDefEqProofs (disch := omega) [go_sem]
    refine ifW_dec (fun h => ?_) (fun h => ?_)
    · have h16 : i < 16 := by omega
      have hset := bs_set s i h16
      unfold u8 at hset
      simp -implicitDefEqProofs (disch := omega) [go_sem, sw_at s i h16, outb_int, hset]
      refine next_of ⟨i + 1, by omega⟩ ?_ (by simp only; omega)
      apply weak_lists <;> simp [go_sem, u8]
    · have : i = 16 := by omega
      subst this
      simp -implicitDefEqProofs (disch := omega) [go_sem, take_data (bs_length s 16), take_all (bs_length s 16), all_data (bs_cell s 16), over_map _ (bs s 16), bs_end, u8, Tryd.f17]
end Go.Proofs.YtlfmgellojjndaaDoor
