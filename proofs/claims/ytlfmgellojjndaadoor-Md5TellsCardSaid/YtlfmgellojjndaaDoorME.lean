import Derived.Test.YtlfmgellojjndaaDoorMD
namespace Go.Proofs.YtlfmgellojjndaaDoor
open Go.RowKit
set_option linter.unusedVariables false
set_option linter.unusedSimpArgs false
theorem pad_n (n : Nat) : (((n : Int) + 8) / 64 * 64 + 64) = ((n + 9 + M5.pz n : Nat) : Int) := by unfold M5.pz; omega
def pk (l : List Nat) (i : Nat) : List Nat := l ++ ([128] ++ (List.replicate (M5.pz l.length) 0 ++ ((M5.le8 (8 * l.length)).take i ++ List.replicate (8 - i) 0)))
theorem pk_end (l : List Nat) : pk l 8 = M5.pad l := by simp [pk, M5.pad, M5.le8]
theorem pk_length (l : List Nat) (i : Nat) (h : i ≤ 8) : (pk l i).length = l.length + 9 + M5.pz l.length := by
  simp [pk, M5.le8_length]; omega
theorem bys_set (l : List Nat) (i : Nat) (x : Int) (n : Nat) (h : x = n) : ((bys l).map D.data).set i (.data (.int .u8 x)) = (bys (l.set i n)).map D.data := by
  subst h
  simp [bys, List.map_set, u8]
theorem bys_over (n : Nat) (l : List Nat) (h : l.length ≤ n) : over ((bys (List.replicate n 0)).map D.data) 0 ((bys l).map D.data) = (bys (l ++ List.replicate (n - l.length) 0)).map D.data := by
  match l, h with
  | [], h => simp [over, bys]
  | [a], h =>
    obtain ⟨m, rfl⟩ : ∃ m, n = m + 1 := ⟨n - 1, by simp at h; omega⟩
    simp [over, bys, List.replicate_succ]
  | a :: b :: vs, h => simp [over, bys]
theorem pk_set (l : List Nat) (i : Nat) (h : i < 8) (p : Nat) (hp : p = l.length + 1 + M5.pz l.length + i) : (pk l i).set p ((M5.le8 (8 * l.length)).getD i 0) = pk l (i + 1) := by
  subst hp
  unfold pk
  rw [List.set_append_right _ _ (by omega), List.set_append_right _ _ (by simp; omega), List.set_append_right _ _ (by simp; omega)]
  have e2 : l.length + 1 + M5.pz l.length + i - l.length - [128].length - (List.replicate (M5.pz l.length) 0).length = i := by simp; omega
  rw [e2]
  generalize 8 * l.length = n
  match i, h with
  | 0, _ | 1, _ | 2, _ | 3, _ | 4, _ | 5, _ | 6, _ | 7, _ => rfl
theorem le8_int (n i : Nat) (hn : 8 * n < 18446744073709551616) (h : i < 8) : (8 * (n : Int) / 2 ^ (8 * i) % 256) = ((M5.le8 (8 * n)).getD i 0 : Nat) := by
  match i, h with
  | 0, _ | 1, _ | 2, _ | 3, _ | 4, _ | 5, _ | 6, _ | 7, _ => simp [M5.le8] <;> omega
/-- How long a padded row is. -/
def pn (l : List Nat) : Nat := l.length + 9 + M5.pz l.length
theorem pk_mark (l : List Nat) : l ++ (List.replicate (pn l - l.length) 0).set 0 128 = pk l 0 := by
  have : pn l - l.length = (M5.pz l.length + 8) + 1 := by unfold pn; omega
  rw [this, List.replicate_succ]
  have e : List.replicate (M5.pz l.length + 8) 0 = List.replicate (M5.pz l.length) 0 ++ List.replicate 8 0 := by rw [List.replicate_append_replicate]
  simp [pk, e]
theorem pad_pn (l : List Nat) : (((l.length : Int) + 8) / 64 * 64 + 64) = (pn l : Nat) := pad_n l.length
set_option maxRecDepth 100000 in
theorem pad_pc (Γ : Nat → Option (List Data)) (l : List Nat) (hl : l.length ≤ 100000000000) : PC Tryd.prog Γ 12 [.sl 1 (bys l)] (.sl 1 (bys (M5.pad l))) := by
  have hz := M5.pz_lt l.length
  have hn : pn l = l.length + 9 + M5.pz l.length := rfl
  refine pc_by mixed Tryd.func12 rfl (fun args w => Tryd.call12 args w) ?_
  have h1 : (l.length : Int) % 18446744073709551616 = l.length := by omega
  have h2 : 8 * (l.length : Int) % 18446744073709551616 = 8 * l.length := by omega
  simp -implicitDefEqProofs (disch := omega) [go_sem, Tryd.f12, pad_pn, bys_over, bys_set _ _ 128 128 rfl, pk_mark, h1, h2]
  refine loop_of (σ := { i : Nat // i ≤ 8 }) (fun i => ⟨envL [(3, .ref 7 0 (pn l) 1), (4, .data (.int .u64 (8 * (l.length : Int)))), (24, .data (.int .i64 i.1))], hpL [(7, .blk true ((bys (pk l i.1)).map .data))], 23, 0, 41⟩) (fun i => 8 - i.1) ⟨0, by omega⟩ ?_ ?_
  · apply weak_lists <;> simp -implicitDefEqProofs [go_sem]
  · rintro ⟨i, hi⟩
    simp -implicitDefEqProofs (disch := omega) [go_sem]
    refine ifW_dec (fun h => ?_) (fun h => ?_)
    · have h8 : i < 8 := by omega
      have hpl := pk_length l i (by omega)
      have hp : ((pn l : Int) - 8 + i).toNat = l.length + 1 + M5.pz l.length + i := by omega
      have hv := le8_int l.length i (by omega) h8
      have hps := pk_set l i h8 _ rfl
      have he : (8 * (i : Int)).toNat = 8 * i := by omega
      have hset := bys_set (pk l i) (l.length + 1 + M5.pz l.length + i) _ _ hv
      rw [hps] at hset
      simp -implicitDefEqProofs (disch := omega) [go_sem, hp, he, hset]
      refine next_of ⟨i + 1, by omega⟩ ?_ (by simp only; omega)
      apply weak_lists <;> simp -implicitDefEqProofs [go_sem]
    · have : i = 8 := by omega
      subst this
      have hpl := pk_length l 8 (by omega)
      simp -implicitDefEqProofs (disch := omega) [go_sem, pk_end, Tryd.f12]
      exact ⟨_, ⟨_, rfl, frz_ref (l := bys (M5.pad l)) (rw := true) (cells := (bys (M5.pad l)).map D.data) (by simp [go_sem]) (.inl rfl) (by rw [bys_length, ← pk_end]; omega) (bys_cells _) (by rw [flat_bys])⟩, rfl⟩
theorem bare_bys (l : List Nat) : Bare (.agg (bys l)) := .agg _ fun x hx => by
  obtain ⟨n, _, rfl⟩ := List.mem_map.1 hx
  exact .int _ _
theorem sum_bys (s : M5.St) : (List.range 16).map (fun i => u8 (M5.outb s i)) = bys ((List.range 16).map (M5.outb s)) := by simp [bys]
set_option maxRecDepth 100000 in
theorem sum_pc (Γ : Nat → Option (List Data)) (hΓ : Tabs Γ) (l : List Nat) (hl : l.length ≤ 100000000000) (hb : ∀ x ∈ l, x < 256) : PC Tryd.prog Γ 9 [.sl 1 (bys l)] (.agg (bys (M5.sum l))) := by
  refine pc_by mixed Tryd.func9 rfl (fun args w => Tryd.call9 args w) ?_
  simp -implicitDefEqProofs (disch := omega) [go_sem, Tryd.f9]
  refine .inl (call_data (pad_pc Γ l hl) (by simp [go_sem]) ?_)
  simp -implicitDefEqProofs (disch := omega) [go_sem]
  have hm := M5.pad_mod l
  have hpb := M5.pad_lt hb
  have hlen := M5.pad_length l
  have hz := M5.pz_lt l.length
  generalize hp : M5.pad l = p at hm hpb hlen
  refine loop_of (σ := { i : Nat // 64 * i ≤ p.length }) (fun i => ⟨envL [(2, .ptr 0 0), (3, .ptr 2 0), (4, .data (.sl 1 (bys (p.drop (64 * i.1)))))], hpL [(0, .blk true [D.data (.int .u8 0), .data (.int .u8 0), .data (.int .u8 0), .data (.int .u8 0), .data (.int .u8 0), .data (.int .u8 0), .data (.int .u8 0), .data (.int .u8 0), .data (.int .u8 0), .data (.int .u8 0), .data (.int .u8 0), .data (.int .u8 0), .data (.int .u8 0), .data (.int .u8 0), .data (.int .u8 0), .data (.int .u8 0)]), (2, .blk true ((sw (M5.blocks M5.first p i.1)).map .data))], 7, 0, 19⟩) (fun i => p.length - 64 * i.1) ⟨0, by omega⟩ ?_ ?_
  · apply weak_lists <;> simp -implicitDefEqProofs [go_sem, sw, u32, M5.blocks, M5.first, hp]
  · rintro ⟨i, hi⟩
    simp -implicitDefEqProofs (disch := omega) [go_sem]
    refine ifW_dec (fun h => ?_) (fun h => ?_)
    · have h64 : 64 * (i + 1) ≤ p.length := by omega
      simp -implicitDefEqProofs (disch := omega) [go_sem]
      refine call_data (block_pc Γ hΓ _ (M5.blocks_ok M5.first_ok p i) ((p.drop (64 * i)).take 64) (by simp; omega) (fun x hx => hpb x (List.mem_of_mem_drop (List.mem_of_mem_take hx)))) (by simp [go_sem, stD]) ?_
      simp -implicitDefEqProofs (disch := omega) [go_sem, stD]
      refine side (by kernel_rfl) ?_
      simp -implicitDefEqProofs (disch := omega) [go_sem]
      refine next_of ⟨i + 1, by omega⟩ ?_ (by simp only; omega)
      apply weak_lists <;> simp -implicitDefEqProofs [go_sem, Nat.mul_add, M5.blocks]
      rw [List.take_of_length_le (by simp), List.drop_drop]
    · have hi' : i = p.length / 64 := by omega
      have hfin : M5.blocks M5.first p i = M5.final l := by unfold M5.final; rw [hp, hi']
      have hst : List.take 16 (M5.sum l) = M5.sum l := List.take_of_length_le (by simp [M5.sum_length])
      simp -implicitDefEqProofs (disch := omega) [go_sem, hfin]
      refine .inl (call_data (bytesOf_pc Γ (M5.final l)) (by simp [go_sem, stD]) ?_)
      rw [sum_bys, show (List.range 16).map (M5.outb (M5.final l)) = M5.sum l from rfl]
      simp -implicitDefEqProofs (disch := first | omega | (simp only [List.length_cons, List.length_nil, List.length_map, bys_length, M5.sum_length]; first | done | omega)) [go_sem, over_map _ (bys (M5.sum l)), hst, Tryd.f9]
end Go.Proofs.YtlfmgellojjndaaDoor
