import Derived.Test.YtlfmgellojjndaaDoorMF
import Derived.Test.YtlfmgellojjndaaDoorVR
namespace Go.Proofs.YtlfmgellojjndaaDoor
open Go.RowKit
set_option linter.unusedVariables false
set_option linter.unusedSimpArgs false
set_option maxRecDepth 100000 in
theorem turn_pc (Γ : Nat → Option (List Data)) (x n : Nat) (hx : x < 4294967296) (hn : n ≤ 31) : PC Tryd.prog Γ 20 [.int .u32 x, .int .i64 n] (.int .u32 (M5.rot n x : Nat)) := by
  refine pc_by mixed Tryd.func20 rfl (fun args w => Tryd.call20 args w) ?_
  simp -implicitDefEqProofs (disch := omega) [go_sem, Tryd.f20]
  refine loop_of (σ := { i : Nat // i ≤ n }) (fun i => ⟨envL [(0, .data (.int .u32 (M5.rot i.1 x : Nat))), (1, .data (.int .i64 n)), (5, .data (.int .i64 i.1))], hpL [], 0, 0, 17⟩) (fun i => n - i.1) ⟨0, by omega⟩ ?_ ?_
  · apply weak_lists <;> simp -implicitDefEqProofs [go_sem, M5.rot]
  · rintro ⟨i, hi⟩
    simp -implicitDefEqProofs (disch := omega) [go_sem]
    refine ifW_dec (fun h => ?_) (fun h => ?_)
    · have hr := M5.rot_lt hx i
      simp -implicitDefEqProofs (disch := omega) [go_sem]
      refine next_of ⟨i + 1, by omega⟩ ?_ (by simp only; omega)
      apply weak_lists <;> simp -implicitDefEqProofs [go_sem, M5.rot, M5.rot1]
      all_goals omega
    · have : i = n := by omega
      subst this
      simp -implicitDefEqProofs (disch := omega) [go_sem, Tryd.f20]
theorem far_get (i : Nat) (hi : i < 64) : [D.data (.int .i64 7), D.data (.int .i64 12), D.data (.int .i64 17), D.data (.int .i64 22), D.data (.int .i64 5), D.data (.int .i64 9), D.data (.int .i64 14), D.data (.int .i64 20), D.data (.int .i64 4), D.data (.int .i64 11), D.data (.int .i64 16), D.data (.int .i64 23), D.data (.int .i64 6), D.data (.int .i64 10), D.data (.int .i64 15), D.data (.int .i64 21)][((i : Int) / 16 * 4 + (i : Int) % 4).toNat]? = some (D.data (.int .i64 (M5.far i : Nat))) := by
  have e : ((i : Int) / 16 * 4 + (i : Int) % 4).toNat = i / 16 * 4 + i % 4 := by omega
  have hl : i / 16 * 4 + i % 4 < M5.rt.length := by show _ < 16; omega
  rw [e]
  show (M5.rt.map fun n : Nat => D.data (.int .i64 (n : Nat)))[i / 16 * 4 + i % 4]? = _
  rw [List.getElem?_map, List.getElem?_eq_getElem hl]
  simp [M5.far, List.getD_eq_getElem?_getD, List.getElem?_eq_getElem hl]
set_option maxRecDepth 100000 in
theorem far_pc (Γ : Nat → Option (List Data)) (i : Nat) (hi : i < 64) : PC Tryd.prog Γ 23 [.int .i64 i] (.int .i64 (M5.far i : Nat)) := by
  refine pc_by mixed Tryd.func23 rfl (fun args w => Tryd.call23 args w) ?_
  simp -implicitDefEqProofs (disch := omega) [go_sem, Tryd.f23, far_get i hi]
set_option maxRecDepth 100000 in
theorem at_pc (Γ : Nat → Option (List Data)) (l : List Nat) (hl : l.length = 64) (hb : ∀ x ∈ l, x < 256) (g : Nat) (hg : g < 16) : PC Tryd.prog Γ 22 [.sl 1 (bys l), .int .i64 g] (.int .u32 (M5.word l g : Nat)) := by
  refine pc_by mixed Tryd.func22 rfl (fun args w => Tryd.call22 args w) ?_
  have h0 : (4 * (g : Int)).toNat = 4 * g := by omega
  have h1 : (4 * (g : Int) + 1).toNat = 4 * g + 1 := by omega
  have h2 : (4 * (g : Int) + 2).toNat = 4 * g + 2 := by omega
  have h3 : (4 * (g : Int) + 3).toNat = 4 * g + 3 := by omega
  simp -implicitDefEqProofs (disch := omega) [go_sem, h0, h1, h2, h3]
  refine side (by kernel_rfl) ?_
  simp -implicitDefEqProofs (disch := omega) [go_sem, Tryd.f22]
  have b0 := hb _ (List.getElem_mem (show 4 * g < l.length by omega))
  have b1 := hb _ (List.getElem_mem (show 4 * g + 1 < l.length by omega))
  have b2 := hb _ (List.getElem_mem (show 4 * g + 2 < l.length by omega))
  have b3 := hb _ (List.getElem_mem (show 4 * g + 3 < l.length by omega))
  have e0 : l.getD (4 * g) 0 = l[4 * g] := by simp [List.getD_eq_getElem?_getD, show 4 * g < l.length by omega]
  have e1 : l.getD (4 * g + 1) 0 = l[4 * g + 1] := by simp [List.getD_eq_getElem?_getD, show 4 * g + 1 < l.length by omega]
  have e2 : l.getD (4 * g + 2) 0 = l[4 * g + 2] := by simp [List.getD_eq_getElem?_getD, show 4 * g + 2 < l.length by omega]
  have e3 : l.getD (4 * g + 3) 0 = l[4 * g + 3] := by simp [List.getD_eq_getElem?_getD, show 4 * g + 3 < l.length by omega]
  unfold M5.word
  rw [e0, e1, e2, e3]
  omega
theorem kt_cell : ∀ x ∈ ktD, x.cell = true := fun x hx => by
  obtain ⟨n, _, rfl⟩ := List.mem_map.1 hx
  rfl
theorem kt_cells : ∀ x ∈ ktD, x.cells.length = 1 := fun x hx => by
  obtain ⟨n, _, rfl⟩ := List.mem_map.1 hx
  rfl
theorem flat_kt : flat ktD = ktD := by
  unfold flat
  have : ∀ l : List Nat, (l.map u32).flatMap Data.cells = l.map u32 := fun l => by
    induction l with
    | nil => rfl
    | cons a l ih => simp only [List.map_cons, List.flatMap_cons, ih]; rfl
  exact this _
theorem kt_length : ktD.length = 64 := rfl
set_option maxRecDepth 100000 in
theorem k_pc (Γ : Nat → Option (List Data)) : PC Tryd.prog Γ 21 [] (.sl 1 ktD) := by
  refine pc_by mixed Tryd.func21 rfl (fun args w => Tryd.call21 args w) ?_
  simp -implicitDefEqProofs (disch := omega) [go_sem, Tryd.f21, -List.map_cons]
  apply someK_of (x := ktD.map D.data)
  · kernel_rfl
  simp -implicitDefEqProofs (disch := omega) [go_sem, Tryd.f21, all_cells kt_cell]
  exact ⟨_, ⟨_, rfl, frz_ref (l := ktD) (rw := true) (cells := ktD.map D.data) (by simp [go_sem]) (.inl rfl) kt_length kt_cells (by rw [flat_kt])⟩, rfl⟩
set_option maxHeartbeats 2000000 in
set_option maxRecDepth 100000 in
theorem rblock_pc (Γ : Nat → Option (List Data)) (s : M5.St) (hs : s.ok) (l : List Nat) (hl : l.length = 64) (hb : ∀ x ∈ l, x < 256) : PC Tryd.prog Γ 15 [stD s, .sl 1 (bys l)] (stD (M5.block s l)) := by
  refine pc_by mixed Tryd.func15 rfl (fun args w => Tryd.call15 args w) ?_
  simp -implicitDefEqProofs (disch := omega) [go_sem, Tryd.f15, stD]
  refine loop_of (σ := { i : Nat // i ≤ 64 }) (fun i => ⟨envL [(1, .data (.sl 1 (bys l))), (2, .ptr 0 0), (4, .ptr 1 0), (5, .data (.int .u32 (M5.rounds l s i.1).a)), (6, .data (.int .u32 (M5.rounds l s i.1).b)), (7, .data (.int .u32 (M5.rounds l s i.1).c)), (8, .data (.int .u32 (M5.rounds l s i.1).d)), (9, .data (.int .i64 i.1))], hpL [(0, .blk true ((sw s).map .data)), (1, .blk true [.data (.int .u32 0), .data (.int .u32 0), .data (.int .u32 0), .data (.int .u32 0)])], 2, 0, 108⟩) (fun i => 64 - i.1) ⟨0, by omega⟩ ?_ ?_
  · apply weak_lists <;> simp -implicitDefEqProofs [go_sem, M5.rounds]
  · rintro ⟨i, hi⟩
    simp -implicitDefEqProofs (disch := omega) [go_sem]
    refine ifW_dec (fun h => ?_) (fun h => ?_)
    · have h64 : i < 64 := by omega
      obtain ⟨ha, hb', hc, hd⟩ := M5.rounds_ok (m := l) hs i
      have hr1 : M5.rounds l s (i + 1) = M5.stp l i (M5.rounds l s i) := rfl
      generalize M5.rounds l s i = t at *
      have hinv : ∀ x : Nat, x < 4294967296 → ((4294967295 : Int) - x) % 4294967296 = ((4294967295 - x : Nat) : Int) := fun x hx => by omega
      have i1 := hinv _ hd
      have i2 := hinv _ hb'
      have q1 := and_lt (a := t.b) hc
      have q2 := and_lt (a := 4294967295 - t.b) hd
      have q3 := and_lt (a := t.d) hb'
      have q4 := and_lt (a := 4294967295 - t.d) hc
      have q5 := xor_lt hb' hc
      have q6 := or_lt hb' (show 4294967295 - t.d < 4294967296 by omega)
      simp -implicitDefEqProofs (disch := omega) [go_sem, i1, i2]
      refine ifW_dec (fun h1 => ?_) (fun h1 => ?_)
      · have hF : ((t.b &&& t.c) ||| ((4294967295 - t.b) &&& t.d)) < 4294967296 := or_lt (and_lt hc) (and_lt hd)
        have hG : (i : Int) = ((i : Nat) : Int) := by omega
        simp -implicitDefEqProofs (disch := omega) [go_sem, i1, i2]
        refine call_data (k_pc Γ) (by simp [go_sem]) ?_
        simp -implicitDefEqProofs (disch := omega) [go_sem, kt_at i h64, kt_length, Data.cells]
        refine call_data (at_pc Γ l hl hb (i) (by omega)) (by simp [go_sem]) ?_
        simp -implicitDefEqProofs (disch := omega) [go_sem]
        refine call_data (far_pc Γ i h64) (by simp [go_sem]) ?_
        simp -implicitDefEqProofs (disch := omega) [go_sem]
        refine call_data (turn_pc Γ ((((t.b &&& t.c) ||| ((4294967295 - t.b) &&& t.d)) + t.a + M5.kat i + M5.word l (i)) % 4294967296) (M5.far i) (Nat.mod_lt _ (by decide)) (Nat.le_trans (M5.far_le i) (by decide))) (by simp [go_sem]) ?_
        simp -implicitDefEqProofs (disch := omega) [go_sem]
        refine side (by kernel_rfl) ?_
        simp -implicitDefEqProofs (disch := omega) [go_sem]
        refine next_of ⟨i + 1, by omega⟩ ?_ (by simp only; omega)
        have hst : M5.rounds l s (i + 1) = ⟨t.d, (t.b + M5.rot (M5.far i) ((((t.b &&& t.c) ||| ((4294967295 - t.b) &&& t.d)) + t.a + M5.kat i + M5.word l (i)) % 4294967296)) % 4294967296, t.b, t.c⟩ := by
          rw [hr1]
          simp [M5.stp, M5.nextb, M5.fv, M5.gv, M5.inv, show i < 16 by omega]
        apply weak_lists <;> simp -implicitDefEqProofs [go_sem, hst]
      · simp -implicitDefEqProofs (disch := omega) [go_sem]
        refine ifW_dec (fun h2 => ?_) (fun h2 => ?_)
        · have hF : ((t.d &&& t.b) ||| ((4294967295 - t.d) &&& t.c)) < 4294967296 := or_lt (and_lt hb') (and_lt hc)
          have hG : (5 * (i : Int) + 1) % 16 = (((5 * i + 1) % 16 : Nat) : Int) := by omega
          simp -implicitDefEqProofs (disch := omega) [go_sem, i1, i2]
          refine call_data (k_pc Γ) (by simp [go_sem]) ?_
          simp -implicitDefEqProofs (disch := omega) [go_sem, kt_at i h64, kt_length, Data.cells]
          refine call_data (at_pc Γ l hl hb ((5 * i + 1) % 16) (by omega)) (by simp [go_sem]) ?_
          simp -implicitDefEqProofs (disch := omega) [go_sem]
          refine call_data (far_pc Γ i h64) (by simp [go_sem]) ?_
          simp -implicitDefEqProofs (disch := omega) [go_sem]
          refine call_data (turn_pc Γ ((((t.d &&& t.b) ||| ((4294967295 - t.d) &&& t.c)) + t.a + M5.kat i + M5.word l ((5 * i + 1) % 16)) % 4294967296) (M5.far i) (Nat.mod_lt _ (by decide)) (Nat.le_trans (M5.far_le i) (by decide))) (by simp [go_sem]) ?_
          simp -implicitDefEqProofs (disch := omega) [go_sem]
          refine side (by kernel_rfl) ?_
          simp -implicitDefEqProofs (disch := omega) [go_sem]
          refine next_of ⟨i + 1, by omega⟩ ?_ (by simp only; omega)
          have hst : M5.rounds l s (i + 1) = ⟨t.d, (t.b + M5.rot (M5.far i) ((((t.d &&& t.b) ||| ((4294967295 - t.d) &&& t.c)) + t.a + M5.kat i + M5.word l ((5 * i + 1) % 16)) % 4294967296)) % 4294967296, t.b, t.c⟩ := by
            rw [hr1]
            simp [M5.stp, M5.nextb, M5.fv, M5.gv, M5.inv, show ¬ i < 16 by omega, show i < 32 by omega]
          apply weak_lists <;> simp -implicitDefEqProofs [go_sem, hst]
        · simp -implicitDefEqProofs (disch := omega) [go_sem]
          refine ifW_dec (fun h3 => ?_) (fun h3 => ?_)
          · have hF : ((t.b ^^^ t.c) ^^^ t.d) < 4294967296 := xor_lt (xor_lt hb' hc) hd
            have hG : (3 * (i : Int) + 5) % 16 = (((3 * i + 5) % 16 : Nat) : Int) := by omega
            simp -implicitDefEqProofs (disch := omega) [go_sem, i1, i2]
            refine call_data (k_pc Γ) (by simp [go_sem]) ?_
            simp -implicitDefEqProofs (disch := omega) [go_sem, kt_at i h64, kt_length, Data.cells]
            refine call_data (at_pc Γ l hl hb ((3 * i + 5) % 16) (by omega)) (by simp [go_sem]) ?_
            simp -implicitDefEqProofs (disch := omega) [go_sem]
            refine call_data (far_pc Γ i h64) (by simp [go_sem]) ?_
            simp -implicitDefEqProofs (disch := omega) [go_sem]
            refine call_data (turn_pc Γ ((((t.b ^^^ t.c) ^^^ t.d) + t.a + M5.kat i + M5.word l ((3 * i + 5) % 16)) % 4294967296) (M5.far i) (Nat.mod_lt _ (by decide)) (Nat.le_trans (M5.far_le i) (by decide))) (by simp [go_sem]) ?_
            simp -implicitDefEqProofs (disch := omega) [go_sem]
            refine side (by kernel_rfl) ?_
            simp -implicitDefEqProofs (disch := omega) [go_sem]
            refine next_of ⟨i + 1, by omega⟩ ?_ (by simp only; omega)
            have hst : M5.rounds l s (i + 1) = ⟨t.d, (t.b + M5.rot (M5.far i) ((((t.b ^^^ t.c) ^^^ t.d) + t.a + M5.kat i + M5.word l ((3 * i + 5) % 16)) % 4294967296)) % 4294967296, t.b, t.c⟩ := by
              rw [hr1]
              simp [M5.stp, M5.nextb, M5.fv, M5.gv, M5.inv, show ¬ i < 16 by omega, show ¬ i < 32 by omega, show i < 48 by omega]
            apply weak_lists <;> simp -implicitDefEqProofs [go_sem, hst]
          · have hF : (t.c ^^^ (t.b ||| (4294967295 - t.d))) < 4294967296 := xor_lt hc (or_lt hb' (by omega))
            have hG : 7 * (i : Int) % 16 = ((7 * i % 16 : Nat) : Int) := by omega
            simp -implicitDefEqProofs (disch := omega) [go_sem, i1, i2]
            refine call_data (k_pc Γ) (by simp [go_sem]) ?_
            simp -implicitDefEqProofs (disch := omega) [go_sem, kt_at i h64, kt_length, Data.cells]
            refine call_data (at_pc Γ l hl hb (7 * i % 16) (by omega)) (by simp [go_sem]) ?_
            simp -implicitDefEqProofs (disch := omega) [go_sem]
            refine call_data (far_pc Γ i h64) (by simp [go_sem]) ?_
            simp -implicitDefEqProofs (disch := omega) [go_sem]
            refine call_data (turn_pc Γ (((t.c ^^^ (t.b ||| (4294967295 - t.d))) + t.a + M5.kat i + M5.word l (7 * i % 16)) % 4294967296) (M5.far i) (Nat.mod_lt _ (by decide)) (Nat.le_trans (M5.far_le i) (by decide))) (by simp [go_sem]) ?_
            simp -implicitDefEqProofs (disch := omega) [go_sem]
            refine side (by kernel_rfl) ?_
            simp -implicitDefEqProofs (disch := omega) [go_sem]
            refine next_of ⟨i + 1, by omega⟩ ?_ (by simp only; omega)
            have hst : M5.rounds l s (i + 1) = ⟨t.d, (t.b + M5.rot (M5.far i) (((t.c ^^^ (t.b ||| (4294967295 - t.d))) + t.a + M5.kat i + M5.word l (7 * i % 16)) % 4294967296)) % 4294967296, t.b, t.c⟩ := by
              rw [hr1]
              simp [M5.stp, M5.nextb, M5.fv, M5.gv, M5.inv, show ¬ i < 16 by omega, show ¬ i < 32 by omega, show ¬ i < 48 by omega]
            apply weak_lists <;> simp -implicitDefEqProofs [go_sem, hst]
    · have : i = 64 := by omega
      subst this
      have hbl : M5.block s l = ⟨(s.a + (M5.rounds l s 64).a) % 4294967296, (s.b + (M5.rounds l s 64).b) % 4294967296, (s.c + (M5.rounds l s 64).c) % 4294967296, (s.d + (M5.rounds l s 64).d) % 4294967296⟩ := by unfold M5.block; rfl
      generalize M5.rounds l s 64 = t at *
      rw [hbl]
      simp -implicitDefEqProofs (disch := omega) [go_sem, stD, sw, u32, Tryd.f15]
end Go.Proofs.YtlfmgellojjndaaDoor
