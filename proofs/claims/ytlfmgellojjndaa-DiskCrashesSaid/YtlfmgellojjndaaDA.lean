/- Disks: sectors copied, writes done. -/
import Derived.Test.YtlfmgellojjndaaVR
import Derived.Test.YtlfmgellojjndaaY
import Derived.Test.YtlfmgellojjndaaZ
namespace Go.Proofs.Ytlfmgellojjndaa
open Go.RowKit
set_option linter.unusedVariables false
set_option linter.unusedSimpArgs false
abbrev Wr := Int × List Nat
def sec (b : List Nat) : Data := .sl 1 (bys b)
def wr (p : Wr) : Data := .agg [.int .i64 p.1, .sl 1 (bys p.2)]
def secs (l : List (List Nat)) : List Data := l.map sec
def wrs (l : List Wr) : List Data := l.map wr
@[go_sem] theorem secs_length (l : List (List Nat)) : (secs l).length = l.length := by simp [secs]
@[go_sem] theorem wrs_length (l : List Wr) : (wrs l).length = l.length := by simp [wrs]
@[go_sem] theorem secs_get (l : List (List Nat)) (i : Nat) : (secs l)[i]? = (l[i]?).map sec := by simp [secs]
@[go_sem] theorem wrs_get (l : List Wr) (i : Nat) : (wrs l)[i]? = (l[i]?).map wr := by simp [wrs]
@[go_sem] theorem sec_cells (b : List Nat) : (sec b).cells = [.sl 1 (bys b)] := rfl
@[go_sem] theorem wr_cells (p : Wr) : (wr p).cells = [.int .i64 p.1, .sl 1 (bys p.2)] := rfl
/-- What stands in a sector where b stood, when the writes are done. -/
def std (at_ : Int) (b : List Nat) : List Wr → List Nat
  | ws => ws.foldl (fun o p => if p.1 = at_ then p.2 else o) b
theorem std_succ (at_ : Int) (b : List Nat) (ws : List Wr) (i : Nat) (h : i < ws.length) : std at_ b (ws.take (i + 1)) = if ws[i].1 = at_ then ws[i].2 else std at_ b (ws.take i) := by
  unfold std
  rw [List.take_add_one, List.getElem?_eq_getElem h, Option.toList_some, List.foldl_append]
  simp only [List.foldl_cons, List.foldl_nil]
theorem std_len {at_ : Int} {b : List Nat} {ws : List Wr} (hb : b.length = 128) (hw : ∀ p ∈ ws, p.2.length = 128) : (std at_ b ws).length = 128 := by
  unfold std
  induction ws generalizing b with
  | nil => exact hb
  | cons p ws ih =>
    simp only [List.foldl_cons]
    refine ih ?_ fun q hq => hw q (by simp [hq])
    split
    · exact hw p (by simp)
    · exact hb
theorem std_lt {at_ : Int} {b : List Nat} {ws : List Wr} (hb : ∀ x ∈ b, x < 256) (hw : ∀ p ∈ ws, ∀ x ∈ p.2, x < 256) : ∀ x ∈ std at_ b ws, x < 256 := by
  unfold std
  induction ws generalizing b with
  | nil => exact hb
  | cons p ws ih =>
    simp only [List.foldl_cons]
    refine ih ?_ fun q hq => hw q (by simp [hq])
    split
    · exact hw p (by simp)
    · exact hb
set_option maxRecDepth 100000 in
theorem copied_oc (Γ : Nat → Option (List Data)) (b : List Nat) (hb : b.length ≤ 100000000) : OC Try.prog Γ 34 [.sl 1 (bys b)] (.ref 0 0 b.length 1) [(0, .blk true ((bys b).map .data))] 1 := by
  refine oc_by mixed Try.func34 rfl (fun args w => Try.call34 args w) ?_
  have ht : List.take b.length (List.map D.data (bys b)) = List.map D.data (bys b) := List.take_of_length_le (by simp [bys_length])
  simp -implicitDefEqProofs (disch := omega) [go_sem, Try.f34]
  refine own_of [] [(0, some 3)] ?_
  apply ren_lists <;> simp -implicitDefEqProofs [go_sem]
theorem isSector_pc (Γ : Nat → Option (List Data)) (a : Int) : PC Try.prog Γ 28 [.int .i64 a] (.bool (decide (0 ≤ a ∧ a < 64))) := by
  refine pc_by mixed Try.func28 rfl (fun args w => Try.call28 args w) ?_
  by_cases h : 0 ≤ a
  · by_cases h2 : a < 64
    · simp -implicitDefEqProofs (disch := omega) [go_sem, Try.f28]
    · simp -implicitDefEqProofs (disch := omega) [go_sem, Try.f28]
  · simp -implicitDefEqProofs (disch := omega) [go_sem, Try.f28]
theorem copied_pc (Γ : Nat → Option (List Data)) (b : List Nat) (hb : b.length ≤ 100000000) : PC Try.prog Γ 34 [.sl 1 (bys b)] (.sl 1 (bys b)) :=
  pc_of_oc (copied_oc Γ b hb) (frz_ref (rw := true) (cells := (bys b).map D.data) rfl (.inl rfl) (bys_length b) (bys_cells b) (by rw [flat_bys]))
def wrOk (p : Wr) : Bool := decide (0 ≤ p.1 ∧ p.1 < 64) && decide (p.2.length = 128)
theorem fits_pc (Γ : Nat → Option (List Data)) (p : Wr) : PC Try.prog Γ 27 [wr p] (.bool (wrOk p)) := by
  refine pc_by mixed Try.func27 rfl (fun args w => Try.call27 args w) ?_
  by_cases h : 0 ≤ p.1 ∧ p.1 < 64
  · have hs := isSector_pc Γ p.1
    rw [decide_eq_true h] at hs
    simp -implicitDefEqProofs (disch := omega) [go_sem, Try.f27, wr, wrOk]
    refine .inl (call_data hs (by simp [go_sem]) ?_)
    simp -implicitDefEqProofs (disch := omega) [go_sem, Try.f27, h.1, h.2]
    simp [wrOk, h]
    omega
  · have hs := isSector_pc Γ p.1
    rw [decide_eq_false h] at hs
    simp -implicitDefEqProofs (disch := omega) [go_sem, Try.f27, wr, wrOk]
    refine .inl (call_data hs (by simp [go_sem]) ?_)
    simp -implicitDefEqProofs (disch := omega) [go_sem, Try.f27]
    simp only [wrOk, decide_eq_false h, Bool.false_and]
theorem cpy128 {o b : List Nat} (ho : o.length = 128) (hb : b.length = 128) : over ((bys o).map D.data) 0 ((bys b).map D.data) = (bys b).map D.data := over_map _ _ (by simp [bys_length, ho, hb])
theorem take128 {b : List Nat} (hb : b.length = 128) : List.take 128 b = b := List.take_of_length_le (by omega)
set_option maxRecDepth 100000 in
theorem stands_pc (Γ : Nat → Option (List Data)) (b : List Nat) (a : Int) (ws : List Wr) (hb : b.length = 128) (hw : ∀ p ∈ ws, p.2.length = 128) (hl : ws.length ≤ 1000) : PC Try.prog Γ 29 [.sl 1 (bys b), .int .i64 a, .sl 2 (wrs ws)] (.sl 1 (bys (std a b ws))) := by
  refine pc_by mixed Try.func29 rfl (fun args w => Try.call29 args w) ?_
  simp -implicitDefEqProofs (disch := omega) [go_sem, Try.f29]
  refine .inr (dc_own [] (by simp) (copied_oc Γ b (by omega)) (by simp [go_sem]) ?_)
  simp -implicitDefEqProofs (disch := omega) [go_sem]
  refine loop_ren (σ := { i : Nat // i ≤ ws.length }) (fun i => ⟨envL [(1, .data (.int .i64 a)), (7, .ref 0 0 128 1), (12, .data (.sl 2 (wrs ws))), (13, .data (.int .i64 ws.length)), (14, .data (.int .i64 i.1))], hpL [(0, .blk true ((bys (std a b (ws.take i.1))).map .data))], 1, 0, 28⟩) (fun i => ws.length - i.1) ⟨0, by omega⟩ [] (rhoL [(0, some 2)]) ?_ ?_
  · apply ren_lists <;> simp -implicitDefEqProofs [go_sem, std]
    omega
  · rintro ⟨i, hi⟩
    by_cases h : i < ws.length
    · have hsl : (std a b (ws.take i)).length = 128 := std_len hb fun p hp => hw p (List.mem_of_mem_take hp)
      have hss := std_succ a b ws i h
      have hwl := hw _ (List.getElem_mem h)
      by_cases he : ws[i].1 = a
      · rw [if_pos he] at hss
        simp -implicitDefEqProofs (disch := omega) [go_sem, he, cpy128, take128]
        refine next_ren ⟨i + 1, by omega⟩ (by simp only; omega) [] (rhoL []) ?_
        apply ren_lists <;> simp -implicitDefEqProofs [go_sem, hss]
      · rw [if_neg he] at hss
        simp -implicitDefEqProofs (disch := omega) [go_sem]
        refine next_ren ⟨i + 1, by omega⟩ (by simp only; omega) [] (rhoL []) ?_
        apply ren_lists <;> simp -implicitDefEqProofs [go_sem, hss]
    · have : i = ws.length := by omega
      subst this
      have hsl : (std a b ws).length = 128 := std_len hb hw
      simp -implicitDefEqProofs (disch := omega) [go_sem, Try.f29]
      exact ⟨_, ⟨_, rfl, frz_bys (rw := true) (by simp [go_sem]) (.inl rfl) hsl⟩, rfl⟩
end Go.Proofs.Ytlfmgellojjndaa
