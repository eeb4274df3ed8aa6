/- Disks: a write, a crash, a new one. -/
import Derived.Test.YtlfmgellojjndaaDB
namespace Go.Proofs.Ytlfmgellojjndaa
open Go.RowKit
set_option linter.unusedVariables false
set_option linter.unusedSimpArgs false
theorem wrs_append (a b : List Wr) : flat (wrs a) ++ flat (wrs b) = flat (wrs (a ++ b)) := by simp [wrs, flat]
theorem flat_wrs1 (p : Wr) : flat (wrs [p]) = [.int .i64 p.1, .sl 1 (bys p.2)] := rfl
theorem fz_wrs {ok : Bool} {H : Nat → Blk} {g n : Nat} {l : List Wr} {rw : Bool} (hg : H g = .blk rw ((flat (wrs l)).map D.data)) (hrw : ok = true ∨ rw = false) (hn : l.length = n) : Frz ok H (.ref g 0 n 2) (.sl 2 (wrs l)) :=
  frz_ref hg hrw (by rw [wrs_length, hn]) (wrs_cells l) rfl
@[go_sem] theorem flat_wrs_length (l : List Wr) : (flat (wrs l)).length = l.length * 2 := by rw [flat_len (wrs_cells l), wrs_length]
@[go_sem] theorem flat_wrs_cell (l : List Wr) : (∀ x ∈ flat (wrs l), x.cell = true) ↔ True := iff_true_intro fun x hx => by
  obtain ⟨y, hy, hx⟩ := List.mem_flatMap.1 hx
  obtain ⟨p, _, rfl⟩ := List.mem_map.1 hy
  simp [wr, Data.cells] at hx
  rcases hx with rfl | rfl <;> rfl
@[go_sem] theorem flat_secs (l : List (List Nat)) : flat (secs l) = secs l := by
  induction l with
  | nil => rfl
  | cons b l ih => simp only [secs, flat, List.map_cons, List.flatMap_cons] at ih ⊢; rw [ih]; rfl
@[go_sem] theorem secs_cell (l : List (List Nat)) : (∀ x ∈ secs l, x.cell = true) ↔ True := iff_true_intro fun x hx => by
  obtain ⟨b, _, rfl⟩ := List.mem_map.1 hx
  rfl
def wrote (s : List (List Nat)) (w : List Wr) (a : Int) (b : List Nat) : Data := if wrOk (a, b) then .tup [dk s (w ++ [(a, b)]), .int .i64 0] else .tup [dk s w, .int .i64 1]
set_option maxRecDepth 100000 in
theorem write_pc (Γ : Nat → Option (List Data)) (s : List (List Nat)) (w : List Wr) (h : Dok s w) (a : Int) (b : List Nat) (hbl : b.length ≤ 140737488351232) : PC Try.prog Γ 12 [dk s w, .int .i64 a, .sl 1 (bys b)] (wrote s w a b) := by
  refine pc_by mixed Try.func12 rfl (fun args w => Try.call12 args w) ?_
  have hb := behind_pc Γ s w [] h.len (by have := h.n; omega) (by simp) (by simp)
  rw [flush_nil] at hb
  have hwn := h.wn
  have hc := copiedPuts_oc Γ w (fun p hp => by have := h.wlen p hp; omega) (by have := h.wn; omega)
  have hfit := fits_pc Γ (a, b)
  simp -implicitDefEqProofs (disch := omega) [go_sem, Try.f12, dk]
  refine .inl (call_frz [] [] (by simp) hb (fun H' _ => frzL_c ((frz_data _ _ _ _).2 rfl) (frzL_c (.emp _ _) frzL_n)) ?_)
  simp -implicitDefEqProofs (disch := omega) [go_sem, dk]
  refine .inr (dc_own [] (by simp) hc (by simp [go_sem]) ?_)
  simp -implicitDefEqProofs (disch := omega) [go_sem]
  refine .inl (call_data hfit (by simp [go_sem, wr]) ?_)
  by_cases hf : wrOk (a, b) = true
  · rw [hf]
    have hb1 : b.length = 128 := by simp [wrOk] at hf; omega
    have hc1 := copiedPuts_oc Γ [(a, b)] (fun p hp => by simp at hp; subst hp; show b.length ≤ 1000; omega) (by simp)
    have hp1 := pc_of_oc hc1 (fz_wrs (rw := true) (l := [(a, b)]) rfl (.inl rfl) rfl)
    simp -implicitDefEqProofs (disch := omega) [go_sem, wrote, hf]
    refine call_keep 23 (rw := true) (cells := [D.data (.int .i64 a), .data (.sl 1 (bys b))]) hp1 (by simp [go_sem]) (fun H' hH' => frzL_c (fz_wrs (rw := false) (l := [(a, b)]) hH' (.inr rfl) rfl) frzL_n) ?_
    simp -implicitDefEqProofs (disch := omega) [go_sem]
    refine side (by kernel_rfl) ?_
    simp -implicitDefEqProofs (disch := omega) [go_sem, Try.f12]
    refine ⟨_, ⟨_, rfl, frz_aggL (frzL_c ((frz_data _ _ _ _).2 rfl) (frzL_c (fz_wrs (rw := true) (l := w ++ [(a, b)]) (by simp [go_sem, ← wrs_append]) (.inl rfl) (by simp)) frzL_n))⟩, ?_⟩
    simp only [wrote, hf, if_true]; rfl
  · have hf' : wrOk (a, b) = false := by simpa using hf
    rw [hf']
    simp -implicitDefEqProofs (disch := omega) [go_sem, wrote, hf', Try.f12]
    exact ⟨_, ⟨_, rfl, frz_aggL (frzL_c ((frz_data _ _ _ _).2 rfl) (frzL_c (fz_wrs (rw := true) (l := w) (by simp [go_sem]) (.inl rfl) rfl) frzL_n))⟩, rfl⟩
def bools (l : List Bool) : List Data := l.map Data.bool
@[go_sem] theorem bools_length (l : List Bool) : (bools l).length = l.length := by simp [bools]
@[go_sem] theorem bools_get (l : List Bool) (i : Nat) : (bools l)[i]? = (l[i]?).map Data.bool := by simp [bools]
def keepAt (keep : List Bool) (i : Nat) : Bool := keep.getD i false
/-- The writes that are kept. -/
def kept (keep : List Bool) : Nat → List Wr → List Wr
  | _, [] => []
  | i, p :: w => if keepAt keep i then p :: kept keep (i + 1) w else kept keep (i + 1) w
theorem kept_append (keep : List Bool) : ∀ (a b : List Wr) (i : Nat), kept keep i (a ++ b) = kept keep i a ++ kept keep (i + a.length) b
  | [], b, i => by simp [kept]
  | p :: a, b, i => by
    have ih := kept_append keep a b (i + 1)
    simp only [List.cons_append, kept, ih, List.length_cons]
    have e : i + 1 + a.length = i + (a.length + 1) := by omega
    rw [e]
    split <;> rfl
theorem kept_succ (keep : List Bool) (w : List Wr) (i : Nat) (h : i < w.length) : kept keep 0 (w.take (i + 1)) = kept keep 0 (w.take i) ++ (if keepAt keep i then [w[i]] else []) := by
  rw [List.take_add_one, List.getElem?_eq_getElem h, Option.toList_some, kept_append, List.length_take, Nat.min_eq_left (by omega), Nat.zero_add]
  simp only [kept]
theorem kept_sub (keep : List Bool) : ∀ (w : List Wr) (i : Nat), ∀ p ∈ kept keep i w, p ∈ w
  | [], _, p, h => by cases h
  | q :: w, i, p, h => by
    simp only [kept] at h
    split at h
    · rcases List.mem_cons.1 h with rfl | h
      · simp
      · exact List.mem_cons_of_mem _ (kept_sub keep w _ p h)
    · exact List.mem_cons_of_mem _ (kept_sub keep w _ p h)
theorem kept_le (keep : List Bool) : ∀ (w : List Wr) (i : Nat), (kept keep i w).length ≤ w.length
  | [], _ => by simp [kept]
  | q :: w, i => by
    have := kept_le keep w (i + 1)
    simp only [kept]
    split <;> simp <;> omega
set_option maxRecDepth 100000 in
theorem crash_pc (Γ : Nat → Option (List Data)) (s : List (List Nat)) (w : List Wr) (h : Dok s w) (keep : List Bool) (hk : keep.length ≤ 1000) : PC Try.prog Γ 20 [dk s w, .sl 1 (bools keep)] (dk (flush s (kept keep 0 w)) []) := by
  refine pc_by mixed Try.func20 rfl (fun args w => Try.call20 args w) ?_
  have hwn := h.wn
  have hkl := kept_le keep w 0
  have hb := behind_pc Γ s w (kept keep 0 w) h.len (by have := h.n; omega) (fun p hp => h.wlen p (kept_sub keep w 0 p hp)) (by omega)
  simp -implicitDefEqProofs (disch := omega) [go_sem, Try.f20, dk]
  refine loop_ren (σ := { i : Nat // i ≤ w.length }) (fun i => ⟨envL [(1, .data (.sl 1 (bools keep))), (2, .ptr 0 0), (4, .ptr 1 0), (5, .ref 2 0 (kept keep 0 (w.take i.1)).length 2), (9, .data (.sl 2 (wrs w))), (10, .data (.int .i64 w.length)), (11, .data (.int .i64 i.1))], hpL [(0, .blk true [.data (.sl 1 (secs s)), .data (.sl 2 (wrs w))]), (1, .blk true [.emp 0, .emp 0]), (2, .blk true ((flat (wrs (kept keep 0 (w.take i.1)))).map .data))], 3, 0, 34⟩) (fun i => w.length - i.1) ⟨0, by omega⟩ [] (rhoL [(2, none)]) ?_ ?_
  · apply ren_lists <;> simp -implicitDefEqProofs [go_sem, kept]
    rfl
  · rintro ⟨i, hi⟩
    by_cases hw : i < w.length
    · have hks := kept_succ keep w i hw
      have hkl2 := kept_le keep (w.take i) 0
      rw [List.length_take] at hkl2
      by_cases hik : i < keep.length
      · have hka : keepAt keep i = keep[i] := by simp [keepAt, List.getD_eq_getElem?_getD, hik]
        cases hkv : keep[i] with
        | true =>
          rw [hka, hkv] at hks
          simp only [if_true] at hks
          have hfl : (flat (wrs (kept keep 0 (w.take (i + 1))))).map D.data = (flat (wrs (kept keep 0 (w.take i)))).map D.data ++ [D.data (.int .i64 w[i].1), .data (.sl 1 (bys w[i].2))] := by
            rw [hks, ← wrs_append, flat_wrs1]; simp
          simp -implicitDefEqProofs (disch := omega) [go_sem, hkv]
          refine next_ren ⟨i + 1, by omega⟩ (by simp only; omega) [] (rhoL [(2, some 23)]) ?_
          apply ren_lists <;> simp -implicitDefEqProofs [go_sem, hks]
          rw [← hks, hfl]
          exact renCells_plain rfl (by simp [plainD])
        | false =>
          rw [hka, hkv] at hks
          simp at hks
          simp -implicitDefEqProofs (disch := omega) [go_sem, hkv]
          refine next_ren ⟨i + 1, by omega⟩ (by simp only; omega) [] (rhoL []) ?_
          apply ren_lists <;> simp -implicitDefEqProofs [go_sem, hks]
      · have hka : keepAt keep i = false := by simp [keepAt, List.getD_eq_getElem?_getD, hik]
        rw [hka] at hks
        simp at hks
        simp -implicitDefEqProofs (disch := omega) [go_sem]
        refine next_ren ⟨i + 1, by omega⟩ (by simp only; omega) [] (rhoL []) ?_
        apply ren_lists <;> simp -implicitDefEqProofs [go_sem, hks]
    · have : i = w.length := by omega
      subst this
      simp -implicitDefEqProofs (disch := omega) [go_sem]
      refine .inl (call_keep 2 (rw := true) (cells := (flat (wrs (kept keep 0 w))).map D.data) hb (by simp [go_sem]) (fun H' hH' => frzL_c ((frz_data _ _ _ _).2 rfl) (frzL_c (fz_wrs (rw := false) hH' (.inr rfl) rfl) frzL_n)) ?_)
      simp -implicitDefEqProofs (disch := omega) [go_sem, dk, Try.f20]
def noughts : List Nat := List.replicate 128 0
def zeroS : List (List Nat) := List.replicate 64 noughts
set_option maxRecDepth 100000 in
theorem new_pc (Γ : Nat → Option (List Data)) : PC Try.prog Γ 23 [] (dk zeroS []) := by
  refine pc_by mixed Try.func23 rfl (fun args w => Try.call23 args w) ?_
  have hF : ∀ x ∈ secs zeroS, x.cells.length = dSec.length := secs_cells _
  have r0 := rowc_zero (secs zeroS) dSec
  have re := rowc_end (secs zeroS) dSec
  have h64 : zeroS.length = 64 := rfl
  rw [secs_length, h64] at r0 re
  have r0' : rowc (secs zeroS) dSec 0 = List.replicate 64 (D.emp 0) := by rw [r0]; simp [dSec]
  simp -implicitDefEqProofs (disch := omega) [go_sem, Try.f23]
  refine loop_ren (σ := { i : Nat // i ≤ 64 }) (fun i => ⟨envL [(0, .ptr 0 0), (1, .ref 1 0 64 1), (5, .data (.int .i64 64)), (6, .data (.int .i64 i.1))], hpL [(0, .blk true [.emp 0, .emp 0]), (1, .blk true (rowc (secs zeroS) dSec i.1))], 2, 0, 16⟩) (fun i => 64 - i.1) ⟨0, by omega⟩ [] (rhoL []) ?_ ?_
  · apply ren_lists <;> simp -implicitDefEqProofs [go_sem]
    exact renCells_rowc rfl r0'
  · rintro ⟨i, hi⟩
    have hrl : (rowc (secs zeroS) dSec i).length = 64 := by rw [rowc_length hF i (by rw [secs_length, h64]; exact hi), secs_length, h64]; simp [dSec]
    by_cases h : i < 64
    · have hov := rowc_over hF (i := i) (by rw [secs_length, h64]; exact h)
      rw [secs_at (by rw [h64]; exact h)] at hov
      have hz : zeroS[i]'(by rw [h64]; exact h) = noughts := by show (List.replicate 64 noughts)[i] = _; rw [List.getElem_replicate]
      have hov1 : (rowc (secs zeroS) dSec i).set i (.data (.sl 1 (bys noughts))) = rowc (secs zeroS) dSec (i + 1) := by
        rw [hz] at hov
        have := (over1 _ _ _).symm.trans hov
        simpa [dSec, sec] using this
      simp -implicitDefEqProofs (disch := omega) [go_sem]
      refine next_ren ⟨i + 1, by omega⟩ (by simp only; omega) [7] (rhoL []) ?_
      apply ren_lists <;> simp -implicitDefEqProofs [go_sem]
      rw [← hov1]
      exact renCells_set (rowc_plain rfl i) (.frz _ _ (frz_bys (rw := false) (l := noughts) (by rfl) (.inr rfl) rfl))
    · have : i = 64 := by omega
      subst this
      simp -implicitDefEqProofs (disch := omega) [go_sem, Try.f23, re]
      exact ⟨_, ⟨_, rfl, frz_aggL (frzL_c (frz_ref (rw := true) (cells := (flat (secs zeroS)).map D.data) (by simp [go_sem]) (.inl rfl) (by rw [secs_length, h64]) (secs_cells _) rfl) (frzL_c (.emp 0 2) frzL_n))⟩, rfl⟩
set_option maxRecDepth 100000 in
theorem equal_pc (Γ : Nat → Option (List Data)) (a b : List Nat) (ha : ∀ x ∈ a, x < 256) (hb : ∀ x ∈ b, x < 256) : PC Try.prog Γ 31 [.sl 1 (bys a), .sl 1 (bys b)] (.bool (decide (a = b))) := by
  refine pc_by mixed Try.func31 rfl (fun args w => Try.call31 args w) ?_
  have hd : decide (toStr a = toStr b) = decide (a = b) := decide_eq_decide.2 (toStr_inj ha hb)
  simp -implicitDefEqProofs (disch := omega) [go_sem, Try.f31]
  refine conv_bys (e := 5) ha (by simp [go_sem]) (by simp [go_sem]) (by simp [go_sem]) ?_
  simp -implicitDefEqProofs (disch := omega) [go_sem]
  refine conv_bys (e := 5) hb (by simp [go_sem]) (by simp [go_sem]) (by simp [go_sem]) ?_
  simp -implicitDefEqProofs (disch := omega) [go_sem, Try.f31, hd]
end Go.Proofs.Ytlfmgellojjndaa
