/- Frames on a line: StuffTells, StuffFeeds, StuffRight, StuffAnew. Frames on a line: StuffRight, StuffAnew, StuffLong. Frames on a line: StuffBack, StuffRow. Frames on a line: the laws, as they come in. -/
import Derived.Test.YtdodhnkbdechaaaPk8
namespace Go.Proofs.Ytdodhnkbdechaaa
open Go.RowKit
set_option linter.unusedVariables false
set_option linter.unusedSimpArgs false
set_option maxRecDepth 100000
namespace Sf
section
variable (Γ : Nat → Option (List Data))
theorem row_same (a : List Nat) (ha : a.length ≤ 100000000000) : PC Try.prog Γ 13 [.sl 1 (bys a), .sl 1 (bys a)] (.bool true) := by
  have := row_pc Γ a a ha ha
  rwa [decide_eq_true rfl] at this
theorem frames_same (a : List (List Nat)) (ha : a.length ≤ 100000000000) (hla : ∀ x ∈ a, x.length ≤ 100000000000) : PC Try.prog Γ 18 [.sl 1 (rws a), .sl 1 (rws a)] (.bool true) := by
  have := frames_pc Γ a a ha ha hla hla
  rwa [decide_eq_true rfl] at this
theorem cam_le {b o : List Nat} {lg : Bool} {c : Nat} (h : cam b lg c = some o) : o.length ≤ b.length := by
  unfold cam at h
  split at h
  · exact plT_le 0 b o h
  · cases h
theorem allF_le : ∀ (l b : List Nat) (lg : Bool), b.length ≤ 1508 → (allF b lg l).length ≤ l.length ∧ ∀ x ∈ allF b lg l, x.length ≤ 1508
  | [], _, _, _ => ⟨by simp [allF], by simp [allF]⟩
  | c :: l, b, lg, hb => by
    obtain ⟨h1, h2⟩ := allF_le l (nxt b lg c).1 (nxt b lg c).2 (nxt_le hb)
    rw [allF_cons]
    refine ⟨?_, fun x hx => ?_⟩
    · cases cam b lg c <;> simp <;> omega
    · rcases List.mem_append.1 hx with hx | hx
      · cases hc : cam b lg c with
        | none => rw [hc] at hx; simp at hx
        | some o =>
          rw [hc] at hx
          simp only [Option.toList_some, List.mem_singleton] at hx
          subst hx
          have := cam_le hc
          omega
      · exact h2 x hx
theorem allB_le (b : List Nat) : (allB b).length ≤ b.length ∧ ∀ x ∈ allB b, x.length ≤ 1508 := allF_le b [] false (by simp)
set_option maxHeartbeats 4000000 in
theorem tells_pc (b : List Nat) (hl : ∀ x ∈ b, x < 256) (hb : b.length ≤ 140737488351232) (a : Nat) (ha : a < 4294967296) : PC Try.prog Γ 3 [.sl 1 (bys b), .int .u32 a] (.bool true) := by
  refine pc_by mixed Try.func3 rfl (fun args w => Try.call3 args w) ?_
  simp -implicitDefEqProofs (disch := omega) [go_sem]
  refine .inl (call_data (shown_pc Γ) (by simp [go_sem]) ?_)
  by_cases h : 4000 < b.length
  · simp -implicitDefEqProofs (disch := omega) [go_sem, Try.f3]
  have hle := escB_le a b
  have hal := allB_le b
  have c1 := plain_pc Γ b (by omega) hl
  have c2 := rplain_pc Γ b (by omega) hl
  have c3 := escape_pc Γ b a (by omega) hl ha
  have c4 := rescape_pc Γ b a (by omega) hl ha
  have c5 := row_same Γ (escB a b) (by omega)
  have c6 := send_pc Γ b a (by omega) hl ha
  have c7 := rsend_pc Γ b a (by omega) hl ha
  have c8 := row_same Γ (sendB a b) (by simp [sendB]; omega)
  have c9 := all_pc Γ b (by omega) hl
  have c10 := rall_pc Γ b (by omega) hl
  have c11 := frames_same Γ (allB b) (by omega) (fun x hx => by have := hal.2 x hx; omega)
  have pr : ∃ (o : List Nat) (k : Int), plR (plain b) = .tup [.sl 1 (bys o), .int .i64 k] ∧ o.length ≤ 4000 ∧ (k = 0 ∨ k = 2) := by
    cases hp : plain b with
    | none => exact ⟨[], 2, rfl, by simp, .inr rfl⟩
    | some o => exact ⟨o, 0, rfl, by have := plT_le 0 b o hp; omega, .inl rfl⟩
  obtain ⟨o, k, he, hol, hk⟩ := pr
  rw [he] at c1 c2
  have c12 := row_same Γ o (by omega)
  simp -implicitDefEqProofs (disch := omega) [go_sem]
  refine .inl (call_data c1 (by simp [go_sem]) ?_)
  simp -implicitDefEqProofs (disch := omega) [go_sem]
  refine .inl (call_data c2 (by simp [go_sem]) ?_)
  simp -implicitDefEqProofs (disch := omega) [go_sem]
  refine .inl (call_data c12 (by simp [go_sem]) ?_)
  simp -implicitDefEqProofs (disch := omega) [go_sem]
  refine .inl (call_data c3 (by simp [go_sem]) ?_)
  simp -implicitDefEqProofs (disch := omega) [go_sem]
  refine .inl (call_data c4 (by simp [go_sem]) ?_)
  simp -implicitDefEqProofs (disch := omega) [go_sem]
  refine .inl (call_data c5 (by simp [go_sem]) ?_)
  simp -implicitDefEqProofs (disch := omega) [go_sem]
  refine .inl (call_data c6 (by simp [go_sem]) ?_)
  simp -implicitDefEqProofs (disch := omega) [go_sem]
  refine .inl (call_data c7 (by simp [go_sem]) ?_)
  simp -implicitDefEqProofs (disch := omega) [go_sem]
  refine .inl (call_data c8 (by simp [go_sem]) ?_)
  simp -implicitDefEqProofs (disch := omega) [go_sem]
  refine .inl (call_data c9 (by simp [go_sem]) ?_)
  simp -implicitDefEqProofs (disch := omega) [go_sem]
  refine .inl (call_data c10 (by simp [go_sem]) ?_)
  simp -implicitDefEqProofs (disch := omega) [go_sem]
  refine .inl (call_data c11 (by simp [go_sem]) ?_)
  simp -implicitDefEqProofs (disch := omega) [go_sem, Try.f3]
theorem law_StuffTells {x0 x1 : Data} (a0 : argD Try.prog 8 22 x0) (a1 : argD Try.prog 8 23 x1) : PC Try.prog Γ 3 [x0, x1] (.bool true) := by
  obtain ⟨b, lb, hb, rfl⟩ := arg_bytes Try.underlying22 Try.underlying5 (by kernel_rfl) a0
  obtain ⟨a, ha, rfl⟩ := arg_u32 Try.underlying23 a1
  exact tells_pc Γ b lb hb a ha
/-- A line that comes in. -/
theorem arg_line {x : Data} (a : argD Try.prog 8 37 x) : ∃ (b : List Nat) (lg : Bool), x = ln b lg ∧ (∀ c ∈ b, c < 256) ∧ b.length ≤ 140737488351232 := by
  obtain ⟨ds, rfl, h⟩ := arg_struct Try.underlying37 a
  obtain ⟨d1, r1, rfl, h1, h⟩ := okF_cons h
  obtain ⟨d2, r2, rfl, h2, h⟩ := okF_cons h
  obtain rfl := okF_nil h
  obtain ⟨b, lb, hb, rfl⟩ := ok_bytes Try.underlying22 Try.underlying5 (by kernel_rfl) h1
  unfold okD at h2
  simp only [Try.underlying4] at h2
  obtain ⟨lg, rfl⟩ := h2
  exact ⟨b, lg, rfl, lb, hb⟩
set_option maxHeartbeats 8000000 in
theorem feeds_pc (b b' : List Nat) (lg lg' : Bool) (hl : ∀ x ∈ b, x < 256) (hl' : ∀ x ∈ b', x < 256) (hb : b.length ≤ 140737488351232) (hb' : b'.length ≤ 140737488351232) (c : Nat) (hc : c < 256) : PC Try.prog Γ 4 [ln b lg, .int .u8 c, ln b' lg'] (.bool true) := by
  refine pc_by mixed Try.func4 rfl (fun args w => Try.call4 args w) ?_
  have r1 := rright_pc Γ b lg hb
  have r2 := rright_pc Γ b' lg' hb'
  simp -implicitDefEqProofs (disch := omega) [go_sem, ln]
  refine .inl (call_data (shown_pc Γ) (by simp [go_sem]) ?_)
  simp -implicitDefEqProofs (disch := omega) [go_sem, ln]
  refine .inl (call_data r1 (by simp [go_sem, ln]) ?_)
  by_cases h1 : Rl b lg
  · simp -implicitDefEqProofs (disch := omega) [go_sem, ln, h1]
    refine .inl (call_data r2 (by simp [go_sem, ln]) ?_)
    by_cases h2 : Rl b' lg'
    · have k1 := h1.1
      have k2 := h2.1
      have c1 := feed_pc Γ b lg c (by omega) hl hc
      have c2 := rfeed_pc Γ b lg c (by omega) hl hc
      have hn := nxt_le (lg := lg) (c := c) k1
      have hnl := nxt_lt (lg := lg) hl hc
      have c3 := rsame_pc Γ (nxt b lg c).1 (nxt b lg c).1 (nxt b lg c).2 (nxt b lg c).2 (by omega) (by omega)
      rw [decide_eq_true ⟨rfl, rfl⟩] at c3
      have c4 := same_pc Γ b b' lg lg' hl hl'
      have c5 := rsame_pc Γ b b' lg lg' (by omega) (by omega)
      generalize decide (b = b' ∧ lg = lg') = q at c4 c5
      have pr : ∃ (o : List Nat) (y : Bool), feedR b lg c = .tup [ln (nxt b lg c).1 (nxt b lg c).2, .sl 1 (bys o), .bool y] ∧ o.length ≤ 1508 := by
        cases hp : cam b lg c with
        | none => exact ⟨[], false, feedR_no hp, by simp⟩
        | some o => exact ⟨o, true, feedR_yes hp, by have := cam_le hp; omega⟩
      obtain ⟨o, y, he, hol⟩ := pr
      rw [he] at c1 c2
      have c6 := row_same Γ o (by omega)
      generalize (nxt b lg c).1 = n1 at *
      generalize (nxt b lg c).2 = n2 at *
      simp -implicitDefEqProofs (disch := omega) [go_sem, ln, h2]
      refine .inl (call_data c1 (by simp [go_sem, ln]) ?_)
      simp -implicitDefEqProofs (disch := omega) [go_sem, ln]
      refine .inl (call_data c2 (by simp [go_sem, ln]) ?_)
      simp -implicitDefEqProofs (disch := omega) [go_sem, ln]
      refine .inl (call_data c3 (by simp [go_sem, ln]) ?_)
      simp -implicitDefEqProofs (disch := omega) [go_sem, ln]
      refine .inl (call_data c6 (by simp [go_sem, ln]) ?_)
      simp -implicitDefEqProofs (disch := omega) [go_sem, ln]
      refine .inl (call_data c4 (by simp [go_sem, ln]) ?_)
      simp -implicitDefEqProofs (disch := omega) [go_sem, ln]
      refine .inl (call_data c5 (by simp [go_sem, ln]) ?_)
      simp -implicitDefEqProofs (maxSteps := 4000000) (disch := omega) [go_sem, ln, Try.f4]
      refine side (by kernel_rfl) ?_
      simp -implicitDefEqProofs (disch := omega) [go_sem, Try.f4]
    · simp -implicitDefEqProofs (disch := omega) [go_sem, ln, h2, Try.f4]
  · simp -implicitDefEqProofs (disch := omega) [go_sem, ln, h1, Try.f4]
theorem law_StuffFeeds {x0 x1 x2 : Data} (a0 : argD Try.prog 8 37 x0) (a1 : argD Try.prog 8 5 x1) (a2 : argD Try.prog 8 37 x2) : PC Try.prog Γ 4 [x0, x1, x2] (.bool true) := by
  obtain ⟨b, lg, rfl, hl, hb⟩ := arg_line a0
  obtain ⟨c, hc, rfl⟩ := arg_u8 Try.underlying5 a1
  obtain ⟨b', lg', rfl, hl', hb'⟩ := arg_line a2
  exact feeds_pc Γ b b' lg lg' hl hl' hb hb' c hc
end
end Sf
end Go.Proofs.Ytdodhnkbdechaaa
namespace Go.Proofs.Ytdodhnkbdechaaa
open Go.RowKit
set_option linter.unusedVariables false
set_option linter.unusedSimpArgs false
set_option maxRecDepth 100000
namespace Sf
section
variable (Γ : Nat → Option (List Data))
theorem nxt_right {b : List Nat} {lg : Bool} {c : Nat} (h : Rl b lg) : Rl (nxt b lg c).1 (nxt b lg c).2 := by
  obtain ⟨h1, h2, h3⟩ := h
  unfold nxt
  split
  · exact ⟨by simp, by simp, by simp⟩
  · split
    · exact ⟨by simp, by simp, by simp⟩
    · rename_i hc hn
      refine ⟨by simp; omega, by simp, ?_⟩
      simp only [List.mem_append, List.mem_singleton]
      rintro (e | e)
      · exact h3 e
      · exact hc e.symm
set_option maxHeartbeats 8000000 in
theorem right_pc (b : List Nat) (lg : Bool) (hl : ∀ x ∈ b, x < 256) (hb : b.length ≤ 140737488351232) (c : Nat) (hc : c < 256) : PC Try.prog Γ 9 [ln b lg, .int .u8 c] (.bool true) := by
  refine pc_by mixed Try.func9 rfl (fun args w => Try.call9 args w) ?_
  have r1 := rright_pc Γ b lg hb
  simp -implicitDefEqProofs (disch := omega) [go_sem, ln]
  refine .inl (call_data (shown_pc Γ) (by simp [go_sem]) ?_)
  simp -implicitDefEqProofs (disch := omega) [go_sem, ln]
  refine .inl (call_data r1 (by simp [go_sem, ln]) ?_)
  by_cases h1 : Rl b lg
  · have k1 := h1.1
    have c1 := feed_pc Γ b lg c (by omega) hl hc
    have hn := nxt_right (c := c) h1
    have c2 := rright_pc Γ (nxt b lg c).1 (nxt b lg c).2 (by have := hn.1; omega)
    rw [decide_eq_true hn] at c2
    by_cases h2 : c = 126
    · subst h2
      have e2 : nxt b lg 126 = ([], false) := by simp [nxt]
      cases lg with
      | true =>
        rw [feedR_no (by simp [cam]), e2] at c1
        rw [e2] at c2
        simp -implicitDefEqProofs (disch := omega) [go_sem, ln, h1]
        refine .inl (call_data c1 (by simp [go_sem, ln]) ?_)
        simp -implicitDefEqProofs (disch := omega) [go_sem, ln]
        refine .inl (call_data c2 (by simp [go_sem, ln]) ?_)
        simp -implicitDefEqProofs (disch := omega) [go_sem, ln, Try.f9]
      | false =>
        have pr : ∃ (o : List Nat) (y : Bool), feedR b false 126 = .tup [ln (nxt b false 126).1 (nxt b false 126).2, .sl 1 (bys o), .bool y] ∧ (y = false → o = []) := by
          cases hp : cam b false 126 with
          | none => exact ⟨[], false, feedR_no hp, by simp⟩
          | some o => exact ⟨o, true, feedR_yes hp, by simp⟩
        obtain ⟨o, y, he, ho⟩ := pr
        rw [he, e2] at c1
        rw [e2] at c2
        simp -implicitDefEqProofs (disch := omega) [go_sem, ln, h1]
        refine .inl (call_data c1 (by simp [go_sem, ln]) ?_)
        simp -implicitDefEqProofs (disch := omega) [go_sem, ln]
        refine .inl (call_data c2 (by simp [go_sem, ln]) ?_)
        cases y with
        | true => simp -implicitDefEqProofs (disch := omega) [go_sem, ln, Try.f9]
        | false =>
          obtain rfl := ho rfl
          simp -implicitDefEqProofs (disch := omega) [go_sem, ln, Try.f9]
    · rw [feedR_no (by simp [cam, h2])] at c1
      cases lg with
      | true =>
        have e2 : nxt b true c = ([], true) := by simp [nxt, h2]
        rw [e2] at c1 c2
        simp -implicitDefEqProofs (disch := omega) [go_sem, ln, h1]
        refine .inl (call_data c1 (by simp [go_sem, ln]) ?_)
        simp -implicitDefEqProofs (disch := omega) [go_sem, ln]
        refine .inl (call_data c2 (by simp [go_sem, ln]) ?_)
        simp -implicitDefEqProofs (disch := omega) [go_sem, ln, h2, Try.f9]
      | false =>
        by_cases h3 : b.length = 1508
        · have e2 : nxt b false c = ([], true) := by simp [nxt, h2, h3]
          rw [e2] at c1 c2
          simp -implicitDefEqProofs (disch := omega) [go_sem, ln, h1]
          refine .inl (call_data c1 (by simp [go_sem, ln]) ?_)
          simp -implicitDefEqProofs (disch := omega) [go_sem, ln]
          refine .inl (call_data c2 (by simp [go_sem, ln]) ?_)
          simp -implicitDefEqProofs (disch := omega) [go_sem, ln, h2, h3, Try.f9]
        · have e2 : nxt b false c = (b ++ [c], false) := by
            have : ¬ 1508 ≤ b.length := by omega
            simp [nxt, h2, this]
          rw [e2] at c1 c2
          simp -implicitDefEqProofs (disch := omega) [go_sem, ln, h1]
          refine .inl (call_data c1 (by simp [go_sem, ln]) ?_)
          simp -implicitDefEqProofs (disch := omega) [go_sem, ln]
          refine .inl (call_data c2 (by simp [go_sem, ln]) ?_)
          simp -implicitDefEqProofs (disch := omega) [go_sem, ln, h2, h3, Try.f9]
  · simp -implicitDefEqProofs (disch := omega) [go_sem, ln, h1, Try.f9]
theorem law_StuffRight {x0 x1 : Data} (a0 : argD Try.prog 8 37 x0) (a1 : argD Try.prog 8 5 x1) : PC Try.prog Γ 9 [x0, x1] (.bool true) := by
  obtain ⟨b, lg, rfl, hl, hb⟩ := arg_line a0
  obtain ⟨c, hc, rfl⟩ := arg_u8 Try.underlying5 a1
  exact right_pc Γ b lg hl hb c hc
structure Stn (b : List Nat) where
  i : Nat
  bb : List Nat
  lg : Bool
  hi : i ≤ b.length
  hb : bb.length ≤ 1508
  hl : ∀ x ∈ bb, x < 256
set_option maxHeartbeats 8000000 in
theorem anew_pc (b : List Nat) (lg : Bool) (hl : ∀ x ∈ b, x < 256) (hb : b.length ≤ 140737488351232) (q : List Nat) (hq : ∀ x ∈ q, x < 256) (hqn : q.length ≤ 140737488351232) : PC Try.prog Γ 8 [ln b lg, .sl 1 (bys q)] (.bool true) := by
  refine pc_by mixed Try.func8 rfl (fun args w => Try.call8 args w) ?_
  have r1 := rright_pc Γ b lg hb
  simp -implicitDefEqProofs (disch := omega) [go_sem, ln]
  refine .inl (call_data (shown_pc Γ) (by simp [go_sem]) ?_)
  simp -implicitDefEqProofs (disch := omega) [go_sem, ln]
  refine .inl (call_data r1 (by simp [go_sem, ln]) ?_)
  by_cases h1 : Rl b lg
  · by_cases h2 : 500 < q.length
    · simp -implicitDefEqProofs (disch := omega) [go_sem, ln, h1, Try.f8]
    · have k1 := h1.1
      have c1 := feed_pc Γ b lg 126 (by omega) hl (by decide)
      have e2 : nxt b lg 126 = ([], false) := by simp [nxt]
      have pr : ∃ (o : List Nat) (y : Bool), feedR b lg 126 = .tup [ln (nxt b lg 126).1 (nxt b lg 126).2, .sl 1 (bys o), .bool y] := by
        cases hp : cam b lg 126 with
        | none => exact ⟨[], false, feedR_no hp⟩
        | some o => exact ⟨o, true, feedR_yes hp⟩
      obtain ⟨o, y, he⟩ := pr
      rw [he, e2] at c1
      have c2 := rsame_pc Γ [] [] false false (by simp) (by simp)
      rw [decide_eq_true ⟨rfl, rfl⟩] at c2
      simp -implicitDefEqProofs (disch := omega) [go_sem, ln, h1]
      refine .inl (call_data c1 (by simp [go_sem, ln]) ?_)
      simp -implicitDefEqProofs (disch := omega) [go_sem, ln]
      refine .inl (call_frz [] [] (by simp) c2 (fun H' hH' => ?_) ?_)
      · exact frzL_c (.data _) (frzL_c (frz_aggL (frzL_c (.emp ..) (frzL_c (.data _) frzL_n))) frzL_n)
      simp -implicitDefEqProofs (disch := omega) [go_sem, ln]
      refine loop_ren (σ := Stn q) (fun p => ⟨envL [(1, .data (.sl 1 (bys q))), (5, .data (.bool true)), (6, .ptr 0 0), (9, .ptr 1 0), (10, .data (.int .i64 p.i))], hpL [(0, .blk true [.data (.sl 1 (bys p.bb)), .data (.bool p.lg)]), (1, .blk true [.data (.sl 1 (bys p.bb)), .data (.bool p.lg)])], 2, 0, 82⟩) (fun p => q.length - p.i) ⟨0, [], false, by omega, by simp, by simp⟩ [] (rhoL [(0, some 18), (1, some 27)]) ?_ ?_
      · apply ren_lists <;> simp -implicitDefEqProofs [go_sem]
      rintro ⟨i, bb, lb, hi, hbb, hbl⟩
      by_cases h : i < q.length
      · have hc := hq _ (List.getElem_mem h)
        have f1 := feed_pc Γ bb lb q[i] (by omega) hbl hc
        have pr : ∃ (o : List Nat) (y : Bool), feedR bb lb q[i] = .tup [ln (nxt bb lb q[i]).1 (nxt bb lb q[i]).2, .sl 1 (bys o), .bool y] ∧ o.length ≤ 1508 := by
          cases hp : cam bb lb q[i] with
          | none => exact ⟨[], false, feedR_no hp, by simp⟩
          | some o => exact ⟨o, true, feedR_yes hp, by have := cam_le hp; omega⟩
        obtain ⟨o, y, he, hol⟩ := pr
        rw [he] at f1
        have hn := nxt_le (lg := lb) (c := q[i]) hbb
        have hnl := nxt_lt (lg := lb) hbl hc
        generalize (nxt bb lb q[i]).1 = n1 at *
        generalize (nxt bb lb q[i]).2 = n2 at *
        have f2 := rsame_pc Γ n1 n1 n2 n2 (by omega) (by omega)
        rw [decide_eq_true ⟨rfl, rfl⟩] at f2
        have f3 := row_same Γ o (by omega)
        simp -implicitDefEqProofs (disch := omega) [go_sem, ln]
        refine .inl (call_data f1 (by simp [go_sem, ln]) ?_)
        simp -implicitDefEqProofs (disch := omega) [go_sem, ln]
        refine side (by kernel_rfl) ?_
        simp -implicitDefEqProofs (disch := omega) [go_sem, ln]
        refine .inl (call_data f1 (by simp [go_sem, ln]) ?_)
        simp -implicitDefEqProofs (disch := omega) [go_sem, ln]
        refine side (by kernel_rfl) ?_
        simp -implicitDefEqProofs (disch := omega) [go_sem, ln]
        refine .inl (call_data f3 (by simp [go_sem, ln]) ?_)
        simp -implicitDefEqProofs (disch := omega) [go_sem, ln]
        refine .inl (call_data f2 (by simp [go_sem, ln]) ?_)
        simp -implicitDefEqProofs (disch := omega) [go_sem, ln]
        refine next_ren ⟨i + 1, n1, n2, by omega, hn, hnl⟩ (by simp only; omega) [] (rhoL [(0, some 0), (1, some 1)]) ?_
        apply ren_lists <;> simp -implicitDefEqProofs [go_sem]
      · have : i = q.length := by omega
        subst this
        simp -implicitDefEqProofs (disch := omega) [go_sem, Try.f8]
  · simp -implicitDefEqProofs (disch := omega) [go_sem, ln, h1, Try.f8]
theorem law_StuffAnew {x0 x1 : Data} (a0 : argD Try.prog 8 37 x0) (a1 : argD Try.prog 8 22 x1) : PC Try.prog Γ 8 [x0, x1] (.bool true) := by
  obtain ⟨b, lg, rfl, hl, hb⟩ := arg_line a0
  obtain ⟨q, hq, hqn, rfl⟩ := arg_bytes Try.underlying22 Try.underlying5 (by kernel_rfl) a1
  exact anew_pc Γ b lg hl hb q hq hqn
theorem bit_int (a c : Nat) : ((a : Int) / 2 ^ c).tmod 2 = ((a / 2 ^ c % 2 : Nat) : Int) := by
  have e1 : ((a : Int) / 2 ^ c) = ((a / 2 ^ c : Nat) : Int) := by simp
  rw [e1, Int.tmod_eq_emod_of_nonneg (Int.natCast_nonneg _)]
  exact (Int.natCast_emod _ _).symm
theorem esc1_len (a c : Nat) : (esc1 a c).length = if escd a c then 2 else 1 := by unfold esc1; split <;> rfl
theorem escB_ge (a : Nat) : ∀ b : List Nat, b.length ≤ (escB a b).length
  | [] => by simp
  | c :: b => by
    have h1 := escB_ge a b
    have h2 := esc1_len a c
    rw [escB_cons, List.length_append, List.length_cons, h2]
    split <;> omega
theorem escB_mono {a a2 : Nat} (h : ∀ c, escd a c → escd a2 c) : ∀ b : List Nat, (escB a b).length ≤ (escB a2 b).length
  | [] => by simp [escB_nil]
  | c :: b => by
    have h1 := escB_mono h b
    rw [escB_cons, escB_cons, List.length_append, List.length_append, esc1_len, esc1_len]
    by_cases h2 : escd a c
    · rw [if_pos h2, if_pos (h c h2)]; omega
    · rw [if_neg h2]; split <;> omega
theorem escd_or (a m c : Nat) (h : escd a c) : escd (a ||| m) c := by
  unfold escd at *
  rcases h with h | h | ⟨h1, h2⟩
  · exact .inl h
  · exact .inr (.inl h)
  · refine .inr (.inr ⟨h1, ?_⟩)
    have e : ∀ x : Nat, x.testBit c = decide (x / 2 ^ c % 2 = 1) := fun x => Nat.testBit_eq_decide_div_mod_eq
    have h3 : (a ||| m).testBit c = true := by rw [Nat.testBit_or, e a, decide_eq_true h2]; rfl
    rw [e] at h3
    exact of_decide_eq_true h3
theorem all_high {b : List Nat} : ∀ x ∈ escB 4294967295 b, 32 ≤ x := by
  intro x hx
  have h := esc_low 4294967295 b x hx
  have key : ∀ c : Fin 32, 4294967295 / 2 ^ c.val % 2 = 1 := by decide
  by_cases hlt : x < 32
  · exact absurd ⟨hlt, key ⟨x, hlt⟩⟩ h
  · omega
set_option maxHeartbeats 8000000 in
theorem long_pc (b : List Nat) (hl : ∀ x ∈ b, x < 256) (hb : b.length ≤ 140737488351232) (a m : Nat) (ha : a < 4294967296) (hm : m < 4294967296) : PC Try.prog Γ 7 [.sl 1 (bys b), .int .u32 a, .int .u32 m] (.bool true) := by
  refine pc_by mixed Try.func7 rfl (fun args w => Try.call7 args w) ?_
  simp -implicitDefEqProofs (disch := omega) [go_sem]
  refine .inl (call_data (shown_pc Γ) (by simp [go_sem]) ?_)
  by_cases h1 : 1000 < b.length
  · simp -implicitDefEqProofs (disch := omega) [go_sem, Try.f7]
  simp -implicitDefEqProofs (disch := omega) [go_sem]
  refine loop_ren (σ := { i : Nat // i ≤ b.length }) (fun i => ⟨envL [(0, .data (.sl 1 (bys b))), (1, .data (.int .u32 a)), (2, .data (.int .u32 m)), (7, .data (.bool true)), (8, .data (.int .i64 ((escB a (b.take i.1)).length - i.1 : Nat))), (9, .data (.int .i64 i.1))], hpL [], 0, 0, 92⟩) (fun i => b.length - i.1) ⟨0, by omega⟩ [] (rhoL []) ?_ ?_
  · apply ren_lists <;> simp -implicitDefEqProofs [go_sem, escB_nil]
  rintro ⟨i, hi⟩
  by_cases h : i < b.length
  · have hc := hl _ (List.getElem_mem h)
    have ht := escB_take a b i h
    have hle := escB_le a (b.take i)
    have hge := escB_ge a (b.take i)
    rw [List.length_take, Nat.min_eq_left hi] at hle hge
    have hlen : (escB a (b.take (i + 1))).length = (escB a (b.take i)).length + (esc1 a b[i]).length := by rw [ht, List.length_append]
    rw [esc1_len] at hlen
    have hbit := bit_int a b[i]
    by_cases h6 : b[i] = 126
    · rw [if_pos (.inl h6)] at hlen
      generalize hL : (escB a (b.take i)).length = L at *
      simp -implicitDefEqProofs (disch := omega) [go_sem, h6]
      refine next_ren ⟨i + 1, by omega⟩ (by simp only; omega) [] (rhoL []) ?_
      apply ren_lists <;> simp -implicitDefEqProofs [go_sem, hlen]
      all_goals omega
    by_cases h5 : b[i] = 125
    · rw [if_pos (.inr (.inl h5))] at hlen
      generalize hL : (escB a (b.take i)).length = L at *
      simp -implicitDefEqProofs (disch := omega) [go_sem, h5]
      refine next_ren ⟨i + 1, by omega⟩ (by simp only; omega) [] (rhoL []) ?_
      apply ren_lists <;> simp -implicitDefEqProofs [go_sem, hlen]
      all_goals omega
    by_cases h32 : b[i] < 32
    · by_cases hb1 : a / 2 ^ b[i] % 2 = 1
      · rw [if_pos (.inr (.inr ⟨h32, hb1⟩))] at hlen
        rw [hb1] at hbit
        generalize hL : (escB a (b.take i)).length = L at *
        simp -implicitDefEqProofs (disch := omega) [go_sem, h5, h6, hbit]
        refine next_ren ⟨i + 1, by omega⟩ (by simp only; omega) [] (rhoL []) ?_
        apply ren_lists <;> simp -implicitDefEqProofs [go_sem, hlen]
        all_goals omega
      · have hb0 : a / 2 ^ b[i] % 2 = 0 := by omega
        rw [if_neg (by unfold escd; omega)] at hlen
        rw [hb0] at hbit
        generalize hL : (escB a (b.take i)).length = L at *
        simp -implicitDefEqProofs (disch := omega) [go_sem, h5, h6, hbit]
        refine next_ren ⟨i + 1, by omega⟩ (by simp only; omega) [] (rhoL []) ?_
        apply ren_lists <;> simp -implicitDefEqProofs [go_sem, hlen]
        all_goals omega
    · rw [if_neg (by unfold escd; omega)] at hlen
      generalize hL : (escB a (b.take i)).length = L at *
      simp -implicitDefEqProofs (disch := omega) [go_sem, h5, h6]
      refine next_ren ⟨i + 1, by omega⟩ (by simp only; omega) [] (rhoL []) ?_
      apply ren_lists <;> simp -implicitDefEqProofs [go_sem, hlen]
      all_goals omega
  · have : i = b.length := by omega
    subst this
    have htk : b.take b.length = b := List.take_length
    have c1 := escape_pc Γ b 4294967295 (by omega) hl (by decide)
    have hle := escB_le 4294967295 b
    have hge := escB_ge a b
    have hle2 := escB_le a b
    simp -implicitDefEqProofs (disch := omega) [go_sem, htk]
    refine .inl (call_data c1 (by simp [go_sem]) ?_)
    simp -implicitDefEqProofs (disch := omega) [go_sem]
    have hhi := all_high (b := b)
    generalize escB 4294967295 b = z at *
    refine loop_ren (σ := { i : Nat // i ≤ z.length }) (fun i => ⟨envL [(0, .data (.sl 1 (bys b))), (1, .data (.int .u32 a)), (2, .data (.int .u32 m)), (7, .data (.bool true)), (8, .data (.int .i64 ((escB a b).length - b.length : Nat))), (10, .data (.sl 1 (bys z))), (11, .data (.int .i64 i.1))], hpL [], 0, 0, 92⟩) (fun i => z.length - i.1) ⟨0, by omega⟩ [] (rhoL []) ?_ ?_
    · apply ren_lists <;> simp -implicitDefEqProofs [go_sem]
    rintro ⟨j, hj⟩
    by_cases h : j < z.length
    · have hz := hhi _ (List.getElem_mem h)
      simp -implicitDefEqProofs (disch := omega) [go_sem]
      refine next_ren ⟨j + 1, by omega⟩ (by simp only; omega) [] (rhoL []) ?_
      apply ren_lists <;> simp -implicitDefEqProofs [go_sem]
    · have : j = z.length := by omega
      subst this
      have hor : a ||| m < 4294967296 := Nat.or_lt_two_pow (n := 32) ha hm
      have c2 := escape_pc Γ b a (by omega) hl ha
      have c3 := escape_pc Γ b (a ||| m) (by omega) hl hor
      have hmo := escB_mono (escd_or a m) b
      have hle3 := escB_le (a ||| m) b
      simp -implicitDefEqProofs (disch := omega) [go_sem]
      refine .inl (call_data c2 (by simp [go_sem]) ?_)
      simp -implicitDefEqProofs (disch := omega) [go_sem]
      refine .inl (call_data c3 (by simp [go_sem]) ?_)
      simp -implicitDefEqProofs (disch := omega) [go_sem, Try.f7]
theorem law_StuffLong {x0 x1 x2 : Data} (a0 : argD Try.prog 8 22 x0) (a1 : argD Try.prog 8 23 x1) (a2 : argD Try.prog 8 23 x2) : PC Try.prog Γ 7 [x0, x1, x2] (.bool true) := by
  obtain ⟨b, lb, hb, rfl⟩ := arg_bytes Try.underlying22 Try.underlying5 (by kernel_rfl) a0
  obtain ⟨a, ha, rfl⟩ := arg_u32 Try.underlying23 a1
  obtain ⟨m, hm, rfl⟩ := arg_u32 Try.underlying23 a2
  exact long_pc Γ b lb hb a m ha hm
end
end Sf
end Go.Proofs.Ytdodhnkbdechaaa
namespace Go.Proofs.Ytdodhnkbdechaaa
open Go.RowKit
set_option linter.unusedVariables false
set_option linter.unusedSimpArgs false
set_option maxRecDepth 100000
namespace Sf
section
variable (Γ : Nat → Option (List Data))
/-- The line behind bytes. -/
def stF : List Nat → Bool → List Nat → List Nat × Bool
  | b, lg, [] => (b, lg)
  | b, lg, c :: l => stF (nxt b lg c).1 (nxt b lg c).2 l
theorem allF_append : ∀ (s : List Nat) (b : List Nat) (lg : Bool) (r : List Nat), allF b lg (s ++ r) = allF b lg s ++ allF (stF b lg s).1 (stF b lg s).2 r
  | [], b, lg, r => by simp [allF, stF]
  | c :: s, b, lg, r => by
    rw [List.cons_append, allF_cons, allF_append s, allF_cons, List.append_assoc]
    rfl
theorem nxt_flag (b : List Nat) (lg : Bool) : nxt b lg 126 = ([], false) := by simp [nxt]
theorem allF_flag (b : List Nat) (lg : Bool) (r : List Nat) : allF b lg (126 :: r) = (cam b lg 126).toList ++ allF [] false r := by
  rw [allF_cons, nxt_flag]
/-- Bytes without a flag tell nothing, and stand in the line. -/
theorem allF_seg : ∀ (s p r : List Nat), 126 ∉ s → allF (sg p).1 (sg p).2 (s ++ r) = allF (sg (p ++ s)).1 (sg (p ++ s)).2 r
  | [], p, r, _ => by simp
  | c :: s, p, r, h => by
    have h1 : c ≠ 126 := fun e => h (by simp [e])
    have h2 : 126 ∉ s := fun e => h (by simp [e])
    rw [List.cons_append, allF_cons, sg_cam p h1, sg_step h1, allF_seg s (p ++ [c]) r h2]
    simp
/-- Of what is escaped, a flag behind it, just that comes. -/
theorem allF_esc (a : Nat) {b : List Nat} (h1 : b ≠ []) (h2 : b.length ≤ 700) (r : List Nat) : allF [] false (escB a b ++ 126 :: r) = b :: allF [] false r := by
  have e := allF_seg (escB a b) [] (126 :: r) (esc_noflag a b)
  have hle := escB_le a b
  have hge := escB_ge a b
  have hpos := List.length_pos_iff.2 h1
  rw [show sg [] = ([], false) from rfl, List.nil_append] at e
  rw [e, allF_flag, sg_frame, if_pos (by omega), plain_of_esc]
  rfl
theorem allF_send (a : Nat) {b : List Nat} (h1 : b ≠ []) (h2 : b.length ≤ 700) (p : List Nat) (lg : Bool) (r : List Nat) : allF p lg (sendB a b ++ r) = (cam p lg 126).toList ++ b :: allF [] false r := by
  unfold sendB
  rw [List.cons_append, allF_flag, List.append_assoc]
  rw [show escB a b ++ ([126] ++ r) = escB a b ++ 126 :: r from rfl, allF_esc a h1 h2]
theorem allB_send (a : Nat) {b : List Nat} (h2 : b.length ≤ 700) : allB (sendB a b) = if b = [] then [] else [b] := by
  by_cases h1 : b = []
  · rw [if_pos h1]; subst h1
    show allB [126, 126] = []
    decide
  · rw [if_neg h1]
    have := allF_send a h1 h2 [] false []
    rw [List.append_nil] at this
    unfold allB
    rw [this]
    rfl
theorem allB_ahead (a : Nat) {b : List Nat} (h1 : b ≠ []) (h2 : b.length ≤ 700) (q : List Nat) : ∃ l, allB (q ++ sendB a b) = l ++ [b] := by
  unfold allB
  rw [allF_append]
  have := allF_send a h1 h2 (stF [] false q).1 (stF [] false q).2 []
  rw [List.append_nil] at this
  rw [this]
  exact ⟨allF [] false q ++ (cam (stF [] false q).1 (stF [] false q).2 126).toList, by simp [allF]⟩
def rowA (a : Nat) (l : List (List Nat)) : List Nat := l.flatMap (sendB a)
def rowB (a : Nat) (l : List (List Nat)) : List Nat := l.flatMap fun b => 126 :: escB a b
theorem rowA_take (a : Nat) (l : List (List Nat)) (i : Nat) (h : i < l.length) : rowA a (l.take (i + 1)) = rowA a (l.take i) ++ sendB a l[i] := by
  unfold rowA
  rw [List.take_add_one, List.getElem?_eq_getElem h, Option.toList_some, List.flatMap_append]
  simp
theorem rowB_take (a : Nat) (l : List (List Nat)) (i : Nat) (h : i < l.length) : rowB a (l.take (i + 1)) = rowB a (l.take i) ++ (126 :: escB a l[i]) := by
  unfold rowB
  rw [List.take_add_one, List.getElem?_eq_getElem h, Option.toList_some, List.flatMap_append]
  simp
theorem allB_rowA (a : Nat) : ∀ l : List (List Nat), (∀ x ∈ l, x ≠ [] ∧ x.length ≤ 700) → allB (rowA a l) = l
  | [], _ => rfl
  | b :: l, h => by
    obtain ⟨h1, h2⟩ := h b (by simp)
    have ih := allB_rowA a l fun x hx => h x (by simp [hx])
    unfold allB at *
    rw [show rowA a (b :: l) = sendB a b ++ rowA a l from rfl, allF_send a h1 h2, ih]
    rfl
theorem allF_rowB (a : Nat) : ∀ (l : List (List Nat)) (s : List Nat), (∀ x ∈ l, x ≠ [] ∧ x.length ≤ 700) → allF (sg s).1 (sg s).2 (rowB a l ++ [126]) = (cam (sg s).1 (sg s).2 126).toList ++ l
  | [], s, _ => by
    rw [show rowB a [] ++ [126] = 126 :: [] from rfl, allF_flag]
    simp [allF]
  | b :: l, s, h => by
    obtain ⟨h1, h2⟩ := h b (by simp)
    have ih := allF_rowB a l (escB a b) fun x hx => h x (by simp [hx])
    have hle := escB_le a b
    have hge := escB_ge a b
    have hpos := List.length_pos_iff.2 h1
    rw [show rowB a (b :: l) ++ [126] = 126 :: (escB a b ++ (rowB a l ++ [126])) by simp [rowB], allF_flag]
    have e := allF_seg (escB a b) [] (rowB a l ++ [126]) (esc_noflag a b)
    rw [show sg [] = ([], false) from rfl, List.nil_append] at e
    rw [e, ih, sg_frame (escB a b), if_pos (by omega), plain_of_esc]
    rfl
theorem allB_rowB (a : Nat) (l : List (List Nat)) (h : ∀ x ∈ l, x ≠ [] ∧ x.length ≤ 700) : allB (rowB a l ++ [126]) = l := by
  have := allF_rowB a l [] h
  rw [show sg [] = ([], false) from rfl] at this
  unfold allB
  rw [this]
  rfl
theorem row_lt {a : Nat} {l : List (List Nat)} (h : ∀ x ∈ l, ∀ c ∈ x, c < 256) : (∀ c ∈ rowA a l, c < 256) ∧ ∀ c ∈ rowB a l, c < 256 := by
  constructor
  · intro c hc
    obtain ⟨b, hb, hc⟩ := List.mem_flatMap.1 hc
    unfold sendB at hc
    simp only [List.mem_cons, List.mem_append, List.not_mem_nil, or_false] at hc
    rcases hc with rfl | hc | rfl
    · omega
    · exact esc_lt a (h b hb) c hc
    · omega
  · intro c hc
    obtain ⟨b, hb, hc⟩ := List.mem_flatMap.1 hc
    simp only [List.mem_cons] at hc
    rcases hc with rfl | hc
    · omega
    · exact esc_lt a (h b hb) c hc
/-- Rows of bytes that come in. -/
theorem rows_of : ∀ l : List Data, (∀ x ∈ l, argD Try.prog 7 22 x) → ∃ m : List (List Nat), l = rws m ∧ ∀ b ∈ m, (∀ c ∈ b, c < 256) ∧ b.length ≤ 140737488351232
  | [], _ => ⟨[], rfl, by simp⟩
  | y :: l, h => by
    obtain ⟨m, rfl, hm⟩ := rows_of l fun x hx => h x (by simp [hx])
    obtain ⟨b, hb, hbn, rfl⟩ := arg_bytes Try.underlying22 Try.underlying5 (by kernel_rfl) (h y (by simp))
    refine ⟨b :: m, rfl, ?_⟩
    intro x hx
    rcases List.mem_cons.1 hx with rfl | hx
    · exact ⟨hb, hbn⟩
    · exact hm x hx
theorem arg_rows {x : Data} (a : argD Try.prog 8 33 x) : ∃ m : List (List Nat), x = .sl 1 (rws m) ∧ m.length ≤ 140737488351232 ∧ ∀ b ∈ m, (∀ c ∈ b, c < 256) ∧ b.length ≤ 140737488351232 := by
  obtain ⟨l, rfl, hl, h⟩ := arg_slice Try.underlying33 a
  obtain ⟨m, rfl, hm⟩ := rows_of l h
  exact ⟨m, by rw [show (Try.prog).cellsOf 22 = 1 by kernel_rfl], by simpa [rws] using hl, hm⟩
set_option maxHeartbeats 8000000 in
theorem row_law (l : List (List Nat)) (hn : l.length ≤ 140737488351232) (hl : ∀ b ∈ l, (∀ c ∈ b, c < 256) ∧ b.length ≤ 140737488351232) (a : Nat) (ha : a < 4294967296) : PC Try.prog Γ 6 [.sl 1 (rws l), .int .u32 a] (.bool true) := by
  refine pc_by mixed Try.func6 rfl (fun args w => Try.call6 args w) ?_
  simp -implicitDefEqProofs (disch := omega) [go_sem]
  refine .inl (call_data (shown_pc Γ) (by simp [go_sem]) ?_)
  by_cases h1 : 20 < l.length
  · simp -implicitDefEqProofs (disch := omega) [go_sem, Try.f6]
  simp -implicitDefEqProofs (disch := omega) [go_sem]
  refine loop_ren (σ := { i : Nat // i ≤ l.length ∧ (∀ x ∈ l.take i, x ≠ [] ∧ x.length ≤ 700) ∧ (rowA a (l.take i)).length ≤ i * 1402 ∧ (rowB a (l.take i)).length ≤ i * 1401 }) (fun i => ⟨envL [(0, .data (.sl 1 (rws l))), (1, .data (.int .u32 a)), (5, .data (.bool true)), (6, .ref 0 0 (rowA a (l.take i.1)).length 1), (7, .ref 1 0 (rowB a (l.take i.1)).length 1), (8, .data (.int .i64 i.1))], hpL [(0, .blk true ((bys (rowA a (l.take i.1))).map .data)), (1, .blk true ((bys (rowB a (l.take i.1))).map .data))], 2, 0, 70⟩) (fun i => l.length - i.1) ⟨0, by omega, by simp, by simp [rowA], by simp [rowB]⟩ [] (rhoL [(0, none), (1, none)]) ?_ ?_
  · apply ren_lists <;> simp -implicitDefEqProofs [go_sem, rowA, rowB]
  rintro ⟨i, hi, hok, hA, hB⟩
  by_cases h : i < l.length
  · obtain ⟨hlb, hlbn⟩ := hl _ (List.getElem_mem h)
    by_cases h2 : l[i].length < 1
    · simp -implicitDefEqProofs (disch := omega) [go_sem, Try.f6]
    by_cases h3 : 700 < l[i].length
    · simp -implicitDefEqProofs (disch := omega) [go_sem, Try.f6]
    have c1 := send_pc Γ l[i] a (by omega) hlb ha
    have c2 := escape_pc Γ l[i] a (by omega) hlb ha
    have hle := escB_le a l[i]
    have tA := rowA_take a l i h
    have tB := rowB_take a l i h
    have sl : (sendB a l[i]).length = (escB a l[i]).length + 2 := by simp [sendB]
    have nA : (rowA a (l.take (i + 1))).length = (rowA a (l.take i)).length + ((escB a l[i]).length + 2) := by rw [tA, List.length_append, sl]
    have nB : (rowB a (l.take (i + 1))).length = (rowB a (l.take i)).length + ((escB a l[i]).length + 1) := by rw [tB, List.length_append, List.length_cons]
    have hok2 : ∀ x ∈ l.take (i + 1), x ≠ [] ∧ x.length ≤ 700 := fun x hx => by
      rw [List.take_add_one, List.getElem?_eq_getElem h] at hx
      simp only [Option.toList_some, List.mem_append, List.mem_singleton] at hx
      rcases hx with hx | rfl
      · exact hok x hx
      · exact ⟨fun e => by rw [e] at h2; simp at h2, by omega⟩
    simp -implicitDefEqProofs (disch := omega) [go_sem]
    refine .inl (call_data c1 (by simp [go_sem]) ?_)
    simp -implicitDefEqProofs (disch := omega) [go_sem, sl]
    refine .inl (call_data c2 (by simp [go_sem]) ?_)
    simp -implicitDefEqProofs (disch := omega) [go_sem]
    refine next_ren ⟨i + 1, by omega, hok2, by omega, by omega⟩ (by simp only; omega) [] (rhoL [(0, some 27), (1, some 40)]) ?_
    apply ren_lists <;> simp -implicitDefEqProofs [go_sem, nA, nB, tA, tB]
    · exact ⟨sl, by omega⟩
    · exact renCells_plain (by simp [bys, u8]) (by simp [plainD, bys, u8])
  · have : i = l.length := by omega
    subst this
    have htk : l.take l.length = l := List.take_length
    rw [htk] at hok hA hB
    have hlt := row_lt (a := a) (l := l) fun x hx => (hl x hx).1
    have c1 := all_pc Γ (rowA a l) (by omega) hlt.1
    rw [allB_rowA a l hok] at c1
    have c2 := all_pc Γ (rowB a l ++ [126]) (by simp; omega) (fun c hc => by
      rcases List.mem_append.1 hc with hc | hc
      · exact hlt.2 c hc
      · simp only [List.mem_singleton] at hc; omega)
    rw [allB_rowB a l hok] at c2
    have c3 := frames_same Γ l (by omega) (fun x hx => by have := (hok x hx).2; omega)
    simp -implicitDefEqProofs (disch := omega) [go_sem, htk]
    refine .inl (call_kept 0 (rowA a l).length (rowA a l) c1 (by simp [go_sem]) rfl ?_)
    simp -implicitDefEqProofs (disch := omega) [go_sem]
    refine .inl (call_data c3 (by simp [go_sem]) ?_)
    simp -implicitDefEqProofs (disch := omega) [go_sem]
    refine .inl (call_kept 8 ((rowB a l).length + 1) (rowB a l ++ [126]) c2 (by simp [Hp.upd, Hp.set, hpL, bys, u8]) (by simp) ?_)
    simp -implicitDefEqProofs (disch := omega) [go_sem]
    refine .inl (call_data c3 (by simp [go_sem]) ?_)
    simp -implicitDefEqProofs (disch := omega) [go_sem, Try.f6]
theorem law_StuffRow {x0 x1 : Data} (a0 : argD Try.prog 8 33 x0) (a1 : argD Try.prog 8 23 x1) : PC Try.prog Γ 6 [x0, x1] (.bool true) := by
  obtain ⟨l, rfl, hn, hl⟩ := arg_rows a0
  obtain ⟨a, ha, rfl⟩ := arg_u32 Try.underlying23 a1
  exact row_law Γ l hn hl a ha
set_option maxHeartbeats 8000000 in
theorem back_pc (b : List Nat) (hl : ∀ x ∈ b, x < 256) (hb : b.length ≤ 140737488351232) (a : Nat) (ha : a < 4294967296) (q : List Nat) (hq : ∀ x ∈ q, x < 256) (hqn : q.length ≤ 140737488351232) : PC Try.prog Γ 5 [.sl 1 (bys b), .int .u32 a, .sl 1 (bys q)] (.bool true) := by
  refine pc_by mixed Try.func5 rfl (fun args w => Try.call5 args w) ?_
  simp -implicitDefEqProofs (disch := omega) [go_sem]
  refine .inl (call_data (shown_pc Γ) (by simp [go_sem]) ?_)
  by_cases h1 : 700 < b.length
  · simp -implicitDefEqProofs (disch := omega) [go_sem, Try.f5]
  by_cases h2 : 700 < q.length
  · simp -implicitDefEqProofs (disch := omega) [go_sem, Try.f5]
  have hle := escB_le a b
  have c1 := escape_pc Γ b a (by omega) hl ha
  have c2 := plain_pc Γ (escB a b) (by omega) (esc_lt a hl)
  rw [plain_of_esc] at c2
  have hnf := esc_noflag a b
  have hlow := esc_low a b
  have hzl := esc_lt a hl
  have c3 := row_same Γ b (by omega)
  have c4 := send_pc Γ b a (by omega) hl ha
  have hsl : (sendB a b).length = (escB a b).length + 2 := by simp [sendB]
  have hsb : ∀ x ∈ sendB a b, x < 256 := by
    unfold sendB
    intro c hc
    simp only [List.mem_cons, List.mem_append, List.not_mem_nil, or_false] at hc
    rcases hc with rfl | hc | rfl
    · omega
    · exact hzl c hc
    · omega
  have c5 := all_pc Γ (sendB a b) (by omega) hsb
  rw [allB_send a (by omega)] at c5
  have c6 := all_pc Γ (q ++ sendB a b) (by rw [List.length_append]; omega) (fun c hc => by
    rcases List.mem_append.1 hc with hc | hc
    · exact hq c hc
    · exact hsb c hc)
  simp -implicitDefEqProofs (disch := omega) [go_sem]
  refine .inl (call_data c1 (by simp [go_sem]) ?_)
  simp -implicitDefEqProofs (disch := omega) [go_sem]
  refine .inl (call_data c2 (by simp [go_sem]) ?_)
  simp -implicitDefEqProofs (disch := omega) [go_sem, plR]
  generalize escB a b = z at *
  refine loop_ren (σ := { i : Nat // i ≤ z.length }) (fun i => ⟨envL [(0, .data (.sl 1 (bys b))), (1, .data (.int .u32 a)), (2, .data (.sl 1 (bys q))), (7, .data (.bool true)), (8, .data (.sl 1 (bys z))), (9, .data (.sl 1 (bys b))), (10, .data (.int .i64 0)), (11, .data (.int .i64 i.1))], hpL [], 0, 0, 117⟩) (fun i => z.length - i.1) ⟨0, by omega⟩ [] (rhoL []) ?_ ?_
  · apply ren_lists <;> simp -implicitDefEqProofs [go_sem]
  rintro ⟨j, hj⟩
  by_cases h : j < z.length
  · have hz := hlow _ (List.getElem_mem h)
    have hne : z[j] ≠ 126 := fun e => hnf (e ▸ List.getElem_mem h)
    have hz8 := hzl _ (List.getElem_mem h)
    have hbit := bit_int a z[j]
    by_cases h32 : z[j] < 32
    · have hb0 : a / 2 ^ z[j] % 2 = 0 := by
        have : ¬ a / 2 ^ z[j] % 2 = 1 := fun e => hz ⟨h32, e⟩
        omega
      rw [hb0] at hbit
      simp -implicitDefEqProofs (disch := omega) [go_sem, hne, hbit]
      refine next_ren ⟨j + 1, by omega⟩ (by simp only; omega) [] (rhoL []) ?_
      apply ren_lists <;> simp -implicitDefEqProofs [go_sem]
    · simp -implicitDefEqProofs (disch := omega) [go_sem, hne]
      refine next_ren ⟨j + 1, by omega⟩ (by simp only; omega) [] (rhoL []) ?_
      apply ren_lists <;> simp -implicitDefEqProofs [go_sem]
  · have : j = z.length := by omega
    subst this
    simp -implicitDefEqProofs (disch := omega) [go_sem]
    refine .inl (call_data c3 (by simp [go_sem]) ?_)
    simp -implicitDefEqProofs (disch := omega) [go_sem]
    refine .inl (call_data c4 (by simp [go_sem]) ?_)
    simp -implicitDefEqProofs (disch := omega) [go_sem]
    refine .inl (call_data c5 (by simp [go_sem]) ?_)
    by_cases h0 : b = []
    · subst h0
      simp -implicitDefEqProofs (disch := omega) [go_sem, rws, Try.f5]
    · have hpos := List.length_pos_iff.2 h0
      obtain ⟨l, hl2⟩ := allB_ahead a h0 (by omega) q
      have hal := (allB_le (q ++ sendB a b)).1
      rw [hl2] at c6 hal
      rw [List.length_append, List.length_append, hsl] at hal
      simp only [List.length_cons, List.length_nil] at hal
      simp -implicitDefEqProofs (disch := omega) [go_sem, h0]
      refine .inl (call_data c4 (by simp [go_sem]) ?_)
      simp -implicitDefEqProofs (disch := omega) [go_sem, hsl]
      refine .inl (call_kept 26 (q.length + (z.length + 2)) (q ++ sendB a b) c6 (by simp [Hp.upd, Hp.set]) (by rw [List.length_append, hsl]) ?_)
      have hget : (rws (l ++ [b]))[l.length]? = some (.sl 1 (bys b)) := by simp [rws]
      have hlen : (rws (l ++ [b])).length = l.length + 1 := by simp [rws]
      rw [if_neg h0] at c5
      have h00 : (rws [b])[0]? = some (.sl 1 (bys b)) := rfl
      have hl0 : (rws [b]).length = 1 := rfl
      generalize rws (l ++ [b]) = R at *
      generalize rws [b] = R0 at *
      simp -implicitDefEqProofs (disch := omega) [-getElem?_pos, go_sem, h00, hl0]
      refine .inl (call_data c3 (by simp [go_sem]) ?_)
      simp -implicitDefEqProofs (disch := omega) [-getElem?_pos, go_sem, hlen, hget]
      refine .inl (call_data c3 (by simp [go_sem]) ?_)
      simp -implicitDefEqProofs (disch := omega) [-getElem?_pos, go_sem, Try.f5]
theorem law_StuffBack {x0 x1 x2 : Data} (a0 : argD Try.prog 8 22 x0) (a1 : argD Try.prog 8 23 x1) (a2 : argD Try.prog 8 22 x2) : PC Try.prog Γ 5 [x0, x1, x2] (.bool true) := by
  obtain ⟨b, lb, hb, rfl⟩ := arg_bytes Try.underlying22 Try.underlying5 (by kernel_rfl) a0
  obtain ⟨a, ha, rfl⟩ := arg_u32 Try.underlying23 a1
  obtain ⟨q, hq, hqn, rfl⟩ := arg_bytes Try.underlying22 Try.underlying5 (by kernel_rfl) a2
  exact back_pc Γ b lb hb a ha q hq hqn
end
end Sf
end Go.Proofs.Ytdodhnkbdechaaa
namespace Go.Proofs.Ytdodhnkbdechaaa
open Go.RowKit
set_option linter.unusedVariables false
set_option linter.unusedSimpArgs false
theorem law_StuffTells (Γ : Nat → Option (List Data)) {x0 x1 : Data} (a0 : argD Try.prog 8 22 x0) (a1 : argD Try.prog 8 23 x1) : PC Try.prog Γ 3 [x0, x1] (.bool true) := Sf.law_StuffTells Γ a0 a1
theorem law_StuffFeeds (Γ : Nat → Option (List Data)) {x0 x1 x2 : Data} (a0 : argD Try.prog 8 37 x0) (a1 : argD Try.prog 8 5 x1) (a2 : argD Try.prog 8 37 x2) : PC Try.prog Γ 4 [x0, x1, x2] (.bool true) := Sf.law_StuffFeeds Γ a0 a1 a2
theorem law_StuffBack (Γ : Nat → Option (List Data)) {x0 x1 x2 : Data} (a0 : argD Try.prog 8 22 x0) (a1 : argD Try.prog 8 23 x1) (a2 : argD Try.prog 8 22 x2) : PC Try.prog Γ 5 [x0, x1, x2] (.bool true) := Sf.law_StuffBack Γ a0 a1 a2
theorem law_StuffRow (Γ : Nat → Option (List Data)) {x0 x1 : Data} (a0 : argD Try.prog 8 33 x0) (a1 : argD Try.prog 8 23 x1) : PC Try.prog Γ 6 [x0, x1] (.bool true) := Sf.law_StuffRow Γ a0 a1
theorem law_StuffLong (Γ : Nat → Option (List Data)) {x0 x1 x2 : Data} (a0 : argD Try.prog 8 22 x0) (a1 : argD Try.prog 8 23 x1) (a2 : argD Try.prog 8 23 x2) : PC Try.prog Γ 7 [x0, x1, x2] (.bool true) := Sf.law_StuffLong Γ a0 a1 a2
theorem law_StuffAnew (Γ : Nat → Option (List Data)) {x0 x1 : Data} (a0 : argD Try.prog 8 37 x0) (a1 : argD Try.prog 8 22 x1) : PC Try.prog Γ 8 [x0, x1] (.bool true) := Sf.law_StuffAnew Γ a0 a1
theorem law_StuffRight (Γ : Nat → Option (List Data)) {x0 x1 : Data} (a0 : argD Try.prog 8 37 x0) (a1 : argD Try.prog 8 5 x1) : PC Try.prog Γ 9 [x0, x1] (.bool true) := Sf.law_StuffRight Γ a0 a1
end Go.Proofs.Ytdodhnkbdechaaa
