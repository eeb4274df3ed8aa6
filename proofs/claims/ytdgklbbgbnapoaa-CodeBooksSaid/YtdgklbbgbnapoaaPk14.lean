/- Code: the law CodeApart. (By genQN.py.) Code: the laws, as they come in. Code: records written, as rows of the caller's own; the law CodeTail. Code: the law CodeTail. -/
import Derived.Test.YtdgklbbgbnapoaaPk13
namespace Go.Proofs.Ytdgklbbgbnapoaa
open Go.RowKit
set_option linter.unusedVariables false
set_option linter.unusedSimpArgs false
set_option maxRecDepth 100000
namespace Bk
section
variable (Γ : Nat → Option (List Data))
theorem apartO (g s : Int) (o : Op) (ho : o.Ty) : (∃ R : List Nat, R.length = 128 ∧ R = padB 128 (recB g s o) ∧ RecP g s o ∧ PC Try.prog Γ 11 [.int .i64 g, .int .i64 s, op o] (.tup [.sl 1 (bys R), .int .i64 0])) ∨
    PC Try.prog Γ 11 [.int .i64 g, .int .i64 s, op o] (.tup [.sl 1 [], .int .i64 1]) := by
  have c := opBytes_pc Γ g s o ho.range
  by_cases h : RecP g s o
  · rw [if_pos h] at c
    exact .inl ⟨_, padB_length (by rw [recB_length (h.fit ho.range)]; omega), rfl, h, c⟩
  · rw [if_neg h] at c
    exact .inr c
theorem apartH (g : Int) : (∃ R : List Nat, R.length = 128 ∧ R = padB 128 (headB g.toNat) ∧ (1 ≤ g ∧ g ≤ 1000000000) ∧ PC Try.prog Γ 21 [.int .i64 g] (.tup [.sl 1 (bys R), .int .i64 0])) ∨
    (¬ (1 ≤ g ∧ g ≤ 1000000000) ∧ PC Try.prog Γ 21 [.int .i64 g] (.tup [.sl 1 [], .int .i64 1])) := by
  have c := headBytes_pc Γ g
  by_cases h : 1 ≤ g ∧ g ≤ 1000000000
  · rw [if_pos h] at c
    exact .inl ⟨_, padB_length (by simp [headB, be_length]), rfl, h, c⟩
  · rw [if_neg h] at c
    exact .inr ⟨h, c⟩
theorem head_apart {g h : Int} (hg : 1 ≤ g ∧ g ≤ 1000000000) (hh : 1 ≤ h ∧ h ≤ 1000000000) (e : padB 128 (headB g.toNat) = padB 128 (headB h.toNat)) : g = h := by
  have b1 := padB_bytes (n := 128) (headB_bytes g.toNat)
  have e1 := (headP_iff b1 g.toNat _).2 ⟨by omega, rfl, rfl⟩
  have e2 := (headP_iff b1 h.toNat _).2 ⟨by omega, e, rfl⟩
  rw [e1] at e2
  simp only [Option.some.injEq, Prod.mk.injEq] at e2
  omega
theorem apartB (b : Book) (hf : Fits b) (ht : b.Ty) : (∃ R : List Nat, R.length = 2048 ∧ R = padB 2048 (bookB b) ∧ RightP b ∧ PC Try.prog Γ 17 [book b] (.tup [.sl 1 (bys R), .int .i64 0])) ∨
    PC Try.prog Γ 17 [book b] (.tup [.sl 1 [], .int .i64 1]) := by
  obtain ⟨q, hq⟩ := prop_bool (RightP b)
  have c := book_u Γ b hf ht hq
  cases q with
  | true =>
    have h := hq.1 rfl
    rw [bookL, if_pos rfl] at c
    exact .inl ⟨_, padB_length (h.short (h.bfit ht)), rfl, h, c⟩
  | false => exact .inr c

set_option maxHeartbeats 64000000 in
theorem CodeApart_pc (g h s t : Int) (o p : Op) (b c : Book) (ho : o.Ty) (hp : p.Ty) (hf : Fits b) (ht : b.Ty) (kf : Fits c) (kt : c.Ty) : PC Try.prog Γ 7 [.agg [.int .i64 g, .int .i64 h, .int .i64 s, .int .i64 t, .int .i64 o.kind, .int .i64 o.id, .int .i64 o.link, .int .u32 o.addr, .str o.user, .int .u64 o.inn, .int .u64 o.out, .int .i64 o.cause, .int .i64 o.at_, .int .i64 p.kind, .int .i64 p.id, .int .i64 p.link, .int .u32 p.addr, .str p.user, .int .u64 p.inn, .int .u64 p.out, .int .i64 p.cause, .int .i64 p.at_, .int .i64 b.next, .sl 6 (sesss b.opn), .sl 5 (items b.items), .sl 3 (locks b.locks), .int .i64 c.next, .sl 6 (sesss c.opn), .sl 5 (items c.items), .sl 3 (locks c.locks)]] (.bool true) := by
  refine pc_by mixed Try.func7 rfl (fun args w => Try.call7 args w) ?_
  have cs := shown_pc Γ
  have hou := ho.user
  have hpu := hp.user
  by_cases g1 : 50 < o.user.size
  · simp -implicitDefEqProofs (maxSteps := 2000000) (disch := omega) [go_sem]
    refine .inl (call_data cs (by simp [go_sem]) ?_)
    simp -implicitDefEqProofs (maxSteps := 2000000) (disch := omega) [go_sem, Try.f7]
  by_cases g2 : 50 < p.user.size
  · simp -implicitDefEqProofs (maxSteps := 2000000) (disch := omega) [go_sem]
    refine .inl (call_data cs (by simp [go_sem]) ?_)
    simp -implicitDefEqProofs (maxSteps := 2000000) (disch := omega) [go_sem, Try.f7]
  obtain ⟨q0, hq0⟩ := prop_bool (SmallP b)
  have c0 := small_pc Γ b hf hq0
  clear hq0
  unfold book at c0
  cases q0 with
  | false =>
    simp -implicitDefEqProofs (maxSteps := 2000000) (disch := omega) [go_sem]
    refine .inl (call_data cs (by simp [go_sem]) ?_)
    simp -implicitDefEqProofs (maxSteps := 2000000) (disch := omega) [go_sem]
    refine .inl (call_data c0 (by simp [go_sem]) ?_)
    simp -implicitDefEqProofs (maxSteps := 2000000) (disch := omega) [go_sem, Try.f7]
  | true =>
  obtain ⟨q1, hq1⟩ := prop_bool (SmallP c)
  have c1 := small_pc Γ c kf hq1
  clear hq1
  unfold book at c1
  cases q1 with
  | false =>
    simp -implicitDefEqProofs (maxSteps := 2000000) (disch := omega) [go_sem]
    refine .inl (call_data cs (by simp [go_sem]) ?_)
    simp -implicitDefEqProofs (maxSteps := 2000000) (disch := omega) [go_sem]
    refine .inl (call_data c0 (by simp [go_sem]) ?_)
    simp -implicitDefEqProofs (maxSteps := 2000000) (disch := omega) [go_sem]
    refine .inl (call_data c1 (by simp [go_sem]) ?_)
    simp -implicitDefEqProofs (maxSteps := 2000000) (disch := omega) [go_sem, Try.f7]
  | true =>
  have hO := apartO Γ g s o ho
  have hO2 := apartO Γ h t p hp
  have hH := apartH Γ g
  have hH2 := apartH Γ h
  have hB := apartB Γ b hf ht
  have hB2 := apartB Γ c kf kt
  have cm := same_pc Γ b c hf kf ht kt
  unfold op at hO hO2
  unfold book at hB hB2 cm
  simp -implicitDefEqProofs (maxSteps := 2000000) (disch := omega) [go_sem]
  refine .inl (call_data cs (by simp [go_sem]) ?_)
  simp -implicitDefEqProofs (maxSteps := 2000000) (disch := omega) [go_sem]
  refine .inl (call_data c0 (by simp [go_sem]) ?_)
  simp -implicitDefEqProofs (maxSteps := 2000000) (disch := omega) [go_sem]
  refine .inl (call_data c1 (by simp [go_sem]) ?_)
  simp -implicitDefEqProofs (maxSteps := 2000000) (disch := omega) [go_sem]
  obtain ⟨v1, hv1⟩ := prop_bool (RecP h t p)
  have uO2 := op_u Γ h t p hp.range hv1
  have uH2 := head_u Γ h
  obtain ⟨v2, hv2⟩ := prop_bool (RightP c)
  have uB2 := book_u Γ c kf kt hv2
  clear hv1 hv2
  generalize recL v1 h t p = L1 at *
  generalize recE v1 = E1 at *
  generalize headL h = L2 at *
  generalize headE h = E2 at *
  generalize bookL v2 c = L3 at *
  generalize recE v2 = E3 at *
  unfold op at uO2
  unfold book at uB2
  rcases hO with ⟨R, hR, eR, rR, d1⟩ | d1
  · obtain ⟨H, hHl, eH, rH, d3⟩ := hH.resolve_right fun k => k.1 rR.1
    refine .inl (call_data d1 (by simp [go_sem]) ?_)
    simp -implicitDefEqProofs (maxSteps := 2000000) (disch := omega) [go_sem]
    rcases hO2 with ⟨R2, hR2, eR2, rR2, d2⟩ | d2
    · obtain ⟨H2, hHl2, eH2, rH2, d4⟩ := hH2.resolve_right fun k => k.1 rR2.1
      have crH := row_pc Γ H H2 (by omega) (by omega)
      have hdH : decide (H = H2) = decide (g = h) := decide_eq_decide.2 ⟨fun e => head_apart rH rH2 (by rw [← eH, ← eH2, e]), fun e => by rw [eH, eH2, e]⟩
      rw [hdH] at crH
      clear hdH
      refine .inl (call_data d2 (by simp [go_sem]) ?_)
      simp -implicitDefEqProofs (maxSteps := 2000000) (disch := omega) [go_sem]
      have cr := row_pc Γ R R2 (by omega) (by omega)
      have hd : R = R2 ↔ g = h ∧ s = t ∧ o = p := ⟨fun e => record_apart rR ho.range rR2 hp.range (by rw [← eR, ← eR2, e]), fun ⟨e1, e2, e3⟩ => by rw [eR, eR2, e1, e2, e3]⟩
      by_cases e1 : g = h
      rotate_left
      · rw [decide_eq_false fun e => e1 (hd.1 e).1] at cr
        rw [decide_eq_false e1] at crH
        refine .inl (call_data cr (by simp [go_sem]) ?_)
        simp -implicitDefEqProofs (maxSteps := 2000000) (disch := omega) [go_sem, e1]
        refine side (by kernel_rfl) ?_
        simp -implicitDefEqProofs (maxSteps := 2000000) (disch := omega) [go_sem, e1]
        refine .inl (call_data d3 (by simp [go_sem]) ?_)
        simp -implicitDefEqProofs (maxSteps := 2000000) (disch := omega) [go_sem, e1]
        refine .inl (call_data d4 (by simp [go_sem]) ?_)
        simp -implicitDefEqProofs (maxSteps := 2000000) (disch := omega) [go_sem, e1]
        refine .inl (call_data crH (by simp [go_sem]) ?_)
        simp -implicitDefEqProofs (maxSteps := 2000000) (disch := omega) [go_sem, e1]
        refine side (by kernel_rfl) ?_
        simp -implicitDefEqProofs (maxSteps := 2000000) (disch := omega) [go_sem, e1]
        rcases hB with ⟨S, hS, eS, rS, d5⟩ | d5
        · refine .inl (call_data d5 (by simp [go_sem]) ?_)
          simp -implicitDefEqProofs (maxSteps := 2000000) (disch := omega) [go_sem]
          rcases hB2 with ⟨S2, hS2, eS2, rS2, d6⟩ | d6
          · refine .inl (call_data d6 (by simp [go_sem]) ?_)
            simp -implicitDefEqProofs (maxSteps := 2000000) (disch := omega) [go_sem]
            have cr := row_pc Γ S S2 (by omega) (by omega)
            have hd : decide (S = S2) = decide (b = c) := decide_eq_decide.2 ⟨fun e => book_apart (rS.bfit ht) (rS.short (rS.bfit ht)) (rS2.bfit kt) (rS2.short (rS2.bfit kt)) (by rw [← eS, ← eS2, e]), fun e => by rw [eS, eS2, e]⟩
            rw [hd] at cr
            generalize decide (b = c) = v at *
            refine .inl (call_data cr (by simp [go_sem]) ?_)
            simp -implicitDefEqProofs (maxSteps := 2000000) (disch := omega) [go_sem]
            refine .inl (call_data cm (by simp [go_sem]) ?_)
            simp -implicitDefEqProofs (maxSteps := 2000000) (disch := omega) [go_sem]
            refine side (by kernel_rfl) ?_
            simp -implicitDefEqProofs (maxSteps := 2000000) (disch := omega) [go_sem, Try.f7]
          · refine .inl (call_data d6 (by simp [go_sem]) ?_)
            simp -implicitDefEqProofs (maxSteps := 2000000) (disch := omega) [go_sem]
            refine side (by kernel_rfl) ?_
            simp -implicitDefEqProofs (maxSteps := 2000000) (disch := omega) [go_sem, Try.f7]
        · refine .inl (call_data d5 (by simp [go_sem]) ?_)
          simp -implicitDefEqProofs (maxSteps := 2000000) (disch := omega) [go_sem]
          refine .inl (call_data uB2 (by simp [go_sem]) ?_)
          simp -implicitDefEqProofs (maxSteps := 2000000) (disch := omega) [go_sem]
          refine side (by kernel_rfl) ?_
          simp -implicitDefEqProofs (maxSteps := 2000000) (disch := omega) [go_sem, Try.f7]
      subst e1
      rw [decide_eq_true rfl] at crH
      by_cases e2 : s = t
      rotate_left
      · rw [decide_eq_false fun e => e2 (hd.1 e).2.1] at cr
        refine .inl (call_data cr (by simp [go_sem]) ?_)
        simp -implicitDefEqProofs (maxSteps := 2000000) (disch := omega) [go_sem, e2]
        refine side (by kernel_rfl) ?_
        simp -implicitDefEqProofs (maxSteps := 2000000) (disch := omega) [go_sem, e2]
        refine .inl (call_data d3 (by simp [go_sem]) ?_)
        simp -implicitDefEqProofs (maxSteps := 2000000) (disch := omega) [go_sem]
        refine .inl (call_data d4 (by simp [go_sem]) ?_)
        simp -implicitDefEqProofs (maxSteps := 2000000) (disch := omega) [go_sem]
        refine .inl (call_data crH (by simp [go_sem]) ?_)
        simp -implicitDefEqProofs (maxSteps := 2000000) (disch := omega) [go_sem]
        refine side (by kernel_rfl) ?_
        simp -implicitDefEqProofs (maxSteps := 2000000) (disch := omega) [go_sem]
        rcases hB with ⟨S, hS, eS, rS, d5⟩ | d5
        · refine .inl (call_data d5 (by simp [go_sem]) ?_)
          simp -implicitDefEqProofs (maxSteps := 2000000) (disch := omega) [go_sem]
          rcases hB2 with ⟨S2, hS2, eS2, rS2, d6⟩ | d6
          · refine .inl (call_data d6 (by simp [go_sem]) ?_)
            simp -implicitDefEqProofs (maxSteps := 2000000) (disch := omega) [go_sem]
            have cr := row_pc Γ S S2 (by omega) (by omega)
            have hd : decide (S = S2) = decide (b = c) := decide_eq_decide.2 ⟨fun e => book_apart (rS.bfit ht) (rS.short (rS.bfit ht)) (rS2.bfit kt) (rS2.short (rS2.bfit kt)) (by rw [← eS, ← eS2, e]), fun e => by rw [eS, eS2, e]⟩
            rw [hd] at cr
            generalize decide (b = c) = v at *
            refine .inl (call_data cr (by simp [go_sem]) ?_)
            simp -implicitDefEqProofs (maxSteps := 2000000) (disch := omega) [go_sem]
            refine .inl (call_data cm (by simp [go_sem]) ?_)
            simp -implicitDefEqProofs (maxSteps := 2000000) (disch := omega) [go_sem]
            refine side (by kernel_rfl) ?_
            simp -implicitDefEqProofs (maxSteps := 2000000) (disch := omega) [go_sem, Try.f7]
          · refine .inl (call_data d6 (by simp [go_sem]) ?_)
            simp -implicitDefEqProofs (maxSteps := 2000000) (disch := omega) [go_sem]
            refine side (by kernel_rfl) ?_
            simp -implicitDefEqProofs (maxSteps := 2000000) (disch := omega) [go_sem, Try.f7]
        · refine .inl (call_data d5 (by simp [go_sem]) ?_)
          simp -implicitDefEqProofs (maxSteps := 2000000) (disch := omega) [go_sem]
          refine .inl (call_data uB2 (by simp [go_sem]) ?_)
          simp -implicitDefEqProofs (maxSteps := 2000000) (disch := omega) [go_sem]
          refine side (by kernel_rfl) ?_
          simp -implicitDefEqProofs (maxSteps := 2000000) (disch := omega) [go_sem, Try.f7]
      subst e2
      by_cases e3 : o = p
      rotate_left
      · rw [decide_eq_false fun e => e3 (hd.1 e).2.2] at cr
        refine .inl (call_data cr (by simp [go_sem]) ?_)
        simp -implicitDefEqProofs (maxSteps := 2000000) (disch := omega) [go_sem]
        refine eqK_op ho hp ?_
        simp -implicitDefEqProofs (maxSteps := 2000000) (disch := omega) [go_sem, e3]
        refine side (by kernel_rfl) ?_
        simp -implicitDefEqProofs (maxSteps := 2000000) (disch := omega) [go_sem]
        refine .inl (call_data d3 (by simp [go_sem]) ?_)
        simp -implicitDefEqProofs (maxSteps := 2000000) (disch := omega) [go_sem]
        refine .inl (call_data d4 (by simp [go_sem]) ?_)
        simp -implicitDefEqProofs (maxSteps := 2000000) (disch := omega) [go_sem]
        refine .inl (call_data crH (by simp [go_sem]) ?_)
        simp -implicitDefEqProofs (maxSteps := 2000000) (disch := omega) [go_sem]
        refine side (by kernel_rfl) ?_
        simp -implicitDefEqProofs (maxSteps := 2000000) (disch := omega) [go_sem]
        rcases hB with ⟨S, hS, eS, rS, d5⟩ | d5
        · refine .inl (call_data d5 (by simp [go_sem]) ?_)
          simp -implicitDefEqProofs (maxSteps := 2000000) (disch := omega) [go_sem]
          rcases hB2 with ⟨S2, hS2, eS2, rS2, d6⟩ | d6
          · refine .inl (call_data d6 (by simp [go_sem]) ?_)
            simp -implicitDefEqProofs (maxSteps := 2000000) (disch := omega) [go_sem]
            have cr := row_pc Γ S S2 (by omega) (by omega)
            have hd : decide (S = S2) = decide (b = c) := decide_eq_decide.2 ⟨fun e => book_apart (rS.bfit ht) (rS.short (rS.bfit ht)) (rS2.bfit kt) (rS2.short (rS2.bfit kt)) (by rw [← eS, ← eS2, e]), fun e => by rw [eS, eS2, e]⟩
            rw [hd] at cr
            generalize decide (b = c) = v at *
            refine .inl (call_data cr (by simp [go_sem]) ?_)
            simp -implicitDefEqProofs (maxSteps := 2000000) (disch := omega) [go_sem]
            refine .inl (call_data cm (by simp [go_sem]) ?_)
            simp -implicitDefEqProofs (maxSteps := 2000000) (disch := omega) [go_sem]
            refine side (by kernel_rfl) ?_
            simp -implicitDefEqProofs (maxSteps := 2000000) (disch := omega) [go_sem, Try.f7]
          · refine .inl (call_data d6 (by simp [go_sem]) ?_)
            simp -implicitDefEqProofs (maxSteps := 2000000) (disch := omega) [go_sem]
            refine side (by kernel_rfl) ?_
            simp -implicitDefEqProofs (maxSteps := 2000000) (disch := omega) [go_sem, Try.f7]
        · refine .inl (call_data d5 (by simp [go_sem]) ?_)
          simp -implicitDefEqProofs (maxSteps := 2000000) (disch := omega) [go_sem]
          refine .inl (call_data uB2 (by simp [go_sem]) ?_)
          simp -implicitDefEqProofs (maxSteps := 2000000) (disch := omega) [go_sem]
          refine side (by kernel_rfl) ?_
          simp -implicitDefEqProofs (maxSteps := 2000000) (disch := omega) [go_sem, Try.f7]
      subst e3
      rw [decide_eq_true (hd.2 ⟨rfl, rfl, rfl⟩)] at cr
      refine .inl (call_data cr (by simp [go_sem]) ?_)
      simp -implicitDefEqProofs (maxSteps := 2000000) (disch := omega) [go_sem]
      refine eqK_op ho ho ?_
      simp -implicitDefEqProofs (maxSteps := 2000000) (disch := omega) [go_sem]
      refine side (by kernel_rfl) ?_
      simp -implicitDefEqProofs (maxSteps := 2000000) (disch := omega) [go_sem]
      refine .inl (call_data d3 (by simp [go_sem]) ?_)
      simp -implicitDefEqProofs (maxSteps := 2000000) (disch := omega) [go_sem]
      refine .inl (call_data d4 (by simp [go_sem]) ?_)
      simp -implicitDefEqProofs (maxSteps := 2000000) (disch := omega) [go_sem]
      refine .inl (call_data crH (by simp [go_sem]) ?_)
      simp -implicitDefEqProofs (maxSteps := 2000000) (disch := omega) [go_sem]
      refine side (by kernel_rfl) ?_
      simp -implicitDefEqProofs (maxSteps := 2000000) (disch := omega) [go_sem]
      rcases hB with ⟨S, hS, eS, rS, d5⟩ | d5
      · refine .inl (call_data d5 (by simp [go_sem]) ?_)
        simp -implicitDefEqProofs (maxSteps := 2000000) (disch := omega) [go_sem]
        rcases hB2 with ⟨S2, hS2, eS2, rS2, d6⟩ | d6
        · refine .inl (call_data d6 (by simp [go_sem]) ?_)
          simp -implicitDefEqProofs (maxSteps := 2000000) (disch := omega) [go_sem]
          have cr := row_pc Γ S S2 (by omega) (by omega)
          have hd : decide (S = S2) = decide (b = c) := decide_eq_decide.2 ⟨fun e => book_apart (rS.bfit ht) (rS.short (rS.bfit ht)) (rS2.bfit kt) (rS2.short (rS2.bfit kt)) (by rw [← eS, ← eS2, e]), fun e => by rw [eS, eS2, e]⟩
          rw [hd] at cr
          generalize decide (b = c) = v at *
          refine .inl (call_data cr (by simp [go_sem]) ?_)
          simp -implicitDefEqProofs (maxSteps := 2000000) (disch := omega) [go_sem]
          refine .inl (call_data cm (by simp [go_sem]) ?_)
          simp -implicitDefEqProofs (maxSteps := 2000000) (disch := omega) [go_sem]
          refine side (by kernel_rfl) ?_
          simp -implicitDefEqProofs (maxSteps := 2000000) (disch := omega) [go_sem, Try.f7]
        · refine .inl (call_data d6 (by simp [go_sem]) ?_)
          simp -implicitDefEqProofs (maxSteps := 2000000) (disch := omega) [go_sem]
          refine side (by kernel_rfl) ?_
          simp -implicitDefEqProofs (maxSteps := 2000000) (disch := omega) [go_sem, Try.f7]
      · refine .inl (call_data d5 (by simp [go_sem]) ?_)
        simp -implicitDefEqProofs (maxSteps := 2000000) (disch := omega) [go_sem]
        refine .inl (call_data uB2 (by simp [go_sem]) ?_)
        simp -implicitDefEqProofs (maxSteps := 2000000) (disch := omega) [go_sem]
        refine side (by kernel_rfl) ?_
        simp -implicitDefEqProofs (maxSteps := 2000000) (disch := omega) [go_sem, Try.f7]
    · refine .inl (call_data d2 (by simp [go_sem]) ?_)
      simp -implicitDefEqProofs (maxSteps := 2000000) (disch := omega) [go_sem]
      refine side (by kernel_rfl) ?_
      simp -implicitDefEqProofs (maxSteps := 2000000) (disch := omega) [go_sem]
      rcases hH2 with ⟨H2, hHl2, eH2, rH2, d4⟩ | ⟨rH2, d4⟩
      ·
        have crH := row_pc Γ H H2 (by omega) (by omega)
        have hdH : decide (H = H2) = decide (g = h) := decide_eq_decide.2 ⟨fun e => head_apart rH rH2 (by rw [← eH, ← eH2, e]), fun e => by rw [eH, eH2, e]⟩
        rw [hdH] at crH
        clear hdH
        refine .inl (call_data d3 (by simp [go_sem]) ?_)
        simp -implicitDefEqProofs (maxSteps := 2000000) (disch := omega) [go_sem]
        refine .inl (call_data d4 (by simp [go_sem]) ?_)
        simp -implicitDefEqProofs (maxSteps := 2000000) (disch := omega) [go_sem]
        refine .inl (call_data crH (by simp [go_sem]) ?_)
        simp -implicitDefEqProofs (maxSteps := 2000000) (disch := omega) [go_sem]
        refine side (by kernel_rfl) ?_
        simp -implicitDefEqProofs (maxSteps := 2000000) (disch := omega) [go_sem]
        rcases hB with ⟨S, hS, eS, rS, d5⟩ | d5
        · refine .inl (call_data d5 (by simp [go_sem]) ?_)
          simp -implicitDefEqProofs (maxSteps := 2000000) (disch := omega) [go_sem]
          rcases hB2 with ⟨S2, hS2, eS2, rS2, d6⟩ | d6
          · refine .inl (call_data d6 (by simp [go_sem]) ?_)
            simp -implicitDefEqProofs (maxSteps := 2000000) (disch := omega) [go_sem]
            have cr := row_pc Γ S S2 (by omega) (by omega)
            have hd : decide (S = S2) = decide (b = c) := decide_eq_decide.2 ⟨fun e => book_apart (rS.bfit ht) (rS.short (rS.bfit ht)) (rS2.bfit kt) (rS2.short (rS2.bfit kt)) (by rw [← eS, ← eS2, e]), fun e => by rw [eS, eS2, e]⟩
            rw [hd] at cr
            generalize decide (b = c) = v at *
            refine .inl (call_data cr (by simp [go_sem]) ?_)
            simp -implicitDefEqProofs (maxSteps := 2000000) (disch := omega) [go_sem]
            refine .inl (call_data cm (by simp [go_sem]) ?_)
            simp -implicitDefEqProofs (maxSteps := 2000000) (disch := omega) [go_sem]
            refine side (by kernel_rfl) ?_
            simp -implicitDefEqProofs (maxSteps := 2000000) (disch := omega) [go_sem, Try.f7]
          · refine .inl (call_data d6 (by simp [go_sem]) ?_)
            simp -implicitDefEqProofs (maxSteps := 2000000) (disch := omega) [go_sem]
            refine side (by kernel_rfl) ?_
            simp -implicitDefEqProofs (maxSteps := 2000000) (disch := omega) [go_sem, Try.f7]
        · refine .inl (call_data d5 (by simp [go_sem]) ?_)
          simp -implicitDefEqProofs (maxSteps := 2000000) (disch := omega) [go_sem]
          refine .inl (call_data uB2 (by simp [go_sem]) ?_)
          simp -implicitDefEqProofs (maxSteps := 2000000) (disch := omega) [go_sem]
          refine side (by kernel_rfl) ?_
          simp -implicitDefEqProofs (maxSteps := 2000000) (disch := omega) [go_sem, Try.f7]
      · skip
        refine .inl (call_data d3 (by simp [go_sem]) ?_)
        simp -implicitDefEqProofs (maxSteps := 2000000) (disch := omega) [go_sem]
        refine .inl (call_data d4 (by simp [go_sem]) ?_)
        simp -implicitDefEqProofs (maxSteps := 2000000) (disch := omega) [go_sem]
        refine side (by kernel_rfl) ?_
        simp -implicitDefEqProofs (maxSteps := 2000000) (disch := omega) [go_sem]
        rcases hB with ⟨S, hS, eS, rS, d5⟩ | d5
        · refine .inl (call_data d5 (by simp [go_sem]) ?_)
          simp -implicitDefEqProofs (maxSteps := 2000000) (disch := omega) [go_sem]
          rcases hB2 with ⟨S2, hS2, eS2, rS2, d6⟩ | d6
          · refine .inl (call_data d6 (by simp [go_sem]) ?_)
            simp -implicitDefEqProofs (maxSteps := 2000000) (disch := omega) [go_sem]
            have cr := row_pc Γ S S2 (by omega) (by omega)
            have hd : decide (S = S2) = decide (b = c) := decide_eq_decide.2 ⟨fun e => book_apart (rS.bfit ht) (rS.short (rS.bfit ht)) (rS2.bfit kt) (rS2.short (rS2.bfit kt)) (by rw [← eS, ← eS2, e]), fun e => by rw [eS, eS2, e]⟩
            rw [hd] at cr
            generalize decide (b = c) = v at *
            refine .inl (call_data cr (by simp [go_sem]) ?_)
            simp -implicitDefEqProofs (maxSteps := 2000000) (disch := omega) [go_sem]
            refine .inl (call_data cm (by simp [go_sem]) ?_)
            simp -implicitDefEqProofs (maxSteps := 2000000) (disch := omega) [go_sem]
            refine side (by kernel_rfl) ?_
            simp -implicitDefEqProofs (maxSteps := 2000000) (disch := omega) [go_sem, Try.f7]
          · refine .inl (call_data d6 (by simp [go_sem]) ?_)
            simp -implicitDefEqProofs (maxSteps := 2000000) (disch := omega) [go_sem]
            refine side (by kernel_rfl) ?_
            simp -implicitDefEqProofs (maxSteps := 2000000) (disch := omega) [go_sem, Try.f7]
        · refine .inl (call_data d5 (by simp [go_sem]) ?_)
          simp -implicitDefEqProofs (maxSteps := 2000000) (disch := omega) [go_sem]
          refine .inl (call_data uB2 (by simp [go_sem]) ?_)
          simp -implicitDefEqProofs (maxSteps := 2000000) (disch := omega) [go_sem]
          refine side (by kernel_rfl) ?_
          simp -implicitDefEqProofs (maxSteps := 2000000) (disch := omega) [go_sem, Try.f7]
  · refine .inl (call_data d1 (by simp [go_sem]) ?_)
    simp -implicitDefEqProofs (maxSteps := 2000000) (disch := omega) [go_sem]
    refine .inl (call_data uO2 (by simp [go_sem]) ?_)
    simp -implicitDefEqProofs (maxSteps := 2000000) (disch := omega) [go_sem]
    refine side (by kernel_rfl) ?_
    simp -implicitDefEqProofs (maxSteps := 2000000) (disch := omega) [go_sem]
    rcases hH with ⟨H, hHl, eH, rH, d3⟩ | ⟨rH, d3⟩
    · rcases hH2 with ⟨H2, hHl2, eH2, rH2, d4⟩ | ⟨rH2, d4⟩
      ·
        have crH := row_pc Γ H H2 (by omega) (by omega)
        have hdH : decide (H = H2) = decide (g = h) := decide_eq_decide.2 ⟨fun e => head_apart rH rH2 (by rw [← eH, ← eH2, e]), fun e => by rw [eH, eH2, e]⟩
        rw [hdH] at crH
        clear hdH
        refine .inl (call_data d3 (by simp [go_sem]) ?_)
        simp -implicitDefEqProofs (maxSteps := 2000000) (disch := omega) [go_sem]
        refine .inl (call_data d4 (by simp [go_sem]) ?_)
        simp -implicitDefEqProofs (maxSteps := 2000000) (disch := omega) [go_sem]
        refine .inl (call_data crH (by simp [go_sem]) ?_)
        simp -implicitDefEqProofs (maxSteps := 2000000) (disch := omega) [go_sem]
        refine side (by kernel_rfl) ?_
        simp -implicitDefEqProofs (maxSteps := 2000000) (disch := omega) [go_sem]
        rcases hB with ⟨S, hS, eS, rS, d5⟩ | d5
        · refine .inl (call_data d5 (by simp [go_sem]) ?_)
          simp -implicitDefEqProofs (maxSteps := 2000000) (disch := omega) [go_sem]
          rcases hB2 with ⟨S2, hS2, eS2, rS2, d6⟩ | d6
          · refine .inl (call_data d6 (by simp [go_sem]) ?_)
            simp -implicitDefEqProofs (maxSteps := 2000000) (disch := omega) [go_sem]
            have cr := row_pc Γ S S2 (by omega) (by omega)
            have hd : decide (S = S2) = decide (b = c) := decide_eq_decide.2 ⟨fun e => book_apart (rS.bfit ht) (rS.short (rS.bfit ht)) (rS2.bfit kt) (rS2.short (rS2.bfit kt)) (by rw [← eS, ← eS2, e]), fun e => by rw [eS, eS2, e]⟩
            rw [hd] at cr
            generalize decide (b = c) = v at *
            refine .inl (call_data cr (by simp [go_sem]) ?_)
            simp -implicitDefEqProofs (maxSteps := 2000000) (disch := omega) [go_sem]
            refine .inl (call_data cm (by simp [go_sem]) ?_)
            simp -implicitDefEqProofs (maxSteps := 2000000) (disch := omega) [go_sem]
            refine side (by kernel_rfl) ?_
            simp -implicitDefEqProofs (maxSteps := 2000000) (disch := omega) [go_sem, Try.f7]
          · refine .inl (call_data d6 (by simp [go_sem]) ?_)
            simp -implicitDefEqProofs (maxSteps := 2000000) (disch := omega) [go_sem]
            refine side (by kernel_rfl) ?_
            simp -implicitDefEqProofs (maxSteps := 2000000) (disch := omega) [go_sem, Try.f7]
        · refine .inl (call_data d5 (by simp [go_sem]) ?_)
          simp -implicitDefEqProofs (maxSteps := 2000000) (disch := omega) [go_sem]
          refine .inl (call_data uB2 (by simp [go_sem]) ?_)
          simp -implicitDefEqProofs (maxSteps := 2000000) (disch := omega) [go_sem]
          refine side (by kernel_rfl) ?_
          simp -implicitDefEqProofs (maxSteps := 2000000) (disch := omega) [go_sem, Try.f7]
      · skip
        refine .inl (call_data d3 (by simp [go_sem]) ?_)
        simp -implicitDefEqProofs (maxSteps := 2000000) (disch := omega) [go_sem]
        refine .inl (call_data d4 (by simp [go_sem]) ?_)
        simp -implicitDefEqProofs (maxSteps := 2000000) (disch := omega) [go_sem]
        refine side (by kernel_rfl) ?_
        simp -implicitDefEqProofs (maxSteps := 2000000) (disch := omega) [go_sem]
        rcases hB with ⟨S, hS, eS, rS, d5⟩ | d5
        · refine .inl (call_data d5 (by simp [go_sem]) ?_)
          simp -implicitDefEqProofs (maxSteps := 2000000) (disch := omega) [go_sem]
          rcases hB2 with ⟨S2, hS2, eS2, rS2, d6⟩ | d6
          · refine .inl (call_data d6 (by simp [go_sem]) ?_)
            simp -implicitDefEqProofs (maxSteps := 2000000) (disch := omega) [go_sem]
            have cr := row_pc Γ S S2 (by omega) (by omega)
            have hd : decide (S = S2) = decide (b = c) := decide_eq_decide.2 ⟨fun e => book_apart (rS.bfit ht) (rS.short (rS.bfit ht)) (rS2.bfit kt) (rS2.short (rS2.bfit kt)) (by rw [← eS, ← eS2, e]), fun e => by rw [eS, eS2, e]⟩
            rw [hd] at cr
            generalize decide (b = c) = v at *
            refine .inl (call_data cr (by simp [go_sem]) ?_)
            simp -implicitDefEqProofs (maxSteps := 2000000) (disch := omega) [go_sem]
            refine .inl (call_data cm (by simp [go_sem]) ?_)
            simp -implicitDefEqProofs (maxSteps := 2000000) (disch := omega) [go_sem]
            refine side (by kernel_rfl) ?_
            simp -implicitDefEqProofs (maxSteps := 2000000) (disch := omega) [go_sem, Try.f7]
          · refine .inl (call_data d6 (by simp [go_sem]) ?_)
            simp -implicitDefEqProofs (maxSteps := 2000000) (disch := omega) [go_sem]
            refine side (by kernel_rfl) ?_
            simp -implicitDefEqProofs (maxSteps := 2000000) (disch := omega) [go_sem, Try.f7]
        · refine .inl (call_data d5 (by simp [go_sem]) ?_)
          simp -implicitDefEqProofs (maxSteps := 2000000) (disch := omega) [go_sem]
          refine .inl (call_data uB2 (by simp [go_sem]) ?_)
          simp -implicitDefEqProofs (maxSteps := 2000000) (disch := omega) [go_sem]
          refine side (by kernel_rfl) ?_
          simp -implicitDefEqProofs (maxSteps := 2000000) (disch := omega) [go_sem, Try.f7]
    · skip
      refine .inl (call_data d3 (by simp [go_sem]) ?_)
      simp -implicitDefEqProofs (maxSteps := 2000000) (disch := omega) [go_sem]
      refine .inl (call_data uH2 (by simp [go_sem]) ?_)
      simp -implicitDefEqProofs (maxSteps := 2000000) (disch := omega) [go_sem]
      refine side (by kernel_rfl) ?_
      simp -implicitDefEqProofs (maxSteps := 2000000) (disch := omega) [go_sem]
      rcases hB with ⟨S, hS, eS, rS, d5⟩ | d5
      · refine .inl (call_data d5 (by simp [go_sem]) ?_)
        simp -implicitDefEqProofs (maxSteps := 2000000) (disch := omega) [go_sem]
        rcases hB2 with ⟨S2, hS2, eS2, rS2, d6⟩ | d6
        · refine .inl (call_data d6 (by simp [go_sem]) ?_)
          simp -implicitDefEqProofs (maxSteps := 2000000) (disch := omega) [go_sem]
          have cr := row_pc Γ S S2 (by omega) (by omega)
          have hd : decide (S = S2) = decide (b = c) := decide_eq_decide.2 ⟨fun e => book_apart (rS.bfit ht) (rS.short (rS.bfit ht)) (rS2.bfit kt) (rS2.short (rS2.bfit kt)) (by rw [← eS, ← eS2, e]), fun e => by rw [eS, eS2, e]⟩
          rw [hd] at cr
          generalize decide (b = c) = v at *
          refine .inl (call_data cr (by simp [go_sem]) ?_)
          simp -implicitDefEqProofs (maxSteps := 2000000) (disch := omega) [go_sem]
          refine .inl (call_data cm (by simp [go_sem]) ?_)
          simp -implicitDefEqProofs (maxSteps := 2000000) (disch := omega) [go_sem]
          refine side (by kernel_rfl) ?_
          simp -implicitDefEqProofs (maxSteps := 2000000) (disch := omega) [go_sem, Try.f7]
        · refine .inl (call_data d6 (by simp [go_sem]) ?_)
          simp -implicitDefEqProofs (maxSteps := 2000000) (disch := omega) [go_sem]
          refine side (by kernel_rfl) ?_
          simp -implicitDefEqProofs (maxSteps := 2000000) (disch := omega) [go_sem, Try.f7]
      · refine .inl (call_data d5 (by simp [go_sem]) ?_)
        simp -implicitDefEqProofs (maxSteps := 2000000) (disch := omega) [go_sem]
        refine .inl (call_data uB2 (by simp [go_sem]) ?_)
        simp -implicitDefEqProofs (maxSteps := 2000000) (disch := omega) [go_sem]
        refine side (by kernel_rfl) ?_
        simp -implicitDefEqProofs (maxSteps := 2000000) (disch := omega) [go_sem, Try.f7]
end
end Bk
end Go.Proofs.Ytdgklbbgbnapoaa
namespace Go.Proofs.Ytdgklbbgbnapoaa
open Go.RowKit
set_option linter.unusedVariables false
set_option linter.unusedSimpArgs false
set_option maxRecDepth 100000
theorem law_CodeRecords (Γ : Nat → Option (List Data)) {x0 : Data} (a0 : argD Try.prog 8 28 x0) : PC Try.prog Γ 3 [x0] (.bool true) := by
  obtain ⟨ds, rfl, h⟩ := arg_struct Try.underlying28 a0
  obtain ⟨d1, r1, rfl, h1, h⟩ := okF_cons h
  obtain ⟨d2, r2, rfl, h2, h⟩ := okF_cons h
  obtain ⟨d3, r3, rfl, h3, h⟩ := okF_cons h
  obtain ⟨d4, r4, rfl, h4, h⟩ := okF_cons h
  obtain rfl := okF_nil h
  obtain ⟨i1, a1, b1, rfl⟩ := ok_i64 Try.underlying3 h1
  obtain ⟨i2, a2, b2, rfl⟩ := ok_i64 Try.underlying3 h2
  obtain ⟨o, ho, rfl⟩ := Bk.ok_op h3
  obtain ⟨b, hb, hl, rfl⟩ := ok_bytes Try.underlying26 Try.underlying5 (by kernel_rfl) h4
  exact Bk.CodeRecords_pc Γ i1 i2 o b ho hb hl
theorem law_CodeBooks (Γ : Nat → Option (List Data)) {x0 x1 x2 : Data} (a0 : argD Try.prog 8 45 x0) (a1 : argD Try.prog 8 3 x1) (a2 : argD Try.prog 8 26 x2) : PC Try.prog Γ 4 [x0, x1, x2] (.bool true) := by
  obtain ⟨b, hf, ht, rfl⟩ := Bk.arg_book a0
  obtain ⟨g, _, _, rfl⟩ := arg_i64 Try.underlying3 a1
  obtain ⟨c, hc, hl, rfl⟩ := arg_bytes Try.underlying26 Try.underlying5 (by kernel_rfl) a2
  exact Bk.CodeBooks_pc Γ b g c hf ht hc hl
theorem law_CodeBack (Γ : Nat → Option (List Data)) {x0 : Data} (a0 : argD Try.prog 8 62 x0) : PC Try.prog Γ 5 [x0] (.bool true) := by
  obtain ⟨ds, rfl, h⟩ := arg_struct Try.underlying62 a0
  obtain ⟨d1, r1, rfl, h1, h⟩ := okF_cons h
  obtain ⟨d2, r2, rfl, h2, h⟩ := okF_cons h
  obtain ⟨d3, r3, rfl, h3, h⟩ := okF_cons h
  obtain ⟨d4, r4, rfl, h4, h⟩ := okF_cons h
  obtain rfl := okF_nil h
  obtain ⟨i1, a1, b1, rfl⟩ := ok_i64 Try.underlying3 h1
  obtain ⟨i2, a2, b2, rfl⟩ := ok_i64 Try.underlying3 h2
  obtain ⟨o, ho, rfl⟩ := Bk.ok_op h3
  obtain ⟨b, hf, ht, rfl⟩ := Bk.ok_book h4
  exact Bk.CodeBack_pc Γ i1 i2 o b ho hf ht
theorem law_CodeForth (Γ : Nat → Option (List Data)) {x0 : Data} (a0 : argD Try.prog 8 26 x0) : PC Try.prog Γ 6 [x0] (.bool true) := by
  obtain ⟨c, hc, hl, rfl⟩ := arg_bytes Try.underlying26 Try.underlying5 (by kernel_rfl) a0
  exact Bk.CodeForth_pc Γ c hc hl
theorem law_CodeApart (Γ : Nat → Option (List Data)) {x0 : Data} (a0 : argD Try.prog 8 67 x0) : PC Try.prog Γ 7 [x0] (.bool true) := by
  obtain ⟨ds, rfl, h⟩ := arg_struct Try.underlying67 a0
  obtain ⟨d1, r1, rfl, h1, h⟩ := okF_cons h
  obtain ⟨d2, r2, rfl, h2, h⟩ := okF_cons h
  obtain ⟨d3, r3, rfl, h3, h⟩ := okF_cons h
  obtain ⟨d4, r4, rfl, h4, h⟩ := okF_cons h
  obtain ⟨d5, r5, rfl, h5, h⟩ := okF_cons h
  obtain ⟨d6, r6, rfl, h6, h⟩ := okF_cons h
  obtain rfl := okF_nil h
  obtain ⟨i1, j1, a1, b1, rfl⟩ := Bk.ok_two Try.underlying65 Try.underlying3 h1
  obtain ⟨i2, j2, a2, b2, rfl⟩ := Bk.ok_two Try.underlying65 Try.underlying3 h2
  obtain ⟨o, ho, rfl⟩ := Bk.ok_op h3
  obtain ⟨p, hp, rfl⟩ := Bk.ok_op h4
  obtain ⟨b, hf, ht, rfl⟩ := Bk.ok_book h5
  obtain ⟨c, kf, kt, rfl⟩ := Bk.ok_book h6
  exact Bk.CodeApart_pc Γ i1 j1 i2 j2 o p b c ho hp hf ht kf kt
theorem law_CodeRight (Γ : Nat → Option (List Data)) {x0 : Data} (a0 : argD Try.prog 8 26 x0) : PC Try.prog Γ 9 [x0] (.bool true) := by
  obtain ⟨c, hc, hl, rfl⟩ := arg_bytes Try.underlying26 Try.underlying5 (by kernel_rfl) a0
  exact Bk.CodeRight_pc Γ c hc hl
end Go.Proofs.Ytdgklbbgbnapoaa
namespace Go.Proofs.Ytdgklbbgbnapoaa
open Go.RowKit
set_option linter.unusedVariables false
set_option linter.unusedSimpArgs false
set_option maxRecDepth 100000
namespace Bk
section
variable (Γ : Nat → Option (List Data))
set_option maxHeartbeats 8000000 in
theorem laid_oc (size : Nat) (ps : List Part) (hok : ∀ p ∈ ps, PartOk p) (hfit : (ps.flatMap partB).length ≤ size) (hsz : size ≤ 1000000) (hps : ps.length ≤ 1000000) : OC Try.prog Γ 29 [.int .i64 size, .sl 1 (parts ps)] (.ref 0 0 size 1) [(0, .blk true ((bys (padB size (ps.flatMap partB))).map D.data))] 1 := by
  refine oc_by mixed Try.func29 rfl (fun args w => Try.call29 args w) ?_
  simp -implicitDefEqProofs (disch := omega) [go_sem]
  refine loop_ren (σ := { i : Nat // i ≤ ps.length }) (fun i => ⟨envL [(5, .ref 0 0 size 1), (6, .ref 0 ((ps.take i.1).flatMap partB).length (size - ((ps.take i.1).flatMap partB).length) 1), (12, .data (.sl 1 (parts ps))), (13, .data (.int .i64 ps.length)), (14, .data (.int .i64 i.1))], hpL [(0, .blk true ((bys (padB size ((ps.take i.1).flatMap partB))).map D.data))], 1, 0, 30⟩) (fun i => ps.length - i.1) ⟨0, by omega⟩ [] (rhoL [(0, some 2)]) ?_ ?_
  · apply ren_lists <;> simp -implicitDefEqProofs [go_sem]
    rw [show padB size [] = List.replicate size 0 by simp [padB]]
    exact renCells_plain rfl (by simp [plainD])
  rintro ⟨i, hi⟩
  by_cases h : i < ps.length
  · have hs := acc_succ ps i h
    have ha := acc_le ps (i + 1)
    have hp := hok _ (List.getElem_mem h)
    have hpl := partB_length hp
    rw [hs, List.length_append, hpl] at ha
    have hpb := padB_length (n := size) (l := (ps.take i).flatMap partB) (by omega)
    have hpg := fun j hj => padB_get (n := size) (l := (ps.take i).flatMap partB) j hj
    have hpm := padB_more (n := size) (l := (ps.take i).flatMap partB) (m := partB ps[i]) (by omega)
    generalize (ps.take i).flatMap partB = acc at *
    generalize hpi : ps[i] = p at *
    cases p with
    | num k v =>
      obtain ⟨hk1, hk2, hv⟩ := hp
      simp only [partN] at ha hpl
      simp -implicitDefEqProofs (disch := omega) [go_sem, hpi, partD]
      refine inv_by _ okNum ?_
      refine call_data (sizeNum_pc Γ k v) (by simp [go_sem, numDt]) ?_
      simp -implicitDefEqProofs (disch := omega) [go_sem]
      refine .inr (dc_lent (putNum_dc Γ (padB size acc) acc.length k v ⟨hk1, hk2⟩ hv (by omega) (by omega)) (by simp [go_sem]) (.ref _ _ _) (by simp) (fun r c hrc => ?_))
      obtain ⟨rfl, rfl⟩ := hrc
      have hpm : ovr (padB size acc) acc.length (be k v) = padB size (acc ++ be k v) := hpm
      have hs : List.flatMap partB (List.take (i + 1) ps) = acc ++ be k v := hs
      have hbl := be_length k v
      rw [hpm]
      simp -implicitDefEqProofs (disch := omega) [go_sem]
      refine inv_by _ okNum ?_
      refine call_data (sizeNum_pc Γ k v) (by simp [go_sem, numDt]) ?_
      simp -implicitDefEqProofs (disch := omega) [go_sem]
      refine next_ren ⟨i + 1, by omega⟩ (by simp only; omega) [] (rhoL [(0, some 0)]) ?_
      apply ren_lists <;> simp -implicitDefEqProofs [go_sem, hs, hbl]
      all_goals omega
    | nam u =>
      have hu : u.size ≤ 16 := hp
      simp only [partN] at ha hpl
      simp -implicitDefEqProofs (disch := omega) [go_sem, hpi, partD]
      refine inv_by _ okNam ?_
      refine call_data (sizeNam_pc Γ u) (by simp [go_sem]) ?_
      simp -implicitDefEqProofs (disch := omega) [go_sem]
      refine .inr (dc_lent (putNam_dc Γ (padB size acc) acc.length u hu (by omega) (by omega) (fun j hj h1 h2 => hpg j hj h1)) (by simp [go_sem]) (.ref _ _ _) (by simp) (fun r c hrc => ?_))
      obtain ⟨rfl, rfl⟩ := hrc
      have hpm : ovr (padB size acc) acc.length (nameB u) = padB size (acc ++ nameB u) := hpm
      have hs : List.flatMap partB (List.take (i + 1) ps) = acc ++ nameB u := hs
      have hbl := nameB_length hu
      rw [hpm]
      simp -implicitDefEqProofs (disch := omega) [go_sem]
      refine inv_by _ okNam ?_
      refine call_data (sizeNam_pc Γ u) (by simp [go_sem]) ?_
      simp -implicitDefEqProofs (disch := omega) [go_sem]
      refine next_ren ⟨i + 1, by omega⟩ (by simp only; omega) [] (rhoL [(0, some 0)]) ?_
      apply ren_lists <;> simp -implicitDefEqProofs [go_sem, hs, hbl]
      all_goals omega
  have : i = ps.length := by omega
  subst this
  have ha : ((ps.take ps.length).flatMap partB).length ≤ size := by rw [List.take_length]; exact hfit
  simp -implicitDefEqProofs (disch := omega) [go_sem, Try.f29, List.take_length]
  refine own_of [] [(0, some 0)] ?_
  apply ren_lists <;> simp -implicitDefEqProofs [go_sem]
set_option maxHeartbeats 4000000 in
theorem opBytes_oc (g s : Int) (o : Op) (hr : OpRange o) (h : RecP g s o) : OC Try.prog Γ 11 [.int .i64 g, .int .i64 s, op o] (.tp [.ref 0 0 128 1, .data (.int .i64 0)]) [(0, .blk true ((bys (padB 128 (recB g s o))).map D.data))] 1 := by
  refine oc_by mixed Try.func11 rfl (fun args w => Try.call11 args w) ?_
  have cm := recMay_pc Γ g s o
  unfold op
  simp -implicitDefEqProofs (disch := omega) [go_sem]
  refine .inl (call_data cm (by simp [go_sem, recD]) ?_)
  rw [decide_eq_true h]
  have hf := h.fit hr
  simp -implicitDefEqProofs (disch := omega) [go_sem]
  refine .inl (call_data (recParts2_pc Γ hf) (by simp [go_sem, recD]) ?_)
  simp -implicitDefEqProofs (disch := omega) [go_sem]
  have hl := laid_oc Γ 128 (recW g s o) (recW_ok hf) (by rw [recW_bytes, recB_length hf]; omega) (by omega) (by simp [recW])
  rw [recW_bytes] at hl
  refine .inr (dc_own [] (by simp) hl (frzL_c ((frz_data _ _ _ _).2 rfl) (frzL_c ((frz_data _ _ _ _).2 rfl) frzL_n)) ?_)
  simp -implicitDefEqProofs (disch := omega) [go_sem, Try.f11]
  refine own_tup [] [(0, some 14)] ?_
  apply ren_lists <;> simp -implicitDefEqProofs [go_sem]
end
end Bk
end Go.Proofs.Ytdgklbbgbnapoaa
namespace Go.Proofs.Ytdgklbbgbnapoaa
open Go.RowKit
set_option linter.unusedVariables false
set_option linter.unusedSimpArgs false
set_option maxRecDepth 100000
@[go_sem] theorem coe_tp (P : Program) (t : TypeId) (cs : List D) : coe P t (.tp cs) = .tp cs := rfl
namespace Bk
/-- The first elements of a row. -/
theorem frz_first {ok : Bool} {H : Nat → Blk} {g n : Nat} {l : List Nat} {rw : Bool} (hg : H g = .blk rw ((bys l).map D.data)) (hrw : ok = true ∨ rw = false) (hn : n ≤ l.length) : Frz ok H (.ref g 0 n 1) (.sl 1 (bys (l.take n))) := by
  have hf : flat (bys (l.take n)) = bys (l.take n) := flat_bys _
  refine .ref g 0 n 1 rw _ (bys (l.take n)) (fun i => .data ((bys (l.take n)).getD i .nilp)) hg hrw (by rw [bys_length, List.length_take]; omega) (bys_cells _) (by rw [List.length_map, bys_length]; omega) (fun i x hx => ?_) (fun i x hx => ?_)
  · rw [hf] at hx
    have hi := (List.getElem?_eq_some_iff.1 hx).1
    rw [bys_length, List.length_take] at hi
    have e : (bys l)[i]? = some x := by
      rw [← hx]
      unfold bys
      rw [List.getElem?_map, List.getElem?_map, List.getElem?_take, if_pos (by omega)]
    simp [hx, e]
  · rw [hf] at hx
    have : (bys (l.take n)).getD i .nilp = x := by simp [hx]
    rw [this]; exact .data x
theorem rec_len_none {l : List Nat} (h : l.length ≠ 128) : recordP l = none := by unfold recordP; rw [if_neg h]
/-- Behind a record stand noughts, and nothing else. -/
theorem rec_tail {g s : Int} {o : Op} (h : RecP g s o) (hr : OpRange o) {k c : Nat} (hk : 55 ≤ k) (hk2 : k < 128) (hc : c < 256) : (c = 0 ∧ recordP ((padB 128 (recB g s o)).set k c) ≠ none) ∨ (c ≠ 0 ∧ recordP ((padB 128 (recB g s o)).set k c) = none) := by
  have hf := h.fit hr
  have hl := recB_length hf
  have hpl : (padB 128 (recB g s o)).length = 128 := padB_length (by omega)
  have at0 : ∀ {g s : Int} {o : Op}, RecFit g s o → (padB 128 (recB g s o))[k]? = some 0 := fun hf => by
    unfold padB
    rw [List.getElem?_append_right (by rw [recB_length hf]; omega), List.getElem?_replicate, if_pos (by rw [recB_length hf]; omega)]
  by_cases e : c = 0
  · subst e
    refine .inl ⟨rfl, ?_⟩
    have : (padB 128 (recB g s o)).set k 0 = padB 128 (recB g s o) := by
      apply List.ext_getElem?
      intro i
      by_cases e : k = i
      · subst e
        rw [List.getElem?_set_self (by omega), at0 hf]
      · rw [List.getElem?_set_ne e]
    rw [this, record_back h hr]
    simp
  · refine .inr ⟨e, ?_⟩
    cases hp : recordP ((padB 128 (recB g s o)).set k c) with
    | none => rfl
    | some x =>
      exfalso
      obtain ⟨⟨g2, s2, o2⟩, r⟩ := x
      have hb : Bytes ((padB 128 (recB g s o)).set k c) := fun y hy => by
        rcases List.mem_or_eq_of_mem_set hy with hy | rfl
        · exact padB_bytes (recB_bytes hf.op.user) y hy
        · exact hc
      obtain ⟨_, f2, h3, _⟩ := (recordP_iff hb g2 s2 o2 r).1 hp
      have h4 := at0 f2
      rw [← h3, List.getElem?_set_self (by omega)] at h4
      simp at h4
      exact e h4
section
variable (Γ : Nat → Option (List Data))
set_option maxHeartbeats 16000000 in
theorem CodeTail_pc (g s : Int) (o : Op) (at_ c : Nat) (ho : o.Ty) (hat : at_ < 256) (hc : c < 256) : PC Try.prog Γ 8 [.agg [.int .i64 g, .int .i64 s, .int .i64 o.kind, .int .i64 o.id, .int .i64 o.link, .int .u32 o.addr, .str o.user, .int .u64 o.inn, .int .u64 o.out, .int .i64 o.cause, .int .i64 o.at_, .int .u8 at_, .int .u8 c]] (.bool true) := by
  refine pc_by mixed Try.func8 rfl (fun args w => Try.call8 args w) ?_
  have cs := shown_pc Γ
  have hou := ho.user
  by_cases g1 : 50 < o.user.size
  · simp -implicitDefEqProofs (disch := omega) [go_sem]
    refine .inl (call_data cs (by simp [go_sem]) ?_)
    simp -implicitDefEqProofs (disch := omega) [go_sem, Try.f8]
  by_cases hP : RecP g s o
  rotate_left
  · have c1 := opBytes_pc Γ g s o ho.range
    rw [if_neg hP] at c1
    unfold op at c1
    simp -implicitDefEqProofs (disch := omega) [go_sem]
    refine .inl (call_data cs (by simp [go_sem]) ?_)
    simp -implicitDefEqProofs (disch := omega) [go_sem]
    refine .inl (call_data c1 (by simp [go_sem]) ?_)
    simp -implicitDefEqProofs (disch := omega) [go_sem, Try.f8]
  have c1 := opBytes_oc Γ g s o ho.range hP
  have hf := hP.fit ho.range
  have hb : Bytes (padB 128 (recB g s o)) := padB_bytes (recB_bytes hf.op.user)
  have hl : (padB 128 (recB g s o)).length = 128 := padB_length (by rw [recB_length hf]; omega)
  have htail := fun k h1 h2 => rec_tail hP ho.range (k := k) h1 h2 hc
  unfold op at c1
  generalize padB 128 (recB g s o) = R at *
  have ca := readOp_pc Γ (R.take 127) (by rw [List.length_take]; omega) (fun x hx => hb x (List.mem_of_mem_take hx))
  rw [rec_len_none (by rw [List.length_take]; omega)] at ca
  have cb := readOp_pc Γ (R ++ [0]) (by simp; omega) (bytes_app.2 ⟨hb, fun x hx => by simp at hx; omega⟩)
  rw [rec_len_none (by simp; omega)] at cb
  simp only [gotG, gotE] at ca cb
  obtain ⟨k, hk⟩ : ∃ k : Nat, k = 55 + at_ % 73 := ⟨_, rfl⟩
  have hk1 : 55 ≤ k := by omega
  have hk2 : k < 128 := by omega
  have hbs : Bytes (R.set k c) := fun y hy => by
    rcases List.mem_or_eq_of_mem_set hy with hy | rfl
    · exact hb y hy
    · exact hc
  have cc := readOp_pc Γ (R.set k c) (by rw [List.length_set]; omega) hbs
  have ht := htail k hk1 hk2
  clear htail
  have hE : (c = 0 ∧ gotE (recordP (R.set k c)) = 0) ∨ (c ≠ 0 ∧ gotE (recordP (R.set k c)) = 2) := by
    rcases ht with ⟨e, h⟩ | ⟨e, h⟩
    · refine .inl ⟨e, ?_⟩
      cases hp : recordP (R.set k c) with
      | none => exact absurd hp h
      | some x => rfl
    · exact .inr ⟨e, by rw [h]; rfl⟩
  clear ht
  generalize gotG (recordP (R.set k c)) = G at *
  generalize gotE (recordP (R.set k c)) = E at *
  simp -implicitDefEqProofs (disch := omega) [go_sem]
  refine .inl (call_data cs (by simp [go_sem]) ?_)
  simp -implicitDefEqProofs (disch := omega) [go_sem]
  refine .inr (dc_own [] (by simp) c1 (frzL_c ((frz_data _ _ _ _).2 rfl) (frzL_c ((frz_data _ _ _ _).2 rfl) (frzL_c ((frz_data _ _ _ _).2 rfl) frzL_n))) ?_)
  simp -implicitDefEqProofs (disch := omega) [go_sem]
  refine .inl (call_bare [27] ca (bare_rec 0 0 noOp 2) (fun H' hH => frzL_c (frz_first (rw := true) (l := R) ((hH _ (by simp)).trans (by simp [go_sem])) (.inl rfl) (by omega)) frzL_n) ?_)
  simp -implicitDefEqProofs (disch := omega) [go_sem, hl, op]
  refine .inl (call_bare [60] cb (bare_rec 0 0 noOp 2) (fun H' hH => frzL_c (frz_bys (rw := true) (l := R ++ [0]) ((hH _ (by simp)).trans (by simp [go_sem, bys, u8]; rw [List.take_of_length_le (by simp [hl])])) (.inl rfl) (by simp [hl])) frzL_n) ?_)
  have e1 : (at_ : Int).tmod 73 = ((at_ % 73 : Nat) : Int) := by rw [Int.tmod_eq_emod_of_nonneg (by omega)]; omega
  have e2 : 55 + ((at_ % 73 : Nat) : Int) = (k : Int) := by omega
  have e3 : (at_ : Int) % 73 = ((at_ % 73 : Nat) : Int) := by omega
  simp -implicitDefEqProofs (disch := omega) [go_sem, hl, op, e1]
  refine .inl (call_bare [27] cc (bare_rec _ _ _ _) (fun H' hH => frzL_c (frz_bys (rw := true) (l := R.set k c) ((hH _ (by simp)).trans (by simp [go_sem]; rw [show (55 + (at_ : Int) % 73).toNat = k by omega, bys_set])) (.inl rfl) (by simp [hl])) frzL_n) ?_)
  rcases hE with ⟨rfl, rfl⟩ | ⟨e, rfl⟩
  · simp -implicitDefEqProofs (disch := omega) [go_sem, op, Try.f8]
  · simp -implicitDefEqProofs (disch := omega) [go_sem, op, e, Try.f8]
end
end Bk
theorem law_CodeTail (Γ : Nat → Option (List Data)) {x0 : Data} (a0 : argD Try.prog 8 70 x0) : PC Try.prog Γ 8 [x0] (.bool true) := by
  obtain ⟨ds, rfl, h⟩ := arg_struct Try.underlying70 a0
  obtain ⟨d1, r1, rfl, h1, h⟩ := okF_cons h
  obtain ⟨d2, r2, rfl, h2, h⟩ := okF_cons h
  obtain ⟨d3, r3, rfl, h3, h⟩ := okF_cons h
  obtain ⟨d4, r4, rfl, h4, h⟩ := okF_cons h
  obtain ⟨d5, r5, rfl, h5, h⟩ := okF_cons h
  obtain rfl := okF_nil h
  obtain ⟨i1, a1, b1, rfl⟩ := ok_i64 Try.underlying3 h1
  obtain ⟨i2, a2, b2, rfl⟩ := ok_i64 Try.underlying3 h2
  obtain ⟨o, ho, rfl⟩ := Bk.ok_op h3
  obtain ⟨i4, a4, b4, rfl⟩ := ok_int Try.underlying5 h4
  obtain ⟨i5, a5, b5, rfl⟩ := ok_int Try.underlying5 h5
  have e1 : IntKind.u8.min = 0 := by decide
  have e2 : IntKind.u8.max = 255 := by decide
  obtain ⟨m, rfl⟩ : ∃ m : Nat, i4 = m := ⟨i4.toNat, by omega⟩
  obtain ⟨c, rfl⟩ : ∃ c : Nat, i5 = c := ⟨i5.toNat, by omega⟩
  exact Bk.CodeTail_pc Γ i1 i2 o m c ho (by omega) (by omega)
end Go.Proofs.Ytdgklbbgbnapoaa
