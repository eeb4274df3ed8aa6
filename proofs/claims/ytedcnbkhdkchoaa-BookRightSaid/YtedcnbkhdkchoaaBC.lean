/- Books: a line more. -/
import Derived.Test.YtedcnbkhdkchoaaBA
namespace Go.Proofs.Ytedcnbkhdkchoaa
open Go.RowKit
set_option linter.unusedVariables false
set_option linter.unusedSimpArgs false
namespace Bk
def withLine (b : Book) (x : Item) : Book := { b with items := b.items ++ [x] }
theorem flat_item1 (x : Item) : flat (items [x]) = [.int .i64 x.kind, .int .i64 x.id, .int .u64 x.inn, .int .u64 x.out, .int .i64 x.cause] := rfl
set_option maxRecDepth 100000 in
theorem with_pc (Γ : Nat → Option (List Data)) (b : Book) (hi : b.items.length ≤ 1000000) (x : Item) : PC Try.prog Γ 54 [book b, item x] (book (withLine b x)) := by
  refine pc_by mixed Try.func54 rfl (fun args w => Try.call54 args w) ?_
  simp -implicitDefEqProofs (disch := omega) [go_sem, book, item]
  refine side (by kernel_rfl) ?_
  simp -implicitDefEqProofs (disch := omega) [go_sem, Try.f54]
  refine ⟨_, ⟨_, rfl, frz_aggL (frzL_c ((frz_data _ _ _ _).2 rfl) (frzL_c ((frz_data _ _ _ _).2 rfl) (frzL_c (fz_items (rw := true) (l := b.items ++ [x]) (by simp [go_sem, ← items_append, flat_item1]) (.inl rfl) (by simp)) (frzL_c ((frz_data _ _ _ _).2 rfl) frzL_n))))⟩, ?_⟩
  rfl
/-- May a line stand where the session's last one ahead is k? -/
def LineAt (b : Book) (x : Item) (k : Int) : Prop := 0 ≤ x.id ∧ x.id < b.next ∧
  ((k < 0 ∧ x.kind = 1 ∧ x.inn = 0 ∧ x.out = 0 ∧ x.cause = 0) ∨
   (0 ≤ k ∧ (b.items.getD k.toNat default).kind ≠ 3 ∧ (b.items.getD k.toNat default).inn ≤ x.inn ∧ (b.items.getD k.toNat default).out ≤ x.out ∧ (x.kind = 2 ∧ x.cause = 0 ∨ x.kind = 3 ∧ 0 ≤ x.cause ∧ x.cause ≤ 255)))
def LineOk (b : Book) (i : Nat) (x : Item) : Prop := LineAt b x (last b.items x.id i)
set_option maxHeartbeats 4000000 in
set_option maxRecDepth 100000 in
theorem line_pc (Γ : Nat → Option (List Data)) (b : Book) (hb : Fits b) (i : Nat) (h : i < b.items.length) {v : Bool} (hv : v = true ↔ LineOk b i b.items[i]) : PC Try.prog Γ 46 [book b, .int .i64 i] (.bool v) := by
  refine pc_by mixed Try.func46 rfl (fun args w => Try.call46 args w) ?_
  have hi := hb.i
  have hl := last_pc Γ b hb b.items[i].id i (by omega)
  obtain ⟨l1, l2⟩ := last_lt b.items b.items[i].id i
  unfold LineOk at hv
  generalize last b.items b.items[i].id i = k at *
  have yes : LineAt b b.items[i] k → v = true := hv.2
  have no : ¬ LineAt b b.items[i] k → v = false := fun h => by
    cases v
    · rfl
    · exact absurd (hv.1 rfl) h
  clear hv
  simp -implicitDefEqProofs (disch := omega) [go_sem, book]
  refine .inl (call_data hl (by simp [go_sem, book]) ?_)
  simp -implicitDefEqProofs (disch := omega) [go_sem]
  refine ifW_ndec (fun h1 => ?_) (fun h1 => ?_)
  · simp -implicitDefEqProofs (disch := omega) [go_sem]
    refine ifW_dec (fun h2 => ?_) (fun h2 => ?_)
    · have hvf : v = false := no fun e => by unfold LineAt at e; omega
      simp -implicitDefEqProofs (disch := omega) [go_sem, hvf, Try.results46]
    · simp -implicitDefEqProofs (disch := omega) [go_sem]
      refine ifW_dec (fun h3 => ?_) (fun h3 => ?_)
      · by_cases a1 : b.items[i].kind = 1
        · by_cases a2 : b.items[i].inn = 0
          · by_cases a3 : b.items[i].out = 0
            · by_cases a4 : b.items[i].cause = 0
              · have hvt : v = true := yes (by unfold LineAt; omega)
                simp -implicitDefEqProofs (disch := omega) [go_sem, hvt, Try.results46]
              · have hvf : v = false := no fun e => by unfold LineAt at e; omega
                simp -implicitDefEqProofs (disch := omega) [go_sem, hvf, Try.results46]
            · have hvf : v = false := no fun e => by unfold LineAt at e; omega
              simp -implicitDefEqProofs (disch := omega) [go_sem, hvf, Try.results46]
          · have hvf : v = false := no fun e => by unfold LineAt at e; omega
            simp -implicitDefEqProofs (disch := omega) [go_sem, hvf, Try.results46]
        · have hvf : v = false := no fun e => by unfold LineAt at e; omega
          simp -implicitDefEqProofs (disch := omega) [go_sem, hvf, Try.results46]
      · have hk : k.toNat < b.items.length := by omega
        have hgd : b.items.getD k.toNat default = b.items[k.toNat] := by rw [List.getD_eq_getElem?_getD, List.getElem?_eq_getElem hk]; rfl
        simp -implicitDefEqProofs (disch := omega) [go_sem]
        refine ifW_ndec (fun b1 => ?_) (fun b1 => ?_)
        · simp -implicitDefEqProofs (disch := omega) [go_sem]
          refine ifW_ndec (fun b2 => ?_) (fun b2 => ?_)
          · simp -implicitDefEqProofs (disch := omega) [go_sem]
            refine ifW_dec (fun b3 => ?_) (fun b3 => ?_)
            · have hvf : v = false := no fun e => by unfold LineAt at e; rw [hgd] at e; omega
              simp -implicitDefEqProofs (disch := omega) [go_sem, hvf, Try.results46]
            · by_cases k2 : b.items[i].kind = 2
              · by_cases c0 : b.items[i].cause = 0
                · have hvt : v = true := yes (by unfold LineAt; rw [hgd]; omega)
                  simp -implicitDefEqProofs (disch := omega) [go_sem, hvt, Try.results46]
                · have hvf : v = false := no fun e => by unfold LineAt at e; rw [hgd] at e; omega
                  simp -implicitDefEqProofs (disch := omega) [go_sem, hvf, Try.results46]
              · by_cases k3 : b.items[i].kind = 3
                · by_cases c0 : 0 ≤ b.items[i].cause
                  · by_cases c1 : b.items[i].cause ≤ 255
                    · have hvt : v = true := yes (by unfold LineAt; rw [hgd]; omega)
                      simp -implicitDefEqProofs (disch := omega) [go_sem, hvt, Try.results46]
                    · have hvf : v = false := no fun e => by unfold LineAt at e; rw [hgd] at e; omega
                      simp -implicitDefEqProofs (disch := omega) [go_sem, hvf, Try.results46]
                  · have hvf : v = false := no fun e => by unfold LineAt at e; rw [hgd] at e; omega
                    simp -implicitDefEqProofs (disch := omega) [go_sem, hvf, Try.results46]
                · have hvf : v = false := no fun e => by unfold LineAt at e; rw [hgd] at e; omega
                  simp -implicitDefEqProofs (disch := omega) [go_sem, hvf, Try.results46]
          · have hvf : v = false := no fun e => by unfold LineAt at e; rw [hgd] at e; omega
            simp -implicitDefEqProofs (disch := omega) [go_sem, hvf, Try.results46]
        · have hvf : v = false := no fun e => by unfold LineAt at e; rw [hgd] at e; omega
          simp -implicitDefEqProofs (disch := omega) [go_sem, hvf, Try.results46]
  · have hvf : v = false := no fun e => by unfold LineAt at e; omega
    simp -implicitDefEqProofs (disch := omega) [go_sem, hvf, Try.results46]
end Bk
end Go.Proofs.Ytedcnbkhdkchoaa
