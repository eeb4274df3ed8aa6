/- Books: what the program asks of a book's sessions and users. (By genY.py.) -/
import Derived.Test.YtedcnbkhdkchoaaBX
import Derived.Test.YtedcnbkhdkchoaaBJ
import Derived.Test.YtedcnbkhdkchoaaBE
import Derived.Test.YtedcnbkhdkchoaaBD
namespace Go.Proofs.Ytedcnbkhdkchoaa
open Go.RowKit
set_option linter.unusedVariables false
set_option linter.unusedSimpArgs false
namespace Bk
variable (Γ : Nat → Option (List Data))
theorem first_lt0 {α : Type} {p : α → Bool} {l : List α} : first p 0 l < 0 → ∀ a ∈ l, p a = false := by
  intro h
  by_cases hx : ∀ a ∈ l, p a = false
  · exact hx
  exfalso
  have : ∀ (l : List α) (n : Nat), (¬ ∀ a ∈ l, p a = false) → (n : Int) ≤ first p n l := by
    intro l
    induction l with
    | nil => intro n h; exact absurd (fun a ha => by cases ha) h
    | cons a t ih =>
      intro n h
      unfold first
      by_cases e : p a = true
      · rw [if_pos e]; omega
      · rw [if_neg e]
        have := ih (n + 1) (fun ht => h fun x hx => by
          rcases List.mem_cons.1 hx with rfl | hx
          · simpa using e
          · exact ht x hx)
        omega
  have := this l 0 hx
  omega
theorem first_pos {α : Type} {p : α → Bool} {l : List α} (h : 0 ≤ first p 0 l) : ∃ a ∈ l, p a = true := by
  by_cases hx : ∀ a ∈ l, p a = false
  · rw [first_none hx] at h; omega
  · simpa using hx
def leastAt (b : Book) (i : Nat) : Int := if i = 0 then 0 else (b.opn.getD (i - 1) default).id + 1
set_option maxHeartbeats 8000000 in
set_option maxRecDepth 100000 in
theorem rightOpen_pc (b : Book) (ho : b.opn.length ≤ 140737488351232) (n0 : 0 ≤ b.next) (n1 : b.next ≤ 1000000000) {q : Bool} (hq : q = true ↔ OpenOk b) : PC Try.prog Γ 56 [.sl 6 (sesss b.opn), .int .i64 b.next] (.bool q) := by
  refine pc_by mixed Try.func56 rfl (fun args w => Try.call56 args w) ?_
  have no : ¬ OpenOk b → q = false := fun h => by
    cases q
    · rfl
    · exact absurd (hq.1 rfl) h
  have yes : OpenOk b → q = true := hq.2
  clear hq
  simp -implicitDefEqProofs (disch := omega) [go_sem]
  refine loop_ren (σ := { i : Nat // i ≤ b.opn.length ∧ ∀ (j : Nat) (h : j < b.opn.length), j < i → SessAt b j h }) (fun i => ⟨envL [(0, .data (.sl 6 (sesss b.opn))), (1, .data (.int .i64 b.next)), (5, .data (.int .i64 (leastAt b i.1))), (8, .data (.sl 6 (sesss b.opn))), (9, .data (.int .i64 b.opn.length)), (10, .data (.int .i64 i.1))], hpL [], 0, 0, 58⟩) (fun i => b.opn.length - i.1) ⟨0, by omega, fun j h hj => absurd hj (by omega)⟩ [] (rhoL []) ?_ ?_
  · apply ren_lists <;> simp -implicitDefEqProofs [go_sem, leastAt]
  rintro ⟨i, hi, hall⟩
  by_cases h : i < b.opn.length
  rotate_left
  · obtain rfl : i = b.opn.length := by omega
    have hqt : q = true := yes fun i h => hall i h h
    simp -implicitDefEqProofs (disch := omega) [go_sem, hqt, Try.results56]
  have c1 := isFrom_pc Γ b.opn[i].id (leastAt b i) (b.next - 1)
  have c2 := isLink_pc Γ b.opn[i].link
  have c3 := isOfPool_pc Γ b.opn[i].addr
  have c4 := isUser_pc Γ b.opn[i].user
  have c5 := hasLink_pc Γ (b.opn.take i) (by rw [List.length_take]; omega) b.opn[i].link
  have c6 := hasAddr_pc Γ (b.opn.take i) (by rw [List.length_take]; omega) b.opn[i].addr
  have hl0 : 0 ≤ leastAt b i ∧ ((0 < i → (b.opn.getD (i - 1) default).id < b.opn[i].id) ∧ 0 ≤ b.opn[i].id ↔ leastAt b i ≤ b.opn[i].id) := by
    unfold leastAt
    by_cases e : i = 0
    · rw [if_pos e]; exact ⟨Int.le_refl _, ⟨fun h => h.2, fun h => ⟨fun h0 => absurd e (by omega), h⟩⟩⟩
    · rw [if_neg e]
      have hp := (hall (i - 1) (by omega) (by omega)).1.id0
      have hg : b.opn.getD (i - 1) default = b.opn[i - 1]'(by omega) := by rw [List.getD_eq_getElem?_getD, List.getElem?_eq_getElem (by omega)]; rfl
      rw [hg]
      exact ⟨by omega, ⟨fun h => by have := h.1 (by omega); omega, fun h => ⟨fun _ => by omega, by omega⟩⟩⟩
  obtain ⟨l0, hleast⟩ := hl0
  have hsucc : leastAt b (i + 1) = b.opn[i].id + 1 := by
    have hg : b.opn.getD i default = b.opn[i] := by rw [List.getD_eq_getElem?_getD, List.getElem?_eq_getElem h]; rfl
    unfold leastAt; rw [if_neg (by omega), Nat.add_sub_cancel, hg]
  have hno : ¬ SessOk b i b.opn[i] → q = false := fun hk => no fun ha => hk (ha i h).1
  simp -implicitDefEqProofs (disch := omega) [go_sem]
  refine .inl (call_data c1 (by simp [go_sem]) ?_)
  by_cases g1 : leastAt b i ≤ b.opn[i].id ∧ b.opn[i].id ≤ b.next - 1
  rotate_left
  · have hqf : q = false := hno (fun r => absurd (hleast.1 ⟨r.up, r.id0⟩) (fun h2 => g1 ⟨h2, by have := r.id1; omega⟩))
    rw [decide_eq_false g1]
    simp -implicitDefEqProofs (disch := omega) [go_sem, hqf, Try.results56]
  rw [decide_eq_true g1]
  simp -implicitDefEqProofs (disch := omega) [go_sem]
  refine .inl (call_data c2 (by simp [go_sem]) ?_)
  by_cases g2 : 0 ≤ b.opn[i].link ∧ b.opn[i].link ≤ 7
  rotate_left
  · have hqf : q = false := hno (fun r => g2 ((fun r => ⟨r.l0, r.l1⟩) r))
    rw [decide_eq_false g2]
    simp -implicitDefEqProofs (disch := omega) [go_sem, hqf, Try.results56]
  rw [decide_eq_true g2]
  simp -implicitDefEqProofs (disch := omega) [go_sem]
  refine .inl (call_data c3 (by simp [go_sem]) ?_)
  by_cases g3 : poolOk b.opn[i].addr
  rotate_left
  · have hqf : q = false := hno (fun r => g3 ((fun r => r.addr) r))
    rw [decide_eq_false g3]
    simp -implicitDefEqProofs (disch := omega) [go_sem, hqf, Try.results56]
  rw [decide_eq_true g3]
  simp -implicitDefEqProofs (disch := omega) [go_sem]
  refine .inl (call_data c4 (by simp [go_sem]) ?_)
  by_cases g4 : nameOk b.opn[i].user
  rotate_left
  · have hqf : q = false := hno (fun r => g4 ((fun r => r.user) r))
    rw [decide_eq_false g4]
    simp -implicitDefEqProofs (disch := omega) [go_sem, hqf, Try.results56]
  rw [decide_eq_true g4]
  simp -implicitDefEqProofs (disch := omega) [go_sem]
  have hsok : SessOk b i b.opn[i] := ⟨(hleast.2 g1.1).2, by omega, (hleast.2 g1.1).1, g2.1, g2.2, g4, g3⟩
  refine .inl (call_data c5 (by simp [go_sem]) ?_)
  by_cases g5 : 0 ≤ first (fun s : Sess => decide (s.link = b.opn[i].link)) 0 (b.opn.take i)
  · have hqf : q = false := by
      obtain ⟨s, hs, e⟩ := first_pos g5
      obtain ⟨j, hj, rfl⟩ := List.getElem_of_mem hs
      rw [List.length_take] at hj
      rw [List.getElem_take] at e
      exact no fun ha => ((ha i h).2 j (by omega)).1 (by simpa using e)
    rw [decide_eq_true g5]
    simp -implicitDefEqProofs (disch := omega) [go_sem, hqf]
    refine side (by kernel_rfl) ?_
    simp -implicitDefEqProofs (disch := omega) [go_sem, hqf, Try.results56]
  rw [decide_eq_false g5]
  simp -implicitDefEqProofs (disch := omega) [go_sem]
  refine .inl (call_data c6 (by simp [go_sem]) ?_)
  by_cases g6 : 0 ≤ first (fun s : Sess => decide (s.addr = b.opn[i].addr)) 0 (b.opn.take i)
  · have hqf : q = false := by
      obtain ⟨s, hs, e⟩ := first_pos g6
      obtain ⟨j, hj, rfl⟩ := List.getElem_of_mem hs
      rw [List.length_take] at hj
      rw [List.getElem_take] at e
      exact no fun ha => ((ha i h).2 j (by omega)).2 (by simpa using e)
    rw [decide_eq_true g6]
    simp -implicitDefEqProofs (disch := omega) [go_sem, hqf]
    refine side (by kernel_rfl) ?_
    simp -implicitDefEqProofs (disch := omega) [go_sem, hqf, Try.results56]
  rw [decide_eq_false g6]
  simp -implicitDefEqProofs (disch := omega) [go_sem]
  refine side (by kernel_rfl) ?_
  simp -implicitDefEqProofs (disch := omega) [go_sem]
  have hin : SessAt b i h := ⟨hsok, fun k hk => by
    have hm : b.opn[k] ∈ b.opn.take i := by
      rw [show b.opn[k] = (b.opn.take i)[k]'(by rw [List.length_take]; omega) from (List.getElem_take).symm]
      exact List.getElem_mem _
    exact ⟨by simpa using first_lt0 (Int.not_le.1 g5) _ hm, by simpa using first_lt0 (Int.not_le.1 g6) _ hm⟩⟩
  refine next_ren ⟨i + 1, by omega, fun j hj hji => ?_⟩ (by simp only; omega) [] (rhoL []) ?_
  · by_cases e : j = i
    · subst e; exact hin
    · exact hall j hj (by omega)
  apply ren_lists <;> simp -implicitDefEqProofs [go_sem, hsucc]
theorem first_le {α : Type} {p : α → Bool} : ∀ {l : List α} {n j : Nat} (hj : j < l.length), p l[j] = true → first p n l ≤ ((n + j : Nat) : Int)
  | a :: t, n, 0, hj, h => by
    unfold first
    rw [if_pos (by simpa using h)]; simp
  | a :: t, n, j + 1, hj, h => by
    unfold first
    by_cases e : p a = true
    · rw [if_pos e]; omega
    · rw [if_neg e]
      have := first_le (p := p) (l := t) (n := n + 1) (j := j) (by simpa using hj) (by simpa using h)
      omega
set_option maxHeartbeats 8000000 in
set_option maxRecDepth 100000 in
theorem rightLocks_pc (b : Book) (ho : b.locks.length ≤ 140737488351232) {q : Bool} (hq : q = true ↔ ∀ (i : Nat) (h : i < b.locks.length), LockAt b i h) : PC Try.prog Γ 58 [.sl 3 (locks b.locks)] (.bool q) := by
  refine pc_by mixed Try.func58 rfl (fun args w => Try.call58 args w) ?_
  have no : ∀ (i : Nat) (h : i < b.locks.length), ¬ LockAt b i h → q = false := fun i h hn => by
    cases q
    · rfl
    · exact absurd (hq.1 rfl i h) hn
  have yes : (∀ (i : Nat) (h : i < b.locks.length), LockAt b i h) → q = true := hq.2
  clear hq
  simp -implicitDefEqProofs (disch := omega) [go_sem]
  refine loop_ren (σ := { i : Nat // i ≤ b.locks.length ∧ ∀ (j : Nat) (h : j < b.locks.length), j < i → LockAt b j h }) (fun i => ⟨envL [(0, .data (.sl 3 (locks b.locks))), (5, .data (.sl 3 (locks b.locks))), (6, .data (.int .i64 b.locks.length)), (7, .data (.int .i64 i.1))], hpL [], 0, 0, 36⟩) (fun i => b.locks.length - i.1) ⟨0, by omega, fun j h hj => absurd hj (by omega)⟩ [] (rhoL []) ?_ ?_
  · apply ren_lists <;> simp -implicitDefEqProofs [go_sem]
  rintro ⟨i, hi, hall⟩
  by_cases h : i < b.locks.length
  rotate_left
  · obtain rfl : i = b.locks.length := by omega
    have hqt : q = true := yes fun i h => hall i h h
    simp -implicitDefEqProofs (disch := omega) [go_sem, hqt, Try.results58]
  have c1 := isUser_pc Γ b.locks[i].user
  have c2 := isFrom_pc Γ b.locks[i].n 1 255
  have c3 := isFrom_pc Γ b.locks[i].at_ 0 1000000000
  have c4 := placeOfUser_pc Γ (b.locks.take i) (by rw [List.length_take]; omega) b.locks[i].user
  simp -implicitDefEqProofs (disch := omega) [go_sem]
  refine .inl (call_data c1 (by simp [go_sem]) ?_)
  by_cases g1 : nameOk b.locks[i].user
  rotate_left
  · have hqf : q = false := no i h fun r => g1 r.user
    rw [decide_eq_false g1]
    simp -implicitDefEqProofs (disch := omega) [go_sem, hqf, Try.results58]
  rw [decide_eq_true g1]
  simp -implicitDefEqProofs (disch := omega) [go_sem]
  refine .inl (call_data c2 (by simp [go_sem]) ?_)
  by_cases g2 : 1 ≤ b.locks[i].n ∧ b.locks[i].n ≤ 255
  rotate_left
  · have hqf : q = false := no i h fun r => g2 ⟨r.n0, r.n1⟩
    rw [decide_eq_false g2]
    simp -implicitDefEqProofs (disch := omega) [go_sem, hqf, Try.results58]
  rw [decide_eq_true g2]
  simp -implicitDefEqProofs (disch := omega) [go_sem]
  refine .inl (call_data c3 (by simp [go_sem]) ?_)
  by_cases g3 : 0 ≤ b.locks[i].at_ ∧ b.locks[i].at_ ≤ 1000000000
  rotate_left
  · have hqf : q = false := no i h fun r => g3 ⟨r.t0, r.t1⟩
    rw [decide_eq_false g3]
    simp -implicitDefEqProofs (disch := omega) [go_sem, hqf, Try.results58]
  rw [decide_eq_true g3]
  simp -implicitDefEqProofs (disch := omega) [go_sem]
  refine .inl (call_data c4 (by simp [go_sem]) ?_)
  by_cases g5 : 0 ≤ first (fun s : Lock => decide (s.user = b.locks[i].user)) 0 (b.locks.take i)
  · have hqf : q = false := by
      obtain ⟨s, hs, e⟩ := first_pos g5
      obtain ⟨j, hj, rfl⟩ := List.getElem_of_mem hs
      rw [List.length_take] at hj
      rw [List.getElem_take] at e
      refine no i h fun r => ?_
      have := first_le (p := fun l : Lock => decide (l.user = b.locks[i].user)) (l := b.locks) (n := 0) (j := j) (by omega) e
      have hf := r.f
      unfold failed at hf
      omega
    simp -implicitDefEqProofs (disch := omega) [go_sem, hqf]
    refine side (by kernel_rfl) ?_
    simp -implicitDefEqProofs (disch := omega) [go_sem, hqf, Try.results58]
  simp -implicitDefEqProofs (disch := omega) [go_sem]
  refine side (by kernel_rfl) ?_
  simp -implicitDefEqProofs (disch := omega) [go_sem]
  have hin : LockAt b i h := ⟨g1, g2.1, g2.2, g3.1, g3.2, by
    have := first_at (p := fun l : Lock => decide (l.user = b.locks[i].user)) (n := 0) h (by simp) (fun k hk => by
      have hm : b.locks[k]'(by omega) ∈ b.locks.take i := by
        rw [show b.locks[k]'(by omega) = (b.locks.take i)[k]'(by rw [List.length_take]; omega) from (List.getElem_take).symm]
        exact List.getElem_mem _
      exact first_lt0 (Int.not_le.1 g5) _ hm)
    simpa [failed] using this⟩
  refine next_ren ⟨i + 1, by omega, fun j hj hji => ?_⟩ (by simp only; omega) [] (rhoL []) ?_
  · by_cases e : j = i
    · subst e; exact hin
    · exact hall j hj (by omega)
  apply ren_lists <;> simp -implicitDefEqProofs [go_sem]
/-- May a line be a session's first? -/
def FirstOk (x : Item) : Prop := x.kind = 1 ∧ x.inn = 0 ∧ x.out = 0 ∧ x.cause = 0
instance (x : Item) : Decidable (FirstOk x) := by unfold FirstOk; exact inferInstance
/-- May a line follow that one? -/
def NextOk (y x : Item) : Prop := y.kind ≠ 3 ∧ y.inn ≤ x.inn ∧ y.out ≤ x.out ∧ (x.kind = 2 ∧ x.cause = 0 ∨ x.kind = 3 ∧ 0 ≤ x.cause ∧ x.cause ≤ 255)
instance (y x : Item) : Decidable (NextOk y x) := by unfold NextOk; exact inferInstance
set_option maxHeartbeats 4000000 in
set_option maxRecDepth 100000 in
theorem mayBegin_pc (x : Item) (hx : x.Ty) : PC Try.prog Γ 126 [item x] (.bool (decide (FirstOk x))) := by
  refine pc_by mixed Try.func126 rfl (fun args w => Try.call126 args w) ?_
  have hc : Item.Ty ⟨1, x.id, 0, 0, 0⟩ := by
    obtain ⟨h1, h2, h3, h4, h5⟩ := hx
    constructor <;> first | assumption | (unfold R64; omega) | (unfold U64; omega) | (simp [R64, U64])
  have he : decide (FirstOk x) = decide (x = ⟨1, x.id, 0, 0, 0⟩) := by
    refine decide_eq_decide.2 ?_
    cases x
    simp [FirstOk]
  rw [he]
  simp -implicitDefEqProofs (disch := omega) [go_sem, item]
  refine eqK_item hx hc ?_
  by_cases e : x = ⟨1, x.id, 0, 0, 0⟩
  · simp -implicitDefEqProofs (disch := omega) [go_sem, decide_eq_true e, Try.results126]
  · simp -implicitDefEqProofs (disch := omega) [go_sem, decide_eq_false e, Try.results126]
set_option maxHeartbeats 4000000 in
set_option maxRecDepth 100000 in
theorem mayFollow_pc (y x : Item) : PC Try.prog Γ 127 [item y, item x] (.bool (decide (NextOk y x))) := by
  refine pc_by mixed Try.func127 rfl (fun args w => Try.call127 args w) ?_
  have c1 := isFrom_pc Γ x.cause 0 255
  obtain ⟨v, hv⟩ : ∃ v, decide (NextOk y x) = v := ⟨_, rfl⟩
  rw [hv]
  have no : ¬ NextOk y x → v = false := fun h => by rw [← hv]; exact decide_eq_false h
  have yes : NextOk y x → v = true := fun h => by rw [← hv]; exact decide_eq_true h
  clear hv
  by_cases g1 : y.kind ≠ 3
  rotate_left
  · have hvf : v = false := no fun r => g1 r.1
    have g1 : y.kind = 3 := by omega
    simp -implicitDefEqProofs (disch := omega) [go_sem, item, hvf, Try.results127]
  by_cases g2 : y.inn ≤ x.inn
  rotate_left
  · have hvf : v = false := no fun r => g2 r.2.1
    simp -implicitDefEqProofs (disch := omega) [go_sem, item, hvf, Try.results127]
  by_cases g3 : y.out ≤ x.out
  rotate_left
  · have hvf : v = false := no fun r => g3 r.2.2.1
    simp -implicitDefEqProofs (disch := omega) [go_sem, item, hvf, Try.results127]
  by_cases k2 : x.kind = 2
  · by_cases z : x.cause = 0
    · have hvt : v = true := yes ⟨g1, g2, g3, .inl ⟨k2, z⟩⟩
      simp -implicitDefEqProofs (disch := omega) [go_sem, item, hvt, Try.results127]
    · have hvf : v = false := no fun r => by have := r.2.2.2; omega
      simp -implicitDefEqProofs (disch := omega) [go_sem, item, hvf, Try.results127]
  by_cases k3 : x.kind = 3
  · simp -implicitDefEqProofs (disch := omega) [go_sem, item]
    refine .inl (call_data c1 (by simp [go_sem]) ?_)
    by_cases z : 0 ≤ x.cause ∧ x.cause ≤ 255
    · have hvt : v = true := yes ⟨g1, g2, g3, .inr ⟨k3, z⟩⟩
      rw [decide_eq_true z]
      simp -implicitDefEqProofs (disch := omega) [go_sem, hvt, Try.results127]
    · have hvf : v = false := no fun r => by have := r.2.2.2; omega
      rw [decide_eq_false z]
      simp -implicitDefEqProofs (disch := omega) [go_sem, hvf, Try.results127]
  have hvf : v = false := no fun r => by have := r.2.2.2; omega
  simp -implicitDefEqProofs (disch := omega) [go_sem, item, hvf, Try.results127]
end Bk
end Go.Proofs.Ytedcnbkhdkchoaa
