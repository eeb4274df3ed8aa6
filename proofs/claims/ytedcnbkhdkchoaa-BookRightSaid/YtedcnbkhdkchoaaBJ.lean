/- Books: the program's own small functions; what is found among sessions and users. -/
import Derived.Test.YtedcnbkhdkchoaaBE
namespace Go.Proofs.Ytedcnbkhdkchoaa
open Go.RowKit
set_option linter.unusedVariables false
set_option linter.unusedSimpArgs false
namespace Bk
variable (Γ : Nat → Option (List Data))
theorem isFrom_pc (n l h : Int) : PC Try.prog Γ 55 [.int .i64 n, .int .i64 l, .int .i64 h] (.bool (decide (l ≤ n ∧ n ≤ h))) := by
  refine pc_by mixed Try.func55 rfl (fun args w => Try.call55 args w) ?_
  by_cases h1 : l ≤ n
  · by_cases h2 : n ≤ h
    · simp -implicitDefEqProofs (disch := omega) [go_sem, h1, h2, Try.f55]
    · simp -implicitDefEqProofs (disch := omega) [go_sem, h1, h2, Try.f55]
  · simp -implicitDefEqProofs (disch := omega) [go_sem, h1, Try.f55]
theorem isLink_pc (n : Int) : PC Try.prog Γ 80 [.int .i64 n] (.bool (decide (0 ≤ n ∧ n ≤ 7))) := by
  refine pc_by mixed Try.func80 rfl (fun args w => Try.call80 args w) ?_
  simp -implicitDefEqProofs (disch := omega) [go_sem]
  refine .inl (call_data (isFrom_pc Γ n 0 7) (by simp [go_sem]) ?_)
  simp -implicitDefEqProofs (disch := omega) [go_sem, Try.f80]
theorem isUser_pc (u : ByteArray) : PC Try.prog Γ 81 [.str u] (.bool (decide (nameOk u))) := by
  refine pc_by mixed Try.func81 rfl (fun args w => Try.call81 args w) ?_
  simp -implicitDefEqProofs (disch := omega) [go_sem]
  have e : decide ((1 : Int) ≤ (u.size : Int) ∧ (u.size : Int) ≤ 16) = decide (nameOk u) := by
    unfold nameOk
    congr 1
    simp only [eq_iff_iff]
    omega
  have h := isFrom_pc Γ u.size 1 16
  rw [e] at h
  refine .inl (call_data h (by simp [go_sem]) ?_)
  simp -implicitDefEqProofs (disch := omega) [go_sem, Try.f81]
theorem isOfPool_pc (a : Int) : PC Try.prog Γ 92 [.int .u32 a] (.bool (decide (poolOk a))) := by
  refine pc_by mixed Try.func92 rfl (fun args w => Try.call92 args w) ?_
  by_cases h1 : 167772161 ≤ a
  · by_cases h2 : a < 167772167
    · have hyes : poolOk a := ⟨h1, by omega⟩
      simp -implicitDefEqProofs (disch := omega) [go_sem, hyes, h1, h2, Try.f92]
    · have hno : ¬ poolOk a := fun hk => by unfold poolOk at hk; omega
      simp -implicitDefEqProofs (disch := omega) [go_sem, hno, h1, h2, Try.f92]
  · have hno : ¬ poolOk a := fun hk => by unfold poolOk at hk; omega
    simp -implicitDefEqProofs (disch := omega) [go_sem, hno, h1, Try.f92]
/- What a session, or a user, is asked. -/
theorem byAddr_pc (s : Sess) (a : Int) : PC Try.prog Γ 98 [sess s, .pc [.int .u32 a]] (.bool (decide (s.addr = a))) := by
  refine pc_by mixed Try.func98 rfl (fun args w => Try.call98 args w) ?_
  simp -implicitDefEqProofs (disch := omega) [go_sem, sess, Try.f98]
theorem byLink_pc (s : Sess) (a : Int) : PC Try.prog Γ 125 [sess s, .pc [.int .i64 a]] (.bool (decide (s.link = a))) := by
  refine pc_by mixed Try.func125 rfl (fun args w => Try.call125 args w) ?_
  simp -implicitDefEqProofs (disch := omega) [go_sem, sess, Try.f125]
theorem byId_pc (s : Sess) (a : Int) : PC Try.prog Γ 129 [sess s, .pc [.int .i64 a]] (.bool (decide (s.id = a))) := by
  refine pc_by mixed Try.func129 rfl (fun args w => Try.call129 args w) ?_
  simp -implicitDefEqProofs (disch := omega) [go_sem, sess, Try.f129]
theorem byUser_pc (l : Lock) (u : ByteArray) : PC Try.prog Γ 131 [lock l, .pc [.str u]] (.bool (decide (l.user = u))) := by
  refine pc_by mixed Try.func131 rfl (fun args w => Try.call131 args w) ?_
  simp -implicitDefEqProofs (disch := omega) [go_sem, lock, Try.f131]
/- Where the first one stands. -/
set_option maxHeartbeats 1000000 in
theorem idxSess_pc (l : List Sess) (hl : l.length ≤ 140737488351232) (g : FuncId) (caps : List Data) (p : Sess → Bool) (h : ∀ s, PC Try.prog Γ g (sess s :: caps) (.bool (p s))) : PC Try.prog Γ 128 [.sl 6 (sesss l), .fn g caps] (.int .i64 (first p 0 l)) := by
  refine pc_by mixed Try.func128 rfl (fun args w => Try.call128 args w) ?_
  simp -implicitDefEqProofs (disch := omega) [go_sem]
  refine loop_ren (σ := { i : Nat // i ≤ l.length ∧ ∀ (j : Nat) (h : j < l.length), j < i → p l[j] = false }) (fun i => ⟨envL [(0, .data (.sl 6 (sesss l))), (1, .data (.fn g caps)), (7, .data (.int .i64 l.length)), (8, .data (.int .i64 i.1))], hpL [], 0, 0, 19⟩) (fun i => l.length - i.1) ⟨0, by omega, by omega⟩ [] (rhoL []) ?_ ?_
  · apply ren_lists <;> simp -implicitDefEqProofs [go_sem]
  rintro ⟨i, hi, hall⟩
  by_cases hlt : i < l.length
  · have hc := h l[i]
    simp -implicitDefEqProofs (disch := omega) [go_sem]
    refine .inl (call_data hc (by simp [go_sem, sess]) ?_)
    cases hp : p l[i] with
    | true =>
      have hr : first p 0 l = (i : Int) := by
        have := first_at (p := p) (l := l) (n := 0) hlt hp (fun j hj => hall j (by omega) hj)
        rw [this]; congr 1; omega
      simp -implicitDefEqProofs (disch := omega) [go_sem, hr, Try.results128]
    | false =>
      simp -implicitDefEqProofs (disch := omega) [go_sem]
      refine next_ren ⟨i + 1, by omega, fun j hj hji => if e : j = i then by subst e; exact hp else hall j hj (by omega)⟩ (by simp only; omega) [] (rhoL []) ?_
      apply ren_lists <;> simp -implicitDefEqProofs [go_sem]
  have hr : first p 0 l = -1 := first_none fun a ha => by
    obtain ⟨j, hj, rfl⟩ := List.mem_iff_getElem.1 ha
    exact hall j hj (by omega)
  simp -implicitDefEqProofs (disch := omega) [go_sem, hr, Try.results128]
set_option maxHeartbeats 1000000 in
theorem idxLock_pc (l : List Lock) (hl : l.length ≤ 140737488351232) (g : FuncId) (caps : List Data) (p : Lock → Bool) (h : ∀ s, PC Try.prog Γ g (lock s :: caps) (.bool (p s))) : PC Try.prog Γ 130 [.sl 3 (locks l), .fn g caps] (.int .i64 (first p 0 l)) := by
  refine pc_by mixed Try.func130 rfl (fun args w => Try.call130 args w) ?_
  simp -implicitDefEqProofs (disch := omega) [go_sem]
  refine loop_ren (σ := { i : Nat // i ≤ l.length ∧ ∀ (j : Nat) (h : j < l.length), j < i → p l[j] = false }) (fun i => ⟨envL [(0, .data (.sl 3 (locks l))), (1, .data (.fn g caps)), (7, .data (.int .i64 l.length)), (8, .data (.int .i64 i.1))], hpL [], 0, 0, 19⟩) (fun i => l.length - i.1) ⟨0, by omega, by omega⟩ [] (rhoL []) ?_ ?_
  · apply ren_lists <;> simp -implicitDefEqProofs [go_sem]
  rintro ⟨i, hi, hall⟩
  by_cases hlt : i < l.length
  · have hc := h l[i]
    simp -implicitDefEqProofs (disch := omega) [go_sem]
    refine .inl (call_data hc (by simp [go_sem, lock]) ?_)
    cases hp : p l[i] with
    | true =>
      have hr : first p 0 l = (i : Int) := by
        have := first_at (p := p) (l := l) (n := 0) hlt hp (fun j hj => hall j (by omega) hj)
        rw [this]; congr 1; omega
      simp -implicitDefEqProofs (disch := omega) [go_sem, hr, Try.results130]
    | false =>
      simp -implicitDefEqProofs (disch := omega) [go_sem]
      refine next_ren ⟨i + 1, by omega, fun j hj hji => if e : j = i then by subst e; exact hp else hall j hj (by omega)⟩ (by simp only; omega) [] (rhoL []) ?_
      apply ren_lists <;> simp -implicitDefEqProofs [go_sem]
  have hr : first p 0 l = -1 := first_none fun a ha => by
    obtain ⟨j, hj, rfl⟩ := List.mem_iff_getElem.1 ha
    exact hall j hj (by omega)
  simp -implicitDefEqProofs (disch := omega) [go_sem, hr, Try.results130]
set_option maxHeartbeats 1000000 in
theorem idxItem_pc (l : List Item) (hl : l.length ≤ 140737488351232) (g : FuncId) (caps : List Data) (p : Item → Bool) (h : ∀ s, PC Try.prog Γ g (item s :: caps) (.bool (p s))) : PC Try.prog Γ 136 [.sl 5 (items l), .fn g caps] (.int .i64 (first p 0 l)) := by
  refine pc_by mixed Try.func136 rfl (fun args w => Try.call136 args w) ?_
  simp -implicitDefEqProofs (disch := omega) [go_sem]
  refine loop_ren (σ := { i : Nat // i ≤ l.length ∧ ∀ (j : Nat) (h : j < l.length), j < i → p l[j] = false }) (fun i => ⟨envL [(0, .data (.sl 5 (items l))), (1, .data (.fn g caps)), (7, .data (.int .i64 l.length)), (8, .data (.int .i64 i.1))], hpL [], 0, 0, 19⟩) (fun i => l.length - i.1) ⟨0, by omega, by omega⟩ [] (rhoL []) ?_ ?_
  · apply ren_lists <;> simp -implicitDefEqProofs [go_sem]
  rintro ⟨i, hi, hall⟩
  by_cases hlt : i < l.length
  · have hc := h l[i]
    simp -implicitDefEqProofs (disch := omega) [go_sem]
    refine .inl (call_data hc (by simp [go_sem, item]) ?_)
    cases hp : p l[i] with
    | true =>
      have hr : first p 0 l = (i : Int) := by
        have := first_at (p := p) (l := l) (n := 0) hlt hp (fun j hj => hall j (by omega) hj)
        rw [this]; congr 1; omega
      simp -implicitDefEqProofs (disch := omega) [go_sem, hr, Try.results136]
    | false =>
      simp -implicitDefEqProofs (disch := omega) [go_sem]
      refine next_ren ⟨i + 1, by omega, fun j hj hji => if e : j = i then by subst e; exact hp else hall j hj (by omega)⟩ (by simp only; omega) [] (rhoL []) ?_
      apply ren_lists <;> simp -implicitDefEqProofs [go_sem]
  have hr : first p 0 l = -1 := first_none fun a ha => by
    obtain ⟨j, hj, rfl⟩ := List.mem_iff_getElem.1 ha
    exact hall j hj (by omega)
  simp -implicitDefEqProofs (disch := omega) [go_sem, hr, Try.results136]
theorem hasSess_pc (l : List Sess) (hl : l.length ≤ 140737488351232) (g : FuncId) (caps : List Data) (p : Sess → Bool) (h : ∀ s, PC Try.prog Γ g (sess s :: caps) (.bool (p s))) : PC Try.prog Γ 97 [.sl 6 (sesss l), .fn g caps] (.bool (decide (0 ≤ first p 0 l))) := by
  refine pc_by mixed Try.func97 rfl (fun args w => Try.call97 args w) ?_
  simp -implicitDefEqProofs (disch := omega) [go_sem]
  refine .inl (call_data (idxSess_pc Γ l hl g caps p h) (by simp [go_sem]) ?_)
  simp -implicitDefEqProofs (disch := omega) [go_sem, Try.f97]
theorem hasLink_pc (l : List Sess) (hl : l.length ≤ 140737488351232) (a : Int) : PC Try.prog Γ 93 [.sl 6 (sesss l), .int .i64 a] (.bool (decide (0 ≤ first (fun s : Sess => decide (s.link = a)) 0 l))) := by
  refine pc_by mixed Try.func93 rfl (fun args w => Try.call93 args w) ?_
  have hc := hasSess_pc Γ l hl _ [.pc [.int .i64 a]] (fun s : Sess => decide (s.link = a)) (fun s => byLink_pc Γ s a)
  simp -implicitDefEqProofs (disch := omega) [go_sem]
  refine .inl (call_bare [0] hc (by constructor) (fun H' hH => ?_) ?_)
  · have h0 := hH 0 (by simp)
    simp -implicitDefEqProofs [go_sem] at h0
    refine frzL_c ((frz_data _ _ _ _).2 rfl) (frzL_c ((frz_fn _ _ _ _ _).2 ⟨_, rfl, frzL_c (frz_ptrL h0 (.inl rfl) ?_) frzL_n⟩) frzL_n)
    exact frzL_c ((frz_data _ _ _ _).2 rfl) frzL_n
  · simp -implicitDefEqProofs (disch := omega) [go_sem, Try.f93]
theorem hasAddr_pc (l : List Sess) (hl : l.length ≤ 140737488351232) (a : Int) : PC Try.prog Γ 59 [.sl 6 (sesss l), .int .u32 a] (.bool (decide (0 ≤ first (fun s : Sess => decide (s.addr = a)) 0 l))) := by
  refine pc_by mixed Try.func59 rfl (fun args w => Try.call59 args w) ?_
  have hc := hasSess_pc Γ l hl _ [.pc [.int .u32 a]] (fun s : Sess => decide (s.addr = a)) (fun s => byAddr_pc Γ s a)
  simp -implicitDefEqProofs (disch := omega) [go_sem]
  refine .inl (call_bare [0] hc (by constructor) (fun H' hH => ?_) ?_)
  · have h0 := hH 0 (by simp)
    simp -implicitDefEqProofs [go_sem] at h0
    refine frzL_c ((frz_data _ _ _ _).2 rfl) (frzL_c ((frz_fn _ _ _ _ _).2 ⟨_, rfl, frzL_c (frz_ptrL h0 (.inl rfl) ?_) frzL_n⟩) frzL_n)
    exact frzL_c ((frz_data _ _ _ _).2 rfl) frzL_n
  · simp -implicitDefEqProofs (disch := omega) [go_sem, Try.f59]
theorem placeOfId_pc (l : List Sess) (hl : l.length ≤ 140737488351232) (a : Int) : PC Try.prog Γ 95 [.sl 6 (sesss l), .int .i64 a] (.int .i64 (first (fun s : Sess => decide (s.id = a)) 0 l)) := by
  refine pc_by mixed Try.func95 rfl (fun args w => Try.call95 args w) ?_
  have hc := idxSess_pc Γ l hl _ [.pc [.int .i64 a]] (fun s : Sess => decide (s.id = a)) (fun s => byId_pc Γ s a)
  simp -implicitDefEqProofs (disch := omega) [go_sem]
  refine .inl (call_bare [0] hc (by constructor) (fun H' hH => ?_) ?_)
  · have h0 := hH 0 (by simp)
    simp -implicitDefEqProofs [go_sem] at h0
    refine frzL_c ((frz_data _ _ _ _).2 rfl) (frzL_c ((frz_fn _ _ _ _ _).2 ⟨_, rfl, frzL_c (frz_ptrL h0 (.inl rfl) ?_) frzL_n⟩) frzL_n)
    exact frzL_c ((frz_data _ _ _ _).2 rfl) frzL_n
  · simp -implicitDefEqProofs (disch := omega) [go_sem, Try.f95]
theorem placeOfUser_pc (l : List Lock) (hl : l.length ≤ 140737488351232) (a : ByteArray) : PC Try.prog Γ 96 [.sl 3 (locks l), .str a] (.int .i64 (first (fun s : Lock => decide (s.user = a)) 0 l)) := by
  refine pc_by mixed Try.func96 rfl (fun args w => Try.call96 args w) ?_
  have hc := idxLock_pc Γ l hl _ [.pc [.str a]] (fun s : Lock => decide (s.user = a)) (fun s => byUser_pc Γ s a)
  simp -implicitDefEqProofs (disch := omega) [go_sem]
  refine .inl (call_bare [0] hc (by constructor) (fun H' hH => ?_) ?_)
  · have h0 := hH 0 (by simp)
    simp -implicitDefEqProofs [go_sem] at h0
    refine frzL_c ((frz_data _ _ _ _).2 rfl) (frzL_c ((frz_fn _ _ _ _ _).2 ⟨_, rfl, frzL_c (frz_ptrL h0 (.inl rfl) ?_) frzL_n⟩) frzL_n)
    exact frzL_c ((frz_data _ _ _ _).2 rfl) frzL_n
  · simp -implicitDefEqProofs (disch := omega) [go_sem, Try.f96]
end Bk
end Go.Proofs.Ytedcnbkhdkchoaa
