/- Books: which are right. (By genX.py.) -/
import Derived.Test.YtedcnbkhdkchoaaBB
import Derived.Test.YtedcnbkhdkchoaaBC
namespace Go.Proofs.Ytedcnbkhdkchoaa
open Go.RowKit
set_option linter.unusedVariables false
set_option linter.unusedSimpArgs false
namespace Bk
structure ItemAt (b : Book) (i : Nat) (h : i < b.items.length) : Prop where
  line : LineOk b i b.items[i]
  ends : last b.items b.items[i].id b.items.length = i → ¬ (0 ≤ ofId b b.items[i].id ↔ b.items[i].kind = 3)
structure SessEnd (b : Book) (s : Sess) : Prop where
  k0 : 0 ≤ last b.items s.id b.items.length
  inn : (b.items.getD (last b.items s.id b.items.length).toNat default).inn = s.inn
  out : (b.items.getD (last b.items s.id b.items.length).toNat default).out = s.out
structure LockAt (b : Book) (i : Nat) (h : i < b.locks.length) : Prop where
  user : nameOk b.locks[i].user
  n0 : 1 ≤ b.locks[i].n
  n1 : b.locks[i].n ≤ 255
  t0 : 0 ≤ b.locks[i].at_
  t1 : b.locks[i].at_ ≤ 1000000000
  f : failed b b.locks[i].user = i
structure RightP (b : Book) : Prop where
  n0 : 0 ≤ b.next
  n1 : b.next ≤ 1000000000
  len : b.items.length + b.opn.length ≤ 60
  ll : b.locks.length ≤ 8
  opens : OpenOk b
  items : ∀ (i : Nat) (h : i < b.items.length), ItemAt b i h
  ends : ∀ (i : Nat) (h : i < b.opn.length), SessEnd b b.opn[i]
  locks : ∀ (i : Nat) (h : i < b.locks.length), LockAt b i h
set_option maxHeartbeats 8000000 in
set_option maxRecDepth 100000 in
theorem right_pc (Γ : Nat → Option (List Data)) (b : Book) (hb : Fits b) {q : Bool} (hq : q = true ↔ RightP b) : PC Try.prog Γ 17 [book b] (.bool q) := by
  refine pc_by mixed Try.func17 rfl (fun args w => Try.call17 args w) ?_
  have no : ¬ RightP b → q = false := fun h => by
    cases q
    · rfl
    · exact absurd (hq.1 rfl) h
  have yes : RightP b → q = true := hq.2
  clear hq
  have hb2 := hb
  obtain ⟨f1, f2, f3, f4, f5⟩ := hb2
  obtain ⟨vo, hvo⟩ : ∃ v : Bool, v = true ↔ OpenOk b := by classical exact ⟨decide (OpenOk b), by simp⟩
  have co := open_pc Γ b hb hvo
  by_cases n0 : 0 ≤ b.next
  rotate_left
  · have hqf : q = false := no fun r => n0 r.n0
    simp -implicitDefEqProofs (disch := omega) [go_sem, book, hqf, Try.results17]
  by_cases n1 : b.next ≤ 1000000000
  rotate_left
  · have hqf : q = false := no fun r => n1 r.n1
    simp -implicitDefEqProofs (disch := omega) [go_sem, book, hqf, Try.results17]
  by_cases len : b.items.length + b.opn.length ≤ 60
  rotate_left
  · have hqf : q = false := no fun r => len r.len
    simp -implicitDefEqProofs (disch := omega) [go_sem, book, hqf, Try.results17]
  by_cases ll : b.locks.length ≤ 8
  rotate_left
  · have hqf : q = false := no fun r => ll r.ll
    simp -implicitDefEqProofs (disch := omega) [go_sem, book, hqf, Try.results17]
  simp -implicitDefEqProofs (disch := omega) [go_sem, book]
  refine .inl (call_data co (by simp [go_sem, book]) ?_)
  cases vo with
  | false =>
    have hqf : q = false := no fun r => by have := hvo.2 r.opens; cases this
    simp -implicitDefEqProofs (disch := omega) [go_sem, hqf, Try.results17]
  | true =>
  have opens := hvo.1 rfl
  clear hvo co
  simp -implicitDefEqProofs (disch := omega) [go_sem]
  refine loop_ren (σ := { i : Nat // i ≤ b.items.length ∧ ∀ (j : Nat) (h : j < b.items.length), j < i → ItemAt b j h }) (fun i => ⟨envL [(1, .ptr 0 0), (4, .data (.int .i64 i.1))], hpL [(0, .blk true [.data (.int .i64 b.next), .data (.sl 6 (sesss b.opn)), .data (.sl 5 (items b.items)), .data (.sl 3 (locks b.locks))])], 1, 0, 182⟩) (fun i => b.items.length - i.1) ⟨0, by omega, fun j h hj => absurd hj (by omega)⟩ [] (rhoL []) ?_ ?_
  · apply ren_lists <;> simp -implicitDefEqProofs [go_sem]
  rintro ⟨i, hi, hall⟩
  by_cases h : i < b.items.length
  · obtain ⟨vl, hvl⟩ : ∃ v : Bool, v = true ↔ LineOk b i b.items[i] := by classical exact ⟨decide (LineOk b i b.items[i]), by simp⟩
    have cl := line_pc Γ b hb i h hvl
    have ca := last_pc Γ b hb b.items[i].id b.items.length (Nat.le_refl _)
    have cf := of_pc Γ b hb b.items[i].id
    simp -implicitDefEqProofs (disch := omega) [go_sem]
    refine .inl (call_data cl (by simp [go_sem, book]) ?_)
    cases vl with
    | false =>
      have hqf : q = false := no fun r => by have := hvl.2 (r.items i h).line; cases this
      simp -implicitDefEqProofs (disch := omega) [go_sem, hqf, Try.results17]
    | true =>
    have hline := hvl.1 rfl
    clear hvl cl
    simp -implicitDefEqProofs (disch := omega) [go_sem]
    refine .inl (call_data ca (by simp [go_sem, book]) ?_)
    by_cases ge : last b.items b.items[i].id b.items.length = i
    · simp -implicitDefEqProofs (disch := omega) [go_sem]
      refine side (by kernel_rfl) ?_
      simp -implicitDefEqProofs (disch := omega) [go_sem]
      refine .inl (call_data cf (by simp [go_sem, book]) ?_)
      by_cases gi : 0 ≤ ofId b b.items[i].id
      · by_cases gk : b.items[i].kind = 3
        · simp -implicitDefEqProofs (disch := omega) [go_sem]
          refine side (by kernel_rfl) ?_
          have hqf : q = false := no fun r => (r.items i h).ends ge (by simp [gi, gk])
          simp -implicitDefEqProofs (disch := omega) [go_sem, hqf, Try.results17]
        · simp -implicitDefEqProofs (disch := omega) [go_sem]
          refine side (by kernel_rfl) ?_
          simp -implicitDefEqProofs (disch := omega) [go_sem]
          refine next_ren ⟨i + 1, by omega, fun j hj hji => ?_⟩ (by simp only; omega) [] (rhoL []) ?_
          · by_cases e : j = i
            · subst e; exact ⟨hline, fun _ => by simp [gi, gk]⟩
            · exact hall j hj (by omega)
          apply ren_lists <;> simp -implicitDefEqProofs [go_sem]
      · by_cases gk : b.items[i].kind = 3
        · simp -implicitDefEqProofs (disch := omega) [go_sem]
          refine side (by kernel_rfl) ?_
          simp -implicitDefEqProofs (disch := omega) [go_sem]
          refine next_ren ⟨i + 1, by omega, fun j hj hji => ?_⟩ (by simp only; omega) [] (rhoL []) ?_
          · by_cases e : j = i
            · subst e; exact ⟨hline, fun _ => by simp [gi, gk]⟩
            · exact hall j hj (by omega)
          apply ren_lists <;> simp -implicitDefEqProofs [go_sem]
        · simp -implicitDefEqProofs (disch := omega) [go_sem]
          refine side (by kernel_rfl) ?_
          have hqf : q = false := no fun r => (r.items i h).ends ge (by simp [gi, gk])
          simp -implicitDefEqProofs (disch := omega) [go_sem, hqf, Try.results17]
    · simp -implicitDefEqProofs (disch := omega) [go_sem]
      refine side (by kernel_rfl) ?_
      simp -implicitDefEqProofs (disch := omega) [go_sem]
      refine .inl (call_data cf (by simp [go_sem, book]) ?_)
      by_cases gi : 0 ≤ ofId b b.items[i].id
      · simp -implicitDefEqProofs (disch := omega) [go_sem]
        refine side (by kernel_rfl) ?_
        simp -implicitDefEqProofs (disch := omega) [go_sem]
        refine next_ren ⟨i + 1, by omega, fun j hj hji => ?_⟩ (by simp only; omega) [] (rhoL []) ?_
        · by_cases e : j = i
          · subst e; exact ⟨hline, fun e => absurd e ge⟩
          · exact hall j hj (by omega)
        apply ren_lists <;> simp -implicitDefEqProofs [go_sem]
      · simp -implicitDefEqProofs (disch := omega) [go_sem]
        refine side (by kernel_rfl) ?_
        simp -implicitDefEqProofs (disch := omega) [go_sem]
        refine next_ren ⟨i + 1, by omega, fun j hj hji => ?_⟩ (by simp only; omega) [] (rhoL []) ?_
        · by_cases e : j = i
          · subst e; exact ⟨hline, fun e => absurd e ge⟩
          · exact hall j hj (by omega)
        apply ren_lists <;> simp -implicitDefEqProofs [go_sem]
  obtain rfl : i = b.items.length := by omega
  have hitems : ∀ (i : Nat) (h : i < b.items.length), ItemAt b i h := fun i h => hall i h h
  simp -implicitDefEqProofs (disch := omega) [go_sem]
  try clear hall h hi
  refine loop_ren (σ := { i : Nat // i ≤ b.opn.length ∧ ∀ (j : Nat) (h : j < b.opn.length), j < i → SessEnd b b.opn[j] }) (fun i => ⟨envL [(1, .ptr 0 0), (8, .data (.int .i64 i.1))], hpL [(0, .blk true [.data (.int .i64 b.next), .data (.sl 6 (sesss b.opn)), .data (.sl 5 (items b.items)), .data (.sl 3 (locks b.locks))])], 1, 0, 182⟩) (fun i => b.opn.length - i.1) ⟨0, by omega, fun j h hj => absurd hj (by omega)⟩ [] (rhoL []) ?_ ?_
  · apply ren_lists <;> simp -implicitDefEqProofs [go_sem]
  rintro ⟨i, hi, hall⟩
  by_cases h : i < b.opn.length
  · have ca := last_pc Γ b hb b.opn[i].id b.items.length (Nat.le_refl _)
    have hlt := last_lt b.items b.opn[i].id b.items.length
    obtain ⟨K, hK⟩ : ∃ K, last b.items b.opn[i].id b.items.length = K := ⟨_, rfl⟩
    rw [hK] at ca hlt
    obtain ⟨l1, l2⟩ := hlt
    simp -implicitDefEqProofs (disch := omega) [go_sem]
    refine .inl (call_data ca (by simp [go_sem, book]) ?_)
    simp -implicitDefEqProofs (disch := omega) [go_sem]
    refine side (by kernel_rfl) ?_
    by_cases g0 : 0 ≤ K
    rotate_left
    · have hqf : q = false := no fun r => g0 (hK ▸ (r.ends i h).k0)
      simp -implicitDefEqProofs (disch := omega) [go_sem, hqf]
      refine side (by kernel_rfl) ?_
      simp -implicitDefEqProofs (disch := omega) [go_sem, hqf, Try.results17]
    have hk : K.toNat < b.items.length := by omega
    have hgd : b.items.getD K.toNat default = b.items[K.toNat] := by rw [List.getD_eq_getElem?_getD, List.getElem?_eq_getElem hk]; rfl
    by_cases g1 : b.items[K.toNat].inn = b.opn[i].inn
    rotate_left
    · have hqf : q = false := no fun r => g1 (by have := (r.ends i h).inn; rw [hK, hgd] at this; exact this)
      simp -implicitDefEqProofs (disch := omega) [go_sem, hqf, g1]
      refine side (by kernel_rfl) ?_
      simp -implicitDefEqProofs (disch := omega) [go_sem, hqf, Try.results17]
    by_cases g2 : b.items[K.toNat].out = b.opn[i].out
    rotate_left
    · have hqf : q = false := no fun r => g2 (by have := (r.ends i h).out; rw [hK, hgd] at this; exact this)
      simp -implicitDefEqProofs (disch := omega) [go_sem, hqf, g1, g2]
      refine side (by kernel_rfl) ?_
      simp -implicitDefEqProofs (disch := omega) [go_sem, hqf, Try.results17]
    simp -implicitDefEqProofs (disch := omega) [go_sem, g1, g2]
    refine side (by kernel_rfl) ?_
    simp -implicitDefEqProofs (disch := omega) [go_sem]
    refine next_ren ⟨i + 1, by omega, fun j hj hji => ?_⟩ (by simp only; omega) [] (rhoL []) ?_
    · by_cases e : j = i
      · subst e; exact ⟨hK ▸ g0, by rw [hK, hgd]; exact g1, by rw [hK, hgd]; exact g2⟩
      · exact hall j hj (by omega)
    apply ren_lists <;> simp -implicitDefEqProofs [go_sem]
  obtain rfl : i = b.opn.length := by omega
  have hends : ∀ (i : Nat) (h : i < b.opn.length), SessEnd b b.opn[i] := fun i h => hall i h h
  simp -implicitDefEqProofs (disch := omega) [go_sem]
  try clear hall h hi
  refine loop_ren (σ := { i : Nat // i ≤ b.locks.length ∧ ∀ (j : Nat) (h : j < b.locks.length), j < i → LockAt b j h }) (fun i => ⟨envL [(1, .ptr 0 0), (10, .data (.int .i64 i.1))], hpL [(0, .blk true [.data (.int .i64 b.next), .data (.sl 6 (sesss b.opn)), .data (.sl 5 (items b.items)), .data (.sl 3 (locks b.locks))])], 1, 0, 182⟩) (fun i => b.locks.length - i.1) ⟨0, by omega, fun j h hj => absurd hj (by omega)⟩ [] (rhoL []) ?_ ?_
  · apply ren_lists <;> simp -implicitDefEqProofs [go_sem]
  rintro ⟨i, hi, hall⟩
  by_cases h : i < b.locks.length
  · have cn := name_pc Γ b.locks[i].user (by have := f5 _ (List.getElem_mem h); omega)
    have cf := failed_pc Γ b hb b.locks[i].user
    simp -implicitDefEqProofs (disch := omega) [go_sem]
    refine .inl (call_data cn (by simp [go_sem]) ?_)
    by_cases k_user : nameOk b.locks[i].user
    rotate_left
    · have hqf : q = false := no fun r => k_user (r.locks i h).user
      simp -implicitDefEqProofs (disch := omega) [go_sem, hqf, k_user, Try.results17]
    by_cases k_n0 : 1 ≤ b.locks[i].n
    rotate_left
    · have hqf : q = false := no fun r => k_n0 (r.locks i h).n0
      simp -implicitDefEqProofs (disch := omega) [go_sem, hqf, k_user, Try.results17]
    by_cases k_n1 : b.locks[i].n ≤ 255
    rotate_left
    · have hqf : q = false := no fun r => k_n1 (r.locks i h).n1
      simp -implicitDefEqProofs (disch := omega) [go_sem, hqf, k_user, Try.results17]
    by_cases k_t0 : 0 ≤ b.locks[i].at_
    rotate_left
    · have hqf : q = false := no fun r => k_t0 (r.locks i h).t0
      simp -implicitDefEqProofs (disch := omega) [go_sem, hqf, k_user, Try.results17]
    by_cases k_t1 : b.locks[i].at_ ≤ 1000000000
    rotate_left
    · have hqf : q = false := no fun r => k_t1 (r.locks i h).t1
      simp -implicitDefEqProofs (disch := omega) [go_sem, hqf, k_user, Try.results17]
    simp -implicitDefEqProofs (disch := omega) [go_sem, k_user]
    refine .inl (call_data cf (by simp [go_sem, book]) ?_)
    by_cases k_f : failed b b.locks[i].user = i
    rotate_left
    · have hqf : q = false := no fun r => k_f (r.locks i h).f
      simp -implicitDefEqProofs (disch := omega) [go_sem, hqf, Try.results17]
    simp -implicitDefEqProofs (disch := omega) [go_sem]
    refine next_ren ⟨i + 1, by omega, fun j hj hji => ?_⟩ (by simp only; omega) [] (rhoL []) ?_
    · by_cases e : j = i
      · subst e; exact ⟨k_user, k_n0, k_n1, k_t0, k_t1, k_f⟩
      · exact hall j hj (by omega)
    apply ren_lists <;> simp -implicitDefEqProofs [go_sem]
  obtain rfl : i = b.locks.length := by omega
  have hqt : q = true := yes ⟨n0, n1, len, ll, opens, hitems, hends, fun i h => hall i h h⟩
  simp -implicitDefEqProofs (disch := omega) [go_sem, hqt, Try.results17]
end Bk
end Go.Proofs.Ytedcnbkhdkchoaa
