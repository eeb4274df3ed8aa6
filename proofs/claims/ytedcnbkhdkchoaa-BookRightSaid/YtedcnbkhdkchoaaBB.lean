/- Books: which are open rightly. (By genB.py.) -/
import Derived.Test.YtedcnbkhdkchoaaBA
namespace Go.Proofs.Ytedcnbkhdkchoaa
open Go.RowKit
set_option linter.unusedVariables false
set_option linter.unusedSimpArgs false
namespace Bk
structure SessOk (b : Book) (i : Nat) (s : Sess) : Prop where
  id0 : 0 ≤ s.id
  id1 : s.id < b.next
  up : 0 < i → (b.opn.getD (i - 1) default).id < s.id
  l0 : 0 ≤ s.link
  l1 : s.link ≤ 7
  user : nameOk s.user
  addr : poolOk s.addr
def SessAt (b : Book) (i : Nat) (h : i < b.opn.length) : Prop := SessOk b i b.opn[i] ∧ ∀ (k : Nat) (hk : k < i), b.opn[k].link ≠ b.opn[i].link ∧ b.opn[k].addr ≠ b.opn[i].addr
def OpenOk (b : Book) : Prop := ∀ (i : Nat) (h : i < b.opn.length), SessAt b i h
set_option maxHeartbeats 8000000 in
set_option maxRecDepth 100000 in
theorem open_pc (Γ : Nat → Option (List Data)) (b : Book) (hb : Fits b) {q : Bool} (hq : q = true ↔ OpenOk b) : PC Try.prog Γ 45 [book b] (.bool q) := by
  refine pc_by mixed Try.func45 rfl (fun args w => Try.call45 args w) ?_
  have ho := hb.o
  have no : ¬ OpenOk b → q = false := fun h => by
    cases q
    · rfl
    · exact absurd (hq.1 rfl) h
  simp -implicitDefEqProofs (disch := omega) [go_sem, book]
  refine loop_ren (σ := { i : Nat // i ≤ b.opn.length ∧ ∀ (j : Nat) (h : j < b.opn.length), j < i → SessAt b j h }) (fun i => ⟨envL [(1, .ptr 0 0), (3, .data (.int .i64 i.1))], hpL [(0, .blk true [.data (.int .i64 b.next), .data (.sl 6 (sesss b.opn)), .data (.sl 5 (items b.items)), .data (.sl 3 (locks b.locks))])], 1, 0, 95⟩) (fun i => b.opn.length - i.1) ⟨0, by omega, by omega⟩ [] (rhoL []) ?_ ?_
  · apply ren_lists <;> simp -implicitDefEqProofs [go_sem]
  · rintro ⟨i, hi, hall⟩
    by_cases h : i < b.opn.length
    rotate_left
    · have hyes : q = true := hq.2 fun i hi2 => hall i hi2 (by omega)
      simp -implicitDefEqProofs (disch := omega) [go_sem, hyes, Try.results45]
    have hn := name_pc Γ b.opn[i].user (by have := hb.ou _ (List.getElem_mem h); omega)
    have hp := pool_pc Γ b.opn[i].addr
    have hno : ¬ SessOk b i b.opn[i] → q = false := fun hk => no fun ha => hk (ha i h).1
    have hgd : 0 < i → b.opn.getD (i - 1) default = b.opn[i - 1] := fun h0 => by rw [List.getD_eq_getElem?_getD, List.getElem?_eq_getElem (by omega)]; rfl
    have ei : ((i : Int) - 1).toNat = i - 1 := by omega
    simp -implicitDefEqProofs (disch := omega) [go_sem]
    refine .inl (call_data hn (by simp [go_sem]) ?_)
    simp -implicitDefEqProofs (disch := omega) [go_sem]
    refine .inl (call_data hp (by simp [go_sem]) ?_)
    simp -implicitDefEqProofs (disch := omega) [go_sem]
    refine ifW_ndec (fun g1 => ?_) (fun g1 => ?_)
    rotate_left
    · have hqf : q = false := hno fun hk => absurd hk.id0 (by omega)
      simp -implicitDefEqProofs (disch := omega) [go_sem, hqf]
      refine side (by kernel_rfl) ?_
      simp -implicitDefEqProofs (disch := omega) [go_sem, hqf, Try.results45]
    simp -implicitDefEqProofs (disch := omega) [go_sem]
    refine ifW_ndec (fun g2 => ?_) (fun g2 => ?_)
    rotate_left
    · have hqf : q = false := hno fun hk => absurd hk.id1 (by omega)
      simp -implicitDefEqProofs (disch := omega) [go_sem, hqf]
      refine side (by kernel_rfl) ?_
      simp -implicitDefEqProofs (disch := omega) [go_sem, hqf, Try.results45]
    simp -implicitDefEqProofs (disch := omega) [go_sem]
    refine ifW_dec (fun g0 => ?_) (fun g0 => ?_)
    · have g0' : 0 < i := by omega
      have him : i - 1 < b.opn.length := by omega
      simp -implicitDefEqProofs (disch := omega) [go_sem, ei]
      refine ifW_ndec (fun g3 => ?_) (fun g3 => ?_)
      rotate_left
      · have hqf : q = false := hno fun hk => by have := hk.up g0'; rw [hgd g0'] at this; omega
        simp -implicitDefEqProofs (disch := omega) [go_sem, hqf]
        refine side (by kernel_rfl) ?_
        simp -implicitDefEqProofs (disch := omega) [go_sem, hqf, Try.results45]
      simp -implicitDefEqProofs (disch := omega) [go_sem]
      refine ifW_ndec (fun g4 => ?_) (fun g4 => ?_)
      rotate_left
      · have hqf : q = false := hno fun hk => absurd hk.l0 (by omega)
        simp -implicitDefEqProofs (disch := omega) [go_sem, hqf]
        refine side (by kernel_rfl) ?_
        simp -implicitDefEqProofs (disch := omega) [go_sem, hqf, Try.results45]
      simp -implicitDefEqProofs (disch := omega) [go_sem]
      refine ifW_ndec (fun g5 => ?_) (fun g5 => ?_)
      rotate_left
      · have hqf : q = false := hno fun hk => absurd hk.l1 (by omega)
        simp -implicitDefEqProofs (disch := omega) [go_sem, hqf]
        refine side (by kernel_rfl) ?_
        simp -implicitDefEqProofs (disch := omega) [go_sem, hqf, Try.results45]
      by_cases g6 : nameOk b.opn[i].user
      rotate_left
      · have hqf : q = false := hno fun hk => g6 hk.user
        simp -implicitDefEqProofs (disch := omega) [go_sem, hqf, g6]
        refine side (by kernel_rfl) ?_
        simp -implicitDefEqProofs (disch := omega) [go_sem, hqf, g6, Try.results45]
      by_cases g7 : poolOk b.opn[i].addr
      rotate_left
      · have hqf : q = false := hno fun hk => g7 hk.addr
        simp -implicitDefEqProofs (disch := omega) [go_sem, hqf, g6, g7]
        refine side (by kernel_rfl) ?_
        simp -implicitDefEqProofs (disch := omega) [go_sem, hqf, g6, g7, Try.results45]
      have hsok : SessOk b i b.opn[i] := ⟨by omega, by omega, fun h0 => by rw [hgd h0]; omega, by omega, by omega, g6, g7⟩
      simp -implicitDefEqProofs (disch := omega) [go_sem, g6, g7]
      refine side (by kernel_rfl) ?_
      simp -implicitDefEqProofs (disch := omega) [go_sem]
      refine loop_ren (σ := { k : Nat // k ≤ i ∧ ∀ (j : Nat) (hj : j < k) (hk : k ≤ i), b.opn[j].link ≠ b.opn[i].link ∧ b.opn[j].addr ≠ b.opn[i].addr }) (fun k => ⟨envL [(1, .ptr 0 0), (3, .data (.int .i64 i)), (4, .ptr 1 0), (7, .data (.int .i64 k.1))], hpL [(0, .blk true [.data (.int .i64 b.next), .data (.sl 6 (sesss b.opn)), .data (.sl 5 (items b.items)), .data (.sl 3 (locks b.locks))]), (1, .blk true [.data (.int .i64 b.opn[i].id), .data (.int .i64 b.opn[i].link), .data (.int .u32 b.opn[i].addr), .data (.str b.opn[i].user), .data (.int .u64 b.opn[i].inn), .data (.int .u64 b.opn[i].out)])], 2, 0, 95⟩) (fun k => i - k.1) ⟨0, by omega, by omega⟩ [] (rhoL [(1, some 11)]) ?_ ?_
      · apply ren_lists <;> simp -implicitDefEqProofs [go_sem]
      rintro ⟨k, hk, hin⟩
      by_cases hki : k < i
      rotate_left
      · have hki2 : k = i := by omega
        subst hki2
        simp -implicitDefEqProofs (disch := omega) [go_sem]
        refine next_ren ⟨k + 1, by omega, fun j hj hji => ?_⟩ (by simp only; omega) [] (rhoL []) ?_
        · by_cases e : j = k
          · subst e; exact ⟨hsok, fun m hm => hin m hm (Nat.le_refl _)⟩
          · exact hall j hj (by omega)
        apply ren_lists <;> simp -implicitDefEqProofs [go_sem]
      have hkl : k < b.opn.length := by omega
      simp -implicitDefEqProofs (disch := omega) [go_sem]
      refine ifW_ndec (fun g8 => ?_) (fun g8 => ?_)
      rotate_left
      · have hqf : q = false := no fun ha => ((ha i h).2 k hki).1 g8
        simp -implicitDefEqProofs (disch := omega) [go_sem, hqf, g8]
        refine side (by kernel_rfl) ?_
        simp -implicitDefEqProofs (disch := omega) [go_sem, hqf, g8, Try.results45]
      simp -implicitDefEqProofs (disch := omega) [go_sem, g8]
      refine side (by kernel_rfl) ?_
      simp -implicitDefEqProofs (disch := omega) [go_sem, g8]
      refine ifW_dec (fun g9 => ?_) (fun g9 => ?_)
      · have hqf : q = false := no fun ha => ((ha i h).2 k hki).2 g9
        simp -implicitDefEqProofs (disch := omega) [go_sem, hqf, Try.results45]
      simp -implicitDefEqProofs (disch := omega) [go_sem]
      refine next_ren ⟨k + 1, by omega, fun j hj hk2 => ?_⟩ (by simp only; omega) [] (rhoL []) ?_
      · by_cases e : j = k
        · subst e; exact ⟨g8, g9⟩
        · exact hin j (by omega) (by omega)
      apply ren_lists <;> simp -implicitDefEqProofs [go_sem]
    · simp -implicitDefEqProofs (disch := omega) [go_sem]
      refine ifW_ndec (fun g4 => ?_) (fun g4 => ?_)
      rotate_left
      · have hqf : q = false := hno fun hk => absurd hk.l0 (by omega)
        simp -implicitDefEqProofs (disch := omega) [go_sem, hqf]
        refine side (by kernel_rfl) ?_
        simp -implicitDefEqProofs (disch := omega) [go_sem, hqf, Try.results45]
      simp -implicitDefEqProofs (disch := omega) [go_sem]
      refine ifW_ndec (fun g5 => ?_) (fun g5 => ?_)
      rotate_left
      · have hqf : q = false := hno fun hk => absurd hk.l1 (by omega)
        simp -implicitDefEqProofs (disch := omega) [go_sem, hqf]
        refine side (by kernel_rfl) ?_
        simp -implicitDefEqProofs (disch := omega) [go_sem, hqf, Try.results45]
      by_cases g6 : nameOk b.opn[i].user
      rotate_left
      · have hqf : q = false := hno fun hk => g6 hk.user
        simp -implicitDefEqProofs (disch := omega) [go_sem, hqf, g6]
        refine side (by kernel_rfl) ?_
        simp -implicitDefEqProofs (disch := omega) [go_sem, hqf, g6, Try.results45]
      by_cases g7 : poolOk b.opn[i].addr
      rotate_left
      · have hqf : q = false := hno fun hk => g7 hk.addr
        simp -implicitDefEqProofs (disch := omega) [go_sem, hqf, g6, g7]
        refine side (by kernel_rfl) ?_
        simp -implicitDefEqProofs (disch := omega) [go_sem, hqf, g6, g7, Try.results45]
      have hsok : SessOk b i b.opn[i] := ⟨by omega, by omega, fun h0 => absurd h0 (by omega), by omega, by omega, g6, g7⟩
      simp -implicitDefEqProofs (disch := omega) [go_sem, g6, g7]
      refine side (by kernel_rfl) ?_
      simp -implicitDefEqProofs (disch := omega) [go_sem]
      refine loop_ren (σ := { k : Nat // k ≤ i ∧ ∀ (j : Nat) (hj : j < k) (hk : k ≤ i), b.opn[j].link ≠ b.opn[i].link ∧ b.opn[j].addr ≠ b.opn[i].addr }) (fun k => ⟨envL [(1, .ptr 0 0), (3, .data (.int .i64 i)), (4, .ptr 1 0), (7, .data (.int .i64 k.1))], hpL [(0, .blk true [.data (.int .i64 b.next), .data (.sl 6 (sesss b.opn)), .data (.sl 5 (items b.items)), .data (.sl 3 (locks b.locks))]), (1, .blk true [.data (.int .i64 b.opn[i].id), .data (.int .i64 b.opn[i].link), .data (.int .u32 b.opn[i].addr), .data (.str b.opn[i].user), .data (.int .u64 b.opn[i].inn), .data (.int .u64 b.opn[i].out)])], 2, 0, 95⟩) (fun k => i - k.1) ⟨0, by omega, by omega⟩ [] (rhoL [(1, some 11)]) ?_ ?_
      · apply ren_lists <;> simp -implicitDefEqProofs [go_sem]
      rintro ⟨k, hk, hin⟩
      by_cases hki : k < i
      rotate_left
      · have hki2 : k = i := by omega
        subst hki2
        simp -implicitDefEqProofs (disch := omega) [go_sem]
        refine next_ren ⟨k + 1, by omega, fun j hj hji => ?_⟩ (by simp only; omega) [] (rhoL []) ?_
        · by_cases e : j = k
          · subst e; exact ⟨hsok, fun m hm => hin m hm (Nat.le_refl _)⟩
          · exact hall j hj (by omega)
        apply ren_lists <;> simp -implicitDefEqProofs [go_sem]
      exact absurd hki (by omega)
end Bk
end Go.Proofs.Ytedcnbkhdkchoaa
