/- Books: the program's own small steps (beginning, counting, stopping, failing, passing, trimming) -/
import Derived.Test.YtedcnbkhdkchoaaBJ
import Derived.Test.YtedcnbkhdkchoaaYE
import Derived.Test.YtedcnbkhdkchoaaBE
namespace Go.Proofs.Ytedcnbkhdkchoaa
open Go.RowKit
set_option linter.unusedVariables false
set_option linter.unusedSimpArgs false
set_option maxRecDepth 100000
namespace Bk
section
variable (Γ : Nat → Option (List Data))
theorem cloneSess_oc (l : List Sess) (hl : l.length ≤ 1000000) : OC Try.prog Γ 83 [.sl 6 (sesss l)] (.ref 0 0 l.length 6) [(0, .blk true ((flat (sesss l)).map .data))] 1 := by
  refine oc_by mixed Try.func83 rfl (fun args w => Try.call83 args w) ?_
  simp -implicitDefEqProofs (disch := omega) [go_sem]
  refine fun q hq => ?_
  cases q
  · simp -implicitDefEqProofs (disch := omega) [go_sem, Try.f83]
    refine own_of [] [(0, some 5)] ?_
    apply ren_lists <;> simp -implicitDefEqProofs [go_sem]
  · have h0 : l = [] := by simpa [sesss] using hq rfl
    subst h0
    simp -implicitDefEqProofs (disch := omega) [go_sem, Try.f83]
    refine own_of [] [(0, none)] ?_
    apply ren_lists <;> simp -implicitDefEqProofs [go_sem, sesss, flat]
theorem cloneItem_oc (l : List Item) (hl : l.length ≤ 1000000) : OC Try.prog Γ 84 [.sl 5 (items l)] (.ref 0 0 l.length 5) [(0, .blk true ((flat (items l)).map .data))] 1 := by
  refine oc_by mixed Try.func84 rfl (fun args w => Try.call84 args w) ?_
  simp -implicitDefEqProofs (disch := omega) [go_sem]
  refine fun q hq => ?_
  cases q
  · simp -implicitDefEqProofs (disch := omega) [go_sem, Try.f84]
    refine own_of [] [(0, some 5)] ?_
    apply ren_lists <;> simp -implicitDefEqProofs [go_sem]
  · have h0 : l = [] := by simpa [items] using hq rfl
    subst h0
    simp -implicitDefEqProofs (disch := omega) [go_sem, Try.f84]
    refine own_of [] [(0, none)] ?_
    apply ren_lists <;> simp -implicitDefEqProofs [go_sem, items, flat]
theorem cloneLock_oc (l : List Lock) (hl : l.length ≤ 1000000) : OC Try.prog Γ 85 [.sl 3 (locks l)] (.ref 0 0 l.length 3) [(0, .blk true ((flat (locks l)).map .data))] 1 := by
  refine oc_by mixed Try.func85 rfl (fun args w => Try.call85 args w) ?_
  simp -implicitDefEqProofs (disch := omega) [go_sem]
  refine fun q hq => ?_
  cases q
  · simp -implicitDefEqProofs (disch := omega) [go_sem, Try.f85]
    refine own_of [] [(0, some 5)] ?_
    apply ren_lists <;> simp -implicitDefEqProofs [go_sem]
  · have h0 : l = [] := by simpa [locks] using hq rfl
    subst h0
    simp -implicitDefEqProofs (disch := omega) [go_sem, Try.f85]
    refine own_of [] [(0, none)] ?_
    apply ren_lists <;> simp -implicitDefEqProofs [go_sem, locks, flat]
def Short (b : Book) : Prop := b.opn.length ≤ 1000000 ∧ b.items.length ≤ 1000000 ∧ b.locks.length ≤ 1000000
/-- A book over rows of its own. -/
def bookD (b : Book) (i j k : Nat) : D := .agg [.data (.int .i64 b.next), .ref i 0 b.opn.length 6, .ref j 0 b.items.length 5, .ref k 0 b.locks.length 3]
def sessB (l : List Sess) : Blk := .blk true ((flat (sesss l)).map .data)
def itemB (l : List Item) : Blk := .blk true ((flat (items l)).map .data)
def lockB (l : List Lock) : Blk := .blk true ((flat (locks l)).map .data)
set_option maxHeartbeats 1000000 in
theorem copied_oc (b : Book) (hs : Short b) : OC Try.prog Γ 49 [book b] (bookD b 0 1 2) [(0, sessB b.opn), (1, itemB b.items), (2, lockB b.locks)] 3 := by
  refine oc_by mixed Try.func49 rfl (fun args w => Try.call49 args w) ?_
  obtain ⟨s1, s2, s3⟩ := hs
  simp -implicitDefEqProofs (disch := omega) [go_sem, book]
  refine .inr (eff_own1 (cloneSess_oc Γ b.opn s1) (by simp [go_sem]) ?_)
  simp -implicitDefEqProofs (disch := omega) [go_sem]
  refine .inr (eff_own1 (cloneItem_oc Γ b.items s2) (by simp [go_sem]) ?_)
  simp -implicitDefEqProofs (disch := omega) [go_sem]
  refine .inr (eff_own1 (cloneLock_oc Γ b.locks s3) (by simp [go_sem]) ?_)
  simp -implicitDefEqProofs (disch := omega) [go_sem]
  refine side (by kernel_rfl) ?_
  simp -implicitDefEqProofs (disch := omega) [go_sem, Try.f49]
  refine own_of [] [(0, some 6), (1, some 9), (2, some 12)] ?_
  apply ren_lists <;> simp -implicitDefEqProofs [go_sem, bookD, sessB, itemB, lockB]
  exact ren_aggL rfl (by simp -implicitDefEqProofs [go_sem])
end
section
variable (Γ : Nat → Option (List Data))
theorem hasRoom_pc (b : Book) (hs : Short b) (n : Int) (hn : 0 ≤ n ∧ n ≤ 1000000) : PC Try.prog Γ 119 [.pc [.int .i64 b.next, .sl 6 (sesss b.opn), .sl 5 (items b.items)], .int .i64 n] (.bool (decide ((b.items.length : Int) + b.opn.length + n ≤ 60))) := by
  refine pc_by mixed Try.func119 rfl (fun args w => Try.call119 args w) ?_
  obtain ⟨s1, s2, s3⟩ := hs
  simp -implicitDefEqProofs (disch := omega) [go_sem]
  refine side (by kernel_rfl) ?_
  simp -implicitDefEqProofs (disch := omega) [go_sem, Try.f119]
def opData (o : Op) : List Data := [.int .i64 o.kind, .int .i64 o.id, .int .i64 o.link, .int .u32 o.addr, .str o.user, .int .u64 o.inn, .int .u64 o.out, .int .i64 o.cause, .int .i64 o.at_]
/-- What is done, and the book to which it is done, as cells. -/
def workData (b : Book) (o : Op) : List Data := [.int .i64 b.next, .sl 6 (sesss b.opn), .sl 5 (items b.items), .sl 3 (locks b.locks), .int .i64 o.kind, .int .i64 o.id, .int .i64 o.link, .int .u32 o.addr, .str o.user, .int .u64 o.inn, .int .u64 o.out, .int .i64 o.cause, .int .i64 o.at_]
def countAt (b : Book) (o : Op) (k : Int) : Int × Int :=
  if k < 0 then (0, 5)
  else if o.inn < (b.opn.getD k.toNat default).inn ∨ o.out < (b.opn.getD k.toNat default).out then (0, 7)
  else (k, 0)
set_option maxHeartbeats 1000000 in
set_option maxRecDepth 100000 in
theorem counted2_pc (b : Book) (hs : Short b) (o : Op) : PC Try.prog Γ 120 [.pc (workData b o)] (.tup [.int .i64 (countAt b o (ofId b o.id)).1, .int .i64 (countAt b o (ofId b o.id)).2]) := by
  refine pc_by mixed Try.func120 rfl (fun args w => Try.call120 args w) ?_
  obtain ⟨s1, s2, s3⟩ := hs
  have hk := placeOfId_pc Γ b.opn (by omega) o.id
  have hrg := first_range (fun s : Sess => decide (s.id = o.id)) b.opn 0
  change PC _ _ _ _ (.int .i64 (ofId b o.id)) at hk
  change ofId b o.id = -1 ∨ _ ≤ ofId b o.id ∧ ofId b o.id < _ at hrg
  generalize ofId b o.id = k at *
  simp -implicitDefEqProofs (disch := omega) [go_sem, workData]
  refine .inl (call_data hk (by simp [go_sem]) ?_)
  simp -implicitDefEqProofs (disch := omega) [go_sem]
  refine side (by kernel_rfl) ?_
  by_cases g1 : k < 0
  · have hr : countAt b o k = (0, 5) := by unfold countAt; rw [if_pos g1]
    simp -implicitDefEqProofs (disch := omega) [go_sem, hr, Try.f120]
  obtain ⟨n, rfl⟩ : ∃ n : Nat, k = n := ⟨k.toNat, by omega⟩
  have hn : n < b.opn.length := by omega
  have hgd : b.opn.getD ((n : Int)).toNat default = b.opn[n] := by rw [Int.toNat_natCast, List.getD_eq_getElem?_getD, List.getElem?_eq_getElem hn]; rfl
  by_cases g2 : o.inn < b.opn[n].inn
  · have hr : countAt b o n = (0, 7) := by unfold countAt; rw [if_neg g1, hgd, if_pos (.inl g2)]
    simp -implicitDefEqProofs (disch := omega) [go_sem]
    refine side (by kernel_rfl) ?_
    simp -implicitDefEqProofs (disch := omega) [go_sem, hr, Try.f120]
  by_cases g3 : o.out < b.opn[n].out
  · have hr : countAt b o n = (0, 7) := by unfold countAt; rw [if_neg g1, hgd, if_pos (.inr g3)]
    simp -implicitDefEqProofs (disch := omega) [go_sem]
    refine side (by kernel_rfl) ?_
    simp -implicitDefEqProofs (disch := omega) [go_sem, hr, Try.f120]
  have hr : countAt b o n = ((n : Int), 0) := by unfold countAt; rw [if_neg g1, hgd, if_neg (by omega)]
  simp -implicitDefEqProofs (disch := omega) [go_sem]
  refine side (by kernel_rfl) ?_
  simp -implicitDefEqProofs (disch := omega) [go_sem, hr, Try.f120]
end
section
variable (Γ : Nat → Option (List Data))
def opsMap : Blk := .obj (.mp [.int .i64 1, .int .i64 2, .int .i64 3, .int .i64 4, .int .i64 5, .int .i64 6] [.bnd 86 (.ptr 10 0), .bnd 87 (.ptr 10 0), .bnd 88 (.ptr 10 0), .bnd 89 (.ptr 10 0), .bnd 90 (.ptr 10 0), .bnd 91 (.ptr 10 0)])
/-- What Apply has in memory when it does what is to be done. -/
def appL (b : Book) (o : Op) : List (Nat × Blk) := [(15, opsMap),
  (10, .blk true [.data (.int .i64 b.next), .ref 5 0 b.opn.length 6, .ref 6 0 b.items.length 5, .ref 7 0 b.locks.length 3, .data (.int .i64 o.kind), .data (.int .i64 o.id), .data (.int .i64 o.link), .data (.int .u32 o.addr), .data (.str o.user), .data (.int .u64 o.inn), .data (.int .u64 o.out), .data (.int .i64 o.cause), .data (.int .i64 o.at_)]),
  (7, .blk true ((flat (locks b.locks)).map .data)), (6, .blk true ((flat (items b.items)).map .data)), (5, .blk true ((flat (sesss b.opn)).map .data)),
  (2, .blk true [.data (.int .i64 0), .emp 0, .emp 0, .emp 0]),
  (1, .blk true [.data (.int .i64 o.kind), .data (.int .i64 o.id), .data (.int .i64 o.link), .data (.int .u32 o.addr), .data (.str o.user), .data (.int .u64 o.inn), .data (.int .u64 o.out), .data (.int .i64 o.cause), .data (.int .i64 o.at_)]),
  (0, .blk true [.data (.int .i64 b.next), .data (.sl 6 (sesss b.opn)), .data (.sl 5 (items b.items)), .data (.sl 3 (locks b.locks))])]
/-- And behind it. -/
def appM (c b : Book) (o : Op) : List (Nat × Blk) := [
  (10, .blk true [.data (.int .i64 c.next), .data (.sl 6 (sesss c.opn)), .data (.sl 5 (items c.items)), .data (.sl 3 (locks c.locks)), .data (.int .i64 o.kind), .data (.int .i64 o.id), .data (.int .i64 o.link), .data (.int .u32 o.addr), .data (.str o.user), .data (.int .u64 o.inn), .data (.int .u64 o.out), .data (.int .i64 o.cause), .data (.int .i64 o.at_)]),
  (2, .blk true [.data (.int .i64 0), .emp 0, .emp 0, .emp 0]),
  (1, .blk true [.data (.int .i64 o.kind), .data (.int .i64 o.id), .data (.int .i64 o.link), .data (.int .u32 o.addr), .data (.str o.user), .data (.int .u64 o.inn), .data (.int .u64 o.out), .data (.int .i64 o.cause), .data (.int .i64 o.at_)]),
  (0, .blk true [.data (.int .i64 b.next), .data (.sl 6 (sesss b.opn)), .data (.sl 5 (items b.items)), .data (.sl 3 (locks b.locks))])]
/-- It ends with this. -/
def Ends (c b : Book) (o : Op) (e : Int) (d0 : D) (H1 : Nat → Blk) (nx1 : Nat) : Prop := ∃ F, WeakR F (rhoL []) ⟨envL [(0, d0)], H1, nx1, 83, 1⟩ ⟨envL [(0, .data (.int .i64 e))], hpL (appM c b o), 83, 83, 1⟩
@[congr] theorem Ends_congr {n0 : Nat} (tk : tick = n0) (c b : Book) (o : Op) (e : Int) {d0 d1 : D} (hd : d0 = d1) {H1 H2 : Nat → Blk} (hH : H1 = H2) {nx1 nx2 : Nat} (hn : nx1 = nx2) : Ends c b o e d0 H1 nx1 = Ends c b o e d1 H2 nx2 := by rw [hd, hH, hn]
/-- The rows of a book that nobody writes any more. -/
theorem ends_of {c b : Book} {o : Op} {e : Int} {H1 : Nat → Blk} {nx1 i j k : Nat} (hn : 83 ≤ nx1)
    (h10 : H1 10 = .blk true [.data (.int .i64 c.next), .ref i 0 c.opn.length 6, .ref j 0 c.items.length 5, .ref k 0 c.locks.length 3, .data (.int .i64 o.kind), .data (.int .i64 o.id), .data (.int .i64 o.link), .data (.int .u32 o.addr), .data (.str o.user), .data (.int .u64 o.inn), .data (.int .u64 o.out), .data (.int .i64 o.cause), .data (.int .i64 o.at_)])
    (hi : ∃ t, H1 i = .blk true ((flat (sesss c.opn)).map .data ++ t)) (hj : ∃ t, H1 j = .blk true ((flat (items c.items)).map .data ++ t)) (hk : ∃ t, H1 k = .blk true ((flat (locks c.locks)).map .data ++ t))
    (h2 : H1 2 = .blk true [.data (.int .i64 0), .emp 0, .emp 0, .emp 0])
    (h1 : H1 1 = .blk true [.data (.int .i64 o.kind), .data (.int .i64 o.id), .data (.int .i64 o.link), .data (.int .u32 o.addr), .data (.str o.user), .data (.int .u64 o.inn), .data (.int .u64 o.out), .data (.int .i64 o.cause), .data (.int .i64 o.at_)])
    (h0 : H1 0 = .blk true [.data (.int .i64 b.next), .data (.sl 6 (sesss b.opn)), .data (.sl 5 (items b.items)), .data (.sl 3 (locks b.locks))])
    (hne : (i ≠ 0 ∧ i ≠ 1 ∧ i ≠ 2 ∧ i ≠ 10) ∧ (j ≠ 0 ∧ j ≠ 1 ∧ j ≠ 2 ∧ j ≠ 10) ∧ (k ≠ 0 ∧ k ≠ 1 ∧ k ≠ 2 ∧ k ≠ 10)) : Ends c b o e (.data (.int .i64 e)) H1 nx1 := by
  obtain ⟨ti, hi⟩ := hi
  obtain ⟨tj, hj⟩ := hj
  obtain ⟨tk, hk⟩ := hk
  obtain ⟨⟨i0, i1, i2, i10⟩, ⟨j0, j1, j2, j10⟩, k0, k1, k2, k10⟩ := hne
  have fi : fzH H1 [i, j, k] i = .blk false ((flat (sesss c.opn)).map .data ++ ti) := by simp [fzH, hi, fz]
  have fj : fzH H1 [i, j, k] j = .blk false ((flat (items c.items)).map .data ++ tj) := by simp [fzH, hj, fz]
  have fk : fzH H1 [i, j, k] k = .blk false ((flat (locks c.locks)).map .data ++ tk) := by simp [fzH, hk, fz]
  have frz : ∀ (g es : Nat) (l : List Data) (t : List D), fzH H1 [i, j, k] g = .blk false ((flat l).map .data ++ t) → (∀ x ∈ l, x.cells.length = es) → Frz false (fzH H1 [i, j, k]) (.ref g 0 l.length es) (.sl es l) := fun g es l t hg hes => by
    refine .ref g 0 l.length es false _ l (fun q => .data ((flat l).getD q .nilp)) hg (.inr rfl) rfl hes (by simp [flat_length hes]) (fun q x hx => ?_) (fun q x hx => ?_)
    · have hq := (List.getElem?_eq_some_iff.1 hx).1
      rw [Nat.zero_add, List.getElem?_append_left (by simpa using hq)]
      simp [hx]
    · have : (flat l).getD q .nilp = x := by simp [hx]
      rw [this]; exact .data x
  have r1 : Ren 83 (rhoL []) (fzH H1 [i, j, k]) (.data (.sl 6 (sesss c.opn))) (.ref i 0 c.opn.length 6) := .frz _ _ (by have := frz i 6 (sesss c.opn) ti fi (sesss_cells _); rwa [sesss_length] at this)
  have r2 : Ren 83 (rhoL []) (fzH H1 [i, j, k]) (.data (.sl 5 (items c.items))) (.ref j 0 c.items.length 5) := .frz _ _ (by have := frz j 5 (items c.items) tj fj (items_cells _); rwa [items_length] at this)
  have r3 : Ren 83 (rhoL []) (fzH H1 [i, j, k]) (.data (.sl 3 (locks c.locks))) (.ref k 0 c.locks.length 3) := .frz _ _ (by have := frz k 3 (locks c.locks) tk fk (locks_cells _); rwa [locks_length] at this)
  have g10 : fzH H1 [i, j, k] 10 = H1 10 := by simp [fzH, Ne.symm i10, Ne.symm j10, Ne.symm k10]
  have g2 : fzH H1 [i, j, k] 2 = H1 2 := by simp [fzH, Ne.symm i2, Ne.symm j2, Ne.symm k2]
  have g1 : fzH H1 [i, j, k] 1 = H1 1 := by simp [fzH, Ne.symm i1, Ne.symm j1, Ne.symm k1]
  have g0 : fzH H1 [i, j, k] 0 = H1 0 := by simp [fzH, Ne.symm i0, Ne.symm j0, Ne.symm k0]
  refine ⟨[i, j, k], ren_lists [] _ _ 83 (fun p hp => ?_) (fun p hp => ?_) (by simp [appM, rhoL]) (by omega) (by simp)⟩
  · simp only [List.mem_singleton] at hp
    subst hp
    simp [envL, go_sem]
  · simp only [appM, List.mem_cons, List.not_mem_nil, or_false] at hp
    rcases hp with rfl | rfl | rfl | rfl
    · refine ⟨by omega, ?_⟩
      simp only [rhoL_nil, renO_some, g10, h10, renK_blk]
      refine ⟨trivial, ?_⟩
      simp -implicitDefEqProofs [go_sem, r1, r2, r3]
    · refine ⟨by omega, ?_⟩
      simp only [rhoL_nil, renO_some, g2, h2, renK_blk]
      refine ⟨trivial, ?_⟩
      simp -implicitDefEqProofs [go_sem]
    · refine ⟨by omega, ?_⟩
      simp only [rhoL_nil, renO_some, g1, h1, renK_blk]
      refine ⟨trivial, ?_⟩
      simp -implicitDefEqProofs [go_sem]
    · refine ⟨by omega, ?_⟩
      simp only [rhoL_nil, renO_some, g0, h0, renK_blk]
      refine ⟨trivial, ?_⟩
      simp -implicitDefEqProofs [go_sem]
end
section
variable (Γ : Nat → Option (List Data))
theorem item_one (x : Item) : flat (items [x]) = [.int .i64 x.kind, .int .i64 x.id, .int .u64 x.inn, .int .u64 x.out, .int .i64 x.cause] := rfl
theorem lock_one (x : Lock) : flat (locks [x]) = [.str x.user, .int .i64 x.n, .int .i64 x.at_] := rfl
theorem busy_iff (b : Book) (o : Op) : Busy b o ↔ 0 ≤ first (fun s : Sess => decide (s.link = o.link)) 0 b.opn ∨ 0 ≤ first (fun s : Sess => decide (s.addr = o.addr)) 0 b.opn := by
  have some : ∀ (p : Sess → Bool), 0 ≤ first p 0 b.opn ↔ ∃ (i : Nat) (h : i < b.opn.length), p b.opn[i] = true := fun p => by
    constructor
    · intro h
      apply Classical.byContradiction
      intro hn
      have : first p 0 b.opn = -1 := first_none fun a ha => by
        obtain ⟨j, hj, rfl⟩ := List.mem_iff_getElem.1 ha
        cases hp : p b.opn[j] with
        | false => rfl
        | true => exact absurd ⟨j, hj, hp⟩ hn
      omega
    · rintro ⟨i, hi, hp⟩
      rcases first_range p b.opn 0 with h | h
      · exfalso
        have key : ∀ (l : List Sess) (n : Nat), first p n l = -1 → ∀ a ∈ l, p a = false := by
          intro l
          induction l with
          | nil => intro n _ a ha; cases ha
          | cons x l ih =>
            intro n h a ha
            simp only [first] at h
            split at h
            · omega
            · rename_i hx
              rcases List.mem_cons.1 ha with rfl | ha
              · simpa using hx
              · exact ih (n + 1) h a ha
        have := key b.opn 0 h _ (List.getElem_mem hi)
        rw [hp] at this; cases this
      · omega
  rw [some, some]
  unfold Busy
  constructor
  · rintro ⟨i, h, hk | hk⟩
    · exact .inl ⟨i, h, by simpa using hk⟩
    · exact .inr ⟨i, h, by simpa using hk⟩
  · rintro (⟨i, h, hk⟩ | ⟨i, h, hk⟩)
    · exact ⟨i, h, .inl (by simpa using hk)⟩
    · exact ⟨i, h, .inr (by simpa using hk)⟩
set_option maxHeartbeats 4000000 in
set_option maxRecDepth 100000 in
theorem begin_dc (b : Book) (o : Op) (hs : Short b) (h0 : 0 ≤ b.next ∧ b.next ≤ 1000000000) : DC Try.prog Γ 86 [.ptr 10 0] (hpL (appL b o)) 83 (Ends (openedOp b o).1 b o (openedOp b o).2) := by
  refine dc_by mixed Try.func86 rfl (fun args w => Try.call86 args w) ?_
  obtain ⟨s1, s2, s3⟩ := hs
  have c1 := isOfPool_pc Γ o.addr
  have c2 := hasLink_pc Γ b.opn (by omega) o.link
  have c3 := hasAddr_pc Γ b.opn (by omega) o.addr
  have c4 := hasRoom_pc Γ b ⟨s1, s2, s3⟩ 2 (by omega)
  have hbusy := busy_iff b o
  unfold appL
  simp -implicitDefEqProofs (disch := omega) [go_sem]
  refine .inl (call_data c1 (by simp [go_sem]) ?_)
  by_cases g1 : poolOk o.addr
  rotate_left
  · have hr : openedOp b o = (b, 1) := by unfold openedOp; rw [if_pos g1]
    rw [hr]
    simp -implicitDefEqProofs (disch := omega) [go_sem, g1, Try.f86]
    exact ends_of (i := 5) (j := 6) (k := 7) (by omega) (by simp [go_sem]) ⟨[], by simp [go_sem]⟩ ⟨[], by simp [go_sem]⟩ ⟨[], by simp [go_sem]⟩ (by simp [go_sem]) (by simp [go_sem]) (by simp [go_sem]) (by omega)
  simp -implicitDefEqProofs (disch := omega) [go_sem, g1]
  refine .inl (call_bare [5] c2 (by constructor) (fun H' hH => ?_) ?_)
  · have h5 := hH 5 (by simp)
    simp -implicitDefEqProofs [go_sem] at h5
    exact frzL_c (fz_sesss (rw := true) h5 (.inl rfl) rfl) (frzL_c ((frz_data _ _ _ _).2 rfl) frzL_n)
  by_cases g2 : 0 ≤ first (fun s : Sess => decide (s.link = o.link)) 0 b.opn
  · have hr : openedOp b o = (b, 6) := by unfold openedOp; rw [if_neg (by simpa using g1), if_pos (hbusy.2 (.inl g2))]
    rw [decide_eq_true g2]
    simp -implicitDefEqProofs (disch := omega) [go_sem]
    refine side (by kernel_rfl) ?_
    rw [hr]
    simp -implicitDefEqProofs (disch := omega) [go_sem, Try.f86]
    exact ends_of (i := 5) (j := 6) (k := 7) (by omega) (by simp [go_sem]) ⟨[], by simp [go_sem]⟩ ⟨[], by simp [go_sem]⟩ ⟨[], by simp [go_sem]⟩ (by simp [go_sem]) (by simp [go_sem]) (by simp [go_sem]) (by omega)
  rw [decide_eq_false g2]
  simp -implicitDefEqProofs (disch := omega) [go_sem]
  refine .inl (call_bare [5] c3 (by constructor) (fun H' hH => ?_) ?_)
  · have h5 := hH 5 (by simp)
    simp -implicitDefEqProofs [go_sem] at h5
    exact frzL_c (fz_sesss (rw := true) h5 (.inl rfl) rfl) (frzL_c ((frz_data _ _ _ _).2 rfl) frzL_n)
  by_cases g3 : 0 ≤ first (fun s : Sess => decide (s.addr = o.addr)) 0 b.opn
  · have hr : openedOp b o = (b, 6) := by unfold openedOp; rw [if_neg (by simpa using g1), if_pos (hbusy.2 (.inr g3))]
    rw [decide_eq_true g3]
    simp -implicitDefEqProofs (disch := omega) [go_sem]
    refine side (by kernel_rfl) ?_
    rw [hr]
    simp -implicitDefEqProofs (disch := omega) [go_sem, Try.f86]
    exact ends_of (i := 5) (j := 6) (k := 7) (by omega) (by simp [go_sem]) ⟨[], by simp [go_sem]⟩ ⟨[], by simp [go_sem]⟩ ⟨[], by simp [go_sem]⟩ (by simp [go_sem]) (by simp [go_sem]) (by simp [go_sem]) (by omega)
  have hfree : ¬ Busy b o := fun hk => by rcases hbusy.1 hk with h | h <;> contradiction
  rw [decide_eq_false g3]
  simp -implicitDefEqProofs (disch := omega) [go_sem]
  refine side (by kernel_rfl) ?_
  simp -implicitDefEqProofs (disch := omega) [go_sem]
  refine .inl (call_bare [10, 5, 6] c4 (by constructor) (fun H' hH => ?_) ?_)
  · have h10 := hH 10 (by simp)
    have h5 := hH 5 (by simp)
    have h6 := hH 6 (by simp)
    simp -implicitDefEqProofs [go_sem] at h10 h5 h6
    exact frzL_c (frz_ptrL h10 (.inl rfl) (frzL_c ((frz_data _ _ _ _).2 rfl) (frzL_c (fz_sesss (rw := true) h5 (.inl rfl) rfl) (frzL_c (fz_items (rw := true) h6 (.inl rfl) rfl) frzL_n)))) (frzL_c ((frz_data _ _ _ _).2 rfl) frzL_n)
  by_cases g4 : (b.items.length : Int) + b.opn.length + 2 ≤ 60
  rotate_left
  · have hr : openedOp b o = (b, 4) := by unfold openedOp; rw [if_neg (by simpa using g1), if_neg hfree, if_pos (.inl (by omega))]
    rw [decide_eq_false g4]
    rw [hr]
    simp -implicitDefEqProofs (disch := omega) [go_sem, Try.f86]
    exact ends_of (i := 5) (j := 6) (k := 7) (by omega) (by simp [go_sem]) ⟨[], by simp [go_sem]⟩ ⟨[], by simp [go_sem]⟩ ⟨[], by simp [go_sem]⟩ (by simp [go_sem]) (by simp [go_sem]) (by simp [go_sem]) (by omega)
  rw [decide_eq_true g4]
  by_cases g5 : b.next = 1000000000
  · have hr : openedOp b o = (b, 4) := by unfold openedOp; rw [if_neg (by simpa using g1), if_neg hfree, if_pos (.inr g5)]
    rw [hr]
    simp -implicitDefEqProofs (disch := omega) [go_sem, g5, Try.f86]
    exact ends_of (i := 5) (j := 6) (k := 7) (by omega) (by simp [go_sem, g5]) ⟨[], by simp [go_sem, g5]⟩ ⟨[], by simp [go_sem, g5]⟩ ⟨[], by simp [go_sem, g5]⟩ (by simp [go_sem, g5]) (by simp [go_sem, g5]) (by simp [go_sem, g5]) (by omega)
  have hr : openedOp b o = ({ next := b.next + 1, opn := b.opn ++ [⟨b.next, o.link, o.addr, o.user, 0, 0⟩], items := b.items ++ [⟨1, b.next, 0, 0, 0⟩], locks := b.locks }, 0) := by unfold openedOp; rw [if_neg (by simpa using g1), if_neg hfree, if_neg (by simp [g5]; omega)]
  rw [hr]
  simp -implicitDefEqProofs (disch := omega) [go_sem]
  refine side (by kernel_rfl) ?_
  simp -implicitDefEqProofs (disch := omega) [go_sem]
  refine side (by kernel_rfl) ?_
  simp -implicitDefEqProofs (disch := omega) [go_sem, Try.f86]
  exact ends_of (i := 157) (j := 175) (k := 7) (by omega) (by simp [go_sem]) ⟨[], by simp [go_sem, ← sesss_append, flat_sess1]⟩ ⟨[], by simp [go_sem, ← items_append, item_one]⟩ ⟨[], by simp [go_sem]⟩ (by simp [go_sem]) (by simp [go_sem]) (by simp [go_sem]) (by omega)
end
section
variable (Γ : Nat → Option (List Data))
theorem frz_work {b : Book} {o : Op} {H' : Nat → Blk} (h5 : H' 5 = .blk true ((flat (sesss b.opn)).map .data)) (h6 : H' 6 = .blk true ((flat (items b.items)).map .data)) (h7 : H' 7 = .blk true ((flat (locks b.locks)).map .data)) :
    FrzL true H' (([.data (.int .i64 b.next), .ref 5 0 b.opn.length 6, .ref 6 0 b.items.length 5, .ref 7 0 b.locks.length 3, .data (.int .i64 o.kind), .data (.int .i64 o.id), .data (.int .i64 o.link), .data (.int .u32 o.addr), .data (.str o.user), .data (.int .u64 o.inn), .data (.int .u64 o.out), .data (.int .i64 o.cause), .data (.int .i64 o.at_)].drop 0).take (workData b o).length) (workData b o) := by
  refine frzL_c ((frz_data _ _ _ _).2 rfl) (frzL_c (fz_sesss (rw := true) h5 (.inl rfl) rfl) (frzL_c (fz_items (rw := true) h6 (.inl rfl) rfl) (frzL_c (fz_locks (rw := true) h7 (.inl rfl) rfl) ?_)))
  exact frzL_c ((frz_data _ _ _ _).2 rfl) (frzL_c ((frz_data _ _ _ _).2 rfl) (frzL_c ((frz_data _ _ _ _).2 rfl) (frzL_c ((frz_data _ _ _ _).2 rfl) (frzL_c ((frz_data _ _ _ _).2 rfl) (frzL_c ((frz_data _ _ _ _).2 rfl) (frzL_c ((frz_data _ _ _ _).2 rfl) (frzL_c ((frz_data _ _ _ _).2 rfl) (frzL_c ((frz_data _ _ _ _).2 rfl) frzL_n))))))))
theorem countAt_neg {b : Book} {o : Op} {k : Int} (h : k < 0) : countAt b o k = (0, 5) := by unfold countAt; rw [if_pos h]
theorem sess_set2 (l : List Sess) (n : Nat) (h : n < l.length) (x y : Int) : (((flat (sesss l)).map D.data).set (n * 6 + 4) (.data (.int .u64 x))).set (n * 6 + 5) (.data (.int .u64 y)) = (flat (sesss (l.set n { l[n] with inn := x, out := y }))).map D.data := by
  rw [← sess_set l n h { l[n] with inn := x, out := y }]
  have hc := sess_cut l n h
  have hlen : ((flat (sesss l)).map D.data).length = l.length * 6 := by rw [List.length_map, flat_sesss_length]
  generalize (flat (sesss l)).map D.data = L at *
  have e : L = List.take (n * 6) L ++ (List.take 6 (List.drop (n * 6) L) ++ List.drop (n * 6 + 6) L) := by
    rw [← List.drop_drop, List.take_append_drop, List.take_append_drop]
  have ht : (List.take (n * 6) L).length = n * 6 := by rw [List.length_take]; omega
  conv => lhs; rw [e]
  rw [hc]
  rw [List.set_append_right _ _ (by omega), List.set_append_right _ _ (by omega), ht]
  simp [Nat.add_sub_cancel_left]
set_option maxHeartbeats 4000000 in
set_option maxRecDepth 100000 in
theorem count_dc (b : Book) (o : Op) (hk : o.kind = 2) (hs : Short b) : DC Try.prog Γ 87 [.ptr 10 0] (hpL (appL b o)) 83 (Ends (countedOp b o).1 b o (countedOp b o).2) := by
  refine dc_by mixed Try.func87 rfl (fun args w => Try.call87 args w) ?_
  have c1 := counted2_pc Γ b hs o
  have c4 := hasRoom_pc Γ b hs 1 (by omega)
  have hrg := first_range (fun s : Sess => decide (s.id = o.id)) b.opn 0
  obtain ⟨s1, s2, s3⟩ := hs
  have hr0 : countedOp b o = countedAt b o (ofId b o.id) := rfl
  rw [hr0]; clear hr0
  change ofId b o.id = -1 ∨ _ ≤ ofId b o.id ∧ ofId b o.id < _ at hrg
  generalize ofId b o.id = k at *
  unfold appL
  simp -implicitDefEqProofs (disch := omega) [go_sem]
  refine .inl (call_bare [10, 5, 6, 7] c1 (.tup _ (by simp; exact ⟨.int _ _, .int _ _⟩)) (fun H' hH => ?_) ?_)
  · have h10 := hH 10 (by simp)
    have h5 := hH 5 (by simp)
    have h6 := hH 6 (by simp)
    have h7 := hH 7 (by simp)
    simp -implicitDefEqProofs [go_sem] at h10 h5 h6 h7
    exact frzL_c (frz_ptrL h10 (.inl rfl) (frz_work h5 h6 h7)) frzL_n
  by_cases g1 : k < 0
  · have hr : countedAt b o k = (b, 5) := by unfold countedAt; rw [if_pos g1]
    have hq : countAt b o k = (0, 5) := by unfold countAt; rw [if_pos g1]
    rw [hq]
    rw [hr]
    simp -implicitDefEqProofs (disch := omega) [go_sem, Try.f87]
    exact ends_of (i := 5) (j := 6) (k := 7) (by omega) (by simp [go_sem]) ⟨[], by simp [go_sem]⟩ ⟨[], by simp [go_sem]⟩ ⟨[], by simp [go_sem]⟩ (by simp [go_sem]) (by simp [go_sem]) (by simp [go_sem]) (by omega)
  obtain ⟨n, rfl⟩ : ∃ n : Nat, k = n := ⟨k.toNat, by omega⟩
  have hn : n < b.opn.length := by omega
  have hgd : b.opn.getD ((n : Int)).toNat default = b.opn[n] := by rw [Int.toNat_natCast, List.getD_eq_getElem?_getD, List.getElem?_eq_getElem hn]; rfl
  by_cases g2 : o.inn < b.opn[n].inn ∨ o.out < b.opn[n].out
  · have hr : countedAt b o n = (b, 7) := by unfold countedAt; rw [if_neg g1, hgd, if_pos g2]
    have hq : countAt b o n = (0, 7) := by unfold countAt; rw [if_neg g1, hgd, if_pos g2]
    rw [hq]
    rw [hr]
    simp -implicitDefEqProofs (disch := omega) [go_sem, Try.f87]
    exact ends_of (i := 5) (j := 6) (k := 7) (by omega) (by simp [go_sem]) ⟨[], by simp [go_sem]⟩ ⟨[], by simp [go_sem]⟩ ⟨[], by simp [go_sem]⟩ (by simp [go_sem]) (by simp [go_sem]) (by simp [go_sem]) (by omega)
  have hq : countAt b o n = ((n : Int), 0) := by unfold countAt; rw [if_neg g1, hgd, if_neg g2]
  rw [hq]
  simp -implicitDefEqProofs (disch := omega) [go_sem]
  refine .inl (call_bare [10, 5, 6] c4 (by constructor) (fun H' hH => ?_) ?_)
  · have h10 := hH 10 (by simp)
    have h5 := hH 5 (by simp)
    have h6 := hH 6 (by simp)
    simp -implicitDefEqProofs [go_sem] at h10 h5 h6
    exact frzL_c (frz_ptrL h10 (.inl rfl) (frzL_c ((frz_data _ _ _ _).2 rfl) (frzL_c (fz_sesss (rw := true) h5 (.inl rfl) rfl) (frzL_c (fz_items (rw := true) h6 (.inl rfl) rfl) frzL_n)))) (frzL_c ((frz_data _ _ _ _).2 rfl) frzL_n)
  by_cases g4 : (b.items.length : Int) + b.opn.length + 1 ≤ 60
  rotate_left
  · have hr : countedAt b o n = (b, 4) := by unfold countedAt; rw [if_neg g1, hgd, if_neg g2, if_neg (by omega), if_pos (by omega)]
    rw [decide_eq_false g4]
    rw [hr]
    simp -implicitDefEqProofs (disch := omega) [go_sem, Try.f87]
    exact ends_of (i := 5) (j := 6) (k := 7) (by omega) (by simp [go_sem]) ⟨[], by simp [go_sem]⟩ ⟨[], by simp [go_sem]⟩ ⟨[], by simp [go_sem]⟩ (by simp [go_sem]) (by simp [go_sem]) (by simp [go_sem]) (by omega)
  have hr : countedAt b o n = ({ b with items := b.items ++ [⟨2, o.id, o.inn, o.out, 0⟩], opn := b.opn.set n { b.opn[n] with inn := o.inn, out := o.out } }, 0) := by unfold countedAt; rw [if_neg g1, hgd, if_neg g2, if_neg (by omega), if_neg (by omega), Int.toNat_natCast]
  rw [decide_eq_true g4, hr]
  simp -implicitDefEqProofs (disch := omega) [go_sem]
  refine side (by kernel_rfl) ?_
  simp -implicitDefEqProofs (disch := omega) [go_sem]
  refine side (by kernel_rfl) ?_
  simp -implicitDefEqProofs (disch := omega) [go_sem, Try.f87]
  exact ends_of (i := 5) (j := 149) (k := 7) (by omega) (by simp [go_sem]) ⟨[], by have := sess_set2 b.opn n hn o.inn o.out; simp [go_sem, this]⟩ ⟨[], by simp [go_sem, ← items_append, item_one]⟩ ⟨[], by simp [go_sem]⟩ (by simp [go_sem]) (by simp [go_sem]) (by simp [go_sem]) (by omega)
end
section
variable (Γ : Nat → Option (List Data))
theorem first_hit {α : Type} {p : α → Bool} : ∀ {l : List α} {m n : Nat}, first p m l = ((m + n : Nat) : Int) → ∃ h : n < l.length, p l[n] = true
  | [], m, n, h => by simp only [first] at h; omega
  | a :: l, m, n, h => by
    simp only [first] at h
    split at h
    · rename_i hp
      obtain rfl : n = 0 := by omega
      exact ⟨by simp, hp⟩
    · rcases first_range p l (m + 1) with h1 | h1
      · omega
      · obtain ⟨q, rfl⟩ : ∃ q, n = q + 1 := ⟨n - 1, by omega⟩
        obtain ⟨h2, h3⟩ := first_hit (l := l) (m := m + 1) (n := q) (by rw [h]; congr 1; omega)
        exact ⟨by simpa using h2, by simpa using h3⟩
theorem lock_cut (l : List Lock) (n : Nat) (h : n < l.length) : List.take 3 (List.drop (n * 3) ((flat (locks l)).map D.data)) = [.data (.str l[n].user), .data (.int .i64 l[n].n), .data (.int .i64 l[n].at_)] := by
  rw [← List.map_drop, ← flat_drop (locks_cells l) n (by rw [locks_length]; omega), locks_drop, List.drop_eq_getElem_cons h]
  rfl
theorem lock_set2 (l : List Lock) (n : Nat) (h : n < l.length) (x y : Int) : (((flat (locks l)).map D.data).set (n * 3 + 1) (.data (.int .i64 x))).set (n * 3 + 2) (.data (.int .i64 y)) = (flat (locks (l.set n ⟨l[n].user, x, y⟩))).map D.data := by
  rw [← lock_set l n h ⟨l[n].user, x, y⟩]
  have hc := lock_cut l n h
  have hlen : ((flat (locks l)).map D.data).length = l.length * 3 := by rw [List.length_map, flat_locks_length]
  generalize (flat (locks l)).map D.data = L at *
  have e : L = List.take (n * 3) L ++ (List.take 3 (List.drop (n * 3) L) ++ List.drop (n * 3 + 3) L) := by
    rw [← List.drop_drop, List.take_append_drop, List.take_append_drop]
  have ht : (List.take (n * 3) L).length = n * 3 := by rw [List.length_take]; omega
  conv => lhs; rw [e]
  rw [hc]
  rw [List.set_append_right _ _ (by omega), List.set_append_right _ _ (by omega), ht]
  simp [Nat.add_sub_cancel_left]
set_option maxHeartbeats 4000000 in
set_option maxRecDepth 100000 in
theorem fail_dc (b : Book) (o : Op) (hk : o.kind = 4) (hs : Short b) (hl : b.locks.length ≤ 8) (hn0 : ∀ l ∈ b.locks, -1000000 ≤ l.n ∧ l.n ≤ 1000000) : DC Try.prog Γ 89 [.ptr 10 0] (hpL (appL b o)) 83 (Ends (failedOp b o).1 b o (failedOp b o).2) := by
  refine dc_by mixed Try.func89 rfl (fun args w => Try.call89 args w) ?_
  have c1 := placeOfUser_pc Γ b.locks (by have := hs.2.2; omega) o.user
  have hrg := first_range (fun l : Lock => decide (l.user = o.user)) b.locks 0
  have hh := fun n => first_hit (p := fun l : Lock => decide (l.user = o.user)) (l := b.locks) (m := 0) (n := n)
  obtain ⟨s1, s2, s3⟩ := hs
  have hr0 : failedOp b o = failedAt b o (failed b o.user) := rfl
  rw [hr0]; clear hr0
  change PC _ _ _ _ (.int .i64 (failed b o.user)) at c1
  change failed b o.user = -1 ∨ _ ≤ failed b o.user ∧ failed b o.user < _ at hrg
  change ∀ n, failed b o.user = _ → _ at hh
  generalize failed b o.user = k at *
  unfold appL
  simp -implicitDefEqProofs (disch := omega) [go_sem]
  refine .inl (call_bare [7] c1 (by constructor) (fun H' hH => ?_) ?_)
  · have h7 := hH 7 (by simp)
    simp -implicitDefEqProofs [go_sem] at h7
    exact frzL_c (fz_locks (rw := true) h7 (.inl rfl) rfl) (frzL_c ((frz_data _ _ _ _).2 rfl) frzL_n)
  simp -implicitDefEqProofs (disch := omega) [go_sem]
  refine side (by kernel_rfl) ?_
  by_cases g1 : k < 0
  · have g1' : ¬ 0 ≤ k := by omega
    simp -implicitDefEqProofs (disch := omega) [go_sem, g1']
    refine side (by kernel_rfl) ?_
    by_cases g2 : (b.locks.length : Int) = 8
    · have hr : failedAt b o k = (b, 4) := by unfold failedAt; rw [if_neg (by omega), if_pos g1, if_pos g2]
      rw [hr]
      simp -implicitDefEqProofs (disch := omega) [go_sem, g1', Try.f89]
      exact ends_of (i := 5) (j := 6) (k := 7) (by omega) (by simp [go_sem]) ⟨[], by simp [go_sem]⟩ ⟨[], by simp [go_sem]⟩ ⟨[], by simp [go_sem]⟩ (by simp [go_sem]) (by simp [go_sem]) (by simp [go_sem]) (by omega)
    have hr : failedAt b o k = ({ b with locks := b.locks ++ [⟨o.user, 1, o.at_⟩] }, 0) := by unfold failedAt; rw [if_neg (by omega), if_pos g1, if_neg g2]
    rw [hr]
    simp -implicitDefEqProofs (disch := omega) [go_sem, g1']
    refine side (by kernel_rfl) ?_
    simp -implicitDefEqProofs (disch := omega) [go_sem, Try.f89]
    exact ends_of (i := 5) (j := 6) (k := 145) (by omega) (by simp [go_sem]) ⟨[], by simp [go_sem]⟩ ⟨[], by simp [go_sem]⟩ ⟨[], by simp [go_sem, ← locks_append, lock_one]⟩ (by simp [go_sem]) (by simp [go_sem]) (by simp [go_sem]) (by omega)
  obtain ⟨n, rfl⟩ : ∃ n : Nat, k = n := ⟨k.toNat, by omega⟩
  have hn : n < b.locks.length := by omega
  have hgd : b.locks.getD ((n : Int)).toNat default = b.locks[n] := by rw [Int.toNat_natCast, List.getD_eq_getElem?_getD, List.getElem?_eq_getElem hn]; rfl
  have hnn := hn0 _ (List.getElem_mem hn)
  obtain ⟨_, hu⟩ := hh n (by omega)
  have hu : b.locks[n].user = o.user := of_decide_eq_true hu
  have a1 : (flat (locks b.locks))[n * 3 + 1]? = some (.int .i64 b.locks[n].n) := flat_at (locks_cells _) (i := n) (y := lock b.locks[n]) (by rw [locks_get, List.getElem?_eq_getElem hn]; rfl) (j := 1) rfl
  have a2 : (flat (locks b.locks))[n * 3 + 2]? = some (.int .i64 b.locks[n].at_) := flat_at (locks_cells _) (i := n) (y := lock b.locks[n]) (by rw [locks_get, List.getElem?_eq_getElem hn]; rfl) (j := 2) rfl
  have g1' : (0 : Int) ≤ (n : Int) := by omega
  by_cases g3 : b.locks[n].at_ > o.at_
  · have hr : failedAt b o n = (b, 7) := by unfold failedAt; rw [if_neg (by omega), if_neg g1, hgd, if_pos g3]
    simp -implicitDefEqProofs (disch := omega) [-getElem?_pos, go_sem, a1, a2]
    refine side (by kernel_rfl) ?_
    rw [hr]
    simp -implicitDefEqProofs (disch := omega) [go_sem, Try.f89]
    exact ends_of (i := 5) (j := 6) (k := 7) (by omega) (by simp [go_sem]) ⟨[], by simp [go_sem]⟩ ⟨[], by simp [go_sem]⟩ ⟨[], by simp [go_sem]⟩ (by simp [go_sem]) (by simp [go_sem]) (by simp [go_sem]) (by omega)
  have hr : failedAt b o n = ({ b with locks := b.locks.set n ⟨o.user, min 255 (b.locks[n].n + 1), o.at_⟩ }, 0) := by unfold failedAt; rw [if_neg (by omega), if_neg g1, hgd, if_neg g3, Int.toNat_natCast]
  rw [hr]
  have hmin : (if (254 : Int) < b.locks[n].n then (254 : Int) else b.locks[n].n) + 1 = min 255 (b.locks[n].n + 1) := by split <;> omega
  have hset := lock_set2 b.locks n hn (min 255 (b.locks[n].n + 1)) o.at_
  rw [hu] at hset
  simp -implicitDefEqProofs (disch := omega) [-getElem?_pos, go_sem, a1, a2]
  refine side (by kernel_rfl) ?_
  simp -implicitDefEqProofs (disch := omega) [-getElem?_pos, go_sem, a1, a2]
  refine side (by kernel_rfl) ?_
  simp -implicitDefEqProofs (disch := omega) [-getElem?_pos, go_sem, a1, a2]
  refine side (by kernel_rfl) ?_
  simp -implicitDefEqProofs (disch := omega) [go_sem, Try.f89]
  exact ends_of (i := 5) (j := 6) (k := 7) (by omega) (by simp [go_sem]) ⟨[], by simp [go_sem]⟩ ⟨[], by simp [go_sem]⟩ ⟨[], by simp [go_sem, hset, hmin]⟩ (by simp [go_sem]) (by simp [go_sem]) (by simp [go_sem]) (by omega)
end
end Bk
end Go.Proofs.Ytedcnbkhdkchoaa
