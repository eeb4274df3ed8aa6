/- Books: the domain; the document's own small functions. -/
import Derived.Test.YtedcnbkhdkchoaaZ
import Derived.Test.YtedcnbkhdkchoaaY
import Derived.Test.YtedcnbkhdkchoaaP
import Derived.Test.YtedcnbkhdkchoaaTy
import Derived.Test.YtedcnbkhdkchoaaChecked
namespace Go.Proofs.Ytedcnbkhdkchoaa
open Go.RowKit
set_option linter.unusedVariables false
set_option linter.unusedSimpArgs false
namespace Bk
structure Sess where
  id : Int
  link : Int
  addr : Int
  user : ByteArray
  inn : Int
  out : Int
  deriving DecidableEq, Inhabited
structure Item where
  kind : Int
  id : Int
  inn : Int
  out : Int
  cause : Int
  deriving DecidableEq, Inhabited
structure Lock where
  user : ByteArray
  n : Int
  at_ : Int
  deriving DecidableEq, Inhabited
structure Book where
  next : Int
  opn : List Sess
  items : List Item
  locks : List Lock
  deriving DecidableEq
structure Op where
  kind : Int
  id : Int
  link : Int
  addr : Int
  user : ByteArray
  inn : Int
  out : Int
  cause : Int
  at_ : Int
  deriving DecidableEq
def sess (s : Sess) : Data := .agg [.int .i64 s.id, .int .i64 s.link, .int .u32 s.addr, .str s.user, .int .u64 s.inn, .int .u64 s.out]
def item (x : Item) : Data := .agg [.int .i64 x.kind, .int .i64 x.id, .int .u64 x.inn, .int .u64 x.out, .int .i64 x.cause]
def lock (l : Lock) : Data := .agg [.str l.user, .int .i64 l.n, .int .i64 l.at_]
def op (o : Op) : Data := .agg [.int .i64 o.kind, .int .i64 o.id, .int .i64 o.link, .int .u32 o.addr, .str o.user, .int .u64 o.inn, .int .u64 o.out, .int .i64 o.cause, .int .i64 o.at_]
def sesss (l : List Sess) : List Data := l.map sess
def items (l : List Item) : List Data := l.map item
def locks (l : List Lock) : List Data := l.map lock
def book (b : Book) : Data := .agg [.int .i64 b.next, .sl 6 (sesss b.opn), .sl 5 (items b.items), .sl 3 (locks b.locks)]
@[go_sem] theorem sesss_length (l : List Sess) : (sesss l).length = l.length := by simp [sesss]
@[go_sem] theorem items_length (l : List Item) : (items l).length = l.length := by simp [items]
@[go_sem] theorem locks_length (l : List Lock) : (locks l).length = l.length := by simp [locks]
@[go_sem] theorem sesss_get (l : List Sess) (i : Nat) : (sesss l)[i]? = (l[i]?).map sess := by simp [sesss]
@[go_sem] theorem items_get (l : List Item) (i : Nat) : (items l)[i]? = (l[i]?).map item := by simp [items]
@[go_sem] theorem locks_get (l : List Lock) (i : Nat) : (locks l)[i]? = (l[i]?).map lock := by simp [locks]
@[go_sem] theorem sess_cells (s : Sess) : (sess s).cells = [.int .i64 s.id, .int .i64 s.link, .int .u32 s.addr, .str s.user, .int .u64 s.inn, .int .u64 s.out] := rfl
@[go_sem] theorem item_cells (x : Item) : (item x).cells = [.int .i64 x.kind, .int .i64 x.id, .int .u64 x.inn, .int .u64 x.out, .int .i64 x.cause] := rfl
@[go_sem] theorem lock_cells (l : Lock) : (lock l).cells = [.str l.user, .int .i64 l.n, .int .i64 l.at_] := rfl
theorem sesss_cells (l : List Sess) : ∀ x ∈ sesss l, x.cells.length = 6 := fun x hx => by obtain ⟨p, _, rfl⟩ := List.mem_map.1 hx; rfl
theorem items_cells (l : List Item) : ∀ x ∈ items l, x.cells.length = 5 := fun x hx => by obtain ⟨p, _, rfl⟩ := List.mem_map.1 hx; rfl
theorem locks_cells (l : List Lock) : ∀ x ∈ locks l, x.cells.length = 3 := fun x hx => by obtain ⟨p, _, rfl⟩ := List.mem_map.1 hx; rfl
@[go_sem] theorem flat_sesss_cell (l : List Sess) : (∀ x ∈ flat (sesss l), x.cell = true) ↔ True := iff_true_intro fun x hx => by
  obtain ⟨y, hy, hx⟩ := List.mem_flatMap.1 hx
  obtain ⟨p, _, rfl⟩ := List.mem_map.1 hy
  simp [sess, Data.cells] at hx
  rcases hx with rfl | rfl | rfl | rfl | rfl | rfl <;> rfl
@[go_sem] theorem flat_items_cell (l : List Item) : (∀ x ∈ flat (items l), x.cell = true) ↔ True := iff_true_intro fun x hx => by
  obtain ⟨y, hy, hx⟩ := List.mem_flatMap.1 hx
  obtain ⟨p, _, rfl⟩ := List.mem_map.1 hy
  simp [item, Data.cells] at hx
  rcases hx with rfl | rfl | rfl | rfl | rfl <;> rfl
@[go_sem] theorem flat_locks_cell (l : List Lock) : (∀ x ∈ flat (locks l), x.cell = true) ↔ True := iff_true_intro fun x hx => by
  obtain ⟨y, hy, hx⟩ := List.mem_flatMap.1 hx
  obtain ⟨p, _, rfl⟩ := List.mem_map.1 hy
  simp [lock, Data.cells] at hx
  rcases hx with rfl | rfl | rfl <;> rfl
@[go_sem] theorem flat_sesss_length (l : List Sess) : (flat (sesss l)).length = l.length * 6 := by rw [flat_len (sesss_cells l), sesss_length]
@[go_sem] theorem flat_items_length (l : List Item) : (flat (items l)).length = l.length * 5 := by rw [flat_len (items_cells l), items_length]
@[go_sem] theorem flat_locks_length (l : List Lock) : (flat (locks l)).length = l.length * 3 := by rw [flat_len (locks_cells l), locks_length]
theorem sesss_append (a b : List Sess) : flat (sesss a) ++ flat (sesss b) = flat (sesss (a ++ b)) := by simp [sesss, flat]
theorem items_append (a b : List Item) : flat (items a) ++ flat (items b) = flat (items (a ++ b)) := by simp [items, flat]
theorem locks_append (a b : List Lock) : flat (locks a) ++ flat (locks b) = flat (locks (a ++ b)) := by simp [locks, flat]
theorem fz_sesss {ok : Bool} {H : Nat → Blk} {g n : Nat} {l : List Sess} {rw : Bool} (hg : H g = .blk rw ((flat (sesss l)).map D.data)) (hrw : ok = true ∨ rw = false) (hn : l.length = n) : Frz ok H (.ref g 0 n 6) (.sl 6 (sesss l)) := frz_ref hg hrw (by rw [sesss_length, hn]) (sesss_cells l) rfl
theorem fz_items {ok : Bool} {H : Nat → Blk} {g n : Nat} {l : List Item} {rw : Bool} (hg : H g = .blk rw ((flat (items l)).map D.data)) (hrw : ok = true ∨ rw = false) (hn : l.length = n) : Frz ok H (.ref g 0 n 5) (.sl 5 (items l)) := frz_ref hg hrw (by rw [items_length, hn]) (items_cells l) rfl
theorem fz_locks {ok : Bool} {H : Nat → Blk} {g n : Nat} {l : List Lock} {rw : Bool} (hg : H g = .blk rw ((flat (locks l)).map D.data)) (hrw : ok = true ∨ rw = false) (hn : l.length = n) : Frz ok H (.ref g 0 n 3) (.sl 3 (locks l)) := frz_ref hg hrw (by rw [locks_length, hn]) (locks_cells l) rfl
/-- Short enough for the machine's numbers. -/
structure Fits (b : Book) : Prop where
  o : b.opn.length ≤ 140737488351232
  i : b.items.length ≤ 140737488351232
  l : b.locks.length ≤ 140737488351232
  ou : ∀ s ∈ b.opn, s.user.size ≤ 140737488351232
  lu : ∀ l ∈ b.locks, l.user.size ≤ 140737488351232
def nameOk (u : ByteArray) : Prop := 1 ≤ u.size ∧ u.size ≤ 16
instance (u : ByteArray) : Decidable (nameOk u) := by unfold nameOk; infer_instance
def poolOk (a : Int) : Prop := 167772161 ≤ a ∧ a ≤ 167772166
instance (a : Int) : Decidable (poolOk a) := by unfold poolOk; infer_instance
def MayP (o : Op) : Prop := 1 ≤ o.kind ∧ o.kind ≤ 6 ∧ 0 ≤ o.id ∧ o.id ≤ 1000000000 ∧ 0 ≤ o.link ∧ o.link ≤ 7 ∧ 1 ≤ o.user.size ∧ o.user.size ≤ 16 ∧ 0 ≤ o.at_ ∧ o.at_ ≤ 1000000000 ∧ 0 ≤ o.cause ∧ o.cause ≤ 255
instance (o : Op) : Decidable (MayP o) := by unfold MayP; infer_instance
/-- The last line of a session ahead of n. -/
def last (l : List Item) (id : Int) : Nat → Int
  | 0 => -1
  | n + 1 => if (l.getD n ⟨0, 0, 0, 0, 0⟩).id = id then (n : Int) else last l id n
theorem last_lt (l : List Item) (id : Int) : ∀ n : Nat, last l id n < n ∧ -1 ≤ last l id n
  | 0 => by simp [last]
  | n + 1 => by
    have := last_lt l id n
    simp only [last]
    split <;> omega
/-- Where something first stands, from n on; -1: nowhere. -/
def first {α : Type} (p : α → Bool) : Nat → List α → Int
  | _, [] => -1
  | n, a :: l => if p a then (n : Int) else first p (n + 1) l
def ofId (b : Book) (id : Int) : Int := first (fun s : Sess => decide (s.id = id)) 0 b.opn
def failed (b : Book) (u : ByteArray) : Int := first (fun l : Lock => decide (l.user = u)) 0 b.locks
theorem first_none {α : Type} {p : α → Bool} : ∀ {l : List α} {n : Nat}, (∀ a ∈ l, p a = false) → first p n l = -1
  | [], _, _ => rfl
  | a :: l, n, h => by simp only [first, h a (by simp)]; exact first_none fun b hb => h b (by simp [hb])
theorem first_at {α : Type} {p : α → Bool} : ∀ {l : List α} {n i : Nat} (hi : i < l.length), p l[i] = true → (∀ j (h : j < i), p (l[j]'(by omega)) = false) → first p n l = ((n + i : Nat) : Int)
  | [], _, _, hi, _, _ => by simp at hi
  | a :: l, n, 0, _, hp, _ => by simp only [List.getElem_cons_zero] at hp; simp [first, hp]
  | a :: l, n, i + 1, hi, hp, h => by
    have h0 := h 0 (by omega)
    simp only [List.getElem_cons_zero] at h0
    simp only [first, h0]
    have := first_at (l := l) (n := n + 1) (i := i) (by simpa using hi) (by simpa using hp) (fun j hj => by have := h (j + 1) (by omega); simpa using this)
    rw [if_neg (by simp), this]
    congr 1; omega
theorem name_pc (Γ : Nat → Option (List Data)) (u : ByteArray) (hu : u.size ≤ 9223372036854775807) : PC Try.prog Γ 48 [.str u] (.bool (decide (nameOk u))) := by
  refine pc_by mixed Try.func48 rfl (fun args w => Try.call48 args w) ?_
  by_cases h1 : 1 ≤ u.size
  · by_cases h2 : u.size ≤ 16
    · have hyes : nameOk u := ⟨h1, h2⟩
      simp -implicitDefEqProofs (disch := omega) [go_sem, hyes, Try.f48]
    · have hno : ¬ nameOk u := fun hk => by unfold nameOk at hk; omega
      simp -implicitDefEqProofs (disch := omega) [go_sem, hno, Try.f48]
  · have hno : ¬ nameOk u := fun hk => by unfold nameOk at hk; omega
    simp -implicitDefEqProofs (disch := omega) [go_sem, hno, Try.f48]
theorem pool_pc (Γ : Nat → Option (List Data)) (a : Int) : PC Try.prog Γ 82 [.int .u32 a] (.bool (decide (poolOk a))) := by
  refine pc_by mixed Try.func82 rfl (fun args w => Try.call82 args w) ?_
  by_cases h1 : 167772161 ≤ a
  · by_cases h2 : a ≤ 167772166
    · have hyes : poolOk a := ⟨h1, h2⟩
      simp -implicitDefEqProofs (disch := omega) [go_sem, hyes, Try.f82]
    · have hno : ¬ poolOk a := fun hk => by unfold poolOk at hk; omega
      simp -implicitDefEqProofs (disch := omega) [go_sem, hno, Try.f82]
  · have hno : ¬ poolOk a := fun hk => by unfold poolOk at hk; omega
    simp -implicitDefEqProofs (disch := omega) [go_sem, hno, Try.f82]
set_option maxHeartbeats 4000000 in
set_option maxRecDepth 100000 in
theorem may_pc (Γ : Nat → Option (List Data)) (o : Op) (hu : o.user.size ≤ 9223372036854775807) : PC Try.prog Γ 42 [op o] (.bool (decide (MayP o))) := by
  refine pc_by mixed Try.func42 rfl (fun args w => Try.call42 args w) ?_
  have hn := name_pc Γ o.user hu
  simp -implicitDefEqProofs (disch := omega) [go_sem, op]
  refine .inl (call_data hn (by simp [go_sem]) ?_)
  by_cases h1 : 1 ≤ o.kind
  · by_cases h2 : o.kind ≤ 6
    · by_cases h3 : 0 ≤ o.id
      · by_cases h4 : o.id ≤ 1000000000
        · by_cases h5 : 0 ≤ o.link
          · by_cases h6 : o.link ≤ 7
            · by_cases h7 : nameOk o.user
              · by_cases h8 : 0 ≤ o.at_
                · by_cases h9 : o.at_ ≤ 1000000000
                  · by_cases h10 : 0 ≤ o.cause
                    · by_cases h11 : o.cause ≤ 255
                      · have hyes : MayP o := ⟨h1, h2, h3, h4, h5, h6, h7.1, h7.2, h8, h9, h10, h11⟩
                        simp -implicitDefEqProofs (disch := omega) [go_sem, hyes, h7, Try.f42]
                      · have hno : ¬ MayP o := fun hk => by unfold MayP at hk; omega
                        simp -implicitDefEqProofs (disch := omega) [go_sem, hno, h7, Try.f42]
                    · have hno : ¬ MayP o := fun hk => by unfold MayP at hk; omega
                      simp -implicitDefEqProofs (disch := omega) [go_sem, hno, h7, Try.f42]
                  · have hno : ¬ MayP o := fun hk => by unfold MayP at hk; omega
                    simp -implicitDefEqProofs (disch := omega) [go_sem, hno, h7, Try.f42]
                · have hno : ¬ MayP o := fun hk => by unfold MayP at hk; omega
                  simp -implicitDefEqProofs (disch := omega) [go_sem, hno, h7, Try.f42]
              · have hno : ¬ MayP o := fun hk => by unfold MayP at hk; exact h7 ⟨by omega, by omega⟩
                simp -implicitDefEqProofs (disch := omega) [go_sem, hno, h7, Try.f42]
            · have hno : ¬ MayP o := fun hk => by unfold MayP at hk; omega
              simp -implicitDefEqProofs (disch := omega) [go_sem, hno, Try.f42]
          · have hno : ¬ MayP o := fun hk => by unfold MayP at hk; omega
            simp -implicitDefEqProofs (disch := omega) [go_sem, hno, Try.f42]
        · have hno : ¬ MayP o := fun hk => by unfold MayP at hk; omega
          simp -implicitDefEqProofs (disch := omega) [go_sem, hno, Try.f42]
      · have hno : ¬ MayP o := fun hk => by unfold MayP at hk; omega
        simp -implicitDefEqProofs (disch := omega) [go_sem, hno, Try.f42]
    · have hno : ¬ MayP o := fun hk => by unfold MayP at hk; omega
      simp -implicitDefEqProofs (disch := omega) [go_sem, hno, Try.f42]
  · have hno : ¬ MayP o := fun hk => by unfold MayP at hk; omega
    simp -implicitDefEqProofs (disch := omega) [go_sem, hno, Try.f42]
set_option maxRecDepth 100000 in
theorem last_pc (Γ : Nat → Option (List Data)) (b : Book) (hb : Fits b) (id : Int) (n : Nat) (hn : n ≤ b.items.length) : PC Try.prog Γ 47 [book b, .int .i64 id, .int .i64 n] (.int .i64 (last b.items id n)) := by
  refine pc_by mixed Try.func47 rfl (fun args w => Try.call47 args w) ?_
  have hi := hb.i
  obtain ⟨R, hR⟩ : ∃ R, last b.items id n = R := ⟨_, rfl⟩
  rw [hR]
  simp -implicitDefEqProofs (disch := omega) [go_sem, book]
  refine loop_ren (σ := { j : Nat // j ≤ n ∧ R = last b.items id j }) (fun j => ⟨envL [(1, .data (.int .i64 id)), (3, .ptr 0 0), (7, .data (.int .i64 ((j.1 : Int) - 1)))], hpL [(0, .blk true [.data (.int .i64 b.next), .data (.sl 6 (sesss b.opn)), .data (.sl 5 (items b.items)), .data (.sl 3 (locks b.locks))])], 1, 0, 23⟩) (fun j => j.1) ⟨n, by omega, hR.symm⟩ [] (rhoL []) ?_ ?_
  · apply ren_lists <;> simp -implicitDefEqProofs [go_sem]
  · rintro ⟨j, hj, hst⟩
    by_cases hj0 : 0 < j
    · obtain ⟨k, rfl⟩ : ∃ k, j = k + 1 := ⟨j - 1, by omega⟩
      have e1 : (((k + 1 : Nat) : Int) - 1).toNat = k := by omega
      have e2 : (((k + 1 : Nat) : Int) - 1) = k := by omega
      have hk : k < b.items.length := by omega
      have hg : b.items.getD k ⟨0, 0, 0, 0, 0⟩ = b.items[k] := by simp [List.getD_eq_getElem?_getD, hk]
      simp only [last, hg] at hst
      by_cases he : b.items[k].id = id
      · rw [if_pos he] at hst
        simp -implicitDefEqProofs (disch := omega) [go_sem, e2, he, hst, Try.f47]
      · rw [if_neg he] at hst
        simp -implicitDefEqProofs (disch := omega) [go_sem, e2, he]
        refine next_ren ⟨k, by omega, hst⟩ (by simp only; omega) [] (rhoL []) ?_
        apply ren_lists <;> simp -implicitDefEqProofs [go_sem]
    · have : j = 0 := by omega
      subst this
      have hR1 : R = -1 := hst
      simp -implicitDefEqProofs (disch := omega) [go_sem, hR1, Try.f47]
set_option maxRecDepth 100000 in
theorem of_pc (Γ : Nat → Option (List Data)) (b : Book) (hb : Fits b) (id : Int) : PC Try.prog Γ 26 [book b, .int .i64 id] (.int .i64 (ofId b id)) := by
  refine pc_by mixed Try.func26 rfl (fun args w => Try.call26 args w) ?_
  have ho := hb.o
  simp -implicitDefEqProofs (disch := omega) [go_sem, book]
  refine loop_ren (σ := { i : Nat // i ≤ b.opn.length ∧ ∀ j (h : j < b.opn.length), j < i → b.opn[j].id ≠ id }) (fun i => ⟨envL [(1, .data (.int .i64 id)), (2, .ptr 0 0), (5, .data (.int .i64 i.1))], hpL [(0, .blk true [.data (.int .i64 b.next), .data (.sl 6 (sesss b.opn)), .data (.sl 5 (items b.items)), .data (.sl 3 (locks b.locks))])], 1, 0, 22⟩) (fun i => b.opn.length - i.1) ⟨0, by omega, by omega⟩ [] (rhoL []) ?_ ?_
  · apply ren_lists <;> simp -implicitDefEqProofs [go_sem]
  · rintro ⟨i, hi, hall⟩
    by_cases h : i < b.opn.length
    · by_cases he : b.opn[i].id = id
      · have hf : ofId b id = i := by
          have := first_at (p := fun s : Sess => decide (s.id = id)) (n := 0) h (by simpa using he) (fun j hj => by simpa using hall j (by omega) hj)
          simpa [ofId] using this
        simp -implicitDefEqProofs (disch := omega) [go_sem, he, hf, Try.f26]
      · simp -implicitDefEqProofs (disch := omega) [go_sem, he]
        refine next_ren ⟨i + 1, by omega, fun j hj hji => ?_⟩ (by simp only; omega) [] (rhoL []) ?_
        · by_cases e : j = i
          · subst e; exact he
          · exact hall j hj (by omega)
        apply ren_lists <;> simp -implicitDefEqProofs [go_sem]
    · have hf : ofId b id = -1 := first_none fun s hs => by
        obtain ⟨j, hj, rfl⟩ := List.getElem_of_mem hs
        simpa using hall j hj (by omega)
      simp -implicitDefEqProofs (disch := omega) [go_sem, hf, Try.f26]
set_option maxRecDepth 100000 in
theorem failed_pc (Γ : Nat → Option (List Data)) (b : Book) (hb : Fits b) (u : ByteArray) : PC Try.prog Γ 25 [book b, .str u] (.int .i64 (failed b u)) := by
  refine pc_by mixed Try.func25 rfl (fun args w => Try.call25 args w) ?_
  have ho := hb.l
  simp -implicitDefEqProofs (disch := omega) [go_sem, book]
  refine loop_ren (σ := { i : Nat // i ≤ b.locks.length ∧ ∀ j (h : j < b.locks.length), j < i → b.locks[j].user ≠ u }) (fun i => ⟨envL [(1, .data (.str u)), (2, .ptr 0 0), (5, .data (.int .i64 i.1))], hpL [(0, .blk true [.data (.int .i64 b.next), .data (.sl 6 (sesss b.opn)), .data (.sl 5 (items b.items)), .data (.sl 3 (locks b.locks))])], 1, 0, 22⟩) (fun i => b.locks.length - i.1) ⟨0, by omega, by omega⟩ [] (rhoL []) ?_ ?_
  · apply ren_lists <;> simp -implicitDefEqProofs [go_sem]
  · rintro ⟨i, hi, hall⟩
    by_cases h : i < b.locks.length
    · by_cases he : b.locks[i].user = u
      · have hf : failed b u = i := by
          have := first_at (p := fun l : Lock => decide (l.user = u)) (n := 0) h (by simpa using he) (fun j hj => by simpa using hall j (by omega) hj)
          simpa [failed] using this
        simp -implicitDefEqProofs (disch := omega) [go_sem, he, hf, Try.f25]
      · simp -implicitDefEqProofs (disch := omega) [go_sem, he]
        refine next_ren ⟨i + 1, by omega, fun j hj hji => ?_⟩ (by simp only; omega) [] (rhoL []) ?_
        · by_cases e : j = i
          · subst e; exact he
          · exact hall j hj (by omega)
        apply ren_lists <;> simp -implicitDefEqProofs [go_sem]
    · have hf : failed b u = -1 := first_none fun s hs => by
        obtain ⟨j, hj, rfl⟩ := List.getElem_of_mem hs
        simpa using hall j hj (by omega)
      simp -implicitDefEqProofs (disch := omega) [go_sem, hf, Try.f25]
end Bk
end Go.Proofs.Ytedcnbkhdkchoaa
