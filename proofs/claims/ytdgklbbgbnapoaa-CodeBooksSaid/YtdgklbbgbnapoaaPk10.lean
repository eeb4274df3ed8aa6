/- Books: the domain; the document's own small functions. Code: numbers, names, ops and books as bytes (mathematics): what is told is told back. Code: what is read of bytes, one after the other. Code: names, ops, sessions, lines and locks, as they are read. (By genOC.py.) Code: what is tried; heads. Code: what is written as bytes. Books: a line more. Books: what is done to one, and what closes all, of the document Books: the program's own small functions; what is found among sessions and users. -/
import Derived.Test.YtdgklbbgbnapoaaPk9
import Derived.Test.YtdgklbbgbnapoaaChecked
namespace Go.Proofs.Ytdgklbbgbnapoaa
open Go.RowKit
set_option linter.unusedVariables false
set_option linter.unusedSimpArgs false
namespace Bk
structure Sess where
  id : Int
  link : Int
  addr : Int
  user : ByteArray
  inn : Int
  out : Int
  deriving DecidableEq, Inhabited
structure Item where
  kind : Int
  id : Int
  inn : Int
  out : Int
  cause : Int
  deriving DecidableEq, Inhabited
structure Lock where
  user : ByteArray
  n : Int
  at_ : Int
  deriving DecidableEq, Inhabited
structure Book where
  next : Int
  opn : List Sess
  items : List Item
  locks : List Lock
  deriving DecidableEq
structure Op where
  kind : Int
  id : Int
  link : Int
  addr : Int
  user : ByteArray
  inn : Int
  out : Int
  cause : Int
  at_ : Int
  deriving DecidableEq
def sess (s : Sess) : Data := .agg [.int .i64 s.id, .int .i64 s.link, .int .u32 s.addr, .str s.user, .int .u64 s.inn, .int .u64 s.out]
def item (x : Item) : Data := .agg [.int .i64 x.kind, .int .i64 x.id, .int .u64 x.inn, .int .u64 x.out, .int .i64 x.cause]
def lock (l : Lock) : Data := .agg [.str l.user, .int .i64 l.n, .int .i64 l.at_]
def op (o : Op) : Data := .agg [.int .i64 o.kind, .int .i64 o.id, .int .i64 o.link, .int .u32 o.addr, .str o.user, .int .u64 o.inn, .int .u64 o.out, .int .i64 o.cause, .int .i64 o.at_]
def sesss (l : List Sess) : List Data := l.map sess
def items (l : List Item) : List Data := l.map item
def locks (l : List Lock) : List Data := l.map lock
def book (b : Book) : Data := .agg [.int .i64 b.next, .sl 6 (sesss b.opn), .sl 5 (items b.items), .sl 3 (locks b.locks)]
@[go_sem] theorem sesss_length (l : List Sess) : (sesss l).length = l.length := by simp [sesss]
@[go_sem] theorem items_length (l : List Item) : (items l).length = l.length := by simp [items]
@[go_sem] theorem locks_length (l : List Lock) : (locks l).length = l.length := by simp [locks]
@[go_sem] theorem sesss_get (l : List Sess) (i : Nat) : (sesss l)[i]? = (l[i]?).map sess := by simp [sesss]
@[go_sem] theorem items_get (l : List Item) (i : Nat) : (items l)[i]? = (l[i]?).map item := by simp [items]
@[go_sem] theorem locks_get (l : List Lock) (i : Nat) : (locks l)[i]? = (l[i]?).map lock := by simp [locks]
@[go_sem] theorem sess_cells (s : Sess) : (sess s).cells = [.int .i64 s.id, .int .i64 s.link, .int .u32 s.addr, .str s.user, .int .u64 s.inn, .int .u64 s.out] := rfl
@[go_sem] theorem item_cells (x : Item) : (item x).cells = [.int .i64 x.kind, .int .i64 x.id, .int .u64 x.inn, .int .u64 x.out, .int .i64 x.cause] := rfl
@[go_sem] theorem lock_cells (l : Lock) : (lock l).cells = [.str l.user, .int .i64 l.n, .int .i64 l.at_] := rfl
theorem sesss_cells (l : List Sess) : ∀ x ∈ sesss l, x.cells.length = 6 := fun x hx => by obtain ⟨p, _, rfl⟩ := List.mem_map.1 hx; rfl
theorem items_cells (l : List Item) : ∀ x ∈ items l, x.cells.length = 5 := fun x hx => by obtain ⟨p, _, rfl⟩ := List.mem_map.1 hx; rfl
theorem locks_cells (l : List Lock) : ∀ x ∈ locks l, x.cells.length = 3 := fun x hx => by obtain ⟨p, _, rfl⟩ := List.mem_map.1 hx; rfl
@[go_sem] theorem flat_sesss_cell (l : List Sess) : (∀ x ∈ flat (sesss l), x.cell = true) ↔ True := iff_true_intro fun x hx => by
  obtain ⟨y, hy, hx⟩ := List.mem_flatMap.1 hx
  obtain ⟨p, _, rfl⟩ := List.mem_map.1 hy
  simp [sess, Data.cells] at hx
  rcases hx with rfl | rfl | rfl | rfl | rfl | rfl <;> rfl
@[go_sem] theorem flat_items_cell (l : List Item) : (∀ x ∈ flat (items l), x.cell = true) ↔ True := iff_true_intro fun x hx => by
  obtain ⟨y, hy, hx⟩ := List.mem_flatMap.1 hx
  obtain ⟨p, _, rfl⟩ := List.mem_map.1 hy
  simp [item, Data.cells] at hx
  rcases hx with rfl | rfl | rfl | rfl | rfl <;> rfl
@[go_sem] theorem flat_locks_cell (l : List Lock) : (∀ x ∈ flat (locks l), x.cell = true) ↔ True := iff_true_intro fun x hx => by
  obtain ⟨y, hy, hx⟩ := List.mem_flatMap.1 hx
  obtain ⟨p, _, rfl⟩ := List.mem_map.1 hy
  simp [lock, Data.cells] at hx
  rcases hx with rfl | rfl | rfl <;> rfl
@[go_sem] theorem flat_sesss_length (l : List Sess) : (flat (sesss l)).length = l.length * 6 := by rw [flat_len (sesss_cells l), sesss_length]
@[go_sem] theorem flat_items_length (l : List Item) : (flat (items l)).length = l.length * 5 := by rw [flat_len (items_cells l), items_length]
@[go_sem] theorem flat_locks_length (l : List Lock) : (flat (locks l)).length = l.length * 3 := by rw [flat_len (locks_cells l), locks_length]
theorem sesss_append (a b : List Sess) : flat (sesss a) ++ flat (sesss b) = flat (sesss (a ++ b)) := by simp [sesss, flat]
theorem items_append (a b : List Item) : flat (items a) ++ flat (items b) = flat (items (a ++ b)) := by simp [items, flat]
theorem locks_append (a b : List Lock) : flat (locks a) ++ flat (locks b) = flat (locks (a ++ b)) := by simp [locks, flat]
theorem fz_sesss {ok : Bool} {H : Nat → Blk} {g n : Nat} {l : List Sess} {rw : Bool} (hg : H g = .blk rw ((flat (sesss l)).map D.data)) (hrw : ok = true ∨ rw = false) (hn : l.length = n) : Frz ok H (.ref g 0 n 6) (.sl 6 (sesss l)) := frz_ref hg hrw (by rw [sesss_length, hn]) (sesss_cells l) rfl
theorem fz_items {ok : Bool} {H : Nat → Blk} {g n : Nat} {l : List Item} {rw : Bool} (hg : H g = .blk rw ((flat (items l)).map D.data)) (hrw : ok = true ∨ rw = false) (hn : l.length = n) : Frz ok H (.ref g 0 n 5) (.sl 5 (items l)) := frz_ref hg hrw (by rw [items_length, hn]) (items_cells l) rfl
theorem fz_locks {ok : Bool} {H : Nat → Blk} {g n : Nat} {l : List Lock} {rw : Bool} (hg : H g = .blk rw ((flat (locks l)).map D.data)) (hrw : ok = true ∨ rw = false) (hn : l.length = n) : Frz ok H (.ref g 0 n 3) (.sl 3 (locks l)) := frz_ref hg hrw (by rw [locks_length, hn]) (locks_cells l) rfl
/-- Short enough for the machine's numbers. -/
structure Fits (b : Book) : Prop where
  o : b.opn.length ≤ 140737488351232
  i : b.items.length ≤ 140737488351232
  l : b.locks.length ≤ 140737488351232
  ou : ∀ s ∈ b.opn, s.user.size ≤ 140737488351232
  lu : ∀ l ∈ b.locks, l.user.size ≤ 140737488351232
def nameOk (u : ByteArray) : Prop := 1 ≤ u.size ∧ u.size ≤ 16
instance (u : ByteArray) : Decidable (nameOk u) := by unfold nameOk; infer_instance
def poolOk (a : Int) : Prop := 167772161 ≤ a ∧ a ≤ 167772166
instance (a : Int) : Decidable (poolOk a) := by unfold poolOk; infer_instance
def MayP (o : Op) : Prop := 1 ≤ o.kind ∧ o.kind ≤ 6 ∧ 0 ≤ o.id ∧ o.id ≤ 1000000000 ∧ 0 ≤ o.link ∧ o.link ≤ 7 ∧ 1 ≤ o.user.size ∧ o.user.size ≤ 16 ∧ 0 ≤ o.at_ ∧ o.at_ ≤ 1000000000 ∧ 0 ≤ o.cause ∧ o.cause ≤ 255
instance (o : Op) : Decidable (MayP o) := by unfold MayP; infer_instance
/-- The last line of a session ahead of n. -/
def last (l : List Item) (id : Int) : Nat → Int
  | 0 => -1
  | n + 1 => if (l.getD n ⟨0, 0, 0, 0, 0⟩).id = id then (n : Int) else last l id n
theorem last_lt (l : List Item) (id : Int) : ∀ n : Nat, last l id n < n ∧ -1 ≤ last l id n
  | 0 => by simp [last]
  | n + 1 => by
    have := last_lt l id n
    simp only [last]
    split <;> omega
/-- Where something first stands, from n on; -1: nowhere. -/
def first {α : Type} (p : α → Bool) : Nat → List α → Int
  | _, [] => -1
  | n, a :: l => if p a then (n : Int) else first p (n + 1) l
def ofId (b : Book) (id : Int) : Int := first (fun s : Sess => decide (s.id = id)) 0 b.opn
def failed (b : Book) (u : ByteArray) : Int := first (fun l : Lock => decide (l.user = u)) 0 b.locks
theorem first_none {α : Type} {p : α → Bool} : ∀ {l : List α} {n : Nat}, (∀ a ∈ l, p a = false) → first p n l = -1
  | [], _, _ => rfl
  | a :: l, n, h => by simp only [first, h a (by simp)]; exact first_none fun b hb => h b (by simp [hb])
theorem first_at {α : Type} {p : α → Bool} : ∀ {l : List α} {n i : Nat} (hi : i < l.length), p l[i] = true → (∀ j (h : j < i), p (l[j]'(by omega)) = false) → first p n l = ((n + i : Nat) : Int)
  | [], _, _, hi, _, _ => by simp at hi
  | a :: l, n, 0, _, hp, _ => by simp only [List.getElem_cons_zero] at hp; simp [first, hp]
  | a :: l, n, i + 1, hi, hp, h => by
    have h0 := h 0 (by omega)
    simp only [List.getElem_cons_zero] at h0
    simp only [first, h0]
    have := first_at (l := l) (n := n + 1) (i := i) (by simpa using hi) (by simpa using hp) (fun j hj => by have := h (j + 1) (by omega); simpa using this)
    rw [if_neg (by simp), this]
    congr 1; omega
theorem name_pc (Γ : Nat → Option (List Data)) (u : ByteArray) (hu : u.size ≤ 9223372036854775807) : PC Try.prog Γ 50 [.str u] (.bool (decide (nameOk u))) := by
  refine pc_by mixed Try.func50 rfl (fun args w => Try.call50 args w) ?_
  by_cases h1 : 1 ≤ u.size
  · by_cases h2 : u.size ≤ 16
    · have hyes : nameOk u := ⟨h1, h2⟩
      simp -implicitDefEqProofs (disch := omega) [go_sem, hyes, Try.f50]
    · have hno : ¬ nameOk u := fun hk => by unfold nameOk at hk; omega
      simp -implicitDefEqProofs (disch := omega) [go_sem, hno, Try.f50]
  · have hno : ¬ nameOk u := fun hk => by unfold nameOk at hk; omega
    simp -implicitDefEqProofs (disch := omega) [go_sem, hno, Try.f50]
theorem pool_pc (Γ : Nat → Option (List Data)) (a : Int) : PC Try.prog Γ 77 [.int .u32 a] (.bool (decide (poolOk a))) := by
  refine pc_by mixed Try.func77 rfl (fun args w => Try.call77 args w) ?_
  by_cases h1 : 167772161 ≤ a
  · by_cases h2 : a ≤ 167772166
    · have hyes : poolOk a := ⟨h1, h2⟩
      simp -implicitDefEqProofs (disch := omega) [go_sem, hyes, Try.f77]
    · have hno : ¬ poolOk a := fun hk => by unfold poolOk at hk; omega
      simp -implicitDefEqProofs (disch := omega) [go_sem, hno, Try.f77]
  · have hno : ¬ poolOk a := fun hk => by unfold poolOk at hk; omega
    simp -implicitDefEqProofs (disch := omega) [go_sem, hno, Try.f77]
set_option maxHeartbeats 4000000 in
set_option maxRecDepth 100000 in
theorem may_pc (Γ : Nat → Option (List Data)) (o : Op) (hu : o.user.size ≤ 9223372036854775807) : PC Try.prog Γ 27 [op o] (.bool (decide (MayP o))) := by
  refine pc_by mixed Try.func27 rfl (fun args w => Try.call27 args w) ?_
  have hn := name_pc Γ o.user hu
  simp -implicitDefEqProofs (disch := omega) [go_sem, op]
  refine .inl (call_data hn (by simp [go_sem]) ?_)
  by_cases h1 : 1 ≤ o.kind
  · by_cases h2 : o.kind ≤ 6
    · by_cases h3 : 0 ≤ o.id
      · by_cases h4 : o.id ≤ 1000000000
        · by_cases h5 : 0 ≤ o.link
          · by_cases h6 : o.link ≤ 7
            · by_cases h7 : nameOk o.user
              · by_cases h8 : 0 ≤ o.at_
                · by_cases h9 : o.at_ ≤ 1000000000
                  · by_cases h10 : 0 ≤ o.cause
                    · by_cases h11 : o.cause ≤ 255
                      · have hyes : MayP o := ⟨h1, h2, h3, h4, h5, h6, h7.1, h7.2, h8, h9, h10, h11⟩
                        simp -implicitDefEqProofs (disch := omega) [go_sem, hyes, h7, Try.f27]
                      · have hno : ¬ MayP o := fun hk => by unfold MayP at hk; omega
                        simp -implicitDefEqProofs (disch := omega) [go_sem, hno, h7, Try.f27]
                    · have hno : ¬ MayP o := fun hk => by unfold MayP at hk; omega
                      simp -implicitDefEqProofs (disch := omega) [go_sem, hno, h7, Try.f27]
                  · have hno : ¬ MayP o := fun hk => by unfold MayP at hk; omega
                    simp -implicitDefEqProofs (disch := omega) [go_sem, hno, h7, Try.f27]
                · have hno : ¬ MayP o := fun hk => by unfold MayP at hk; omega
                  simp -implicitDefEqProofs (disch := omega) [go_sem, hno, h7, Try.f27]
              · have hno : ¬ MayP o := fun hk => by unfold MayP at hk; exact h7 ⟨by omega, by omega⟩
                simp -implicitDefEqProofs (disch := omega) [go_sem, hno, h7, Try.f27]
            · have hno : ¬ MayP o := fun hk => by unfold MayP at hk; omega
              simp -implicitDefEqProofs (disch := omega) [go_sem, hno, Try.f27]
          · have hno : ¬ MayP o := fun hk => by unfold MayP at hk; omega
            simp -implicitDefEqProofs (disch := omega) [go_sem, hno, Try.f27]
        · have hno : ¬ MayP o := fun hk => by unfold MayP at hk; omega
          simp -implicitDefEqProofs (disch := omega) [go_sem, hno, Try.f27]
      · have hno : ¬ MayP o := fun hk => by unfold MayP at hk; omega
        simp -implicitDefEqProofs (disch := omega) [go_sem, hno, Try.f27]
    · have hno : ¬ MayP o := fun hk => by unfold MayP at hk; omega
      simp -implicitDefEqProofs (disch := omega) [go_sem, hno, Try.f27]
  · have hno : ¬ MayP o := fun hk => by unfold MayP at hk; omega
    simp -implicitDefEqProofs (disch := omega) [go_sem, hno, Try.f27]
set_option maxRecDepth 100000 in
theorem last_pc (Γ : Nat → Option (List Data)) (b : Book) (hb : Fits b) (id : Int) (n : Nat) (hn : n ≤ b.items.length) : PC Try.prog Γ 48 [book b, .int .i64 id, .int .i64 n] (.int .i64 (last b.items id n)) := by
  refine pc_by mixed Try.func48 rfl (fun args w => Try.call48 args w) ?_
  have hi := hb.i
  obtain ⟨R, hR⟩ : ∃ R, last b.items id n = R := ⟨_, rfl⟩
  rw [hR]
  simp -implicitDefEqProofs (disch := omega) [go_sem, book]
  refine loop_ren (σ := { j : Nat // j ≤ n ∧ R = last b.items id j }) (fun j => ⟨envL [(1, .data (.int .i64 id)), (3, .ptr 0 0), (7, .data (.int .i64 ((j.1 : Int) - 1)))], hpL [(0, .blk true [.data (.int .i64 b.next), .data (.sl 6 (sesss b.opn)), .data (.sl 5 (items b.items)), .data (.sl 3 (locks b.locks))])], 1, 0, 23⟩) (fun j => j.1) ⟨n, by omega, hR.symm⟩ [] (rhoL []) ?_ ?_
  · apply ren_lists <;> simp -implicitDefEqProofs [go_sem]
  · rintro ⟨j, hj, hst⟩
    by_cases hj0 : 0 < j
    · obtain ⟨k, rfl⟩ : ∃ k, j = k + 1 := ⟨j - 1, by omega⟩
      have e1 : (((k + 1 : Nat) : Int) - 1).toNat = k := by omega
      have e2 : (((k + 1 : Nat) : Int) - 1) = k := by omega
      have hk : k < b.items.length := by omega
      have hg : b.items.getD k ⟨0, 0, 0, 0, 0⟩ = b.items[k] := by simp [List.getD_eq_getElem?_getD, hk]
      simp only [last, hg] at hst
      by_cases he : b.items[k].id = id
      · rw [if_pos he] at hst
        simp -implicitDefEqProofs (disch := omega) [go_sem, e2, he, hst, Try.f48]
      · rw [if_neg he] at hst
        simp -implicitDefEqProofs (disch := omega) [go_sem, e2, he]
        refine next_ren ⟨k, by omega, hst⟩ (by simp only; omega) [] (rhoL []) ?_
        apply ren_lists <;> simp -implicitDefEqProofs [go_sem]
    · have : j = 0 := by omega
      subst this
      have hR1 : R = -1 := hst
      simp -implicitDefEqProofs (disch := omega) [go_sem, hR1, Try.f48]
set_option maxRecDepth 100000 in
theorem of_pc (Γ : Nat → Option (List Data)) (b : Book) (hb : Fits b) (id : Int) : PC Try.prog Γ 49 [book b, .int .i64 id] (.int .i64 (ofId b id)) := by
  refine pc_by mixed Try.func49 rfl (fun args w => Try.call49 args w) ?_
  have ho := hb.o
  simp -implicitDefEqProofs (disch := omega) [go_sem, book]
  refine loop_ren (σ := { i : Nat // i ≤ b.opn.length ∧ ∀ j (h : j < b.opn.length), j < i → b.opn[j].id ≠ id }) (fun i => ⟨envL [(1, .data (.int .i64 id)), (2, .ptr 0 0), (5, .data (.int .i64 i.1))], hpL [(0, .blk true [.data (.int .i64 b.next), .data (.sl 6 (sesss b.opn)), .data (.sl 5 (items b.items)), .data (.sl 3 (locks b.locks))])], 1, 0, 22⟩) (fun i => b.opn.length - i.1) ⟨0, by omega, by omega⟩ [] (rhoL []) ?_ ?_
  · apply ren_lists <;> simp -implicitDefEqProofs [go_sem]
  · rintro ⟨i, hi, hall⟩
    by_cases h : i < b.opn.length
    · by_cases he : b.opn[i].id = id
      · have hf : ofId b id = i := by
          have := first_at (p := fun s : Sess => decide (s.id = id)) (n := 0) h (by simpa using he) (fun j hj => by simpa using hall j (by omega) hj)
          simpa [ofId] using this
        simp -implicitDefEqProofs (disch := omega) [go_sem, he, hf, Try.f49]
      · simp -implicitDefEqProofs (disch := omega) [go_sem, he]
        refine next_ren ⟨i + 1, by omega, fun j hj hji => ?_⟩ (by simp only; omega) [] (rhoL []) ?_
        · by_cases e : j = i
          · subst e; exact he
          · exact hall j hj (by omega)
        apply ren_lists <;> simp -implicitDefEqProofs [go_sem]
    · have hf : ofId b id = -1 := first_none fun s hs => by
        obtain ⟨j, hj, rfl⟩ := List.getElem_of_mem hs
        simpa using hall j hj (by omega)
      simp -implicitDefEqProofs (disch := omega) [go_sem, hf, Try.f49]
set_option maxRecDepth 100000 in
theorem failed_pc (Γ : Nat → Option (List Data)) (b : Book) (hb : Fits b) (u : ByteArray) : PC Try.prog Γ 51 [book b, .str u] (.int .i64 (failed b u)) := by
  refine pc_by mixed Try.func51 rfl (fun args w => Try.call51 args w) ?_
  have ho := hb.l
  simp -implicitDefEqProofs (disch := omega) [go_sem, book]
  refine loop_ren (σ := { i : Nat // i ≤ b.locks.length ∧ ∀ j (h : j < b.locks.length), j < i → b.locks[j].user ≠ u }) (fun i => ⟨envL [(1, .data (.str u)), (2, .ptr 0 0), (5, .data (.int .i64 i.1))], hpL [(0, .blk true [.data (.int .i64 b.next), .data (.sl 6 (sesss b.opn)), .data (.sl 5 (items b.items)), .data (.sl 3 (locks b.locks))])], 1, 0, 22⟩) (fun i => b.locks.length - i.1) ⟨0, by omega, by omega⟩ [] (rhoL []) ?_ ?_
  · apply ren_lists <;> simp -implicitDefEqProofs [go_sem]
  · rintro ⟨i, hi, hall⟩
    by_cases h : i < b.locks.length
    · by_cases he : b.locks[i].user = u
      · have hf : failed b u = i := by
          have := first_at (p := fun l : Lock => decide (l.user = u)) (n := 0) h (by simpa using he) (fun j hj => by simpa using hall j (by omega) hj)
          simpa [failed] using this
        simp -implicitDefEqProofs (disch := omega) [go_sem, he, hf, Try.f51]
      · simp -implicitDefEqProofs (disch := omega) [go_sem, he]
        refine next_ren ⟨i + 1, by omega, fun j hj hji => ?_⟩ (by simp only; omega) [] (rhoL []) ?_
        · by_cases e : j = i
          · subst e; exact he
          · exact hall j hj (by omega)
        apply ren_lists <;> simp -implicitDefEqProofs [go_sem]
    · have hf : failed b u = -1 := first_none fun s hs => by
        obtain ⟨j, hj, rfl⟩ := List.getElem_of_mem hs
        simpa using hall j hj (by omega)
      simp -implicitDefEqProofs (disch := omega) [go_sem, hf, Try.f51]
end Bk
end Go.Proofs.Ytdgklbbgbnapoaa
namespace Go.Proofs.Ytdgklbbgbnapoaa
open Go.RowKit
set_option linter.unusedVariables false
set_option linter.unusedSimpArgs false
namespace Bk
/-- A number's bytes, the highest first. -/
def be : Nat → Nat → List Nat
  | 0, _ => []
  | k + 1, n => be k (n / 256) ++ [n % 256]
def ofBe (l : List Nat) : Nat := l.foldl (fun n x => n * 256 + x) 0
theorem be_length : ∀ k n, (be k n).length = k
  | 0, _ => rfl
  | k + 1, n => by simp [be, be_length k]
theorem be_lt : ∀ k n, ∀ x ∈ be k n, x < 256
  | 0, _ => fun x hx => by cases hx
  | k + 1, n => fun x hx => by
    rcases List.mem_append.1 hx with h | h
    · exact be_lt k _ x h
    · rw [List.mem_singleton.1 h]; omega
theorem ofBe_snoc (l : List Nat) (x : Nat) : ofBe (l ++ [x]) = ofBe l * 256 + x := by simp [ofBe]
theorem ofBe_be : ∀ k n, n < 256 ^ k → ofBe (be k n) = n
  | 0, n, h => by simp at h; subst h; rfl
  | k + 1, n, h => by
    rw [be, ofBe_snoc, ofBe_be k (n / 256) (by rw [Nat.pow_succ] at h; omega)]
    omega
theorem snoc_ind {p : List Nat → Prop} (h0 : p []) (h1 : ∀ l x, p l → p (l ++ [x])) (l : List Nat) : p l := by
  have : ∀ n (l : List Nat), l.length = n → p l := by
    intro n
    induction n with
    | zero => intro l hl; rw [List.length_eq_zero_iff.1 hl]; exact h0
    | succ n ih =>
      intro l hl
      have hne : l ≠ [] := fun e => by rw [e] at hl; simp at hl
      rw [← List.dropLast_concat_getLast hne]
      exact h1 _ _ (ih _ (by simp [hl]))
  exact this _ l rfl
theorem be_ofBe (l : List Nat) : (∀ x ∈ l, x < 256) → be l.length (ofBe l) = l ∧ ofBe l < 256 ^ l.length := by
  refine snoc_ind (p := fun l => (∀ x ∈ l, x < 256) → be l.length (ofBe l) = l ∧ ofBe l < 256 ^ l.length) ?_ ?_ l
  · intro _; exact ⟨rfl, by simp [ofBe]⟩
  · intro l x ih h
    have hx := h x (by simp)
    obtain ⟨h1, h2⟩ := ih fun y hy => h y (by simp [hy])
    rw [ofBe_snoc, List.length_append, List.length_singleton, be]
    refine ⟨?_, by rw [Nat.pow_succ]; omega⟩
    rw [show (ofBe l * 256 + x) / 256 = ofBe l by omega, show (ofBe l * 256 + x) % 256 = x by omega, h1]
theorem be_get : ∀ (k n i : Nat) (h : i < k), (be k n)[i]'(by rw [be_length]; exact h) = n / 256 ^ (k - 1 - i) % 256
  | 0, _, _, h => absurd h (by omega)
  | k + 1, n, i, h => by
    simp only [be]
    by_cases e : i < k
    · rw [List.getElem_append_left (by rw [be_length]; exact e), be_get k (n / 256) i e, Nat.div_div_eq_div_mul]
      congr 2
      rw [show k + 1 - 1 - i = (k - 1 - i) + 1 by omega, Nat.pow_succ, Nat.mul_comm]
    · have : i = k := by omega
      subst this
      rw [List.getElem_append_right (by rw [be_length]; exact Nat.le_refl _)]
      simp [be_length]
def Bytes (l : List Nat) : Prop := ∀ x ∈ l, x < 256
/-- A number of so many bytes, read. -/
def numP (k : Nat) (l : List Nat) : Option (Nat × List Nat) := if k ≤ l.length then some (ofBe (l.take k), l.drop k) else none
theorem numP_iff {k : Nat} {l : List Nat} (hl : Bytes l) (n : Nat) (r : List Nat) : numP k l = some (n, r) ↔ l = be k n ++ r ∧ n < 256 ^ k := by
  unfold numP
  constructor
  · intro h
    split at h
    · rename_i hk
      simp only [Option.some.injEq, Prod.mk.injEq] at h
      obtain ⟨rfl, rfl⟩ := h
      have := be_ofBe (l.take k) fun x hx => hl x (List.mem_of_mem_take hx)
      rw [List.length_take, Nat.min_eq_left hk] at this
      rw [this.1, List.take_append_drop]
      exact ⟨rfl, this.2⟩
    · cases h
  · rintro ⟨rfl, hn⟩
    rw [if_pos (by rw [List.length_append, be_length]; omega)]
    rw [List.take_append_of_le_length (by rw [be_length]; exact Nat.le_refl _), List.take_of_length_le (by rw [be_length]; exact Nat.le_refl _), ofBe_be k n hn, List.drop_append_of_le_length (by rw [be_length]; exact Nat.le_refl _), List.drop_of_length_le (by rw [be_length]; exact Nat.le_refl _)]
    rfl
theorem bytes_rest {k n : Nat} {l r : List Nat} (hl : Bytes l) (h : numP k l = some (n, r)) : Bytes r := by
  obtain ⟨rfl, _⟩ := (numP_iff hl n r).1 h
  exact fun x hx => hl x (List.mem_append_right _ hx)
/-- A text's bytes. -/
def strB (u : ByteArray) : List Nat := u.data.toList.map (·.toNat)
theorem strB_length (u : ByteArray) : (strB u).length = u.size := by simp [strB]
theorem strB_lt (u : ByteArray) : Bytes (strB u) := fun x hx => by
  obtain ⟨b, _, rfl⟩ := List.mem_map.1 hx
  exact b.toNat_lt
theorem toStr_strB (u : ByteArray) : toStr (strB u) = u := by
  unfold toStr strB
  rw [List.map_map]
  have : (UInt8.ofNat ∘ fun b : UInt8 => b.toNat) = id := by funext b; simp
  rw [this, List.map_id]
theorem strB_toStr {l : List Nat} (h : Bytes l) : strB (toStr l) = l := by
  unfold toStr strB
  rw [List.map_map]
  have : ∀ x ∈ l, ((fun b : UInt8 => b.toNat) ∘ UInt8.ofNat) x = x := fun x hx => by
    have := h x hx
    simp only [Function.comp, UInt8.toNat_ofNat']
    omega
  rw [List.map_congr_left this, List.map_id']
def nameB (u : ByteArray) : List Nat := u.size :: (strB u ++ List.replicate (16 - u.size) 0)
def nameP (l : List Nat) : Option (ByteArray × List Nat) := match numP 1 l with
  | none => none
  | some (n, l) => if 16 ≤ l.length ∧ n ≤ 16 ∧ ∀ x ∈ (l.take 16).drop n, x = 0 then some (toStr ((l.take 16).take n), l.drop 16) else none
theorem nameB_length {u : ByteArray} (h : u.size ≤ 16) : (nameB u).length = 17 := by
  simp [nameB, strB_length]; omega
theorem be_one {n : Nat} (h : n < 256) : be 1 n = [n] := by simp [be]; omega
theorem nameP_iff {l : List Nat} (hl : Bytes l) (u : ByteArray) (r : List Nat) : nameP l = some (u, r) ↔ l = nameB u ++ r ∧ u.size ≤ 16 := by
  unfold nameP
  constructor
  · intro h
    split at h
    · cases h
    · rename_i n l1 hn
      split at h
      · rename_i hc
        obtain ⟨h1, h2, h3⟩ := hc
        simp only [Option.some.injEq, Prod.mk.injEq] at h
        obtain ⟨rfl, rfl⟩ := h
        have hb1 := bytes_rest hl hn
        obtain ⟨rfl, hn2⟩ := (numP_iff hl n l1).1 hn
        have hbt : Bytes ((l1.take 16).take n) := fun x hx => hb1 x (List.mem_of_mem_take (List.mem_of_mem_take hx))
        have hsz : (toStr ((l1.take 16).take n)).size = n := by
          rw [← strB_length, strB_toStr hbt]; simp; omega
        refine ⟨?_, by omega⟩
        unfold nameB
        rw [hsz, strB_toStr hbt, be_one (by omega)]
        have hz : (l1.take 16).drop n = List.replicate (16 - n) 0 := by
          refine List.eq_replicate_iff.2 ⟨by simp; omega, fun x hx => h3 x hx⟩
        rw [← hz, List.take_append_drop]
        simp
      · cases h
  · rintro ⟨rfl, hu⟩
    have hb : Bytes (nameB u ++ r) := hl
    have hn : numP 1 (nameB u ++ r) = some (u.size, strB u ++ List.replicate (16 - u.size) 0 ++ r) := by
      rw [numP_iff hb]
      refine ⟨?_, by omega⟩
      rw [be_one (by omega)]
      simp [nameB]
    rw [hn]
    simp only
    have hlen : (strB u ++ List.replicate (16 - u.size) 0).length = 16 := by simp [strB_length]; omega
    have ht : (strB u ++ List.replicate (16 - u.size) 0 ++ r).take 16 = strB u ++ List.replicate (16 - u.size) 0 := by
      rw [List.take_append_of_le_length (by omega), List.take_of_length_le (by omega)]
    have hd : (strB u ++ List.replicate (16 - u.size) 0 ++ r).drop 16 = r := by
      rw [List.drop_append_of_le_length (by omega), List.drop_of_length_le (by omega)]; rfl
    rw [ht, hd]
    have htn : (strB u ++ List.replicate (16 - u.size) 0).take u.size = strB u := by
      rw [List.take_append_of_le_length (by rw [strB_length]; exact Nat.le_refl _), List.take_of_length_le (by rw [strB_length]; exact Nat.le_refl _)]
    have hdn : (strB u ++ List.replicate (16 - u.size) 0).drop u.size = List.replicate (16 - u.size) 0 := by
      rw [List.drop_append_of_le_length (by rw [strB_length]; exact Nat.le_refl _), List.drop_of_length_le (by rw [strB_length]; exact Nat.le_refl _)]; rfl
    rw [htn, hdn, toStr_strB, if_pos]
    exact ⟨by rw [List.length_append]; omega, hu, fun x hx => List.eq_of_mem_replicate hx⟩
def bnd {α β : Type} (p : Option (α × List Nat)) (q : α → List Nat → Option β) : Option β := match p with
  | none => none
  | some (n, l) => q n l
theorem bnd_some {α β : Type} {p : Option (α × List Nat)} {q : α → List Nat → Option β} {x : β} : bnd p q = some x ↔ ∃ n l, p = some (n, l) ∧ q n l = some x := by
  unfold bnd
  cases p with
  | none => simp
  | some y =>
    obtain ⟨n, l⟩ := y
    exact ⟨fun h => ⟨n, l, rfl, h⟩, fun ⟨_, _, e, h⟩ => by cases e; exact h⟩
/-- A number of so many bytes, or none. -/
def Fit (k : Nat) (n : Int) : Prop := 0 ≤ n ∧ n < (256 ^ k : Nat)
theorem fit_nat {k n : Nat} (h : n < 256 ^ k) : Fit k (n : Int) := ⟨by omega, by exact_mod_cast h⟩
theorem Fit.lt {k : Nat} {n : Int} (h : Fit k n) : n.toNat < 256 ^ k := by
  have := h.1; have := h.2; omega
theorem Fit.eq {k : Nat} {n : Int} (h : Fit k n) : ((n.toNat : Nat) : Int) = n := Int.toNat_of_nonneg h.1
theorem num_put {k : Nat} {n : Int} {r : List Nat} (h : Fit k n) (hr : Bytes (be k n.toNat ++ r)) : numP k (be k n.toNat ++ r) = some (n.toNat, r) := (numP_iff hr _ _).2 ⟨rfl, h.lt⟩
theorem bytes_app {a b : List Nat} : Bytes (a ++ b) ↔ Bytes a ∧ Bytes b :=
  ⟨fun h => ⟨fun x hx => h x (List.mem_append_left _ hx), fun x hx => h x (List.mem_append_right _ hx)⟩, fun h x hx => (List.mem_append.1 hx).elim (h.1 x) (h.2 x)⟩
theorem name_rest {l r : List Nat} {u : ByteArray} (hl : Bytes l) (h : nameP l = some (u, r)) : Bytes r := by
  obtain ⟨rfl, _⟩ := (nameP_iff hl u r).1 h
  exact (bytes_app.1 hl).2
def opB (o : Op) : List Nat := be 1 o.kind.toNat ++ (be 4 o.id.toNat ++ (be 1 o.link.toNat ++ (be 4 o.addr.toNat ++ (nameB o.user ++ (be 8 o.inn.toNat ++ (be 8 o.out.toNat ++ (be 1 o.cause.toNat ++ be 4 o.at_.toNat)))))))
structure OpFit (o : Op) : Prop where
  kind : Fit 1 o.kind
  id : Fit 4 o.id
  link : Fit 1 o.link
  addr : Fit 4 o.addr
  user : o.user.size ≤ 16
  inn : Fit 8 o.inn
  out : Fit 8 o.out
  cause : Fit 1 o.cause
  at_ : Fit 4 o.at_
def opP (l : List Nat) : Option (Op × List Nat) := bnd (numP 1 l) fun kind l => bnd (numP 4 l) fun id l => bnd (numP 1 l) fun link l => bnd (numP 4 l) fun addr l => bnd (nameP l) fun user l =>
  bnd (numP 8 l) fun inn l => bnd (numP 8 l) fun out l => bnd (numP 1 l) fun cause l => bnd (numP 4 l) fun at_ l => some (⟨kind, id, link, addr, user, inn, out, cause, at_⟩, l)
theorem opP_iff {l : List Nat} (hl : Bytes l) (o : Op) (r : List Nat) : opP l = some (o, r) ↔ l = opB o ++ r ∧ OpFit o := by
  unfold opP
  constructor
  · simp only [bnd_some, Option.some.injEq, Prod.mk.injEq]
    rintro ⟨a1, l1, h1, a2, l2, h2, a3, l3, h3, a4, l4, h4, a5, l5, h5, a6, l6, h6, a7, l7, h7, a8, l8, h8, a9, l9, h9, rfl, rfl⟩
    have b1 := bytes_rest hl h1
    have b2 := bytes_rest b1 h2
    have b3 := bytes_rest b2 h3
    have b4 := bytes_rest b3 h4
    have b5 := name_rest b4 h5
    have b6 := bytes_rest b5 h6
    have b7 := bytes_rest b6 h7
    have b8 := bytes_rest b7 h8
    obtain ⟨rfl, q1⟩ := (numP_iff hl _ _).1 h1
    obtain ⟨rfl, q2⟩ := (numP_iff b1 _ _).1 h2
    obtain ⟨rfl, q3⟩ := (numP_iff b2 _ _).1 h3
    obtain ⟨rfl, q4⟩ := (numP_iff b3 _ _).1 h4
    obtain ⟨rfl, q5⟩ := (nameP_iff b4 _ _).1 h5
    obtain ⟨rfl, q6⟩ := (numP_iff b5 _ _).1 h6
    obtain ⟨rfl, q7⟩ := (numP_iff b6 _ _).1 h7
    obtain ⟨rfl, q8⟩ := (numP_iff b7 _ _).1 h8
    obtain ⟨rfl, q9⟩ := (numP_iff b8 _ _).1 h9
    exact ⟨by simp [opB, List.append_assoc], fit_nat q1, fit_nat q2, fit_nat q3, fit_nat q4, q5, fit_nat q6, fit_nat q7, fit_nat q8, fit_nat q9⟩
  · rintro ⟨rfl, f⟩
    unfold opB at hl ⊢
    simp only [List.append_assoc] at hl ⊢
    have b1 := (bytes_app.1 hl).2
    have b2 := (bytes_app.1 b1).2
    have b3 := (bytes_app.1 b2).2
    have b4 := (bytes_app.1 b3).2
    have b5 := (bytes_app.1 b4).2
    have b6 := (bytes_app.1 b5).2
    have b7 := (bytes_app.1 b6).2
    have b8 := (bytes_app.1 b7).2
    rw [num_put f.kind hl]; simp only [bnd]
    rw [num_put f.id b1]; simp only
    rw [num_put f.link b2]; simp only
    rw [num_put f.addr b3]; simp only
    rw [(nameP_iff b4 _ _).2 ⟨rfl, f.user⟩]; simp only
    rw [num_put f.inn b5]; simp only
    rw [num_put f.out b6]; simp only
    rw [num_put f.cause b7]; simp only
    rw [num_put f.at_ b8]; simp only
    rw [f.kind.eq, f.id.eq, f.link.eq, f.addr.eq, f.inn.eq, f.out.eq, f.cause.eq, f.at_.eq]
def sessB (s : Sess) : List Nat := be 4 s.id.toNat ++ (be 1 s.link.toNat ++ (be 4 s.addr.toNat ++ (nameB s.user ++ (be 8 s.inn.toNat ++ be 8 s.out.toNat))))
structure SessFit (s : Sess) : Prop where
  id : Fit 4 s.id
  link : Fit 1 s.link
  addr : Fit 4 s.addr
  user : s.user.size ≤ 16
  inn : Fit 8 s.inn
  out : Fit 8 s.out
def sessP (l : List Nat) : Option (Sess × List Nat) := bnd (numP 4 l) fun id l => bnd (numP 1 l) fun link l => bnd (numP 4 l) fun addr l => bnd (nameP l) fun user l => bnd (numP 8 l) fun inn l => bnd (numP 8 l) fun out l => some (⟨id, link, addr, user, inn, out⟩, l)
theorem sessP_iff {l : List Nat} (hl : Bytes l) (s : Sess) (r : List Nat) : sessP l = some (s, r) ↔ l = sessB s ++ r ∧ SessFit s := by
  unfold sessP
  constructor
  · simp only [bnd_some, Option.some.injEq, Prod.mk.injEq]
    rintro ⟨a2, l2, h2, a3, l3, h3, a4, l4, h4, a5, l5, h5, a6, l6, h6, a7, l7, h7, rfl, rfl⟩
    have b2 := bytes_rest hl h2
    have b3 := bytes_rest b2 h3
    have b4 := bytes_rest b3 h4
    have b5 := name_rest b4 h5
    have b6 := bytes_rest b5 h6
    obtain ⟨rfl, q2⟩ := (numP_iff hl _ _).1 h2
    obtain ⟨rfl, q3⟩ := (numP_iff b2 _ _).1 h3
    obtain ⟨rfl, q4⟩ := (numP_iff b3 _ _).1 h4
    obtain ⟨rfl, q5⟩ := (nameP_iff b4 _ _).1 h5
    obtain ⟨rfl, q6⟩ := (numP_iff b5 _ _).1 h6
    obtain ⟨rfl, q7⟩ := (numP_iff b6 _ _).1 h7
    exact ⟨by simp [sessB, List.append_assoc], fit_nat q2, fit_nat q3, fit_nat q4, q5, fit_nat q6, fit_nat q7⟩
  · rintro ⟨rfl, f⟩
    unfold sessB at hl ⊢
    simp only [List.append_assoc] at hl ⊢
    have b2 := (bytes_app.1 hl).2
    have b3 := (bytes_app.1 b2).2
    have b4 := (bytes_app.1 b3).2
    have b5 := (bytes_app.1 b4).2
    have b6 := (bytes_app.1 b5).2
    rw [num_put f.id hl]; simp only [bnd]
    rw [num_put f.link b2]; simp only
    rw [num_put f.addr b3]; simp only
    rw [(nameP_iff b4 _ _).2 ⟨rfl, f.user⟩]; simp only
    rw [num_put f.inn b5]; simp only
    rw [num_put f.out b6]; simp only
    rw [f.id.eq, f.link.eq, f.addr.eq, f.inn.eq, f.out.eq]
def itemB (x : Item) : List Nat := be 1 x.kind.toNat ++ (be 4 x.id.toNat ++ (be 8 x.inn.toNat ++ (be 8 x.out.toNat ++ be 1 x.cause.toNat)))
structure ItemFit (x : Item) : Prop where
  kind : Fit 1 x.kind
  id : Fit 4 x.id
  inn : Fit 8 x.inn
  out : Fit 8 x.out
  cause : Fit 1 x.cause
def itemP (l : List Nat) : Option (Item × List Nat) := bnd (numP 1 l) fun kind l => bnd (numP 4 l) fun id l => bnd (numP 8 l) fun inn l => bnd (numP 8 l) fun out l => bnd (numP 1 l) fun cause l => some (⟨kind, id, inn, out, cause⟩, l)
theorem itemP_iff {l : List Nat} (hl : Bytes l) (x : Item) (r : List Nat) : itemP l = some (x, r) ↔ l = itemB x ++ r ∧ ItemFit x := by
  unfold itemP
  constructor
  · simp only [bnd_some, Option.some.injEq, Prod.mk.injEq]
    rintro ⟨a2, l2, h2, a3, l3, h3, a4, l4, h4, a6, l6, h6, a7, l7, h7, rfl, rfl⟩
    have b2 := bytes_rest hl h2
    have b3 := bytes_rest b2 h3
    have b4 := bytes_rest b3 h4
    have b6 := bytes_rest b4 h6
    obtain ⟨rfl, q2⟩ := (numP_iff hl _ _).1 h2
    obtain ⟨rfl, q3⟩ := (numP_iff b2 _ _).1 h3
    obtain ⟨rfl, q4⟩ := (numP_iff b3 _ _).1 h4
    obtain ⟨rfl, q6⟩ := (numP_iff b4 _ _).1 h6
    obtain ⟨rfl, q7⟩ := (numP_iff b6 _ _).1 h7
    exact ⟨by simp [itemB, List.append_assoc], fit_nat q2, fit_nat q3, fit_nat q4, fit_nat q6, fit_nat q7⟩
  · rintro ⟨rfl, f⟩
    unfold itemB at hl ⊢
    simp only [List.append_assoc] at hl ⊢
    have b2 := (bytes_app.1 hl).2
    have b3 := (bytes_app.1 b2).2
    have b4 := (bytes_app.1 b3).2
    have b5 := (bytes_app.1 b4).2
    rw [num_put f.kind hl]; simp only [bnd]
    rw [num_put f.id b2]; simp only
    rw [num_put f.inn b3]; simp only
    rw [num_put f.out b4]; simp only
    rw [num_put f.cause b5]; simp only
    rw [f.kind.eq, f.id.eq, f.inn.eq, f.out.eq, f.cause.eq]
def lockB (x : Lock) : List Nat := nameB x.user ++ (be 1 x.n.toNat ++ be 4 x.at_.toNat)
structure LockFit (x : Lock) : Prop where
  user : x.user.size ≤ 16
  n : Fit 1 x.n
  at_ : Fit 4 x.at_
def lockP (l : List Nat) : Option (Lock × List Nat) := bnd (nameP l) fun user l => bnd (numP 1 l) fun n l => bnd (numP 4 l) fun at_ l => some (⟨user, n, at_⟩, l)
theorem lockP_iff {l : List Nat} (hl : Bytes l) (x : Lock) (r : List Nat) : lockP l = some (x, r) ↔ l = lockB x ++ r ∧ LockFit x := by
  unfold lockP
  constructor
  · simp only [bnd_some, Option.some.injEq, Prod.mk.injEq]
    rintro ⟨a2, l2, h2, a3, l3, h3, a4, l4, h4, rfl, rfl⟩
    have b2 := name_rest hl h2
    have b3 := bytes_rest b2 h3
    obtain ⟨rfl, q2⟩ := (nameP_iff hl _ _).1 h2
    obtain ⟨rfl, q3⟩ := (numP_iff b2 _ _).1 h3
    obtain ⟨rfl, q4⟩ := (numP_iff b3 _ _).1 h4
    exact ⟨by simp [lockB, List.append_assoc], q2, fit_nat q3, fit_nat q4⟩
  · rintro ⟨rfl, f⟩
    unfold lockB at hl ⊢
    simp only [List.append_assoc] at hl ⊢
    have b2 := (bytes_app.1 hl).2
    have b3 := (bytes_app.1 b2).2
    rw [(nameP_iff hl _ _).2 ⟨rfl, f.user⟩]; simp only [bnd]
    rw [num_put f.n b2]; simp only
    rw [num_put f.at_ b3]; simp only
    rw [f.n.eq, f.at_.eq]
/-- So many, one behind the other. -/
def manyP {α : Type} (p : List Nat → Option (α × List Nat)) : Nat → List Nat → Option (List α × List Nat)
  | 0, l => some ([], l)
  | n + 1, l => bnd (p l) fun x l => bnd (manyP p n l) fun xs l => some (x :: xs, l)
theorem manyP_iff {α : Type} {p : List Nat → Option (α × List Nat)} {enc : α → List Nat} {ok : α → Prop} (h : ∀ {l : List Nat}, Bytes l → ∀ x r, p l = some (x, r) ↔ l = enc x ++ r ∧ ok x) : ∀ (n : Nat) {l : List Nat}, Bytes l → ∀ xs r, manyP p n l = some (xs, r) ↔ l = xs.flatMap enc ++ r ∧ xs.length = n ∧ ∀ x ∈ xs, ok x
  | 0, l, hl, xs, r => by
    simp only [manyP, Option.some.injEq, Prod.mk.injEq]
    constructor
    · rintro ⟨rfl, rfl⟩; simp
    · rintro ⟨h1, h2, _⟩
      rw [List.length_eq_zero_iff] at h2
      subst h2
      simpa using h1
  | n + 1, l, hl, xs, r => by
    simp only [manyP, bnd_some, Option.some.injEq, Prod.mk.injEq]
    constructor
    · rintro ⟨x, l1, h1, ys, l2, h2, rfl, rfl⟩
      obtain ⟨rfl, q1⟩ := (h hl x l1).1 h1
      have b1 := (bytes_app.1 hl).2
      obtain ⟨rfl, q2, q3⟩ := (manyP_iff h n b1 ys l2).1 h2
      refine ⟨by simp, by simp [q2], fun y hy => ?_⟩
      rcases List.mem_cons.1 hy with rfl | hy
      · exact q1
      · exact q3 y hy
    · rintro ⟨rfl, h2, h3⟩
      cases xs with
      | nil => simp at h2
      | cons x ys =>
        simp only [List.flatMap_cons, List.append_assoc] at hl ⊢
        have b1 := (bytes_app.1 hl).2
        exact ⟨x, _, (h hl x _).2 ⟨rfl, h3 x List.mem_cons_self⟩, ys, r, (manyP_iff h n b1 ys r).2 ⟨rfl, by simpa using h2, fun y hy => h3 y (List.mem_cons_of_mem _ hy)⟩, rfl, rfl⟩
end Bk
end Go.Proofs.Ytdgklbbgbnapoaa
namespace Go.Proofs.Ytdgklbbgbnapoaa
open Go.RowKit
set_option linter.unusedVariables false
set_option linter.unusedSimpArgs false
set_option maxRecDepth 100000
namespace Bk
section
variable (Γ : Nat → Option (List Data))
/-- What is told, where bytes can't be read. -/
def errV : Value := .iface 30 (.int .i64 2)
theorem need_dx (ok : Bool) {H : Nat → Blk} {nx : Nat} {K : D → (Nat → Blk) → Nat → Prop} {X : Value → (Nat → Blk) → Nat → Prop} (hk : ok = true → K (.data (.tup [])) H (nx + 2)) (hx : ok = false → X errV H (nx + 3)) :
    DX Try.prog Γ 60 [.data (.bool ok)] H nx K X := by
  refine dx_by mixed Try.func60 rfl (fun args w => Try.call60 args w) ?_
  cases ok with
  | true =>
    have hk := hk rfl
    simp -implicitDefEqProofs (disch := omega) [go_sem, hk, Try.f60]
    exact ⟨_, rfl, hk⟩
  | false =>
    have hx := hx rfl
    unfold errV at hx
    simp -implicitDefEqProofs (disch := omega) [go_sem, hx]
/-- A reader's call: what it hands back, what is left; or it can't be read. -/
def RdK (p : Option (Data × List Nat)) : D → (Nat → Blk) → Nat → Prop := fun d H' _ => ∃ r c, d = .data r ∧ H' 0 = .blk true (c.map D.data) ∧ ∃ l', c = [.sl 1 (bys l')] ∧ p = some (r, l')
def RdX (p : Option (Data × List Nat)) : Value → (Nat → Blk) → Nat → Prop := fun v H' _ => ∃ c, H' 0 = .blk true (c.map D.data) ∧ (∃ l', c = [Data.sl 1 (bys l')]) ∧ v = errV ∧ p = none
theorem rdK {p : Option (Data × List Nat)} {r : Data} {l' : List Nat} {H' : Nat → Blk} {n : Nat} (hH : H' 0 = .blk true [.data (.sl 1 (bys l'))]) (hp : p = some (r, l')) : RdK p (.data r) H' n := ⟨r, [.sl 1 (bys l')], rfl, hH, l', rfl, hp⟩
theorem rdX {p : Option (Data × List Nat)} {v : Value} {l' : List Nat} {H' : Nat → Blk} {n : Nat} (hv : v = errV) (hH : H' 0 = .blk true [.data (.sl 1 (bys l'))]) (hp : p = none) : RdX p v H' n := ⟨[.sl 1 (bys l')], hH, ⟨l', rfl⟩, hv, hp⟩
def RD (f : FuncId) (xs : List D) (l : List Nat) (p : Option (Data × List Nat)) : Prop := DX Try.prog Γ f (.ptr 0 0 :: xs) (hpL [(0, .blk true [.data (.sl 1 (bys l))])]) 1 (RdK p) (RdX p)
variable {Γ}
theorem rd_lent {f : FuncId} {xs : List D} {l : List Nat} {p : Option (Data × List Nat)} (h : RD Γ f xs l p) {H : Nat → Blk} {nx g : Nat} {K : D → (Nat → Blk) → Nat → Prop} {X : Value → (Nat → Blk) → Nat → Prop} (hg : H g = .blk true [.data (.sl 1 (bys l))]) (hxs : ∀ x ∈ xs, (∃ y, x = .data y) ∨ ∃ c, x = .cptr c)
    (hk : ∀ r l', p = some (r, l') → K (.data r) (Hp.upd H [(g, .blk true [.data (.sl 1 (bys l'))])]) nx) (hx : p = none → ∀ l', X errV (Hp.upd H [(g, .blk true [.data (.sl 1 (bys l'))])]) nx) : DX Try.prog Γ f (.ptr g 0 :: xs) H nx K X := by
  refine dx_lent (cells := [.sl 1 (bys l)]) (K0 := fun r c => ∃ l', c = [.sl 1 (bys l')] ∧ p = some (r, l')) (X0 := fun v c => (∃ l', c = [Data.sl 1 (bys l')]) ∧ v = errV ∧ p = none) h hg (.ptr 0) hxs ?_ ?_
  · rintro r c ⟨l', rfl, hp⟩; exact hk r l' hp
  · rintro v c ⟨⟨l', rfl⟩, rfl, hp⟩; exact hx hp l'
variable (Γ)
/-- Some bytes. -/
def takeP (n : Nat) (l : List Nat) : Option (Data × List Nat) := if n ≤ l.length then some (.sl 1 (bys (l.take n)), l.drop n) else none
theorem take_rd (l : List Nat) (hl : l.length ≤ 1000000) (n : Nat) (hn : n ≤ 1000000) : RD Γ 80 [.data (.int .i64 n)] l (takeP n l) := by
  refine dx_by mixed Try.func80 rfl (fun args w => Try.call80 args w) ?_
  by_cases h : n ≤ l.length
  · simp -implicitDefEqProofs (disch := omega) [go_sem]
    refine .inr (.inr (need_dx Γ true (fun _ => ?_) (fun e => by cases e)))
    simp -implicitDefEqProofs (disch := omega) [go_sem, Try.f80]
    exact rdK (l' := l.drop n) (by simp [go_sem]) (by simp [takeP, h])
  · simp -implicitDefEqProofs (disch := omega) [go_sem]
    refine .inr (.inr (need_dx Γ false (fun e => by cases e) (fun _ => ?_)))
    simp -implicitDefEqProofs (disch := omega) [go_sem]
    exact rdX (l' := l) rfl (by simp [go_sem]) (by simp [takeP, h])
theorem zeros_pc (l : List Nat) (hl : l.length ≤ 1000000) {v : Bool} (hv : v = true ↔ ∀ x ∈ l, x = 0) : PC Try.prog Γ 83 [.sl 1 (bys l)] (.bool v) := by
  refine pc_by mixed Try.func83 rfl (fun args w => Try.call83 args w) ?_
  have no : (¬ ∀ x ∈ l, x = 0) → v = false := fun h => by
    cases v
    · rfl
    · exact absurd (hv.1 rfl) h
  simp -implicitDefEqProofs (disch := omega) [go_sem]
  refine loop_ren (σ := { i : Nat // i ≤ l.length ∧ ∀ (j : Nat) (h : j < l.length), j < i → l[j] = 0 }) (fun i => ⟨envL [(5, .data (.sl 1 (bys l))), (6, .data (.int .i64 l.length)), (7, .data (.int .i64 i.1))], hpL [], 0, 0, 14⟩) (fun i => l.length - i.1) ⟨0, by omega, by omega⟩ [] (rhoL []) ?_ ?_
  · apply ren_lists <;> simp -implicitDefEqProofs [go_sem]
  rintro ⟨i, hi, hall⟩
  by_cases h : i < l.length
  · by_cases e : l[i] = 0
    · simp -implicitDefEqProofs (disch := omega) [go_sem, e]
      refine next_ren ⟨i + 1, by omega, fun j hj hl => if e2 : j = i then by subst e2; exact e else hall j hj (by omega)⟩ (by simp only; omega) [] (rhoL []) ?_
      apply ren_lists <;> simp -implicitDefEqProofs [go_sem]
    · have hvf : v = false := no fun h2 => e (h2 _ (List.getElem_mem h))
      simp -implicitDefEqProofs (disch := omega) [go_sem, e, hvf, Try.f83]
  have hvt : v = true := hv.2 fun x hx => by
    obtain ⟨j, hj, rfl⟩ := List.getElem_of_mem hx
    exact hall j hj (by omega)
  simp -implicitDefEqProofs (disch := omega) [go_sem, hvt, Try.f83]
theorem or_byte {a b : Nat} (ha : a < 72057594037927936) (hb : b < 256) : orI .u64 ((a : Int) * 256 % 18446744073709551616) ((b : Int) % 18446744073709551616) = ((a * 256 + b : Nat) : Int) := by
  rw [show ((b : Int) % 18446744073709551616) = b by omega]
  have e1 : ((a : Int) * 256 % 18446744073709551616) = ((a * 256 : Nat) : Int) := by omega
  rw [e1]
  unfold orI
  rw [IntKind.wrap_u64, BitVec.ofInt_natCast, BitVec.ofInt_natCast, BitVec.toNat_or, BitVec.toNat_ofNat, BitVec.toNat_ofNat, Nat.mod_eq_of_lt (show a * 256 < 2 ^ IntKind.u64.bits by show a * 256 < 2 ^ 64; omega), Nat.mod_eq_of_lt (show b < 2 ^ IntKind.u64.bits by show b < 2 ^ 64; omega)]
  have h := Nat.shiftLeft_add_eq_or_of_lt (show b < 2 ^ 8 by omega) a
  rw [Nat.shiftLeft_eq] at h
  have h2 : a * 256 ||| b = a * 256 + b := h.symm
  rw [h2]
  omega
theorem ofBe_take (l : List Nat) (i : Nat) (h : i < l.length) : ofBe (l.take (i + 1)) = ofBe (l.take i) * 256 + l[i] := by
  rw [List.take_succ_eq_append_getElem h, ofBe_snoc]
theorem ofBe_le (l : List Nat) (hl : Bytes l) (i k : Nat) (hk : i < k) (h8 : k ≤ 8) : ofBe (l.take i) < 72057594037927936 := by
  have h := (be_ofBe (l.take i) fun x hx => hl x (List.mem_of_mem_take hx)).2
  have h2 : 256 ^ (l.take i).length ≤ 256 ^ 7 := Nat.pow_le_pow_right (by omega) (by simp; omega)
  have : 256 ^ 7 = 72057594037927936 := by decide
  omega
def numD (p : Option (Nat × List Nat)) (f : Nat → Data) : Option (Data × List Nat) := p.map fun x => (f x.1, x.2)
theorem number_rd (l : List Nat) (hl : l.length ≤ 1000000) (hb : Bytes l) (k : Nat) (hk : k ≤ 8) : RD Γ 81 [.data (.int .i64 k)] l (numD (numP k l) fun n => .int .u64 n) := by
  refine dx_by mixed Try.func81 rfl (fun args w => Try.call81 args w) ?_
  have ct := take_rd Γ l hl k (by omega)
  simp -implicitDefEqProofs (disch := omega) [go_sem]
  refine .inr (.inr (rd_lent ct (by simp [go_sem]) (by simp) (fun r l' hp => ?_) (fun hp l' => ?_)))
  rotate_left
  · have hn : numP k l = none := by
      unfold takeP at hp; unfold numP
      split at hp
      · cases hp
      · rename_i h; rw [if_neg h]
    simp -implicitDefEqProofs (disch := omega) [go_sem]
    exact rdX (l' := l') rfl (by simp [go_sem]) (by rw [hn]; rfl)
  unfold takeP at hp
  split at hp
  rotate_left
  · cases hp
  rename_i hkl
  simp only [Option.some.injEq, Prod.mk.injEq] at hp
  obtain ⟨rfl, rfl⟩ := hp
  have hlen : (l.take k).length = k := by simp; omega
  have hbt : Bytes (l.take k) := fun x hx => hb x (List.mem_of_mem_take hx)
  have hnum : numP k l = some (ofBe (l.take k), l.drop k) := by unfold numP; rw [if_pos hkl]
  generalize l.take k = q at *
  generalize l.drop k = rest at *
  simp -implicitDefEqProofs (disch := omega) [go_sem]
  refine loop_ren (σ := { i : Nat // i ≤ k }) (fun i => ⟨envL [(5, .data (.int .u64 (ofBe (q.take i.1)))), (10, .data (.sl 1 (bys q))), (11, .data (.int .i64 k)), (12, .data (.int .i64 i.1))], hpL [(0, .blk true [.data (.sl 1 (bys rest))])], 1, 1, 23⟩) (fun i => k - i.1) ⟨0, by omega⟩ [] (rhoL []) ?_ ?_
  · apply ren_lists <;> simp -implicitDefEqProofs [go_sem, hlen, ofBe]
  rintro ⟨i, hi⟩
  by_cases h : i < k
  · have hx := hbt _ (List.getElem_mem (show i < q.length by omega))
    have hs := ofBe_take q i (by omega)
    have hle := ofBe_le q hbt i k h hk
    have hor := or_byte hle hx
    generalize ofBe (q.take i) = n at *
    simp -implicitDefEqProofs (disch := omega) [go_sem, hor]
    refine next_ren ⟨i + 1, by omega⟩ (by simp only; omega) [] (rhoL []) ?_
    apply ren_lists <;> simp -implicitDefEqProofs [go_sem, hs]
  have : i = k := by omega
  subst this
  simp -implicitDefEqProofs (disch := omega) [go_sem, Try.f81]
  exact rdK (l' := rest) (by simp [go_sem]) (by rw [hnum, ← hlen, List.take_length]; rfl)
theorem numD_none {p : Option (Nat × List Nat)} {f : Nat → Data} : numD p f = none ↔ p = none := by unfold numD; cases p <;> simp
theorem numD_some {p : Option (Nat × List Nat)} {f : Nat → Data} {r : Data} {l' : List Nat} : numD p f = some (r, l') ↔ ∃ n, p = some (n, l') ∧ r = f n := by
  unfold numD
  cases p with
  | none => simp
  | some x =>
    obtain ⟨n, l2⟩ := x
    simp only [Option.map_some, Option.some.injEq, Prod.mk.injEq]
    exact ⟨fun ⟨a, b⟩ => ⟨n, ⟨rfl, b⟩, a.symm⟩, fun ⟨_, ⟨a, b⟩, c⟩ => ⟨by rw [c, a], b⟩⟩
theorem numP_lt {k n : Nat} {l r : List Nat} (hl : Bytes l) (h : numP k l = some (n, r)) : n < 256 ^ k := ((numP_iff hl n r).1 h).2
theorem numP_len {k n : Nat} {l r : List Nat} (h : numP k l = some (n, r)) : r.length ≤ l.length := by
  unfold numP at h
  split at h
  · simp only [Option.some.injEq, Prod.mk.injEq] at h
    rw [← h.2, List.length_drop]; omega
  · cases h
theorem small_rd (l : List Nat) (hl : l.length ≤ 1000000) (hb : Bytes l) (k : Nat) (hk : k ≤ 4) : RD Γ 62 [.data (.int .i64 k)] l (numD (numP k l) fun n => .int .i64 n) := by
  refine dx_by mixed Try.func62 rfl (fun args w => Try.call62 args w) ?_
  have ct := number_rd Γ l hl hb k (by omega)
  simp -implicitDefEqProofs (disch := omega) [go_sem]
  refine .inr (.inr (rd_lent ct (by simp [go_sem]) (by simp) (fun r l' hp => ?_) (fun hp l' => ?_)))
  rotate_left
  · rw [numD_none] at hp
    simp -implicitDefEqProofs (disch := omega) [go_sem]
    exact rdX (l' := l') rfl (by simp [go_sem]) (by rw [hp]; rfl)
  obtain ⟨n, hn, rfl⟩ := numD_some.1 hp
  have h1 := numP_lt hb hn
  have h2 : 256 ^ k ≤ 256 ^ 4 := Nat.pow_le_pow_right (by omega) hk
  have h3 : 256 ^ 4 = 4294967296 := by decide
  simp -implicitDefEqProofs (disch := omega) [go_sem, Try.f62]
  exact rdK (l' := l') (by simp [go_sem]) (by rw [hn]; rfl)
theorem end_rd (l : List Nat) (hl : l.length ≤ 1000000) {v : Bool} (hv : v = true ↔ ∀ x ∈ l, x = 0) : RD Γ 64 [] l (if v = true then some (.tup [], l) else none) := by
  refine dx_by mixed Try.func64 rfl (fun args w => Try.call64 args w) ?_
  have cz := zeros_pc Γ l hl hv
  simp -implicitDefEqProofs (disch := omega) [go_sem]
  refine .inl (call_data cz (by simp [go_sem]) ?_)
  simp -implicitDefEqProofs (disch := omega) [go_sem]
  refine .inr (.inr (need_dx Γ v (fun e => ?_) (fun e => ?_)))
  · simp -implicitDefEqProofs (disch := omega) [go_sem, Try.f64]
    exact ⟨_, rfl, rdK (l' := l) (by simp [go_sem]) (by simp [e])⟩
  · simp -implicitDefEqProofs (disch := omega) [go_sem]
    exact rdX (l' := l) rfl (by simp [go_sem]) (by simp [e])
/-- With these letters it must begin. -/
def letP (u : ByteArray) (l : List Nat) : Option (Data × List Nat) := if u.size ≤ l.length ∧ toStr (l.take u.size) = u then some (.tup [], l.drop u.size) else none
theorem letters_rd (l : List Nat) (hl : l.length ≤ 1000000) (hb : Bytes l) (u : ByteArray) (hu : u.size ≤ 1000000) : RD Γ 61 [.data (.str u)] l (letP u l) := by
  refine dx_by mixed Try.func61 rfl (fun args w => Try.call61 args w) ?_
  have ct := take_rd Γ l hl u.size hu
  simp -implicitDefEqProofs (disch := omega) [go_sem]
  refine .inr (.inr (rd_lent ct (by simp [go_sem]) (by simp) (fun r l' hp => ?_) (fun hp l' => ?_)))
  rotate_left
  · have hn : letP u l = none := by
      unfold takeP at hp; unfold letP
      split at hp
      · cases hp
      · rename_i h; rw [if_neg fun e => h e.1]
    simp -implicitDefEqProofs (disch := omega) [go_sem]
    exact rdX (l' := l') rfl (by simp [go_sem]) hn
  unfold takeP at hp
  split at hp
  rotate_left
  · cases hp
  rename_i hkl
  simp only [Option.some.injEq, Prod.mk.injEq] at hp
  obtain ⟨rfl, rfl⟩ := hp
  have hbt : Bytes (l.take u.size) := fun x hx => hb x (List.mem_of_mem_take hx)
  simp -implicitDefEqProofs (disch := omega) [go_sem]
  refine conv_bys (e := 5) hbt (by simp [go_sem]) (by simp [go_sem]) (by simp [go_sem]) ?_
  by_cases h : toStr (l.take u.size) = u
  · simp -implicitDefEqProofs (disch := omega) [go_sem, h]
    refine .inr (.inr (need_dx Γ true (fun _ => ?_) (fun e => by cases e)))
    simp -implicitDefEqProofs (disch := omega) [go_sem, Try.f61]
    exact ⟨_, rfl, rdK (l' := l.drop u.size) (by simp [go_sem]) (by unfold letP; rw [if_pos ⟨hkl, h⟩])⟩
  · simp -implicitDefEqProofs (disch := omega) [go_sem, h]
    refine .inr (.inr (need_dx Γ false (fun e => by cases e) (fun _ => ?_)))
    simp -implicitDefEqProofs (disch := omega) [go_sem]
    exact rdX (l' := l.drop u.size) rfl (by simp [go_sem]) (by unfold letP; rw [if_neg fun e => h e.2])
end
end Bk
end Go.Proofs.Ytdgklbbgbnapoaa
namespace Go.Proofs.Ytdgklbbgbnapoaa
open Go.RowKit
set_option linter.unusedVariables false
set_option linter.unusedSimpArgs false
set_option maxRecDepth 100000
namespace Bk
section
variable (Γ : Nat → Option (List Data))
def mapD {α : Type} (p : Option (α × List Nat)) (f : α → Data) : Option (Data × List Nat) := p.map fun x => (f x.1, x.2)
theorem mapD_none {α : Type} {p : Option (α × List Nat)} {f : α → Data} : mapD p f = none ↔ p = none := by unfold mapD; cases p <;> simp
theorem mapD_some {α : Type} {p : Option (α × List Nat)} {f : α → Data} {r : Data} {l' : List Nat} : mapD p f = some (r, l') ↔ ∃ n, p = some (n, l') ∧ r = f n := by
  unfold mapD
  cases p with
  | none => simp
  | some x =>
    obtain ⟨n, l2⟩ := x
    simp only [Option.map_some, Option.some.injEq, Prod.mk.injEq]
    exact ⟨fun ⟨a, b⟩ => ⟨n, ⟨rfl, b⟩, a.symm⟩, fun ⟨_, ⟨a, b⟩, c⟩ => ⟨by rw [c, a], b⟩⟩
theorem nameP_len {l r : List Nat} {u : ByteArray} (h : nameP l = some (u, r)) : r.length ≤ l.length := by
  unfold nameP at h
  split at h
  · cases h
  · rename_i n l1 hn
    have := numP_len hn
    split at h
    · simp only [Option.some.injEq, Prod.mk.injEq] at h
      rw [← h.2, List.length_drop]; omega
    · cases h
theorem take_none {n : Nat} {l : List Nat} (h : takeP n l = none) : ¬ n ≤ l.length := fun e => by unfold takeP at h; rw [if_pos e] at h; cases h
theorem take_some {n : Nat} {l l' : List Nat} {r : Data} (h : takeP n l = some (r, l')) : n ≤ l.length ∧ r = .sl 1 (bys (l.take n)) ∧ l' = l.drop n := by
  unfold takeP at h
  split at h
  · simp only [Option.some.injEq, Prod.mk.injEq] at h
    exact ⟨‹_›, h.1.symm, h.2.symm⟩
  · cases h
set_option maxHeartbeats 2000000 in
theorem name_rd (l : List Nat) (hl : l.length ≤ 1000000) (hb : Bytes l) : RD Γ 82 [] l (mapD (nameP l) Data.str) := by
  refine dx_by mixed Try.func82 rfl (fun args w => Try.call82 args w) ?_
  simp -implicitDefEqProofs (disch := omega) [go_sem]
  refine .inr (.inr (rd_lent (small_rd Γ l hl hb 1 (by omega)) (by simp [go_sem]) (by simp) (fun r l1 hp => ?_) (fun hp l' => ?_)))
  rotate_left
  · rw [numD_none] at hp
    simp -implicitDefEqProofs (disch := omega) [go_sem]
    exact rdX (l' := l') rfl (by simp [go_sem]) (by simp [mapD, nameP, hp])
  obtain ⟨n, h1, rfl⟩ := numD_some.1 hp
  clear hp
  have hb1 := bytes_rest hb h1
  have hl1 : l1.length ≤ 1000000 := Nat.le_trans (numP_len h1) hl
  have hn : n < 256 := numP_lt hb h1
  simp -implicitDefEqProofs (disch := omega) [go_sem]
  refine .inr (.inr (rd_lent (take_rd Γ l1 hl1 16 (by omega)) (by simp [go_sem]) (by simp) (fun r l2 hp => ?_) (fun hp l' => ?_)))
  rotate_left
  · have h16 := take_none hp
    simp -implicitDefEqProofs (disch := omega) [go_sem]
    exact rdX (l' := l') rfl (by simp [go_sem]) (by simp [mapD, nameP, h1]; omega)
  obtain ⟨h16, rfl, rfl⟩ := take_some hp
  clear hp
  have hlen : (l1.take 16).length = 16 := by simp; omega
  have hbt : Bytes (l1.take 16) := fun x hx => hb1 x (List.mem_of_mem_take hx)
  have hnm : nameP l = if n ≤ 16 ∧ ∀ x ∈ (l1.take 16).drop n, x = 0 then some (toStr ((l1.take 16).take n), l1.drop 16) else none := by
    unfold nameP
    rw [h1]
    simp only [h16, true_and]
  generalize l1.take 16 = q at *
  generalize l1.drop 16 = rest at *
  simp -implicitDefEqProofs (disch := omega) [go_sem]
  by_cases g : n ≤ 16
  rotate_left
  · simp -implicitDefEqProofs (disch := omega) [go_sem, hlen]
    refine .inr (.inr (need_dx Γ false (fun e => by cases e) (fun _ => ?_)))
    simp -implicitDefEqProofs (disch := omega) [go_sem]
    exact rdX (l' := rest) rfl (by simp [go_sem]) (by rw [hnm, if_neg fun e => g e.1]; rfl)
  obtain ⟨v, hv⟩ : ∃ v : Bool, v = true ↔ ∀ x ∈ q.drop n, x = 0 := by classical exact ⟨decide (∀ x ∈ q.drop n, x = 0), by simp⟩
  have cz := zeros_pc Γ (q.drop n) (by simp; omega) hv
  have hta : q.take 16 = q := List.take_of_length_le (by omega)
  simp -implicitDefEqProofs (disch := omega) [go_sem, hlen]
  refine .inl (call_data cz (by simp [go_sem, hta]) ?_)
  simp -implicitDefEqProofs (disch := omega) [go_sem, hlen]
  refine .inr (.inr (need_dx Γ v (fun e => ?_) (fun e => ?_)))
  rotate_left
  · simp -implicitDefEqProofs (disch := omega) [go_sem]
    exact rdX (l' := rest) rfl (by simp [go_sem]) (by rw [hnm, if_neg fun e2 => by rw [hv.2 e2.2] at e; cases e]; rfl)
  have hz := hv.1 e
  simp -implicitDefEqProofs (disch := omega) [go_sem, hlen]
  refine conv_bys (e := 5) (fun x hx => hbt x (List.mem_of_mem_take hx)) (by simp [go_sem]) (by simp [go_sem]) (by simp [go_sem]) ?_
  simp -implicitDefEqProofs (disch := omega) [go_sem, Try.f82]
  exact rdK (l' := rest) (by simp [go_sem]) (by rw [hnm, if_pos ⟨g, hz⟩]; rfl)
set_option maxHeartbeats 8000000 in
theorem op_rd (l : List Nat) (hl : l.length ≤ 1000000) (hb : Bytes l) : RD Γ 63 [] l (mapD (opP l) op) := by
  refine dx_by mixed Try.func63 rfl (fun args w => Try.call63 args w) ?_
  have hl0 := hl
  have hb0 := hb
  simp -implicitDefEqProofs (disch := omega) [go_sem]
  refine .inr (.inr (rd_lent (small_rd Γ l hl0 hb0 1 (by omega)) (by simp [go_sem]) (by simp) (fun r l1 hp => ?_) (fun hp l' => ?_)))
  rotate_left
  · rw [numD_none] at hp
    simp -implicitDefEqProofs (disch := omega) [go_sem]
    exact rdX (l' := l') rfl (by simp [go_sem]) (by simp [mapD, opP, bnd, hp])
  obtain ⟨n1, h1, rfl⟩ := numD_some.1 hp
  clear hp
  have hb1 := bytes_rest hb0 h1
  have hl1 : l1.length ≤ 1000000 := Nat.le_trans (numP_len h1) hl0
  simp -implicitDefEqProofs (disch := omega) [go_sem]
  refine .inr (.inr (rd_lent (small_rd Γ l1 hl1 hb1 4 (by omega)) (by simp [go_sem]) (by simp) (fun r l2 hp => ?_) (fun hp l' => ?_)))
  rotate_left
  · rw [numD_none] at hp
    simp -implicitDefEqProofs (disch := omega) [go_sem]
    exact rdX (l' := l') rfl (by simp [go_sem]) (by simp [mapD, opP, bnd, h1, hp])
  obtain ⟨n2, h2, rfl⟩ := numD_some.1 hp
  clear hp
  have hb2 := bytes_rest hb1 h2
  have hl2 : l2.length ≤ 1000000 := Nat.le_trans (numP_len h2) hl1
  simp -implicitDefEqProofs (disch := omega) [go_sem]
  refine .inr (.inr (rd_lent (small_rd Γ l2 hl2 hb2 1 (by omega)) (by simp [go_sem]) (by simp) (fun r l3 hp => ?_) (fun hp l' => ?_)))
  rotate_left
  · rw [numD_none] at hp
    simp -implicitDefEqProofs (disch := omega) [go_sem]
    exact rdX (l' := l') rfl (by simp [go_sem]) (by simp [mapD, opP, bnd, h1, h2, hp])
  obtain ⟨n3, h3, rfl⟩ := numD_some.1 hp
  clear hp
  have hb3 := bytes_rest hb2 h3
  have hl3 : l3.length ≤ 1000000 := Nat.le_trans (numP_len h3) hl2
  simp -implicitDefEqProofs (disch := omega) [go_sem]
  refine .inr (.inr (rd_lent (number_rd Γ l3 hl3 hb3 4 (by omega)) (by simp [go_sem]) (by simp) (fun r l4 hp => ?_) (fun hp l' => ?_)))
  rotate_left
  · rw [numD_none] at hp
    simp -implicitDefEqProofs (disch := omega) [go_sem]
    exact rdX (l' := l') rfl (by simp [go_sem]) (by simp [mapD, opP, bnd, h1, h2, h3, hp])
  obtain ⟨n4, h4, rfl⟩ := numD_some.1 hp
  clear hp
  have hb4 := bytes_rest hb3 h4
  have hl4 : l4.length ≤ 1000000 := Nat.le_trans (numP_len h4) hl3
  have q4 : n4 < 4294967296 := numP_lt hb3 h4
  have e4 : ((n4 : Int) % 4294967296) = n4 := by omega
  simp -implicitDefEqProofs (disch := omega) [go_sem, e4]
  refine .inr (.inr (rd_lent (name_rd Γ l4 hl4 hb4) (by simp [go_sem]) (by simp) (fun r l5 hp => ?_) (fun hp l' => ?_)))
  rotate_left
  · rw [mapD_none] at hp
    simp -implicitDefEqProofs (disch := omega) [go_sem]
    exact rdX (l' := l') rfl (by simp [go_sem]) (by simp [mapD, opP, bnd, h1, h2, h3, h4, hp])
  obtain ⟨n5, h5, rfl⟩ := mapD_some.1 hp
  clear hp
  have hb5 := name_rest hb4 h5
  have hl5 : l5.length ≤ 1000000 := Nat.le_trans (nameP_len h5) hl4
  simp -implicitDefEqProofs (disch := omega) [go_sem, e4]
  refine .inr (.inr (rd_lent (number_rd Γ l5 hl5 hb5 8 (by omega)) (by simp [go_sem]) (by simp) (fun r l6 hp => ?_) (fun hp l' => ?_)))
  rotate_left
  · rw [numD_none] at hp
    simp -implicitDefEqProofs (disch := omega) [go_sem]
    exact rdX (l' := l') rfl (by simp [go_sem]) (by simp [mapD, opP, bnd, h1, h2, h3, h4, h5, hp])
  obtain ⟨n6, h6, rfl⟩ := numD_some.1 hp
  clear hp
  have hb6 := bytes_rest hb5 h6
  have hl6 : l6.length ≤ 1000000 := Nat.le_trans (numP_len h6) hl5
  simp -implicitDefEqProofs (disch := omega) [go_sem, e4]
  refine .inr (.inr (rd_lent (number_rd Γ l6 hl6 hb6 8 (by omega)) (by simp [go_sem]) (by simp) (fun r l7 hp => ?_) (fun hp l' => ?_)))
  rotate_left
  · rw [numD_none] at hp
    simp -implicitDefEqProofs (disch := omega) [go_sem]
    exact rdX (l' := l') rfl (by simp [go_sem]) (by simp [mapD, opP, bnd, h1, h2, h3, h4, h5, h6, hp])
  obtain ⟨n7, h7, rfl⟩ := numD_some.1 hp
  clear hp
  have hb7 := bytes_rest hb6 h7
  have hl7 : l7.length ≤ 1000000 := Nat.le_trans (numP_len h7) hl6
  simp -implicitDefEqProofs (disch := omega) [go_sem, e4]
  refine .inr (.inr (rd_lent (small_rd Γ l7 hl7 hb7 1 (by omega)) (by simp [go_sem]) (by simp) (fun r l8 hp => ?_) (fun hp l' => ?_)))
  rotate_left
  · rw [numD_none] at hp
    simp -implicitDefEqProofs (disch := omega) [go_sem]
    exact rdX (l' := l') rfl (by simp [go_sem]) (by simp [mapD, opP, bnd, h1, h2, h3, h4, h5, h6, h7, hp])
  obtain ⟨n8, h8, rfl⟩ := numD_some.1 hp
  clear hp
  have hb8 := bytes_rest hb7 h8
  have hl8 : l8.length ≤ 1000000 := Nat.le_trans (numP_len h8) hl7
  simp -implicitDefEqProofs (disch := omega) [go_sem, e4]
  refine .inr (.inr (rd_lent (small_rd Γ l8 hl8 hb8 4 (by omega)) (by simp [go_sem]) (by simp) (fun r l9 hp => ?_) (fun hp l' => ?_)))
  rotate_left
  · rw [numD_none] at hp
    simp -implicitDefEqProofs (disch := omega) [go_sem]
    exact rdX (l' := l') rfl (by simp [go_sem]) (by simp [mapD, opP, bnd, h1, h2, h3, h4, h5, h6, h7, h8, hp])
  obtain ⟨n9, h9, rfl⟩ := numD_some.1 hp
  clear hp
  have hb9 := bytes_rest hb8 h9
  have hl9 : l9.length ≤ 1000000 := Nat.le_trans (numP_len h9) hl8
  simp -implicitDefEqProofs (disch := omega) [go_sem, e4, Try.f63]
  exact rdK (l' := l9) (by simp [go_sem]) (by simp [mapD, opP, bnd, h1, h2, h3, h4, h5, h6, h7, h8, h9, op])
set_option maxHeartbeats 8000000 in
theorem sess_rd (l : List Nat) (hl : l.length ≤ 1000000) (hb : Bytes l) : RD Γ 71 [] l (mapD (sessP l) sess) := by
  refine dx_by mixed Try.func71 rfl (fun args w => Try.call71 args w) ?_
  have hl0 := hl
  have hb0 := hb
  simp -implicitDefEqProofs (disch := omega) [go_sem]
  refine .inr (.inr (rd_lent (small_rd Γ l hl0 hb0 4 (by omega)) (by simp [go_sem]) (by simp) (fun r l1 hp => ?_) (fun hp l' => ?_)))
  rotate_left
  · rw [numD_none] at hp
    simp -implicitDefEqProofs (disch := omega) [go_sem]
    exact rdX (l' := l') rfl (by simp [go_sem]) (by simp [mapD, sessP, bnd, hp])
  obtain ⟨n1, h1, rfl⟩ := numD_some.1 hp
  clear hp
  have hb1 := bytes_rest hb0 h1
  have hl1 : l1.length ≤ 1000000 := Nat.le_trans (numP_len h1) hl0
  simp -implicitDefEqProofs (disch := omega) [go_sem]
  refine .inr (.inr (rd_lent (small_rd Γ l1 hl1 hb1 1 (by omega)) (by simp [go_sem]) (by simp) (fun r l2 hp => ?_) (fun hp l' => ?_)))
  rotate_left
  · rw [numD_none] at hp
    simp -implicitDefEqProofs (disch := omega) [go_sem]
    exact rdX (l' := l') rfl (by simp [go_sem]) (by simp [mapD, sessP, bnd, h1, hp])
  obtain ⟨n2, h2, rfl⟩ := numD_some.1 hp
  clear hp
  have hb2 := bytes_rest hb1 h2
  have hl2 : l2.length ≤ 1000000 := Nat.le_trans (numP_len h2) hl1
  simp -implicitDefEqProofs (disch := omega) [go_sem]
  refine .inr (.inr (rd_lent (number_rd Γ l2 hl2 hb2 4 (by omega)) (by simp [go_sem]) (by simp) (fun r l3 hp => ?_) (fun hp l' => ?_)))
  rotate_left
  · rw [numD_none] at hp
    simp -implicitDefEqProofs (disch := omega) [go_sem]
    exact rdX (l' := l') rfl (by simp [go_sem]) (by simp [mapD, sessP, bnd, h1, h2, hp])
  obtain ⟨n3, h3, rfl⟩ := numD_some.1 hp
  clear hp
  have hb3 := bytes_rest hb2 h3
  have hl3 : l3.length ≤ 1000000 := Nat.le_trans (numP_len h3) hl2
  have q3 : n3 < 4294967296 := numP_lt hb2 h3
  have e3 : ((n3 : Int) % 4294967296) = n3 := by omega
  simp -implicitDefEqProofs (disch := omega) [go_sem, e3]
  refine .inr (.inr (rd_lent (name_rd Γ l3 hl3 hb3) (by simp [go_sem]) (by simp) (fun r l4 hp => ?_) (fun hp l' => ?_)))
  rotate_left
  · rw [mapD_none] at hp
    simp -implicitDefEqProofs (disch := omega) [go_sem]
    exact rdX (l' := l') rfl (by simp [go_sem]) (by simp [mapD, sessP, bnd, h1, h2, h3, hp])
  obtain ⟨n4, h4, rfl⟩ := mapD_some.1 hp
  clear hp
  have hb4 := name_rest hb3 h4
  have hl4 : l4.length ≤ 1000000 := Nat.le_trans (nameP_len h4) hl3
  simp -implicitDefEqProofs (disch := omega) [go_sem, e3]
  refine .inr (.inr (rd_lent (number_rd Γ l4 hl4 hb4 8 (by omega)) (by simp [go_sem]) (by simp) (fun r l5 hp => ?_) (fun hp l' => ?_)))
  rotate_left
  · rw [numD_none] at hp
    simp -implicitDefEqProofs (disch := omega) [go_sem]
    exact rdX (l' := l') rfl (by simp [go_sem]) (by simp [mapD, sessP, bnd, h1, h2, h3, h4, hp])
  obtain ⟨n5, h5, rfl⟩ := numD_some.1 hp
  clear hp
  have hb5 := bytes_rest hb4 h5
  have hl5 : l5.length ≤ 1000000 := Nat.le_trans (numP_len h5) hl4
  simp -implicitDefEqProofs (disch := omega) [go_sem, e3]
  refine .inr (.inr (rd_lent (number_rd Γ l5 hl5 hb5 8 (by omega)) (by simp [go_sem]) (by simp) (fun r l6 hp => ?_) (fun hp l' => ?_)))
  rotate_left
  · rw [numD_none] at hp
    simp -implicitDefEqProofs (disch := omega) [go_sem]
    exact rdX (l' := l') rfl (by simp [go_sem]) (by simp [mapD, sessP, bnd, h1, h2, h3, h4, h5, hp])
  obtain ⟨n6, h6, rfl⟩ := numD_some.1 hp
  clear hp
  have hb6 := bytes_rest hb5 h6
  have hl6 : l6.length ≤ 1000000 := Nat.le_trans (numP_len h6) hl5
  simp -implicitDefEqProofs (disch := omega) [go_sem, e3, Try.f71]
  exact rdK (l' := l6) (by simp [go_sem]) (by simp [mapD, sessP, bnd, h1, h2, h3, h4, h5, h6, sess])
set_option maxHeartbeats 8000000 in
theorem item_rd (l : List Nat) (hl : l.length ≤ 1000000) (hb : Bytes l) : RD Γ 73 [] l (mapD (itemP l) item) := by
  refine dx_by mixed Try.func73 rfl (fun args w => Try.call73 args w) ?_
  have hl0 := hl
  have hb0 := hb
  simp -implicitDefEqProofs (disch := omega) [go_sem]
  refine .inr (.inr (rd_lent (small_rd Γ l hl0 hb0 1 (by omega)) (by simp [go_sem]) (by simp) (fun r l1 hp => ?_) (fun hp l' => ?_)))
  rotate_left
  · rw [numD_none] at hp
    simp -implicitDefEqProofs (disch := omega) [go_sem]
    exact rdX (l' := l') rfl (by simp [go_sem]) (by simp [mapD, itemP, bnd, hp])
  obtain ⟨n1, h1, rfl⟩ := numD_some.1 hp
  clear hp
  have hb1 := bytes_rest hb0 h1
  have hl1 : l1.length ≤ 1000000 := Nat.le_trans (numP_len h1) hl0
  simp -implicitDefEqProofs (disch := omega) [go_sem]
  refine .inr (.inr (rd_lent (small_rd Γ l1 hl1 hb1 4 (by omega)) (by simp [go_sem]) (by simp) (fun r l2 hp => ?_) (fun hp l' => ?_)))
  rotate_left
  · rw [numD_none] at hp
    simp -implicitDefEqProofs (disch := omega) [go_sem]
    exact rdX (l' := l') rfl (by simp [go_sem]) (by simp [mapD, itemP, bnd, h1, hp])
  obtain ⟨n2, h2, rfl⟩ := numD_some.1 hp
  clear hp
  have hb2 := bytes_rest hb1 h2
  have hl2 : l2.length ≤ 1000000 := Nat.le_trans (numP_len h2) hl1
  simp -implicitDefEqProofs (disch := omega) [go_sem]
  refine .inr (.inr (rd_lent (number_rd Γ l2 hl2 hb2 8 (by omega)) (by simp [go_sem]) (by simp) (fun r l3 hp => ?_) (fun hp l' => ?_)))
  rotate_left
  · rw [numD_none] at hp
    simp -implicitDefEqProofs (disch := omega) [go_sem]
    exact rdX (l' := l') rfl (by simp [go_sem]) (by simp [mapD, itemP, bnd, h1, h2, hp])
  obtain ⟨n3, h3, rfl⟩ := numD_some.1 hp
  clear hp
  have hb3 := bytes_rest hb2 h3
  have hl3 : l3.length ≤ 1000000 := Nat.le_trans (numP_len h3) hl2
  simp -implicitDefEqProofs (disch := omega) [go_sem]
  refine .inr (.inr (rd_lent (number_rd Γ l3 hl3 hb3 8 (by omega)) (by simp [go_sem]) (by simp) (fun r l4 hp => ?_) (fun hp l' => ?_)))
  rotate_left
  · rw [numD_none] at hp
    simp -implicitDefEqProofs (disch := omega) [go_sem]
    exact rdX (l' := l') rfl (by simp [go_sem]) (by simp [mapD, itemP, bnd, h1, h2, h3, hp])
  obtain ⟨n4, h4, rfl⟩ := numD_some.1 hp
  clear hp
  have hb4 := bytes_rest hb3 h4
  have hl4 : l4.length ≤ 1000000 := Nat.le_trans (numP_len h4) hl3
  simp -implicitDefEqProofs (disch := omega) [go_sem]
  refine .inr (.inr (rd_lent (small_rd Γ l4 hl4 hb4 1 (by omega)) (by simp [go_sem]) (by simp) (fun r l5 hp => ?_) (fun hp l' => ?_)))
  rotate_left
  · rw [numD_none] at hp
    simp -implicitDefEqProofs (disch := omega) [go_sem]
    exact rdX (l' := l') rfl (by simp [go_sem]) (by simp [mapD, itemP, bnd, h1, h2, h3, h4, hp])
  obtain ⟨n5, h5, rfl⟩ := numD_some.1 hp
  clear hp
  have hb5 := bytes_rest hb4 h5
  have hl5 : l5.length ≤ 1000000 := Nat.le_trans (numP_len h5) hl4
  simp -implicitDefEqProofs (disch := omega) [go_sem, Try.f73]
  exact rdK (l' := l5) (by simp [go_sem]) (by simp [mapD, itemP, bnd, h1, h2, h3, h4, h5, item])
set_option maxHeartbeats 8000000 in
theorem lock_rd (l : List Nat) (hl : l.length ≤ 1000000) (hb : Bytes l) : RD Γ 75 [] l (mapD (lockP l) lock) := by
  refine dx_by mixed Try.func75 rfl (fun args w => Try.call75 args w) ?_
  have hl0 := hl
  have hb0 := hb
  simp -implicitDefEqProofs (disch := omega) [go_sem]
  refine .inr (.inr (rd_lent (name_rd Γ l hl0 hb0) (by simp [go_sem]) (by simp) (fun r l1 hp => ?_) (fun hp l' => ?_)))
  rotate_left
  · rw [mapD_none] at hp
    simp -implicitDefEqProofs (disch := omega) [go_sem]
    exact rdX (l' := l') rfl (by simp [go_sem]) (by simp [mapD, lockP, bnd, hp])
  obtain ⟨n1, h1, rfl⟩ := mapD_some.1 hp
  clear hp
  have hb1 := name_rest hb0 h1
  have hl1 : l1.length ≤ 1000000 := Nat.le_trans (nameP_len h1) hl0
  simp -implicitDefEqProofs (disch := omega) [go_sem]
  refine .inr (.inr (rd_lent (small_rd Γ l1 hl1 hb1 1 (by omega)) (by simp [go_sem]) (by simp) (fun r l2 hp => ?_) (fun hp l' => ?_)))
  rotate_left
  · rw [numD_none] at hp
    simp -implicitDefEqProofs (disch := omega) [go_sem]
    exact rdX (l' := l') rfl (by simp [go_sem]) (by simp [mapD, lockP, bnd, h1, hp])
  obtain ⟨n2, h2, rfl⟩ := numD_some.1 hp
  clear hp
  have hb2 := bytes_rest hb1 h2
  have hl2 : l2.length ≤ 1000000 := Nat.le_trans (numP_len h2) hl1
  simp -implicitDefEqProofs (disch := omega) [go_sem]
  refine .inr (.inr (rd_lent (small_rd Γ l2 hl2 hb2 4 (by omega)) (by simp [go_sem]) (by simp) (fun r l3 hp => ?_) (fun hp l' => ?_)))
  rotate_left
  · rw [numD_none] at hp
    simp -implicitDefEqProofs (disch := omega) [go_sem]
    exact rdX (l' := l') rfl (by simp [go_sem]) (by simp [mapD, lockP, bnd, h1, h2, hp])
  obtain ⟨n3, h3, rfl⟩ := numD_some.1 hp
  clear hp
  have hb3 := bytes_rest hb2 h3
  have hl3 : l3.length ≤ 1000000 := Nat.le_trans (numP_len h3) hl2
  simp -implicitDefEqProofs (disch := omega) [go_sem, Try.f75]
  exact rdK (l' := l3) (by simp [go_sem]) (by simp [mapD, lockP, bnd, h1, h2, h3, lock])
end
end Bk
end Go.Proofs.Ytdgklbbgbnapoaa
namespace Go.Proofs.Ytdgklbbgbnapoaa
open Go.RowKit
set_option linter.unusedVariables false
set_option linter.unusedSimpArgs false
set_option maxRecDepth 100000
namespace Bk
section
variable (Γ : Nat → Option (List Data))
def errD : Data := .ifc 30 (.int .i64 2)
theorem isGen_pc (n : Int) : PC Try.prog Γ 42 [.int .i64 n] (.bool (decide (1 ≤ n ∧ n ≤ 1000000000))) := by
  refine pc_by mixed Try.func42 rfl (fun args w => Try.call42 args w) ?_
  by_cases h1 : 1 ≤ n
  · by_cases h2 : n ≤ 1000000000
    · simp -implicitDefEqProofs (disch := omega) [go_sem, h1, h2, Try.f42]
    · simp -implicitDefEqProofs (disch := omega) [go_sem, h1, h2, Try.f42]
  · simp -implicitDefEqProofs (disch := omega) [go_sem, h1, Try.f42]
def uHD : ByteArray := ⟨#[72, 68]⟩
theorem uHD_size : uHD.size = 2 := rfl
def headP (l : List Nat) : Option (Nat × List Nat) := if l.length = 128 then bnd (letP uHD l) fun _ l => bnd (numP 4 l) fun n l => if (1 ≤ (n : Int) ∧ (n : Int) ≤ 1000000000) ∧ ∀ x ∈ l, x = 0 then some (n, l) else none else none
theorem letP_rest {u : ByteArray} {l l' : List Nat} {r : Data} (h : letP u l = some (r, l')) : r = .tup [] ∧ l' = l.drop u.size ∧ u.size ≤ l.length ∧ toStr (l.take u.size) = u := by
  unfold letP at h
  split at h
  · rename_i hc
    simp only [Option.some.injEq, Prod.mk.injEq] at h
    exact ⟨h.1.symm, h.2.symm, hc.1, hc.2⟩
  · cases h
set_option maxHeartbeats 4000000 in
theorem head_rd (l : List Nat) (hl : l.length ≤ 1000000) (hb : Bytes l) : RD Γ 45 [] l (numD (headP l) fun n => .int .i64 n) := by
  refine dx_by mixed Try.func45 rfl (fun args w => Try.call45 args w) ?_
  by_cases h128 : l.length = 128
  rotate_left
  · simp -implicitDefEqProofs (disch := omega) [go_sem]
    refine .inr (.inr (need_dx Γ false (fun e => by cases e) (fun _ => ?_)))
    simp -implicitDefEqProofs (disch := omega) [go_sem]
    exact rdX (l' := l) rfl (by simp [go_sem]) (by simp [numD, headP, h128])
  simp -implicitDefEqProofs (disch := omega) [go_sem]
  refine .inr (.inr (need_dx Γ true (fun _ => ?_) (fun e => by cases e)))
  simp -implicitDefEqProofs (disch := omega) [go_sem]
  refine .inr (.inr (rd_lent (letters_rd Γ l hl hb uHD (by rw [uHD_size]; omega)) (by simp [go_sem]) (by simp) (fun r l1 hp => ?_) (fun hp l' => ?_)))
  rotate_left
  · simp -implicitDefEqProofs (disch := omega) [go_sem]
    exact rdX (l' := l') rfl (by simp [go_sem]) (by simp [numD, headP, h128, bnd, hp])
  have h1 := hp
  obtain ⟨rfl, e1, _, _⟩ := letP_rest hp
  clear hp
  have hb1 : Bytes l1 := by rw [e1]; exact fun x hx => hb x (List.mem_of_mem_drop hx)
  have hl1 : l1.length ≤ 1000000 := by rw [e1, List.length_drop]; omega
  simp -implicitDefEqProofs (disch := omega) [go_sem]
  refine .inr (.inr (rd_lent (small_rd Γ l1 hl1 hb1 4 (by omega)) (by simp [go_sem]) (by simp) (fun r l2 hp => ?_) (fun hp l' => ?_)))
  rotate_left
  · rw [numD_none] at hp
    simp -implicitDefEqProofs (disch := omega) [go_sem]
    exact rdX (l' := l') rfl (by simp [go_sem]) (by simp [numD, headP, h128, bnd, h1, hp])
  obtain ⟨n, h2, rfl⟩ := numD_some.1 hp
  clear hp
  have hl2 : l2.length ≤ 1000000 := Nat.le_trans (numP_len h2) hl1
  have cg := isGen_pc Γ n
  simp -implicitDefEqProofs (disch := omega) [go_sem]
  refine .inl (call_data cg (by simp [go_sem]) ?_)
  by_cases hg : 1 ≤ (n : Int) ∧ (n : Int) ≤ 1000000000
  rotate_left
  · rw [decide_eq_false hg]
    simp -implicitDefEqProofs (disch := omega) [go_sem]
    refine .inr (.inr (need_dx Γ false (fun e => by cases e) (fun _ => ?_)))
    simp -implicitDefEqProofs (disch := omega) [go_sem]
    exact rdX (l' := l2) rfl (by simp [go_sem]) (by simp only [numD, headP, h128, bnd, h1, h2, if_true]; rw [if_neg fun e => hg e.1]; rfl)
  rw [decide_eq_true hg]
  simp -implicitDefEqProofs (disch := omega) [go_sem]
  refine .inr (.inr (need_dx Γ true (fun _ => ?_) (fun e => by cases e)))
  simp -implicitDefEqProofs (disch := omega) [go_sem]
  obtain ⟨v, hv⟩ : ∃ v : Bool, v = true ↔ ∀ x ∈ l2, x = 0 := by classical exact ⟨decide (∀ x ∈ l2, x = 0), by simp⟩
  refine .inr (.inr (rd_lent (end_rd Γ l2 hl2 hv) (by simp [go_sem]) (by simp) (fun r l3 hp => ?_) (fun hp l' => ?_)))
  rotate_left
  · have hv0 : ¬ ∀ x ∈ l2, x = 0 := fun e => by rw [hv.2 e, if_pos rfl] at hp; cases hp
    simp -implicitDefEqProofs (disch := omega) [go_sem]
    exact rdX (l' := l') rfl (by simp [go_sem]) (by simp only [numD, headP, h128, bnd, h1, h2, if_true]; rw [if_neg fun e => hv0 e.2]; rfl)
  split at hp
  rotate_left
  · cases hp
  rename_i hv1
  simp only [Option.some.injEq, Prod.mk.injEq] at hp
  obtain ⟨rfl, rfl⟩ := hp
  simp -implicitDefEqProofs (disch := omega) [go_sem, Try.f45]
  exact rdK (l' := l2) (by simp [go_sem]) (by simp only [numD, headP, h128, bnd, h1, h2, if_true]; rw [if_pos ⟨hg, hv.1 hv1⟩]; rfl)
theorem any_interface : Try.prog.underlying 20 = some (.interface #[]) := by kernel_rfl
theorem clInt_nil {g : Nat} {H : Nat → Blk} {nx : Nat} {K : (Nat → Blk) → Nat → Prop} (hk : K H (nx + 2)) : DR Try.prog Γ 76 [.ptr g 0] .nili H nx K := by
  refine dr_by mixed Try.func76 rfl rfl (fun args w => Try.call76 args w) (by decide) (by decide) ?_
  simp -implicitDefEqProofs (disch := omega) [go_sem]
  refine eqK_nil any_interface ?_
  simp -implicitDefEqProofs (disch := omega) [go_sem, hk]
theorem clInt_err {g : Nat} {H : Nat → Blk} {nx : Nat} {x : D} {K : (Nat → Blk) → Nat → Prop} (hg : H g = .blk true [x]) (hk : K (Hp.upd H [(g, .blk true [.data (.int .i64 2)])]) (nx + 5)) : DR Try.prog Γ 76 [.ptr g 0] errD H nx K := by
  refine dr_by mixed Try.func76 rfl rfl (fun args w => Try.call76 args w) (by decide) (by decide) ?_
  unfold errD
  simp -implicitDefEqProofs (disch := omega) [go_sem]
  refine eqK_ifc any_interface ?_
  simp -implicitDefEqProofs (disch := omega) [go_sem, hg]
  exact hk
def gotN (p : Option (Nat × List Nat)) : Int := match p with
  | some (n, _) => n
  | none => 0
def gotE {α : Type} (p : Option (α × List Nat)) : Int := match p with
  | some _ => 0
  | none => 2
set_option maxHeartbeats 2000000 in
theorem triedInt_pc {f : FuncId} (l : List Nat) (p : Option (Nat × List Nat)) (h : RD Γ f [] l (numD p fun n => .int .i64 n)) : PC Try.prog Γ 44 [.sl 1 (bys l), .fn f []] (.tup [.int .i64 (gotN p), .int .i64 (gotE p)]) := by
  refine pc_def_by mixed Try.func44 rfl (fun args w => Try.call44 args w) (by decide) ?_
  simp -implicitDefEqProofs (disch := omega) [go_sem]
  refine .inr (.inr (rd_lent h (by simp [go_sem]) (by simp) (fun r l' hp => ?_) (fun hp l' => ?_)))
  · obtain ⟨n, hp2, rfl⟩ := numD_some.1 hp
    simp -implicitDefEqProofs (disch := omega) [go_sem]
    refine clInt_nil Γ ?_
    simp -implicitDefEqProofs (disch := omega) [go_sem, Try.f44, hp2, gotN, gotE]
  · rw [numD_none] at hp
    simp -implicitDefEqProofs (disch := omega) [go_sem]
    refine bodyR_panic (x := .int .i64 2) rfl (clInt_err Γ (by simp [go_sem]; rfl) ?_)
    simp -implicitDefEqProofs (disch := omega) [go_sem, Try.f44, hp, gotN, gotE]
theorem readHead_pc (l : List Nat) (hl : l.length ≤ 1000000) (hb : Bytes l) : PC Try.prog Γ 23 [.sl 1 (bys l)] (.tup [.int .i64 (gotN (headP l)), .int .i64 (gotE (headP l))]) := by
  refine pc_by mixed Try.func23 rfl (fun args w => Try.call23 args w) ?_
  have ct := triedInt_pc Γ l (headP l) (head_rd Γ l hl hb)
  simp -implicitDefEqProofs (disch := omega) [go_sem]
  refine .inl (call_data ct (by simp [go_sem]) ?_)
  simp -implicitDefEqProofs (disch := omega) [go_sem, Try.f23]
end
end Bk
end Go.Proofs.Ytdgklbbgbnapoaa
namespace Go.Proofs.Ytdgklbbgbnapoaa
open Go.RowKit
set_option linter.unusedVariables false
set_option linter.unusedSimpArgs false
set_option maxRecDepth 100000
namespace Bk
section
variable (Γ : Nat → Option (List Data))
inductive Part where
  | num (k v : Nat)
  | nam (u : ByteArray)
def numDt (k v : Nat) : Data := .agg [.int .i64 k, .int .u64 v]
def partD : Part → Data
  | .num k v => .ifc 112 (numDt k v)
  | .nam u => .ifc 116 (.str u)
def partB : Part → List Nat
  | .num k v => be k v
  | .nam u => nameB u
def partN : Part → Nat
  | .num k _ => k
  | .nam _ => 17
def PartOk : Part → Prop
  | .num k v => 1 ≤ k ∧ k ≤ 8 ∧ v < 18446744073709551616
  | .nam u => u.size ≤ 16
theorem partB_length {p : Part} (h : PartOk p) : (partB p).length = partN p := by
  cases p with
  | num k v => exact be_length k v
  | nam u => exact nameB_length h
theorem oneB_pc (n : Nat) (hn : n < 256) : PC Try.prog Γ 54 [.int .u8 n] (numDt 1 n) := by
  refine pc_by mixed Try.func54 rfl (fun args w => Try.call54 args w) ?_
  have e : ((n : Int) % 18446744073709551616) = n := by omega
  simp -implicitDefEqProofs (disch := omega) [go_sem, numDt, e, Try.f54]
theorem oneI_pc (n : Nat) (hn : n < 9223372036854775808) : PC Try.prog Γ 56 [.int .i64 n] (numDt 1 n) := by
  refine pc_by mixed Try.func56 rfl (fun args w => Try.call56 args w) ?_
  have e : ((n : Int) % 18446744073709551616) = n := by omega
  simp -implicitDefEqProofs (disch := omega) [go_sem, numDt, e, Try.f56]
theorem fourI_pc (n : Nat) (hn : n < 9223372036854775808) : PC Try.prog Γ 55 [.int .i64 n] (numDt 4 n) := by
  refine pc_by mixed Try.func55 rfl (fun args w => Try.call55 args w) ?_
  have e : ((n : Int) % 18446744073709551616) = n := by omega
  simp -implicitDefEqProofs (disch := omega) [go_sem, numDt, e, Try.f55]
theorem fourU_pc (n : Nat) (hn : n < 4294967296) : PC Try.prog Γ 57 [.int .u32 n] (numDt 4 n) := by
  refine pc_by mixed Try.func57 rfl (fun args w => Try.call57 args w) ?_
  have e : ((n : Int) % 18446744073709551616) = n := by omega
  simp -implicitDefEqProofs (disch := omega) [go_sem, numDt, e, Try.f57]
theorem eight_pc (n : Nat) : PC Try.prog Γ 58 [.int .u64 n] (numDt 8 n) := by
  refine pc_by mixed Try.func58 rfl (fun args w => Try.call58 args w) ?_
  simp -implicitDefEqProofs (disch := omega) [go_sem, numDt, Try.f58]
theorem sizeNum_pc (k v : Nat) : PC Try.prog Γ 114 [numDt k v] (.int .i64 k) := by
  refine pc_by mixed Try.func114 rfl (fun args w => Try.call114 args w) ?_
  simp -implicitDefEqProofs (disch := omega) [go_sem, numDt, Try.f114]
theorem sizeNam_pc (u : ByteArray) : PC Try.prog Γ 115 [.str u] (.int .i64 17) := by
  refine pc_by mixed Try.func115 rfl (fun args w => Try.call115 args w) ?_
  simp -implicitDefEqProofs (disch := omega) [go_sem, Try.f115]
theorem meth_num (x : Value) (w : World) : (method (Try.prog.types.size + Made.depth) 112 x "portreeve/code.size").run Try.prog w = .ok (114, x) w := by kernel_rfl
theorem meth_nam (x : Value) (w : World) : (method (Try.prog.types.size + Made.depth) 116 x "portreeve/code.size").run Try.prog w = .ok (115, x) w := by kernel_rfl
theorem okNum : MethOk Try.prog "portreeve/code.size" 112 114 := meth_ok meth_num fun args w => Try.call114 args w
theorem okNam : MethOk Try.prog "portreeve/code.size" 116 115 := meth_ok meth_nam fun args w => Try.call115 args w
/-- Bytes put over others. -/
def ovr (q : List Nat) (off : Nat) (l : List Nat) : List Nat := q.take off ++ l ++ q.drop (off + l.length)
theorem ovr_nil (q : List Nat) (off : Nat) : ovr q off [] = q := by simp [ovr]
theorem ovr_length {q l : List Nat} {off : Nat} (h : off + l.length ≤ q.length) : (ovr q off l).length = q.length := by simp [ovr]; omega
theorem ovr_snoc {q l : List Nat} {off x : Nat} (h : off + l.length < q.length) : (ovr q off l).set (off + l.length) x = ovr q off (l ++ [x]) := by
  unfold ovr
  rw [List.append_assoc, List.set_append_right _ _ (by simp; omega), List.set_append_right _ _ (by simp; omega)]
  have e : off + l.length - (List.take off q).length - l.length = 0 := by simp; omega
  rw [e, List.drop_eq_getElem_cons h, List.set_cons_zero, List.length_append, List.length_singleton]
  simp [Nat.add_assoc]
theorem shr_byte (v m : Nat) : ((v : Int) / 2 ^ (8 * m) % 256) = ((v / 256 ^ m % 256 : Nat) : Int) := by
  have h : 256 ^ m = 2 ^ (8 * m) := by rw [Nat.pow_mul]
  rw [h]
  push_cast
  rfl
theorem bys_set (l : List Nat) (i x : Nat) : ((bys l).map D.data).set i (.data (.int .u8 x)) = (bys (l.set i x)).map D.data := by
  unfold bys
  rw [List.map_set, List.map_set]
  rfl
set_option maxHeartbeats 4000000 in
theorem putNum_dc (q : List Nat) (off k v : Nat) (hk : 1 ≤ k ∧ k ≤ 8) (hv : v < 18446744073709551616) (ho : off + k ≤ q.length) (hq : q.length ≤ 1000000) : DC Try.prog Γ 53 [.ref 0 off k 1, .data (partD (.num k v))] (hpL [(0, .blk true ((bys q).map D.data))]) 1
    (fun d H' _ => ∃ r c, d = .data r ∧ H' 0 = .blk true (c.map D.data) ∧ r = .tup [] ∧ c = bys (ovr q off (be k v))) := by
  refine dc_by mixed Try.func53 rfl (fun args w => Try.call53 args w) ?_
  unfold partD numDt
  simp -implicitDefEqProofs (disch := omega) [go_sem]
  refine loop_ren (σ := { i : Nat // i ≤ k }) (fun i => ⟨envL [(0, .ref 0 off k 1), (4, .ptr 1 0), (12, .data (.int .i64 k)), (13, .data (.int .i64 i.1))], hpL [(0, .blk true ((bys (ovr q off ((be k v).take i.1))).map D.data)), (1, .blk true [.data (.int .i64 k), .data (.int .u64 v)])], 2, 1, 42⟩) (fun i => k - i.1) ⟨0, by omega⟩ [] (rhoL [(1, some 5)]) ?_ ?_
  · apply ren_lists <;> simp -implicitDefEqProofs [go_sem, ovr_nil]
  rintro ⟨i, hi⟩
  have hB := be_length k v
  have hol : (ovr q off ((be k v).take i)).length = q.length := ovr_length (by rw [List.length_take]; omega)
  by_cases h : i < k
  · simp -implicitDefEqProofs (disch := omega) [go_sem]
    refine next_ren ⟨i + 1, by omega⟩ (by simp only; omega) [] (rhoL []) ?_
    apply ren_lists <;> simp -implicitDefEqProofs [go_sem]
    have e1 : (8 * ((k : Int) - 1 - i)).toNat = 8 * (k - 1 - i) := by omega
    rw [e1, shr_byte, ← be_get k v i h, bys_set]
    have hs := ovr_snoc (q := q) (l := (be k v).take i) (off := off) (x := (be k v)[i]) (by rw [List.length_take]; omega)
    rw [List.length_take, Nat.min_eq_left (by omega), ← List.take_succ_eq_append_getElem (by omega)] at hs
    rw [hs]
    exact renCells_plain rfl (by simp [plainD])
  have : i = k := by omega
  subst this
  simp -implicitDefEqProofs (disch := omega) [go_sem, Try.f53]
  exact ⟨_, rfl, rfl, by rw [List.take_of_length_le (by omega)]⟩
theorem ovr_zeros {q l : List Nat} {off n : Nat} (h : off + l.length + n ≤ q.length) (hz : ∀ (j : Nat) (hj : j < q.length), off + l.length ≤ j → j < off + l.length + n → q[j] = 0) : ovr q off (l ++ List.replicate n 0) = ovr q off l := by
  unfold ovr
  have h1 : q.drop (off + l.length) = List.replicate n 0 ++ q.drop (off + (l.length + n)) := by
    have e : (q.drop (off + l.length)).take n = List.replicate n 0 := by
      refine List.eq_replicate_iff.2 ⟨by simp; omega, fun x hx => ?_⟩
      obtain ⟨j, hj, rfl⟩ := List.getElem_of_mem hx
      rw [List.length_take, List.length_drop] at hj
      rw [List.getElem_take, List.getElem_drop]
      exact hz _ (by omega) (by omega) (by omega)
    rw [← e, show off + (l.length + n) = off + l.length + n by omega, show List.drop (off + l.length + n) q = List.drop n (List.drop (off + l.length) q) by rw [List.drop_drop], List.take_append_drop]
  rw [h1, List.length_append, List.length_replicate]
  simp [List.append_assoc]
theorem strD (u : ByteArray) : (u.toList.map fun b => D.data (Data.int .u8 b.toNat)) = (bys (strB u)).map D.data := by
  unfold bys strB
  rw [ByteArray.toList_eq, List.map_map, List.map_map]
  rfl
theorem bys_over (q l : List Nat) (off : Nat) (h : off + l.length ≤ q.length) : over ((bys q).map D.data) off ((bys l).map D.data) = (bys (ovr q off l)).map D.data := by
  have hgen : ∀ m : List D, m.length ≠ 1 → over ((bys q).map D.data) off m = ((bys q).map D.data).take off ++ m ++ ((bys q).map D.data).drop (off + m.length) := fun m hm => by
    unfold over
    split
    · simp at hm
    · rfl
  by_cases h1 : l.length = 1
  · obtain ⟨x, rfl⟩ := List.length_eq_one_iff.1 h1
    show ((bys q).map D.data).set off (.data (.int .u8 x)) = _
    rw [bys_set]
    have := ovr_snoc (q := q) (l := []) (off := off) (x := x) (by simp at h ⊢; omega)
    rw [ovr_nil] at this
    simpa using congrArg (fun z => (bys z).map D.data) this
  · rw [hgen _ (by simpa [bys] using h1)]
    unfold ovr bys
    simp [List.map_take, List.map_drop]
theorem ovr_cons {q l : List Nat} {off x : Nat} (h : off + 1 + l.length ≤ q.length) : ovr (q.set off x) (off + 1) l = ovr q off (x :: l) := by
  unfold ovr
  have h1 : (q.set off x).take (off + 1) = q.take off ++ [x] := by
    rw [List.take_succ_eq_append_getElem (by rw [List.length_set]; omega), List.getElem_set_self, List.take_set_of_le (Nat.le_refl _)]
  have h2 : (q.set off x).drop (off + 1 + l.length) = q.drop (off + 1 + l.length) := List.drop_set_of_lt (by omega)
  rw [h1, h2, List.length_cons, show off + (l.length + 1) = off + 1 + l.length by omega]
  simp
set_option maxHeartbeats 4000000 in
theorem putNam_dc (q : List Nat) (off : Nat) (u : ByteArray) (hu : u.size ≤ 16) (ho : off + 17 ≤ q.length) (hq : q.length ≤ 1000000) (hz : ∀ (j : Nat) (hj : j < q.length), off ≤ j → j < off + 17 → q[j] = 0) : DC Try.prog Γ 53 [.ref 0 off 17 1, .data (partD (.nam u))] (hpL [(0, .blk true ((bys q).map D.data))]) 1
    (fun d H' _ => ∃ r c, d = .data r ∧ H' 0 = .blk true (c.map D.data) ∧ r = .tup [] ∧ c = bys (ovr q off (nameB u))) := by
  refine dc_by mixed Try.func53 rfl (fun args w => Try.call53 args w) ?_
  unfold partD
  have e1 : ((u.size : Int) % 256) = u.size := by omega
  simp -implicitDefEqProofs (disch := omega) [go_sem, e1]
  have ht : List.take u.size (List.map (fun b => D.data (Data.int .u8 b.toNat)) u.toList) = (bys (strB u)).map D.data := by
    rw [strD, List.take_of_length_le]
    simp [strB_length, bys_length]
  rw [ht, bys_set, bys_over _ _ _ (by rw [strB_length, List.length_set]; omega), ovr_cons (by rw [strB_length]; omega)]
  have hzz := ovr_zeros (q := q) (l := u.size :: strB u) (off := off) (n := 16 - u.size) (by simp [strB_length]; omega) (fun j hj h1 h2 => hz j hj (by simp [strB_length] at h1; omega) (by simp [strB_length] at h2; omega))
  refine ⟨_, rfl, rfl, ?_⟩
  rw [← hzz]
  rfl
def parts (l : List Part) : List Data := l.map partD
@[go_sem] theorem parts_length (l : List Part) : (parts l).length = l.length := by simp [parts]
@[go_sem] theorem parts_get (l : List Part) (i : Nat) : (parts l)[i]? = (l[i]?).map partD := by simp [parts]
@[go_sem] theorem partD_cells (p : Part) : (partD p).cells = [partD p] := by cases p <;> rfl
def padB (n : Nat) (l : List Nat) : List Nat := l ++ List.replicate (n - l.length) 0
theorem padB_length {n : Nat} {l : List Nat} (h : l.length ≤ n) : (padB n l).length = n := by simp [padB]; omega
theorem ovr_zero {n : Nat} {l : List Nat} (h : l.length ≤ n) : ovr (List.replicate n 0) 0 l = padB n l := by
  unfold ovr padB
  simp
theorem ovr_app {q a b : List Nat} {o : Nat} (h : o + a.length + b.length ≤ q.length) : ovr (ovr q o a) (o + a.length) b = ovr q o (a ++ b) := by
  unfold ovr
  have h1 : (List.take o q ++ a ++ List.drop (o + a.length) q).take (o + a.length) = List.take o q ++ a := by
    rw [List.take_append_of_le_length (by simp; omega), List.take_of_length_le (by simp; omega)]
  have h2 : (List.take o q ++ a ++ List.drop (o + a.length) q).drop (o + a.length + b.length) = q.drop (o + a.length + b.length) := by
    have hx : (List.take o q ++ a).length = o + a.length := by simp; omega
    rw [List.drop_append, List.drop_of_length_le (by omega), List.nil_append, List.drop_drop, hx]
    congr 1
    omega
  rw [h1, h2]
  simp [List.append_assoc, Nat.add_assoc]
theorem padB_get {n : Nat} {l : List Nat} (j : Nat) (hj : j < (padB n l).length) (h : l.length ≤ j) : (padB n l)[j] = 0 := by
  unfold padB at hj ⊢
  rw [List.getElem_append_right h, List.getElem_replicate]
theorem padB_more {n : Nat} {l m : List Nat} (h : l.length + m.length ≤ n) : ovr (padB n l) l.length m = padB n (l ++ m) := by
  have h1 := ovr_app (q := List.replicate n 0) (a := l) (b := m) (o := 0) (by simp; omega)
  rw [ovr_zero (by omega), ovr_zero (by simp; omega), Nat.zero_add] at h1
  exact h1
theorem acc_succ (ps : List Part) (i : Nat) (h : i < ps.length) : (ps.take (i + 1)).flatMap partB = (ps.take i).flatMap partB ++ partB ps[i] := by
  rw [List.take_succ_eq_append_getElem h, List.flatMap_append]
  simp
theorem acc_le (ps : List Part) (i : Nat) : ((ps.take i).flatMap partB).length ≤ (ps.flatMap partB).length := by
  conv => rhs; rw [← List.take_append_drop i ps]
  rw [List.flatMap_append, List.length_append]
  omega
set_option maxHeartbeats 8000000 in
theorem laid_pc (size : Nat) (ps : List Part) (hok : ∀ p ∈ ps, PartOk p) (hfit : (ps.flatMap partB).length ≤ size) (hsz : size ≤ 1000000) (hps : ps.length ≤ 1000000) : PC Try.prog Γ 29 [.int .i64 size, .sl 1 (parts ps)] (.sl 1 (bys (padB size (ps.flatMap partB)))) := by
  refine pc_by mixed Try.func29 rfl (fun args w => Try.call29 args w) ?_
  simp -implicitDefEqProofs (disch := omega) [go_sem]
  refine loop_ren (σ := { i : Nat // i ≤ ps.length }) (fun i => ⟨envL [(5, .ref 0 0 size 1), (6, .ref 0 ((ps.take i.1).flatMap partB).length (size - ((ps.take i.1).flatMap partB).length) 1), (12, .data (.sl 1 (parts ps))), (13, .data (.int .i64 ps.length)), (14, .data (.int .i64 i.1))], hpL [(0, .blk true ((bys (padB size ((ps.take i.1).flatMap partB))).map D.data))], 1, 0, 30⟩) (fun i => ps.length - i.1) ⟨0, by omega⟩ [] (rhoL [(0, some 2)]) ?_ ?_
  · apply ren_lists <;> simp -implicitDefEqProofs [go_sem]
    rw [show padB size [] = List.replicate size 0 by simp [padB]]
    exact renCells_plain rfl (by simp [plainD])
  rintro ⟨i, hi⟩
  by_cases h : i < ps.length
  · have hs := acc_succ ps i h
    have ha := acc_le ps (i + 1)
    have hp := hok _ (List.getElem_mem h)
    have hpl := partB_length hp
    rw [hs, List.length_append, hpl] at ha
    have hpb := padB_length (n := size) (l := (ps.take i).flatMap partB) (by omega)
    have hpg := fun j hj => padB_get (n := size) (l := (ps.take i).flatMap partB) j hj
    have hpm := padB_more (n := size) (l := (ps.take i).flatMap partB) (m := partB ps[i]) (by omega)
    generalize (ps.take i).flatMap partB = acc at *
    generalize hpi : ps[i] = p at *
    cases p with
    | num k v =>
      obtain ⟨hk1, hk2, hv⟩ := hp
      simp only [partN] at ha hpl
      simp -implicitDefEqProofs (disch := omega) [go_sem, hpi, partD]
      refine inv_by _ okNum ?_
      refine call_data (sizeNum_pc Γ k v) (by simp [go_sem, numDt]) ?_
      simp -implicitDefEqProofs (disch := omega) [go_sem]
      refine .inr (dc_lent (putNum_dc Γ (padB size acc) acc.length k v ⟨hk1, hk2⟩ hv (by omega) (by omega)) (by simp [go_sem]) (.ref _ _ _) (by simp) (fun r c hrc => ?_))
      obtain ⟨rfl, rfl⟩ := hrc
      have hpm : ovr (padB size acc) acc.length (be k v) = padB size (acc ++ be k v) := hpm
      have hs : List.flatMap partB (List.take (i + 1) ps) = acc ++ be k v := hs
      have hbl := be_length k v
      rw [hpm]
      simp -implicitDefEqProofs (disch := omega) [go_sem]
      refine inv_by _ okNum ?_
      refine call_data (sizeNum_pc Γ k v) (by simp [go_sem, numDt]) ?_
      simp -implicitDefEqProofs (disch := omega) [go_sem]
      refine next_ren ⟨i + 1, by omega⟩ (by simp only; omega) [] (rhoL [(0, some 0)]) ?_
      apply ren_lists <;> simp -implicitDefEqProofs [go_sem, hs, hbl]
      all_goals omega
    | nam u =>
      have hu : u.size ≤ 16 := hp
      simp only [partN] at ha hpl
      simp -implicitDefEqProofs (disch := omega) [go_sem, hpi, partD]
      refine inv_by _ okNam ?_
      refine call_data (sizeNam_pc Γ u) (by simp [go_sem]) ?_
      simp -implicitDefEqProofs (disch := omega) [go_sem]
      refine .inr (dc_lent (putNam_dc Γ (padB size acc) acc.length u hu (by omega) (by omega) (fun j hj h1 h2 => hpg j hj h1)) (by simp [go_sem]) (.ref _ _ _) (by simp) (fun r c hrc => ?_))
      obtain ⟨rfl, rfl⟩ := hrc
      have hpm : ovr (padB size acc) acc.length (nameB u) = padB size (acc ++ nameB u) := hpm
      have hs : List.flatMap partB (List.take (i + 1) ps) = acc ++ nameB u := hs
      have hbl := nameB_length hu
      rw [hpm]
      simp -implicitDefEqProofs (disch := omega) [go_sem]
      refine inv_by _ okNam ?_
      refine call_data (sizeNam_pc Γ u) (by simp [go_sem]) ?_
      simp -implicitDefEqProofs (disch := omega) [go_sem]
      refine next_ren ⟨i + 1, by omega⟩ (by simp only; omega) [] (rhoL [(0, some 0)]) ?_
      apply ren_lists <;> simp -implicitDefEqProofs [go_sem, hs, hbl]
      all_goals omega
  have : i = ps.length := by omega
  subst this
  have ha : ((ps.take ps.length).flatMap partB).length ≤ size := by rw [List.take_length]; exact hfit
  simp -implicitDefEqProofs (disch := omega) [go_sem, Try.f29, List.take_length]
  exact ⟨_, ⟨_, rfl, frz_bys rfl (.inl rfl) (padB_length hfit)⟩, rfl⟩
end
end Bk
end Go.Proofs.Ytdgklbbgbnapoaa
namespace Go.Proofs.Ytdgklbbgbnapoaa
open Go.RowKit
set_option linter.unusedVariables false
set_option linter.unusedSimpArgs false
namespace Bk
def withLine (b : Book) (x : Item) : Book := { b with items := b.items ++ [x] }
theorem flat_item1 (x : Item) : flat (items [x]) = [.int .i64 x.kind, .int .i64 x.id, .int .u64 x.inn, .int .u64 x.out, .int .i64 x.cause] := rfl
/-- May a line stand where the session's last one ahead is k? -/
def LineAt (b : Book) (x : Item) (k : Int) : Prop := 0 ≤ x.id ∧ x.id < b.next ∧
  ((k < 0 ∧ x.kind = 1 ∧ x.inn = 0 ∧ x.out = 0 ∧ x.cause = 0) ∨
   (0 ≤ k ∧ (b.items.getD k.toNat default).kind ≠ 3 ∧ (b.items.getD k.toNat default).inn ≤ x.inn ∧ (b.items.getD k.toNat default).out ≤ x.out ∧ (x.kind = 2 ∧ x.cause = 0 ∨ x.kind = 3 ∧ 0 ≤ x.cause ∧ x.cause ≤ 255)))
def LineOk (b : Book) (i : Nat) (x : Item) : Prop := LineAt b x (last b.items x.id i)
set_option maxHeartbeats 4000000 in
set_option maxRecDepth 100000 in
theorem line_pc (Γ : Nat → Option (List Data)) (b : Book) (hb : Fits b) (i : Nat) (h : i < b.items.length) {v : Bool} (hv : v = true ↔ LineOk b i b.items[i]) : PC Try.prog Γ 47 [book b, .int .i64 i] (.bool v) := by
  refine pc_by mixed Try.func47 rfl (fun args w => Try.call47 args w) ?_
  have hi := hb.i
  have hl := last_pc Γ b hb b.items[i].id i (by omega)
  obtain ⟨l1, l2⟩ := last_lt b.items b.items[i].id i
  unfold LineOk at hv
  generalize last b.items b.items[i].id i = k at *
  have yes : LineAt b b.items[i] k → v = true := hv.2
  have no : ¬ LineAt b b.items[i] k → v = false := fun h => by
    cases v
    · rfl
    · exact absurd (hv.1 rfl) h
  clear hv
  simp -implicitDefEqProofs (disch := omega) [go_sem, book]
  refine .inl (call_data hl (by simp [go_sem, book]) ?_)
  simp -implicitDefEqProofs (disch := omega) [go_sem]
  refine ifW_ndec (fun h1 => ?_) (fun h1 => ?_)
  · simp -implicitDefEqProofs (disch := omega) [go_sem]
    refine ifW_dec (fun h2 => ?_) (fun h2 => ?_)
    · have hvf : v = false := no fun e => by unfold LineAt at e; omega
      simp -implicitDefEqProofs (disch := omega) [go_sem, hvf, Try.results47]
    · simp -implicitDefEqProofs (disch := omega) [go_sem]
      refine ifW_dec (fun h3 => ?_) (fun h3 => ?_)
      · by_cases a1 : b.items[i].kind = 1
        · by_cases a2 : b.items[i].inn = 0
          · by_cases a3 : b.items[i].out = 0
            · by_cases a4 : b.items[i].cause = 0
              · have hvt : v = true := yes (by unfold LineAt; omega)
                simp -implicitDefEqProofs (disch := omega) [go_sem, hvt, Try.results47]
              · have hvf : v = false := no fun e => by unfold LineAt at e; omega
                simp -implicitDefEqProofs (disch := omega) [go_sem, hvf, Try.results47]
            · have hvf : v = false := no fun e => by unfold LineAt at e; omega
              simp -implicitDefEqProofs (disch := omega) [go_sem, hvf, Try.results47]
          · have hvf : v = false := no fun e => by unfold LineAt at e; omega
            simp -implicitDefEqProofs (disch := omega) [go_sem, hvf, Try.results47]
        · have hvf : v = false := no fun e => by unfold LineAt at e; omega
          simp -implicitDefEqProofs (disch := omega) [go_sem, hvf, Try.results47]
      · have hk : k.toNat < b.items.length := by omega
        have hgd : b.items.getD k.toNat default = b.items[k.toNat] := by rw [List.getD_eq_getElem?_getD, List.getElem?_eq_getElem hk]; rfl
        simp -implicitDefEqProofs (disch := omega) [go_sem]
        refine ifW_ndec (fun b1 => ?_) (fun b1 => ?_)
        · simp -implicitDefEqProofs (disch := omega) [go_sem]
          refine ifW_ndec (fun b2 => ?_) (fun b2 => ?_)
          · simp -implicitDefEqProofs (disch := omega) [go_sem]
            refine ifW_dec (fun b3 => ?_) (fun b3 => ?_)
            · have hvf : v = false := no fun e => by unfold LineAt at e; rw [hgd] at e; omega
              simp -implicitDefEqProofs (disch := omega) [go_sem, hvf, Try.results47]
            · by_cases k2 : b.items[i].kind = 2
              · by_cases c0 : b.items[i].cause = 0
                · have hvt : v = true := yes (by unfold LineAt; rw [hgd]; omega)
                  simp -implicitDefEqProofs (disch := omega) [go_sem, hvt, Try.results47]
                · have hvf : v = false := no fun e => by unfold LineAt at e; rw [hgd] at e; omega
                  simp -implicitDefEqProofs (disch := omega) [go_sem, hvf, Try.results47]
              · by_cases k3 : b.items[i].kind = 3
                · by_cases c0 : 0 ≤ b.items[i].cause
                  · by_cases c1 : b.items[i].cause ≤ 255
                    · have hvt : v = true := yes (by unfold LineAt; rw [hgd]; omega)
                      simp -implicitDefEqProofs (disch := omega) [go_sem, hvt, Try.results47]
                    · have hvf : v = false := no fun e => by unfold LineAt at e; rw [hgd] at e; omega
                      simp -implicitDefEqProofs (disch := omega) [go_sem, hvf, Try.results47]
                  · have hvf : v = false := no fun e => by unfold LineAt at e; rw [hgd] at e; omega
                    simp -implicitDefEqProofs (disch := omega) [go_sem, hvf, Try.results47]
                · have hvf : v = false := no fun e => by unfold LineAt at e; rw [hgd] at e; omega
                  simp -implicitDefEqProofs (disch := omega) [go_sem, hvf, Try.results47]
          · have hvf : v = false := no fun e => by unfold LineAt at e; rw [hgd] at e; omega
            simp -implicitDefEqProofs (disch := omega) [go_sem, hvf, Try.results47]
        · have hvf : v = false := no fun e => by unfold LineAt at e; rw [hgd] at e; omega
          simp -implicitDefEqProofs (disch := omega) [go_sem, hvf, Try.results47]
  · have hvf : v = false := no fun e => by unfold LineAt at e; omega
    simp -implicitDefEqProofs (disch := omega) [go_sem, hvf, Try.results47]
end Bk
end Go.Proofs.Ytdgklbbgbnapoaa
namespace Go.Proofs.Ytdgklbbgbnapoaa
open Go.RowKit
set_option linter.unusedVariables false
set_option linter.unusedSimpArgs false
set_option maxRecDepth 100000
namespace Bk
theorem flat_sess1 (x : Sess) : flat (sesss [x]) = [.int .i64 x.id, .int .i64 x.link, .int .u32 x.addr, .str x.user, .int .u64 x.inn, .int .u64 x.out] := rfl
def Busy (b : Book) (o : Op) : Prop := ∃ (i : Nat) (h : i < b.opn.length), b.opn[i].link = o.link ∨ b.opn[i].addr = o.addr
open Classical in
noncomputable def openedOp (b : Book) (o : Op) : Book × Int :=
  if ¬ poolOk o.addr then (b, 1)
  else if Busy b o then (b, 6)
  else if (b.items.length : Int) + b.opn.length + 2 > 60 ∨ b.next = 1000000000 then (b, 4)
  else ({ next := b.next + 1, opn := b.opn ++ [⟨b.next, o.link, o.addr, o.user, 0, 0⟩], items := b.items ++ [⟨1, b.next, 0, 0, 0⟩], locks := b.locks }, 0)
def out (r : Book × Int) : Data := .tup [book r.1, .int .i64 r.2]
theorem first_range {α : Type} (p : α → Bool) : ∀ (l : List α) (n : Nat), first p n l = -1 ∨ (n : Int) ≤ first p n l ∧ first p n l < n + l.length
  | [], n => .inl rfl
  | a :: l, n => by
    have ih := first_range p l (n + 1)
    simp only [first, List.length_cons]
    split
    · right; omega
    · rcases ih with h | h
      · exact .inl h
      · right; omega
@[go_sem] theorem sesss_take (l : List Sess) (n : Nat) : List.take n (sesss l) = sesss (l.take n) := by simp [sesss]
@[go_sem] theorem sesss_drop (l : List Sess) (n : Nat) : List.drop n (sesss l) = sesss (l.drop n) := by simp [sesss]
theorem sess_cut (l : List Sess) (n : Nat) (h : n < l.length) : List.take 6 (List.drop (n * 6) ((flat (sesss l)).map D.data)) = [.data (.int .i64 l[n].id), .data (.int .i64 l[n].link), .data (.int .u32 l[n].addr), .data (.str l[n].user), .data (.int .u64 l[n].inn), .data (.int .u64 l[n].out)] := by
  rw [← List.map_drop, ← flat_drop (sesss_cells l) n (by rw [sesss_length]; omega), sesss_drop, List.drop_eq_getElem_cons h]
  rfl
theorem sess_set (l : List Sess) (n : Nat) (h : n < l.length) (x : Sess) : List.take (n * 6) ((flat (sesss l)).map D.data) ++ .data (.int .i64 x.id) :: .data (.int .i64 x.link) :: .data (.int .u32 x.addr) :: .data (.str x.user) :: .data (.int .u64 x.inn) :: .data (.int .u64 x.out) :: List.drop (n * 6 + 6) ((flat (sesss l)).map D.data) = (flat (sesss (l.set n x))).map D.data := by
  have e : n * 6 + 6 = (n + 1) * 6 := by omega
  rw [e, ← List.map_take, ← List.map_drop, ← flat_take (sesss_cells l) n (by rw [sesss_length]; omega), ← flat_drop (sesss_cells l) (n + 1) (by rw [sesss_length]; omega), sesss_take, sesss_drop, List.set_eq_take_append_cons_drop, if_pos h, ← sesss_append, List.map_append]
  rfl
def countedAt (b : Book) (o : Op) (k : Int) : Book × Int :=
  if k < 0 then (b, 5)
  else if (b.opn.getD k.toNat default).inn > o.inn ∨ (b.opn.getD k.toNat default).out > o.out then (b, 7)
  else if o.kind = 3 then ({ b with items := b.items ++ [⟨3, o.id, o.inn, o.out, o.cause⟩], opn := b.opn.take k.toNat ++ b.opn.drop (k.toNat + 1) }, 0)
  else if (b.items.length : Int) + b.opn.length + 1 > 60 then (b, 4)
  else ({ b with items := b.items ++ [⟨2, o.id, o.inn, o.out, 0⟩], opn := b.opn.set k.toNat { b.opn.getD k.toNat default with inn := o.inn, out := o.out } }, 0)
def countedOp (b : Book) (o : Op) : Book × Int := countedAt b o (ofId b o.id)
@[go_sem] theorem locks_take (l : List Lock) (n : Nat) : List.take n (locks l) = locks (l.take n) := by simp [locks]
@[go_sem] theorem locks_drop (l : List Lock) (n : Nat) : List.drop n (locks l) = locks (l.drop n) := by simp [locks]
theorem flat_lock1 (x : Lock) : flat (locks [x]) = [.str x.user, .int .i64 x.n, .int .i64 x.at_] := rfl
theorem lock_set (l : List Lock) (n : Nat) (h : n < l.length) (x : Lock) : List.take (n * 3) ((flat (locks l)).map D.data) ++ .data (.str x.user) :: .data (.int .i64 x.n) :: .data (.int .i64 x.at_) :: List.drop (n * 3 + 3) ((flat (locks l)).map D.data) = (flat (locks (l.set n x))).map D.data := by
  have e : n * 3 + 3 = (n + 1) * 3 := by omega
  rw [e, ← List.map_take, ← List.map_drop, ← flat_take (locks_cells l) n (by rw [locks_length]; omega), ← flat_drop (locks_cells l) (n + 1) (by rw [locks_length]; omega), locks_take, locks_drop, List.set_eq_take_append_cons_drop, if_pos h, ← locks_append, List.map_append]
  rfl
def failedAt (b : Book) (o : Op) (k : Int) : Book × Int :=
  if o.kind = 5 then (if k < 0 then (b, 5) else ({ b with locks := b.locks.take k.toNat ++ b.locks.drop (k.toNat + 1) }, 0))
  else if k < 0 then (if (b.locks.length : Int) = 8 then (b, 4) else ({ b with locks := b.locks ++ [⟨o.user, 1, o.at_⟩] }, 0))
  else if (b.locks.getD k.toNat default).at_ > o.at_ then (b, 7)
  else ({ b with locks := b.locks.set k.toNat ⟨o.user, min 255 ((b.locks.getD k.toNat default).n + 1), o.at_⟩ }, 0)
def failedOp (b : Book) (o : Op) : Book × Int := failedAt b o (failed b o.user)
def kept (b : Book) (l : List Item) : List Item := l.filter fun x => decide (0 ≤ ofId b x.id)
theorem kept_succ (b : Book) (i : Nat) (h : i < b.items.length) : kept b (b.items.take (i + 1)) = kept b (b.items.take i) ++ (if 0 ≤ ofId b b.items[i].id then [b.items[i]] else []) := by
  rw [List.take_succ_eq_append_getElem h]
  unfold kept
  rw [List.filter_append]
  by_cases g : 0 ≤ ofId b b.items[i].id <;> simp [g]
open Classical in
noncomputable def applyOp (b : Book) (o : Op) : Book × Int :=
  if ¬ MayP o then (b, 1)
  else if o.kind = 1 then openedOp b o
  else if o.kind = 2 ∨ o.kind = 3 then countedOp b o
  else if o.kind = 4 ∨ o.kind = 5 then failedOp b o
  else ({ b with items := kept b b.items }, 0)
def ends (l : List Sess) : List Item := l.map fun s => ⟨3, s.id, s.inn, s.out, 9⟩
def closeOp (b : Book) : Book := { b with opn := [], items := b.items ++ ends b.opn }
theorem ends_succ (l : List Sess) (i : Nat) (h : i < l.length) : ends (l.take (i + 1)) = ends (l.take i) ++ [⟨3, l[i].id, l[i].inn, l[i].out, 9⟩] := by
  rw [List.take_succ_eq_append_getElem h]; unfold ends; rw [List.map_append]; rfl
end Bk
end Go.Proofs.Ytdgklbbgbnapoaa
namespace Go.Proofs.Ytdgklbbgbnapoaa
open Go.RowKit
set_option linter.unusedVariables false
set_option linter.unusedSimpArgs false
namespace Bk
variable (Γ : Nat → Option (List Data))
theorem isFrom_pc (n l h : Int) : PC Try.prog Γ 65 [.int .i64 n, .int .i64 l, .int .i64 h] (.bool (decide (l ≤ n ∧ n ≤ h))) := by
  refine pc_by mixed Try.func65 rfl (fun args w => Try.call65 args w) ?_
  by_cases h1 : l ≤ n
  · by_cases h2 : n ≤ h
    · simp -implicitDefEqProofs (disch := omega) [go_sem, h1, h2, Try.f65]
    · simp -implicitDefEqProofs (disch := omega) [go_sem, h1, h2, Try.f65]
  · simp -implicitDefEqProofs (disch := omega) [go_sem, h1, Try.f65]
theorem isLink_pc (n : Int) : PC Try.prog Γ 78 [.int .i64 n] (.bool (decide (0 ≤ n ∧ n ≤ 7))) := by
  refine pc_by mixed Try.func78 rfl (fun args w => Try.call78 args w) ?_
  simp -implicitDefEqProofs (disch := omega) [go_sem]
  refine .inl (call_data (isFrom_pc Γ n 0 7) (by simp [go_sem]) ?_)
  simp -implicitDefEqProofs (disch := omega) [go_sem, Try.f78]
theorem isUser_pc (u : ByteArray) : PC Try.prog Γ 79 [.str u] (.bool (decide (nameOk u))) := by
  refine pc_by mixed Try.func79 rfl (fun args w => Try.call79 args w) ?_
  simp -implicitDefEqProofs (disch := omega) [go_sem]
  have e : decide ((1 : Int) ≤ (u.size : Int) ∧ (u.size : Int) ≤ 16) = decide (nameOk u) := by
    unfold nameOk
    congr 1
    simp only [eq_iff_iff]
    omega
  have h := isFrom_pc Γ u.size 1 16
  rw [e] at h
  refine .inl (call_data h (by simp [go_sem]) ?_)
  simp -implicitDefEqProofs (disch := omega) [go_sem, Try.f79]
theorem isOfPool_pc (a : Int) : PC Try.prog Γ 84 [.int .u32 a] (.bool (decide (poolOk a))) := by
  refine pc_by mixed Try.func84 rfl (fun args w => Try.call84 args w) ?_
  by_cases h1 : 167772161 ≤ a
  · by_cases h2 : a < 167772167
    · have hyes : poolOk a := ⟨h1, by omega⟩
      simp -implicitDefEqProofs (disch := omega) [go_sem, hyes, h1, h2, Try.f84]
    · have hno : ¬ poolOk a := fun hk => by unfold poolOk at hk; omega
      simp -implicitDefEqProofs (disch := omega) [go_sem, hno, h1, h2, Try.f84]
  · have hno : ¬ poolOk a := fun hk => by unfold poolOk at hk; omega
    simp -implicitDefEqProofs (disch := omega) [go_sem, hno, h1, Try.f84]
/- What a session, or a user, is asked. -/
theorem byAddr_pc (s : Sess) (a : Int) : PC Try.prog Γ 92 [sess s, .pc [.int .u32 a]] (.bool (decide (s.addr = a))) := by
  refine pc_by mixed Try.func92 rfl (fun args w => Try.call92 args w) ?_
  simp -implicitDefEqProofs (disch := omega) [go_sem, sess, Try.f92]
theorem byLink_pc (s : Sess) (a : Int) : PC Try.prog Γ 91 [sess s, .pc [.int .i64 a]] (.bool (decide (s.link = a))) := by
  refine pc_by mixed Try.func91 rfl (fun args w => Try.call91 args w) ?_
  simp -implicitDefEqProofs (disch := omega) [go_sem, sess, Try.f91]
theorem byId_pc (s : Sess) (a : Int) : PC Try.prog Γ 96 [sess s, .pc [.int .i64 a]] (.bool (decide (s.id = a))) := by
  refine pc_by mixed Try.func96 rfl (fun args w => Try.call96 args w) ?_
  simp -implicitDefEqProofs (disch := omega) [go_sem, sess, Try.f96]
theorem byUser_pc (l : Lock) (u : ByteArray) : PC Try.prog Γ 98 [lock l, .pc [.str u]] (.bool (decide (l.user = u))) := by
  refine pc_by mixed Try.func98 rfl (fun args w => Try.call98 args w) ?_
  simp -implicitDefEqProofs (disch := omega) [go_sem, lock, Try.f98]
/- Where the first one stands. -/
set_option maxHeartbeats 1000000 in
theorem idxSess_pc (l : List Sess) (hl : l.length ≤ 140737488351232) (g : FuncId) (caps : List Data) (p : Sess → Bool) (h : ∀ s, PC Try.prog Γ g (sess s :: caps) (.bool (p s))) : PC Try.prog Γ 95 [.sl 6 (sesss l), .fn g caps] (.int .i64 (first p 0 l)) := by
  refine pc_by mixed Try.func95 rfl (fun args w => Try.call95 args w) ?_
  simp -implicitDefEqProofs (disch := omega) [go_sem]
  refine loop_ren (σ := { i : Nat // i ≤ l.length ∧ ∀ (j : Nat) (h : j < l.length), j < i → p l[j] = false }) (fun i => ⟨envL [(0, .data (.sl 6 (sesss l))), (1, .data (.fn g caps)), (7, .data (.int .i64 l.length)), (8, .data (.int .i64 i.1))], hpL [], 0, 0, 19⟩) (fun i => l.length - i.1) ⟨0, by omega, by omega⟩ [] (rhoL []) ?_ ?_
  · apply ren_lists <;> simp -implicitDefEqProofs [go_sem]
  rintro ⟨i, hi, hall⟩
  by_cases hlt : i < l.length
  · have hc := h l[i]
    simp -implicitDefEqProofs (disch := omega) [go_sem]
    refine .inl (call_data hc (by simp [go_sem, sess]) ?_)
    cases hp : p l[i] with
    | true =>
      have hr : first p 0 l = (i : Int) := by
        have := first_at (p := p) (l := l) (n := 0) hlt hp (fun j hj => hall j (by omega) hj)
        rw [this]; congr 1; omega
      simp -implicitDefEqProofs (disch := omega) [go_sem, hr, Try.results95]
    | false =>
      simp -implicitDefEqProofs (disch := omega) [go_sem]
      refine next_ren ⟨i + 1, by omega, fun j hj hji => if e : j = i then by subst e; exact hp else hall j hj (by omega)⟩ (by simp only; omega) [] (rhoL []) ?_
      apply ren_lists <;> simp -implicitDefEqProofs [go_sem]
  have hr : first p 0 l = -1 := first_none fun a ha => by
    obtain ⟨j, hj, rfl⟩ := List.mem_iff_getElem.1 ha
    exact hall j hj (by omega)
  simp -implicitDefEqProofs (disch := omega) [go_sem, hr, Try.results95]
set_option maxHeartbeats 1000000 in
theorem idxLock_pc (l : List Lock) (hl : l.length ≤ 140737488351232) (g : FuncId) (caps : List Data) (p : Lock → Bool) (h : ∀ s, PC Try.prog Γ g (lock s :: caps) (.bool (p s))) : PC Try.prog Γ 97 [.sl 3 (locks l), .fn g caps] (.int .i64 (first p 0 l)) := by
  refine pc_by mixed Try.func97 rfl (fun args w => Try.call97 args w) ?_
  simp -implicitDefEqProofs (disch := omega) [go_sem]
  refine loop_ren (σ := { i : Nat // i ≤ l.length ∧ ∀ (j : Nat) (h : j < l.length), j < i → p l[j] = false }) (fun i => ⟨envL [(0, .data (.sl 3 (locks l))), (1, .data (.fn g caps)), (7, .data (.int .i64 l.length)), (8, .data (.int .i64 i.1))], hpL [], 0, 0, 19⟩) (fun i => l.length - i.1) ⟨0, by omega, by omega⟩ [] (rhoL []) ?_ ?_
  · apply ren_lists <;> simp -implicitDefEqProofs [go_sem]
  rintro ⟨i, hi, hall⟩
  by_cases hlt : i < l.length
  · have hc := h l[i]
    simp -implicitDefEqProofs (disch := omega) [go_sem]
    refine .inl (call_data hc (by simp [go_sem, lock]) ?_)
    cases hp : p l[i] with
    | true =>
      have hr : first p 0 l = (i : Int) := by
        have := first_at (p := p) (l := l) (n := 0) hlt hp (fun j hj => hall j (by omega) hj)
        rw [this]; congr 1; omega
      simp -implicitDefEqProofs (disch := omega) [go_sem, hr, Try.results97]
    | false =>
      simp -implicitDefEqProofs (disch := omega) [go_sem]
      refine next_ren ⟨i + 1, by omega, fun j hj hji => if e : j = i then by subst e; exact hp else hall j hj (by omega)⟩ (by simp only; omega) [] (rhoL []) ?_
      apply ren_lists <;> simp -implicitDefEqProofs [go_sem]
  have hr : first p 0 l = -1 := first_none fun a ha => by
    obtain ⟨j, hj, rfl⟩ := List.mem_iff_getElem.1 ha
    exact hall j hj (by omega)
  simp -implicitDefEqProofs (disch := omega) [go_sem, hr, Try.results97]
theorem hasSess_pc (l : List Sess) (hl : l.length ≤ 140737488351232) (g : FuncId) (caps : List Data) (p : Sess → Bool) (h : ∀ s, PC Try.prog Γ g (sess s :: caps) (.bool (p s))) : PC Try.prog Γ 90 [.sl 6 (sesss l), .fn g caps] (.bool (decide (0 ≤ first p 0 l))) := by
  refine pc_by mixed Try.func90 rfl (fun args w => Try.call90 args w) ?_
  simp -implicitDefEqProofs (disch := omega) [go_sem]
  refine .inl (call_data (idxSess_pc Γ l hl g caps p h) (by simp [go_sem]) ?_)
  simp -implicitDefEqProofs (disch := omega) [go_sem, Try.f90]
theorem hasLink_pc (l : List Sess) (hl : l.length ≤ 140737488351232) (a : Int) : PC Try.prog Γ 85 [.sl 6 (sesss l), .int .i64 a] (.bool (decide (0 ≤ first (fun s : Sess => decide (s.link = a)) 0 l))) := by
  refine pc_by mixed Try.func85 rfl (fun args w => Try.call85 args w) ?_
  have hc := hasSess_pc Γ l hl _ [.pc [.int .i64 a]] (fun s : Sess => decide (s.link = a)) (fun s => byLink_pc Γ s a)
  simp -implicitDefEqProofs (disch := omega) [go_sem]
  refine .inl (call_bare [0] hc (by constructor) (fun H' hH => ?_) ?_)
  · have h0 := hH 0 (by simp)
    simp -implicitDefEqProofs [go_sem] at h0
    refine frzL_c ((frz_data _ _ _ _).2 rfl) (frzL_c ((frz_fn _ _ _ _ _).2 ⟨_, rfl, frzL_c (frz_ptrL h0 (.inl rfl) ?_) frzL_n⟩) frzL_n)
    exact frzL_c ((frz_data _ _ _ _).2 rfl) frzL_n
  · simp -implicitDefEqProofs (disch := omega) [go_sem, Try.f85]
theorem hasAddr_pc (l : List Sess) (hl : l.length ≤ 140737488351232) (a : Int) : PC Try.prog Γ 86 [.sl 6 (sesss l), .int .u32 a] (.bool (decide (0 ≤ first (fun s : Sess => decide (s.addr = a)) 0 l))) := by
  refine pc_by mixed Try.func86 rfl (fun args w => Try.call86 args w) ?_
  have hc := hasSess_pc Γ l hl _ [.pc [.int .u32 a]] (fun s : Sess => decide (s.addr = a)) (fun s => byAddr_pc Γ s a)
  simp -implicitDefEqProofs (disch := omega) [go_sem]
  refine .inl (call_bare [0] hc (by constructor) (fun H' hH => ?_) ?_)
  · have h0 := hH 0 (by simp)
    simp -implicitDefEqProofs [go_sem] at h0
    refine frzL_c ((frz_data _ _ _ _).2 rfl) (frzL_c ((frz_fn _ _ _ _ _).2 ⟨_, rfl, frzL_c (frz_ptrL h0 (.inl rfl) ?_) frzL_n⟩) frzL_n)
    exact frzL_c ((frz_data _ _ _ _).2 rfl) frzL_n
  · simp -implicitDefEqProofs (disch := omega) [go_sem, Try.f86]
theorem placeOfId_pc (l : List Sess) (hl : l.length ≤ 140737488351232) (a : Int) : PC Try.prog Γ 88 [.sl 6 (sesss l), .int .i64 a] (.int .i64 (first (fun s : Sess => decide (s.id = a)) 0 l)) := by
  refine pc_by mixed Try.func88 rfl (fun args w => Try.call88 args w) ?_
  have hc := idxSess_pc Γ l hl _ [.pc [.int .i64 a]] (fun s : Sess => decide (s.id = a)) (fun s => byId_pc Γ s a)
  simp -implicitDefEqProofs (disch := omega) [go_sem]
  refine .inl (call_bare [0] hc (by constructor) (fun H' hH => ?_) ?_)
  · have h0 := hH 0 (by simp)
    simp -implicitDefEqProofs [go_sem] at h0
    refine frzL_c ((frz_data _ _ _ _).2 rfl) (frzL_c ((frz_fn _ _ _ _ _).2 ⟨_, rfl, frzL_c (frz_ptrL h0 (.inl rfl) ?_) frzL_n⟩) frzL_n)
    exact frzL_c ((frz_data _ _ _ _).2 rfl) frzL_n
  · simp -implicitDefEqProofs (disch := omega) [go_sem, Try.f88]
theorem placeOfUser_pc (l : List Lock) (hl : l.length ≤ 140737488351232) (a : ByteArray) : PC Try.prog Γ 89 [.sl 3 (locks l), .str a] (.int .i64 (first (fun s : Lock => decide (s.user = a)) 0 l)) := by
  refine pc_by mixed Try.func89 rfl (fun args w => Try.call89 args w) ?_
  have hc := idxLock_pc Γ l hl _ [.pc [.str a]] (fun s : Lock => decide (s.user = a)) (fun s => byUser_pc Γ s a)
  simp -implicitDefEqProofs (disch := omega) [go_sem]
  refine .inl (call_bare [0] hc (by constructor) (fun H' hH => ?_) ?_)
  · have h0 := hH 0 (by simp)
    simp -implicitDefEqProofs [go_sem] at h0
    refine frzL_c ((frz_data _ _ _ _).2 rfl) (frzL_c ((frz_fn _ _ _ _ _).2 ⟨_, rfl, frzL_c (frz_ptrL h0 (.inl rfl) ?_) frzL_n⟩) frzL_n)
    exact frzL_c ((frz_data _ _ _ _).2 rfl) frzL_n
  · simp -implicitDefEqProofs (disch := omega) [go_sem, Try.f89]
end Bk
end Go.Proofs.Ytdgklbbgbnapoaa
