/- Books: what an op does to a right book (mathematics): who has failed; right again, closed, free, counted, trimmed. -/
import Derived.Test.YtedcnbkhdkchoaaCE
namespace Go.Proofs.Ytedcnbkhdkchoaa
open Go.RowKit
set_option linter.unusedVariables false
set_option linter.unusedSimpArgs false
set_option maxRecDepth 100000
namespace Bk
/-- What is refused changes nothing. -/
theorem apply_err (b : Book) (o : Op) : (applyOp b o).2 = 0 ∨ (applyOp b o).1 = b := by
  unfold applyOp
  split
  · exact .inr rfl
  split
  · unfold openedOp; repeat' split
    all_goals simp
  split
  · unfold countedOp countedAt; repeat' split
    all_goals simp
  split
  · unfold failedOp failedAt; repeat' split
    all_goals simp
  exact .inl rfl
theorem apply_locks (b : Book) (o : Op) (h : ¬ (o.kind = 4 ∨ o.kind = 5)) : (applyOp b o).1.locks = b.locks := by
  unfold applyOp
  split
  · rfl
  split
  · unfold openedOp; repeat' split
    all_goals rfl
  split
  · unfold countedOp countedAt; repeat' split
    all_goals rfl
  first | rfl | exact absurd ‹_› h
/-- Nobody stands twice among those who have failed. -/
def LockU (l : List Lock) : Prop := ∀ (i j : Nat) (hi : i < l.length) (hj : j < l.length), l[i].user = l[j].user → i = j
theorem lockU_of {b : Book} (hr : RightP b) : LockU b.locks := fun i j hi hj e => by
  have h1 := (hr.locks i hi).f
  have h2 := (hr.locks j hj).f
  rw [e, h2] at h1
  omega
theorem failed_is {c : Book} {l : Lock} (hm : l ∈ c.locks) (hu : ∀ x ∈ c.locks, x.user = l.user → x = l) : ∃ (k : Nat) (hk : k < c.locks.length), failed c l.user = (k : Int) ∧ c.locks[k] = l := by
  rcases first_spec (p := fun x : Lock => decide (x.user = l.user)) c.locks 0 with ⟨_, h2⟩ | ⟨j, hj, h1, h2, _⟩
  · exact absurd (h2 l hm) (by simp)
  · exact ⟨j, hj, by unfold failed; rw [h1]; simp, hu _ (List.getElem_mem hj) (by simpa using h2)⟩
theorem failed_no {c : Book} {u : ByteArray} (h : ∀ x ∈ c.locks, x.user ≠ u) : failed c u = -1 := first_none fun x hx => by simpa using h x hx
theorem mem_cut {α : Type} {l : List α} {j : Nat} {x : α} (h : x ∈ l.take j ++ l.drop (j + 1)) : ∃ (m : Nat) (hm : m < l.length), m ≠ j ∧ x = l[m] := by
  rcases List.mem_append.1 h with h | h
  · obtain ⟨i, hi, rfl⟩ := List.getElem_of_mem h
    rw [List.length_take] at hi
    exact ⟨i, by omega, by omega, List.getElem_take⟩
  · obtain ⟨i, hi, rfl⟩ := List.getElem_of_mem h
    rw [List.length_drop] at hi
    exact ⟨j + 1 + i, by omega, by omega, List.getElem_drop⟩
theorem cut_mem {α : Type} {l : List α} {j m : Nat} (hm : m < l.length) (hn : m ≠ j) : l[m] ∈ l.take j ++ l.drop (j + 1) := by
  by_cases e : m < j
  · refine List.mem_append_left _ ?_
    rw [show l[m] = (l.take j)[m]'(by rw [List.length_take]; omega) from List.getElem_take.symm]
    exact List.getElem_mem _
  · refine List.mem_append_right _ ?_
    have : l[m] = (l.drop (j + 1))[m - (j + 1)]'(by rw [List.length_drop]; omega) := by
      rw [List.getElem_drop]
      congr 1
      omega
    rw [this]
    exact List.getElem_mem _
theorem mem_put {α : Type} {l : List α} {j : Nat} {a x : α} (h : x ∈ l.set j a) : x = a ∨ ∃ (m : Nat) (hm : m < l.length), m ≠ j ∧ x = l[m] := by
  obtain ⟨i, hi, rfl⟩ := List.getElem_of_mem h
  rw [List.length_set] at hi
  by_cases e : j = i
  · subst e; exact .inl (List.getElem_set_self _)
  · exact .inr ⟨i, hi, fun h => e h.symm, List.getElem_set_ne e _⟩
theorem put_mem {α : Type} {l : List α} {j m : Nat} {a : α} (hm : m < l.length) (hn : m ≠ j) : l[m] ∈ l.set j a := by
  rw [show l[m] = (l.set j a)[m]'(by rw [List.length_set]; omega) from (List.getElem_set_ne (fun h => hn h.symm) _).symm]
  exact List.getElem_mem _
theorem put_self {α : Type} {l : List α} {j : Nat} {a : α} (hj : j < l.length) : a ∈ l.set j a := by
  have h : (l.set j a)[j]'(by rw [List.length_set]; omega) = a := List.getElem_set_self _
  exact List.mem_of_getElem h
/-- May a line follow what stood last of its session? -/
def StepOk : Option Item → Item → Prop
  | none, x => x.kind = 1 ∧ x.inn = 0 ∧ x.out = 0 ∧ x.cause = 0
  | some y, x => y.kind ≠ 3 ∧ y.inn ≤ x.inn ∧ y.out ≤ x.out ∧ (x.kind = 2 ∧ x.cause = 0 ∨ x.kind = 3 ∧ 0 ≤ x.cause ∧ x.cause ≤ 255)
/-- The last line of a session. -/
def prev (l : List Item) (id : Int) : Option Item := (l.filter fun x => decide (x.id = id)).getLast?
theorem prev_snoc (l : List Item) (x : Item) (id : Int) : prev (l ++ [x]) id = if x.id = id then some x else prev l id := by
  unfold prev
  rw [List.filter_append]
  by_cases h : x.id = id <;> simp [h]
theorem prev_mem {l : List Item} {id : Int} {y : Item} (h : prev l id = some y) : y ∈ l ∧ y.id = id := by
  have := List.mem_of_getLast? h
  simpa using this
theorem prev_none {l : List Item} {id : Int} (h : ∀ x ∈ l, x.id ≠ id) : prev l id = none := by
  unfold prev
  rw [List.filter_eq_nil_iff.2 (fun x hx => by simpa using h x hx)]
  rfl
theorem prev_last (l : List Item) (id : Int) : ∀ n, n ≤ l.length → (last l id n = -1 ∧ prev (l.take n) id = none) ∨ ∃ (k : Nat) (hk : k < l.length), k < n ∧ last l id n = k ∧ prev (l.take n) id = some l[k] ∧ l[k].id = id
  | 0, _ => .inl ⟨rfl, rfl⟩
  | n + 1, h => by
    have hn : n < l.length := by omega
    rw [last_succ l id n hn, List.take_succ_eq_append_getElem hn, prev_snoc]
    by_cases e : l[n].id = id
    · rw [if_pos e, if_pos e]
      exact .inr ⟨n, hn, by omega, rfl, rfl, e⟩
    · rw [if_neg e, if_neg e]
      rcases prev_last l id n (by omega) with h1 | ⟨k, hk, h1, h2⟩
      · exact .inl h1
      · exact .inr ⟨k, hk, by omega, h2⟩
theorem lineOk_iff (b : Book) (i : Nat) (x : Item) (hi : i ≤ b.items.length) : LineOk b i x ↔ 0 ≤ x.id ∧ x.id < b.next ∧ StepOk (prev (b.items.take i) x.id) x := by
  unfold LineOk LineAt
  rcases prev_last b.items x.id i hi with ⟨h1, h2⟩ | ⟨k, hk, _, h1, h2, _⟩
  · rw [h1, h2]
    unfold StepOk
    constructor
    · rintro ⟨a, c, ⟨_, h⟩ | ⟨h, _⟩⟩
      · exact ⟨a, c, h⟩
      · omega
    · rintro ⟨a, c, h⟩
      exact ⟨a, c, .inl ⟨by omega, h⟩⟩
  · rw [h1, h2, Int.toNat_natCast, show b.items.getD k default = b.items[k] by rw [List.getD_eq_getElem?_getD, List.getElem?_eq_getElem hk]; rfl]
    unfold StepOk
    constructor
    · rintro ⟨a, c, ⟨h, _⟩ | ⟨_, h⟩⟩
      · omega
      · exact ⟨a, c, h⟩
    · rintro ⟨a, c, h⟩
      exact ⟨a, c, .inr ⟨by omega, h⟩⟩
inductive Lines (next : Int) : List Item → Prop where
  | nil : Lines next []
  | snoc (l : List Item) (x : Item) (h : Lines next l) (h0 : 0 ≤ x.id) (h1 : x.id < next) (hs : StepOk (prev l x.id) x) : Lines next (l ++ [x])
theorem Lines.up {n m : Int} {l : List Item} (h : Lines n l) (hn : n ≤ m) : Lines m l := by
  induction h with
  | nil => exact .nil
  | snoc l x _ h0 h1 hs ih => exact .snoc l x ih h0 (by omega) hs
theorem Lines.ids {n : Int} {l : List Item} (h : Lines n l) : ∀ x ∈ l, 0 ≤ x.id ∧ x.id < n := by
  induction h with
  | nil => intro x hx; cases hx
  | snoc l x _ h0 h1 hs ih =>
    intro y hy
    rcases List.mem_append.1 hy with hy | hy
    · exact ih y hy
    · rw [List.mem_singleton.1 hy]; exact ⟨h0, h1⟩
theorem Lines.at {n : Int} {l : List Item} (h : Lines n l) : ∀ (i : Nat) (hi : i < l.length), 0 ≤ l[i].id ∧ l[i].id < n ∧ StepOk (prev (l.take i) l[i].id) l[i] := by
  induction h with
  | nil => intro i hi; simp at hi
  | snoc l x _ h0 h1 hs ih =>
    intro i hi
    by_cases e : i < l.length
    · rw [List.getElem_append_left e, List.take_append_of_le_length (by omega)]
      exact ih i e
    · have : i = l.length := by simp at hi; omega
      subst this
      rw [List.getElem_append_right (by omega), List.take_append_of_le_length (by omega), List.take_length]
      simpa using ⟨h0, h1, hs⟩
theorem lines_iff (b : Book) : (∀ (i : Nat) (h : i < b.items.length), LineOk b i b.items[i]) ↔ Lines b.next b.items := by
  constructor
  · intro h
    have : ∀ n, n ≤ b.items.length → Lines b.next (b.items.take n) := by
      intro n
      induction n with
      | zero => intro _; exact .nil
      | succ n ih =>
        intro hn
        have hn2 : n < b.items.length := by omega
        rw [List.take_succ_eq_append_getElem hn2]
        obtain ⟨a, c, d⟩ := (lineOk_iff b n _ (by omega)).1 (h n hn2)
        exact .snoc _ _ (ih (by omega)) a c d
    have := this b.items.length (Nat.le_refl _)
    rwa [List.take_length] at this
  · intro h i hi
    exact (lineOk_iff b i _ (by omega)).2 (h.at i hi)
structure SessG (next : Int) (s : Sess) : Prop where
  id0 : 0 ≤ s.id
  id1 : s.id < next
  l0 : 0 ≤ s.link
  l1 : s.link ≤ 7
  user : nameOk s.user
  addr : poolOk s.addr
structure LockG (l : Lock) : Prop where
  user : nameOk l.user
  n0 : 1 ≤ l.n
  n1 : l.n ≤ 255
  t0 : 0 ≤ l.at_
  t1 : l.at_ ≤ 1000000000
def SessR (s t : Sess) : Prop := s.id < t.id ∧ s.link ≠ t.link ∧ s.addr ≠ t.addr
/-- Right, session by session. -/
structure RightL (b : Book) : Prop where
  n0 : 0 ≤ b.next
  n1 : b.next ≤ 1000000000
  len : b.items.length + b.opn.length ≤ 60
  ll : b.locks.length ≤ 8
  ord : b.opn.Pairwise SessR
  good : ∀ s ∈ b.opn, SessG b.next s
  lines : Lines b.next b.items
  fin : ∀ id y, prev b.items id = some y → (y.kind ≠ 3 ↔ ∃ s ∈ b.opn, s.id = id)
  opn : ∀ s ∈ b.opn, ∃ y, prev b.items s.id = some y ∧ y.inn = s.inn ∧ y.out = s.out
  lk : b.locks.Pairwise fun a c => a.user ≠ c.user
  lg : ∀ l ∈ b.locks, LockG l
theorem ofId_iff (b : Book) (id : Int) : 0 ≤ ofId b id ↔ ∃ s ∈ b.opn, s.id = id := by
  unfold ofId
  rcases first_spec (p := fun s : Sess => decide (s.id = id)) b.opn 0 with ⟨h1, h2⟩ | ⟨j, hj, h1, h2, _⟩
  · rw [h1]
    constructor
    · intro h; omega
    · rintro ⟨s, hs, e⟩
      have := h2 s hs
      simp [e] at this
  · rw [h1]
    exact ⟨fun _ => ⟨_, List.getElem_mem hj, by simpa using h2⟩, fun _ => by omega⟩
theorem ofId_at (b : Book) (id : Int) : ofId b id = -1 ∨ ∃ (k : Nat) (hk : k < b.opn.length), ofId b id = k ∧ b.opn[k].id = id := by
  unfold ofId
  rcases first_spec (p := fun s : Sess => decide (s.id = id)) b.opn 0 with ⟨h1, h2⟩ | ⟨j, hj, h1, h2, _⟩
  · exact .inl h1
  · exact .inr ⟨j, hj, by rw [h1]; omega, by simpa using h2⟩
theorem failed_at (b : Book) (u : ByteArray) : (failed b u = -1 ∧ ∀ l ∈ b.locks, l.user ≠ u) ∨ ∃ (k : Nat) (hk : k < b.locks.length), failed b u = k ∧ b.locks[k].user = u := by
  unfold failed
  rcases first_spec (p := fun l : Lock => decide (l.user = u)) b.locks 0 with ⟨h1, h2⟩ | ⟨j, hj, h1, h2, _⟩
  · exact .inl ⟨h1, fun l hl => by simpa using h2 l hl⟩
  · exact .inr ⟨j, hj, by rw [h1]; omega, by simpa using h2⟩
theorem openOk_ids {b : Book} (h : OpenOk b) : ∀ (d i : Nat) (hi : i + d + 1 < b.opn.length), (b.opn[i]'(by omega)).id < b.opn[i + d + 1].id
  | 0, i, hi => by
    have := (h (i + 1) hi).1.up (by omega)
    rw [Nat.add_sub_cancel, List.getD_eq_getElem?_getD, List.getElem?_eq_getElem (by omega)] at this
    exact this
  | d + 1, i, hi => by
    have h1 := openOk_ids h d i (by omega)
    have h2 := (h (i + (d + 1) + 1) hi).1.up (by omega)
    rw [Nat.add_sub_cancel, List.getD_eq_getElem?_getD, List.getElem?_eq_getElem (by omega)] at h2
    have e : (b.opn[i + (d + 1)]?.getD default) = b.opn[i + d + 1]'(by omega) := by rw [List.getElem?_eq_getElem (by omega)]; rfl
    simp only [Option.getD_some] at h2
    exact Int.lt_trans h1 h2
theorem openOk_iff (b : Book) : OpenOk b ↔ b.opn.Pairwise SessR ∧ ∀ s ∈ b.opn, SessG b.next s := by
  constructor
  · intro h
    refine ⟨List.pairwise_iff_getElem.2 fun i j hi hj hij => ?_, fun s hs => ?_⟩
    · have h1 := openOk_ids h (j - i - 1) i (by omega)
      have h2 := (h j hj).2 i hij
      have e : i + (j - i - 1) + 1 = j := by omega
      simp only [e] at h1
      exact ⟨h1, h2⟩
    · obtain ⟨i, hi, rfl⟩ := List.getElem_of_mem hs
      obtain ⟨⟨a1, a2, _, a3, a4, a5, a6⟩, _⟩ := h i hi
      exact ⟨a1, a2, a3, a4, a5, a6⟩
  · rintro ⟨h1, h2⟩ i hi
    rw [List.pairwise_iff_getElem] at h1
    obtain ⟨a1, a2, a3, a4, a5, a6⟩ := h2 _ (List.getElem_mem hi)
    refine ⟨⟨a1, a2, fun h0 => ?_, a3, a4, a5, a6⟩, fun k hk => (h1 k i (by omega) hi hk).2⟩
    rw [List.getD_eq_getElem?_getD, List.getElem?_eq_getElem (by omega)]
    exact (h1 (i - 1) i (by omega) hi (by omega)).1
theorem locks_iff (b : Book) : (∀ (i : Nat) (h : i < b.locks.length), LockAt b i h) ↔ (b.locks.Pairwise fun a c => a.user ≠ c.user) ∧ ∀ l ∈ b.locks, LockG l := by
  constructor
  · intro h
    refine ⟨List.pairwise_iff_getElem.2 fun i j hi hj hij e => ?_, fun l hl => ?_⟩
    · have h1 := (h i hi).f
      have h2 := (h j hj).f
      rw [e, h2] at h1
      omega
    · obtain ⟨i, hi, rfl⟩ := List.getElem_of_mem hl
      obtain ⟨a1, a2, a3, a4, a5, _⟩ := h i hi
      exact ⟨a1, a2, a3, a4, a5⟩
  · rintro ⟨h1, h2⟩ i hi
    rw [List.pairwise_iff_getElem] at h1
    obtain ⟨a1, a2, a3, a4, a5⟩ := h2 _ (List.getElem_mem hi)
    refine ⟨a1, a2, a3, a4, a5, ?_⟩
    rcases failed_at b b.locks[i].user with ⟨_, h⟩ | ⟨k, hk, h, e⟩
    · exact absurd rfl (h _ (List.getElem_mem hi))
    · rw [h]
      by_cases c : k < i
      · exact absurd e (h1 k i hk hi c)
      by_cases c2 : i < k
      · exact absurd e.symm (h1 i k hi hk c2)
      have : k = i := by omega
      rw [this]
theorem prev_last_all (b : Book) (id : Int) : (last b.items id b.items.length = -1 ∧ prev b.items id = none) ∨ ∃ (k : Nat) (hk : k < b.items.length), last b.items id b.items.length = k ∧ prev b.items id = some b.items[k] ∧ b.items[k].id = id := by
  have := prev_last b.items id b.items.length (Nat.le_refl _)
  rw [List.take_length] at this
  rcases this with h | ⟨k, hk, _, h⟩
  · exact .inl h
  · exact .inr ⟨k, hk, h⟩
theorem rightL_of {b : Book} (h : RightP b) : RightL b := by
  obtain ⟨o1, o2⟩ := (openOk_iff b).1 h.opens
  obtain ⟨l1, l2⟩ := (locks_iff b).1 h.locks
  refine ⟨h.n0, h.n1, h.len, h.ll, o1, o2, (lines_iff b).1 fun i hi => (h.items i hi).line, fun id y hy => ?_, fun s hs => ?_, l1, l2⟩
  · rcases prev_last_all b id with ⟨_, e⟩ | ⟨k, hk, e1, e2, e3⟩
    · rw [e] at hy; cases hy
    · rw [e2] at hy
      obtain rfl := Option.some.inj hy
      have := (h.items k hk).ends (by rw [e3]; exact e1)
      rw [e3, ofId_iff] at this
      by_cases c : b.items[k].kind = 3
      · refine ⟨fun h => absurd c h, fun h => absurd ⟨fun _ => c, fun _ => h⟩ this⟩
      · refine ⟨fun _ => ?_, fun _ => c⟩
        by_cases g : ∃ s ∈ b.opn, s.id = id
        · exact g
        · exact absurd ⟨fun h => absurd h g, fun h => absurd h c⟩ this
  · obtain ⟨i, hi, rfl⟩ := List.getElem_of_mem hs
    obtain ⟨k0, k1, k2⟩ := h.ends i hi
    rcases prev_last_all b b.opn[i].id with ⟨e, _⟩ | ⟨k, hk, e1, e2, e3⟩
    · omega
    · rw [e1, Int.toNat_natCast, List.getD_eq_getElem?_getD, List.getElem?_eq_getElem hk] at k1 k2
      exact ⟨_, e2, k1, k2⟩
theorem rightP_of {b : Book} (h : RightL b) : RightP b := by
  refine ⟨h.n0, h.n1, h.len, h.ll, (openOk_iff b).2 ⟨h.ord, h.good⟩, fun i hi => ⟨(lines_iff b).2 h.lines i hi, fun e => ?_⟩, fun i hi => ?_, (locks_iff b).2 ⟨h.lk, h.lg⟩⟩
  · rcases prev_last_all b b.items[i].id with ⟨c, _⟩ | ⟨k, hk, e1, e2, e3⟩
    · omega
    · rw [e1] at e
      obtain rfl : k = i := by omega
      have := h.fin _ _ e2
      rw [ofId_iff]
      rintro ⟨a1, a2⟩
      by_cases c : b.items[k].kind = 3
      · exact this.2 (a2 c) c
      · exact c (a1 (this.1 c))
  · obtain ⟨y, e, q1, q2⟩ := h.opn _ (List.getElem_mem hi)
    rcases prev_last_all b b.opn[i].id with ⟨_, c⟩ | ⟨k, hk, e1, e2, e3⟩
    · rw [e] at c; cases c
    · rw [e] at e2
      obtain rfl := Option.some.inj e2
      refine ⟨by omega, ?_, ?_⟩ <;> rw [e1, Int.toNat_natCast, List.getD_eq_getElem?_getD, List.getElem?_eq_getElem hk]
      · exact q1
      · exact q2
theorem right_opened {b : Book} (hr : RightL b) (o : Op) (hm : MayP o) : RightL (openedOp b o).1 := by
  unfold openedOp
  split
  · exact hr
  rename_i hp
  split
  · exact hr
  rename_i hb
  split
  · exact hr
  rename_i hf
  dsimp only
  obtain ⟨n0, n1, len, ll, ord, good, lines, fin, opn, lk, lg⟩ := hr
  have hp : poolOk o.addr := Classical.byContradiction hp
  obtain ⟨_, _, _, _, m5, m6, m7, m8, _⟩ := hm
  have hids := lines.ids
  have hpn : prev b.items b.next = none := prev_none fun x hx e => by have := (hids x hx).2; omega
  refine ⟨by (try dsimp only); omega, by (try dsimp only); omega, by simp; omega, ll, ?_, ?_, ?_, ?_, ?_, lk, lg⟩
  · refine List.pairwise_append.2 ⟨ord, List.pairwise_singleton _ _, fun s hs t ht => ?_⟩
    obtain rfl := List.mem_singleton.1 ht
    obtain ⟨i, hi, rfl⟩ := List.getElem_of_mem hs
    exact ⟨(good _ (List.getElem_mem hi)).id1, fun e => hb ⟨i, hi, .inl e⟩, fun e => hb ⟨i, hi, .inr e⟩⟩
  · intro s hs
    rcases List.mem_append.1 hs with hs | hs
    · obtain ⟨a1, a2, a3, a4, a5, a6⟩ := good s hs
      exact ⟨a1, Int.lt_trans a2 (by show b.next < b.next + 1; omega), a3, a4, a5, a6⟩
    · obtain rfl := List.mem_singleton.1 hs
      exact ⟨n0, by show b.next < b.next + 1; omega, m5, m6, ⟨m7, m8⟩, hp⟩
  · refine .snoc _ _ (lines.up (show b.next ≤ b.next + 1 by omega)) n0 (by show b.next < b.next + 1; omega) ?_
    simp only
    rw [hpn]
    exact ⟨rfl, rfl, rfl, rfl⟩
  · intro id y hy
    simp only [prev_snoc] at hy
    split at hy
    · rename_i e
      obtain rfl := Option.some.inj hy
      exact ⟨fun _ => ⟨_, List.mem_append_right _ (List.mem_singleton_self _), e⟩, fun _ => by simp⟩
    · rename_i e
      rw [fin id y hy]
      constructor
      · rintro ⟨s, hs, e⟩; exact ⟨s, List.mem_append_left _ hs, e⟩
      · rintro ⟨s, hs, e2⟩
        rcases List.mem_append.1 hs with hs | hs
        · exact ⟨s, hs, e2⟩
        · obtain rfl := List.mem_singleton.1 hs
          exact absurd e2 e
  · intro s hs
    simp only [prev_snoc]
    rcases List.mem_append.1 hs with hs | hs
    · have := (good s hs).id1
      rw [if_neg (by omega)]
      exact opn s hs
    · obtain rfl := List.mem_singleton.1 hs
      rw [if_pos rfl]
      exact ⟨_, rfl, rfl, rfl⟩
theorem ord_inj {l : List Sess} (h : l.Pairwise SessR) {i j : Nat} (hi : i < l.length) (hj : j < l.length) (e : l[i].id = l[j].id) : i = j := by
  rw [List.pairwise_iff_getElem] at h
  by_cases c : i < j
  · have := (h i j hi hj c).1; omega
  by_cases c2 : j < i
  · have := (h j i hj hi c2).1; omega
  omega
theorem right_counted {b : Book} (hr : RightL b) (o : Op) (hm : MayP o) (hk : o.kind = 2 ∨ o.kind = 3) : RightL (countedOp b o).1 := by
  unfold countedOp countedAt
  split
  · exact hr
  rename_i hk0
  rcases ofId_at b o.id with h | ⟨k, hlt, hid, hk1⟩
  · omega
  rw [hid] at *
  have hgd : b.opn.getD ((k : Int)).toNat default = b.opn[k] := by rw [Int.toNat_natCast, List.getD_eq_getElem?_getD, List.getElem?_eq_getElem hlt]; rfl
  rw [hgd, Int.toNat_natCast]
  split
  · exact hr
  rename_i hge
  have hr0 := hr
  obtain ⟨n0, n1, len, ll, ord, good, lines, fin, opn, lk, lg⟩ := hr
  have hs := good _ (List.getElem_mem hlt)
  obtain ⟨y, hy, hy1, hy2⟩ := opn _ (List.getElem_mem hlt)
  have hyk : y.kind ≠ 3 := (fin _ y hy).2 ⟨_, List.getElem_mem hlt, rfl⟩
  rw [hk1] at hy
  obtain ⟨_, _, m3, m4, m5, m6, m7, m8, m9, m10, m11, m12⟩ := hm
  have hother : ∀ {s : Sess}, s ∈ b.opn.take k ++ b.opn.drop (k + 1) → s ∈ b.opn ∧ s.id ≠ o.id := fun {s} hs => by
    obtain ⟨m, hm, hne, rfl⟩ := mem_cut hs
    exact ⟨List.getElem_mem hm, fun e => hne (ord_inj ord hm hlt (by rw [e, hk1]))⟩
  split
  · have hsub : List.Sublist (b.opn.take k ++ b.opn.drop (k + 1)) b.opn := by
      rw [← List.eraseIdx_eq_take_drop_succ]; exact List.eraseIdx_sublist _ _
    refine ⟨n0, n1, by simp; omega, ll, ord.sublist hsub, fun s hs => good s (hsub.subset hs), ?_, ?_, ?_, lk, lg⟩
    · refine .snoc _ _ lines (by (try dsimp only); omega) (by have := hs.id1; simp only; omega) ?_
      simp only
      rw [hy]
      exact ⟨hyk, by (try dsimp only); omega, by (try dsimp only); omega, .inr ⟨rfl, by (try dsimp only); omega⟩⟩
    · intro id z hz
      simp only [prev_snoc] at hz
      split at hz
      · rename_i e
        obtain rfl := Option.some.inj hz
        refine ⟨fun h => absurd rfl h, ?_⟩
        rintro ⟨s, hs, e2⟩
        exact absurd (e2.trans e.symm) (hother hs).2
      · rename_i e
        rw [fin id z hz]
        constructor
        · rintro ⟨s, hs, e2⟩
          obtain ⟨j, hj, rfl⟩ := List.getElem_of_mem hs
          exact ⟨_, cut_mem hj (fun c => by subst c; exact e (by (try dsimp only); omega)), e2⟩
        · rintro ⟨s, hs, e2⟩
          exact ⟨s, (hother hs).1, e2⟩
    · intro s hs
      obtain ⟨h1, h2⟩ := hother hs
      simp only [prev_snoc]
      rw [if_neg (fun e => h2 e.symm)]
      exact opn s h1
  split
  · exact hr0
  rename_i hne hroom
  have hmap : ∀ s : Sess, s ∈ b.opn.set k { b.opn[k] with inn := o.inn, out := o.out } → s = { b.opn[k] with inn := o.inn, out := o.out } ∨ (s ∈ b.opn ∧ s.id ≠ o.id) := fun s hs => by
    rcases mem_put hs with rfl | ⟨m, hm, hne, rfl⟩
    · exact .inl rfl
    · exact .inr ⟨List.getElem_mem hm, fun e => hne (ord_inj ord hm hlt (by rw [e, hk1]))⟩
  refine ⟨n0, n1, by simp; omega, ll, ?_, ?_, ?_, ?_, ?_, lk, lg⟩
  · rw [List.pairwise_iff_getElem] at ord ⊢
    intro i j hi hj hij
    rw [List.length_set] at hi hj
    have := ord i j hi hj hij
    unfold SessR at *
    rw [List.getElem_set, List.getElem_set]
    repeat' split
    all_goals subst_vars
    all_goals exact this
  · intro s hs
    rcases hmap s hs with rfl | ⟨h, _⟩
    · obtain ⟨a1, a2, a3, a4, a5, a6⟩ := good _ (List.getElem_mem hlt)
      exact ⟨a1, a2, a3, a4, a5, a6⟩
    · exact good s h
  · refine .snoc _ _ lines (by (try dsimp only); omega) (by have := hs.id1; simp only; omega) ?_
    simp only
    rw [hy]
    exact ⟨hyk, by (try dsimp only); omega, by (try dsimp only); omega, .inl ⟨rfl, rfl⟩⟩
  · intro id z hz
    simp only [prev_snoc] at hz
    split at hz
    · rename_i e
      obtain rfl := Option.some.inj hz
      refine ⟨fun _ => ⟨_, put_self hlt, ?_⟩, fun _ => by simp⟩
      simp only at e ⊢
      omega
    · rename_i e
      rw [fin id z hz]
      constructor
      · rintro ⟨s, hs, e2⟩
        obtain ⟨j, hj, rfl⟩ := List.getElem_of_mem hs
        exact ⟨_, put_mem hj (fun c => by subst c; exact e (by (try dsimp only); omega)), e2⟩
      · rintro ⟨s, hs, e2⟩
        rcases hmap s hs with rfl | ⟨h, _⟩
        · simp only at e e2
          exact absurd (by omega) e
        · exact ⟨s, h, e2⟩
  · intro s hs
    simp only [prev_snoc]
    rcases hmap s hs with rfl | ⟨h, h2⟩
    · rw [if_pos (by (try dsimp only); omega)]
      exact ⟨_, rfl, rfl, rfl⟩
    · rw [if_neg (fun e => h2 e.symm)]
      exact opn s h
theorem right_failed {b : Book} (hr : RightL b) (o : Op) (hm : MayP o) : RightL (failedOp b o).1 := by
  unfold failedOp failedAt
  obtain ⟨_, _, m3, m4, m5, m6, m7, m8, m9, m10, m11, m12⟩ := hm
  have hr0 := hr
  obtain ⟨n0, n1, len, ll, ord, good, lines, fin, opn, lk, lg⟩ := hr
  rcases failed_at b o.user with ⟨h, hno⟩ | ⟨k, hlt, hid, hk1⟩
  · rw [h]
    split
    · exact hr0
    rw [if_pos (by omega)]
    split
    · exact hr0
    rename_i hk hf
    refine ⟨n0, n1, len, by simp; omega, ord, good, lines, fin, opn, ?_, ?_⟩
    · refine List.pairwise_append.2 ⟨lk, List.pairwise_singleton _ _, fun s hs t ht => ?_⟩
      obtain rfl := List.mem_singleton.1 ht
      exact hno s hs
    · intro l hl
      rcases List.mem_append.1 hl with hl | hl
      · exact lg l hl
      · obtain rfl := List.mem_singleton.1 hl
        exact ⟨⟨m7, m8⟩, by simp, by simp, m9, m10⟩
  rw [hid]
  split
  · have hsub : List.Sublist (b.locks.take k ++ b.locks.drop (k + 1)) b.locks := by
      rw [← List.eraseIdx_eq_take_drop_succ]; exact List.eraseIdx_sublist _ _
    rw [if_neg (by omega), Int.toNat_natCast]
    exact ⟨n0, n1, len, by simp; omega, ord, good, lines, fin, opn, lk.sublist hsub, fun l hl => lg l (hsub.subset hl)⟩
  rw [if_neg (by omega), Int.toNat_natCast, List.getD_eq_getElem?_getD, List.getElem?_eq_getElem hlt, Option.getD_some]
  split
  · exact hr0
  obtain ⟨a1, a2, a3, a4, a5⟩ := lg _ (List.getElem_mem hlt)
  refine ⟨n0, n1, len, by simpa using ll, ord, good, lines, fin, opn, ?_, ?_⟩
  · rw [List.pairwise_iff_getElem] at lk ⊢
    intro i j hi hj hij
    rw [List.length_set] at hi hj
    have := lk i j hi hj hij
    rw [List.getElem_set, List.getElem_set]
    repeat' split
    all_goals subst_vars
    · omega
    · exact fun e => this (hk1.trans e)
    · exact fun e => this (e.trans hk1.symm)
    · exact this
  · intro l hl
    rcases mem_put hl with rfl | ⟨m, hm, hne, rfl⟩
    · exact ⟨⟨m7, m8⟩, by (try dsimp only); omega, by (try dsimp only); omega, m9, m10⟩
    · exact lg _ (List.getElem_mem hm)
/-- Lines of some sessions, of all of them. -/
theorem prev_kept (q : Int → Bool) (id : Int) : ∀ l : List Item, prev (l.filter fun x => q x.id) id = if q id then prev l id else none := by
  intro l
  unfold prev
  rw [List.filter_filter]
  by_cases h : q id
  · rw [if_pos h]
    congr 1
    refine List.filter_congr fun x _ => ?_
    by_cases e : x.id = id
    · simp [e, h]
    · simp [e]
  · rw [if_neg h, List.filter_eq_nil_iff.2]
    · rfl
    · intro x _
      by_cases e : x.id = id
      · simp [e, h]
      · simp [e]
theorem lines_kept {n : Int} {l : List Item} (q : Int → Bool) (h : Lines n l) : Lines n (l.filter fun x => q x.id) := by
  induction h with
  | nil => exact .nil
  | snoc l x _ h0 h1 hs ih =>
    rw [List.filter_append]
    by_cases e : q x.id
    · rw [show [x].filter (fun x => q x.id) = [x] by simp [e]]
      refine .snoc _ _ ih h0 h1 ?_
      rw [prev_kept, if_pos e]
      exact hs
    · rw [show [x].filter (fun x => q x.id) = [] by simp [e], List.append_nil]
      exact ih
theorem kept_is (b : Book) (l : List Item) : kept b l = l.filter fun x => (fun id => decide (0 ≤ ofId b id)) x.id := rfl
theorem right_trim {b : Book} (hr : RightL b) : RightL { b with items := kept b b.items } := by
  obtain ⟨n0, n1, len, ll, ord, good, lines, fin, opn, lk, lg⟩ := hr
  refine ⟨n0, n1, ?_, ll, ord, good, ?_, ?_, ?_, lk, lg⟩
  · have : (kept b b.items).length ≤ b.items.length := List.length_filter_le _ _
    simp only
    omega
  · exact lines_kept (fun id => decide (0 ≤ ofId b id)) lines
  · intro id y hy
    have hk := prev_kept (fun id => decide (0 ≤ ofId b id)) id b.items
    have hy : prev (b.items.filter fun x => decide (0 ≤ ofId b x.id)) id = some y := hy
    rw [hk] at hy
    split at hy
    · exact fin id y hy
    · cases hy
  · intro s hs
    have hk := prev_kept (fun id => decide (0 ≤ ofId b id)) s.id b.items
    rw [if_pos (by simpa using (ofId_iff b s.id).2 ⟨s, hs, rfl⟩)] at hk
    show ∃ y, prev (b.items.filter fun x => decide (0 ≤ ofId b x.id)) s.id = some y ∧ y.inn = s.inn ∧ y.out = s.out
    rw [hk]
    exact opn s hs
/-- What comes of a right book is right. -/
theorem rightL_apply {b : Book} (hr : RightL b) (o : Op) : RightL (applyOp b o).1 := by
  unfold applyOp
  split
  · exact hr
  rename_i hm
  have hm : MayP o := Classical.byContradiction hm
  split
  · exact right_opened hr o hm
  split
  · exact right_counted hr o hm ‹_›
  split
  · exact right_failed hr o hm
  exact right_trim hr
theorem right_apply {b : Book} (hr : RightP b) (o : Op) : RightP (applyOp b o).1 := rightP_of (rightL_apply (rightL_of hr) o)
theorem right_closeAt {b : Book} (hr : RightP b) : ∀ i, RightP (closeAt b i)
  | 0 => hr
  | i + 1 => right_apply (right_closeAt hr i) _
theorem right_close {b : Book} (hr : RightP b) : RightP (closeOp b) := close_eq hr ▸ right_closeAt hr _
/-- How many lines of a kind a session has. -/
def cnt (l : List Item) (id k : Int) : Nat := l.countP fun x => decide (x.id = id) && decide (x.kind = k)
theorem cnt_snoc (l : List Item) (x : Item) (id k : Int) : cnt (l ++ [x]) id k = cnt l id k + if x.id = id ∧ x.kind = k then 1 else 0 := by
  unfold cnt
  rw [List.countP_append, List.countP_singleton]
  by_cases h1 : x.id = id <;> by_cases h2 : x.kind = k <;> simp [h1, h2]
theorem cnt_lines {n : Int} {l : List Item} (h : Lines n l) (id : Int) : match prev l id with
    | none => cnt l id 1 = 0 ∧ cnt l id 3 = 0
    | some y => cnt l id 1 = 1 ∧ cnt l id 3 = if y.kind = 3 then 1 else 0 := by
  induction h with
  | nil => exact ⟨rfl, rfl⟩
  | snoc l x _ h0 h1 hs ih =>
    rw [prev_snoc, cnt_snoc, cnt_snoc]
    by_cases e : x.id = id
    · subst e
      rw [if_pos rfl]
      simp only [true_and]
      cases hp : prev l x.id with
      | none =>
        rw [hp] at ih hs
        simp only at ih
        obtain ⟨k1, _⟩ := hs
        rw [ih.1, ih.2, k1]
        exact ⟨rfl, rfl⟩
      | some y =>
        rw [hp] at ih hs
        simp only at ih
        obtain ⟨k1, _, _, k2⟩ := hs
        rw [if_neg k1] at ih
        rw [ih.1, ih.2]
        rcases k2 with ⟨k2, _⟩ | ⟨k2, _⟩ <;> rw [k2] <;> exact ⟨rfl, rfl⟩
    · rw [if_neg e, if_neg (fun h => e h.1), if_neg (fun h => e h.1)]
      exact ih
/-- Behind what closes all each session has one start and one stop. -/
theorem closed_cnt {b : Book} (hr : RightP b) (ho : b.opn = []) {x : Item} (hx : x ∈ b.items) : cnt b.items x.id 1 = 1 ∧ cnt b.items x.id 3 = 1 := by
  have hl := rightL_of hr
  have h := cnt_lines hl.lines x.id
  cases hp : prev b.items x.id with
  | none =>
    unfold prev at hp
    rw [List.getLast?_eq_none_iff] at hp
    have : x ∈ b.items.filter fun y => decide (y.id = x.id) := List.mem_filter.2 ⟨hx, by simp⟩
    rw [hp] at this
    cases this
  | some y =>
    rw [hp] at h
    have h3 : y.kind = 3 := Classical.byContradiction fun c => by
      obtain ⟨s, hs, _⟩ := (hl.fin _ y hp).1 c
      rw [ho] at hs; cases hs
    simp only [h3] at h
    exact h
theorem held_iff (l : List Sess) (a : Int) : held l a = true ↔ ∃ s ∈ l, s.addr = a := by
  unfold held
  rcases first_spec (p := fun s : Sess => decide (s.addr = a)) l 0 with ⟨h1, h2⟩ | ⟨j, hj, h1, h2, _⟩
  · rw [h1]
    constructor
    · intro h; simp at h
    · rintro ⟨s, hs, e⟩
      have := h2 s hs
      simp [e] at this
  · rw [h1]
    exact ⟨fun _ => ⟨_, List.getElem_mem hj, by simpa using h2⟩, fun _ => by simp⟩
theorem freeOf_spec (l : List Sess) : ∀ (n k : Nat), (freeOf l n k = (0, false) ∧ ∀ j, j < n → held l (167772161 + ((k + j : Nat) : Int)) = true) ∨
    ∃ j, j < n ∧ freeOf l n k = (167772161 + ((k + j : Nat) : Int), true) ∧ held l (167772161 + ((k + j : Nat) : Int)) = false ∧ ∀ m, m < j → held l (167772161 + ((k + m : Nat) : Int)) = true
  | 0, k => .inl ⟨rfl, fun j hj => absurd hj (by omega)⟩
  | n + 1, k => by
    unfold freeOf
    by_cases e : held l (167772161 + (k : Int)) = true
    · rw [if_pos e]
      rcases freeOf_spec l n (k + 1) with ⟨h1, h2⟩ | ⟨j, hj, h1, h2, h3⟩
      · refine .inl ⟨h1, fun j hj => ?_⟩
        cases j with
        | zero => exact e
        | succ j => have := h2 j (by omega); rwa [show k + (j + 1) = k + 1 + j by omega]
      · refine .inr ⟨j + 1, by omega, by rw [h1, show k + (j + 1) = k + 1 + j by omega], by rwa [show k + (j + 1) = k + 1 + j by omega], fun m hm => ?_⟩
        cases m with
        | zero => exact e
        | succ m => have := h3 m (by omega); rwa [show k + (m + 1) = k + 1 + m by omega]
    · rw [if_neg e]
      exact .inr ⟨0, by omega, rfl, by simpa using e, fun m hm => absurd hm (by omega)⟩
/-- How many hold an address below. -/
def below (l : List Sess) (a : Int) : Nat := l.countP fun s => decide (s.addr < a)
theorem below_succ (l : List Sess) (hd : l.Pairwise fun s t => s.addr ≠ t.addr) (a : Int) : below l (a + 1) = below l a + if held l a = true then 1 else 0 := by
  induction l with
  | nil => simp [below, held, first]
  | cons s t ih =>
    obtain ⟨h1, h2⟩ := List.pairwise_cons.1 hd
    have ih := ih h2
    unfold below at *
    rw [List.countP_cons, List.countP_cons, ih]
    by_cases e : s.addr = a
    · have hn : held t a = false := by
        cases c : held t a with
        | false => rfl
        | true =>
          obtain ⟨x, hx, ex⟩ := (held_iff t a).1 c
          exact absurd (e.trans ex.symm) (h1 x hx)
      have hy : held (s :: t) a = true := (held_iff _ a).2 ⟨s, List.mem_cons_self, e⟩
      rw [hn, hy]
      simp [e]
      omega
    · have hiff : held (s :: t) a = held t a := by
        have : held (s :: t) a = true ↔ held t a = true := by
          rw [held_iff, held_iff]
          constructor
          · rintro ⟨x, hx, ex⟩
            rcases List.mem_cons.1 hx with rfl | hx
            · exact absurd ex e
            · exact ⟨x, hx, ex⟩
          · rintro ⟨x, hx, ex⟩
            exact ⟨x, List.mem_cons_of_mem _ hx, ex⟩
        cases c : held t a <;> cases d : held (s :: t) a <;> simp_all
      rw [hiff]
      by_cases g : s.addr < a
      · rw [show decide (s.addr < a + 1) = true by simp; omega, show decide (s.addr < a) = true by simpa using g]
        omega
      · rw [show decide (s.addr < a + 1) = false by simp; omega, show decide (s.addr < a) = false by simpa using g]
        omega
theorem below_all {b : Book} (hr : RightP b) : ∀ j : Nat, (∀ m, m < j → held b.opn (167772161 + ((m : Nat) : Int)) = true) → below b.opn (167772161 + (j : Int)) = j
  | 0, _ => by
    unfold below
    rw [List.countP_eq_zero]
    intro s hs
    have := ((rightL_of hr).good s hs).addr
    unfold poolOk at this
    simp
    omega
  | j + 1, h => by
    have h1 := below_all hr j (fun m hm => h m (by omega))
    have h2 := below_succ b.opn ((rightL_of hr).ord.imp fun h => h.2.2) (167772161 + (j : Int))
    rw [if_pos (h j (by omega)), h1] at h2
    rw [show (167772161 : Int) + ((j + 1 : Nat) : Int) = 167772161 + (j : Int) + 1 by omega]
    exact h2
theorem below_full {b : Book} (hr : RightP b) : below b.opn (167772161 + ((6 : Nat) : Int)) = b.opn.length := by
  unfold below
  rw [List.countP_eq_length]
  intro s hs
  have := ((rightL_of hr).good s hs).addr
  unfold poolOk at this
  simp
  omega
/-- What is free of a right book: nothing, and six are open; or the least address that is free, so many below it are held. -/
theorem free_right {b : Book} (hr : RightP b) : (freeOf b.opn 6 0 = (0, false) ∧ b.opn.length = 6) ∨
    ∃ j : Nat, j < 6 ∧ freeOf b.opn 6 0 = (167772161 + (j : Int), true) ∧ (∀ s ∈ b.opn, s.addr ≠ 167772161 + (j : Int)) ∧ below b.opn (167772161 + (j : Int)) = j ∧ ∀ m : Nat, m < j → held b.opn (167772161 + (m : Int)) = true := by
  rcases freeOf_spec b.opn 6 0 with ⟨h1, h2⟩ | ⟨j, hj, h1, h2, h3⟩
  · left
    refine ⟨h1, ?_⟩
    rw [← below_full hr, below_all hr 6 (fun m hm => by have := h2 m hm; rwa [Nat.zero_add] at this)]
  · right
    rw [Nat.zero_add] at h1 h2
    refine ⟨j, hj, h1, fun s hs e => ?_, below_all hr j (fun m hm => by have := h3 m hm; rwa [Nat.zero_add] at this), fun m hm => by have := h3 m hm; rwa [Nat.zero_add] at this⟩
    have := (held_iff b.opn _).2 ⟨s, hs, e⟩
    rw [this] at h2
    cases h2
def opOpen (link a : Int) (u : ByteArray) : Op := ⟨1, 0, link, a, u, 0, 0, 0, 0⟩
def opClose (id : Int) (u : ByteArray) : Op := ⟨3, id, 0, 0, u, 0, 0, 0, 0⟩
def opTrim (u : ByteArray) : Op := ⟨6, 0, 0, 0, u, 0, 0, 0, 0⟩
/-- Opened: why not, or what is then; behind its stop it is as before. -/
theorem open_then {b : Book} (hr : RightP b) (link a : Int) (u : ByteArray) (hu : nameOk u) :
    ((applyOp b (opOpen link a u)).2 = 1 ∨ (applyOp b (opOpen link a u)).2 = 6 ∨ (applyOp b (opOpen link a u)).2 = 4) ∨
    ((applyOp b (opOpen link a u)).2 = 0 ∧ (applyOp b (opOpen link a u)).1.opn = b.opn ++ [⟨b.next, link, a, u, 0, 0⟩] ∧
      (applyOp (applyOp b (opOpen link a u)).1 (opClose b.next u)).2 = 0 ∧ (applyOp (applyOp b (opOpen link a u)).1 (opClose b.next u)).1.opn = b.opn) := by
  by_cases hm : MayP (opOpen link a u)
  rotate_left
  · left; left
    unfold applyOp
    rw [if_pos hm]
  have hL := rightL_of hr
  have he : applyOp b (opOpen link a u) = openedOp b (opOpen link a u) := by
    unfold applyOp
    rw [if_neg (by simpa using hm), if_pos (show (opOpen link a u).kind = 1 from rfl)]
  rw [he]
  unfold openedOp
  split
  · left; left; rfl
  split
  · left; right; left; rfl
  split
  · left; right; right; rfl
  rename_i hf
  right
  have n0 := hL.n0
  have n1 := hL.n1
  refine ⟨rfl, rfl, ?_⟩
  have hid : ofId { next := b.next + 1, opn := b.opn ++ [⟨b.next, link, a, u, 0, 0⟩], items := b.items ++ [⟨1, b.next, 0, 0, 0⟩], locks := b.locks } b.next = (b.opn.length : Int) := by
    unfold ofId
    have := first_at (p := fun s : Sess => decide (s.id = b.next)) (l := b.opn ++ [⟨b.next, link, a, u, 0, 0⟩]) (n := 0) (i := b.opn.length) (by simp) (by simp) (fun j hj => by
      have h := (hL.good _ (List.getElem_mem hj)).id1
      simp [List.getElem_append_left hj]
      omega)
    simpa using this
  have hm2 : MayP (opClose b.next u) := by
    unfold nameOk at hu
    unfold MayP opClose
    simp only
    omega
  have hc : applyOp { next := b.next + 1, opn := b.opn ++ [⟨b.next, link, a, u, 0, 0⟩], items := b.items ++ [⟨1, b.next, 0, 0, 0⟩], locks := b.locks } (opClose b.next u) = countedOp { next := b.next + 1, opn := b.opn ++ [⟨b.next, link, a, u, 0, 0⟩], items := b.items ++ [⟨1, b.next, 0, 0, 0⟩], locks := b.locks } (opClose b.next u) := by
    unfold applyOp
    rw [if_neg (by simpa using hm2), if_neg (by simp [opClose]), if_pos (.inr rfl)]
  show (applyOp { next := b.next + 1, opn := b.opn ++ [⟨b.next, link, a, u, 0, 0⟩], items := b.items ++ [⟨1, b.next, 0, 0, 0⟩], locks := b.locks } (opClose b.next u)).2 = 0 ∧ (applyOp { next := b.next + 1, opn := b.opn ++ [⟨b.next, link, a, u, 0, 0⟩], items := b.items ++ [⟨1, b.next, 0, 0, 0⟩], locks := b.locks } (opClose b.next u)).1.opn = b.opn
  rw [hc]
  unfold countedOp countedAt
  rw [show (opClose b.next u).id = b.next from rfl, hid, if_neg (by omega), if_neg, if_pos (show (opClose b.next u).kind = 3 from rfl)]
  · refine ⟨rfl, ?_⟩
    simp
  · simp [List.getD_eq_getElem?_getD, opClose]
theorem free_more (l : List Sess) (s : Sess) (j : Nat) (hs : s.addr = 167772161 + (j : Int)) (h : ∀ m : Nat, m < j → held l (167772161 + (m : Int)) = true) : freeOf (l ++ [s]) 6 0 = (0, false) ∨ ∃ i : Nat, j < i ∧ i < 6 ∧ freeOf (l ++ [s]) 6 0 = (167772161 + (i : Int), true) := by
  rcases freeOf_spec (l ++ [s]) 6 0 with ⟨h1, h2⟩ | ⟨i, hi, h1, h2, h3⟩
  · exact .inl h1
  · rw [Nat.zero_add] at h1 h2
    refine .inr ⟨i, ?_, hi, h1⟩
    by_cases c : i < j
    · obtain ⟨t, ht, e⟩ := (held_iff _ _).1 (h i c)
      rw [(held_iff _ _).2 ⟨t, List.mem_append_left _ ht, e⟩] at h2
      cases h2
    by_cases c2 : i = j
    · rw [(held_iff _ _).2 ⟨s, List.mem_append_right _ (List.mem_singleton_self _), by rw [hs, c2]⟩] at h2
      cases h2
    omega
/-- Who had failed, behind an op. -/
theorem counts {b : Book} (hr : RightP b) (o : Op) (i : Nat) (hi : i < b.locks.length) :
    ((applyOp b o).2 = 0 ∧ o.kind = 5 ∧ o.user = b.locks[i].user ∧ failed (applyOp b o).1 b.locks[i].user = -1) ∨
    ((applyOp b o).2 = 0 ∧ o.kind = 4 ∧ o.user = b.locks[i].user ∧ ∃ (k : Nat) (hk : k < (applyOp b o).1.locks.length), failed (applyOp b o).1 b.locks[i].user = (k : Int) ∧ (applyOp b o).1.locks[k].n = min (b.locks[i].n + 1) 255 ∧ (applyOp b o).1.locks[k].at_ = o.at_) ∨
    (¬ ((applyOp b o).2 = 0 ∧ o.kind = 5 ∧ o.user = b.locks[i].user) ∧ ¬ ((applyOp b o).2 = 0 ∧ o.kind = 4 ∧ o.user = b.locks[i].user) ∧ ∃ (k : Nat) (hk : k < (applyOp b o).1.locks.length), failed (applyOp b o).1 b.locks[i].user = (k : Int) ∧ (applyOp b o).1.locks[k] = b.locks[i]) := by
  have hL := rightL_of hr
  have hR := rightL_of (right_apply hr o)
  have huni : ∀ {l : List Lock} (h : l.Pairwise fun a c => a.user ≠ c.user) {x y : Lock}, x ∈ l → y ∈ l → x.user = y.user → x = y := fun {l} h {x y} hx hy e => by
    obtain ⟨m, hm, rfl⟩ := List.getElem_of_mem hx
    obtain ⟨n, hn, rfl⟩ := List.getElem_of_mem hy
    rw [List.pairwise_iff_getElem] at h
    by_cases c : m < n
    · exact absurd e (h m n hm hn c)
    by_cases c2 : n < m
    · exact absurd e.symm (h n m hn hm c2)
    have : m = n := by omega
    subst this; rfl
  have hstays : b.locks[i] ∈ (applyOp b o).1.locks → ∃ (k : Nat) (hk : k < (applyOp b o).1.locks.length), failed (applyOp b o).1 b.locks[i].user = (k : Int) ∧ (applyOp b o).1.locks[k] = b.locks[i] := fun hm => failed_is hm fun x hx e => huni hR.lk hx hm e
  by_cases hk : o.kind = 4 ∨ o.kind = 5
  rotate_left
  · exact .inr (.inr ⟨fun h => hk (.inr h.2.1), fun h => hk (.inl h.2.1), hstays (by rw [apply_locks b o hk]; exact List.getElem_mem hi)⟩)
  by_cases he : (applyOp b o).2 = 0
  rotate_left
  · refine .inr (.inr ⟨fun h => he h.1, fun h => he h.1, hstays ?_⟩)
    rcases apply_err b o with h | h
    · exact absurd h he
    · rw [h]; exact List.getElem_mem hi
  by_cases hu : o.user = b.locks[i].user
  · -- the user's own
    have hmay : MayP o := Classical.byContradiction fun c => by
      unfold applyOp at he
      rw [if_pos c] at he
      simp at he
    have hap : applyOp b o = failedOp b o := by
      unfold applyOp
      rw [if_neg (by simpa using hmay), if_neg (by omega), if_neg (by omega), if_pos hk]
    rcases failed_at b o.user with ⟨h, hno⟩ | ⟨k, hlt, hid, hk1⟩
    · exact absurd hu.symm (hno _ (List.getElem_mem hi))
    have hki : k = i := by
      have h1 := hL.lk
      rw [List.pairwise_iff_getElem] at h1
      by_cases c : k < i
      · exact absurd (hk1.trans hu) (h1 k i hlt hi c)
      by_cases c2 : i < k
      · exact absurd (hk1.trans hu).symm (h1 i k hi hlt c2)
      omega
    subst hki
    rcases hk with hk | hk
    · right; left
      refine ⟨he, hk, hu, ?_⟩
      rw [hap] at he hR ⊢
      unfold failedOp failedAt at he hR ⊢
      rw [hid, if_neg (by omega), if_neg (by omega), Int.toNat_natCast, List.getD_eq_getElem?_getD, List.getElem?_eq_getElem hlt, Option.getD_some] at he hR ⊢
      by_cases hg : b.locks[k].at_ > o.at_
      · rw [if_pos hg] at he; simp at he
      rw [if_neg hg] at hR ⊢
      have hm := put_self (l := b.locks) (a := ⟨o.user, min 255 (b.locks[k].n + 1), o.at_⟩) hlt
      obtain ⟨j, hj, h1, h2⟩ := failed_is (c := { b with locks := b.locks.set k ⟨o.user, min 255 (b.locks[k].n + 1), o.at_⟩ }) hm fun x hx e => huni hR.lk hx hm e
      refine ⟨j, hj, by rw [← hu]; exact h1, ?_, ?_⟩
      · simp only
        simp only at h2
        rw [h2]
        simp only
        omega
      · simp only
        simp only at h2
        rw [h2]
    · left
      refine ⟨he, hk, hu, ?_⟩
      rw [hap] at he ⊢
      unfold failedOp failedAt at he ⊢
      rw [if_pos hk, hid, if_neg (by omega), Int.toNat_natCast]
      refine failed_no fun x hx e => ?_
      obtain ⟨m, hm, hne, rfl⟩ := mem_cut hx
      have h1 := hL.lk
      rw [List.pairwise_iff_getElem] at h1
      by_cases c : m < k
      · exact h1 m k hm hlt c e
      · exact h1 k m hlt hm (by omega) e.symm
  · refine .inr (.inr ⟨fun h => hu h.2.2, fun h => hu h.2.2, hstays ?_⟩)
    unfold applyOp
    split
    · exact List.getElem_mem hi
    split
    · omega
    split
    · omega
    unfold failedOp failedAt
    rcases failed_at b o.user with ⟨h, hno⟩ | ⟨k, hlt, hid, hk1⟩
    · rw [h]
      repeat' split
      all_goals first | exact List.getElem_mem hi | exact List.mem_append_left _ (List.getElem_mem hi) | omega
    have hne : i ≠ k := fun c => by subst c; exact hu hk1.symm
    rw [hid]
    split
    · rw [if_neg (by omega), Int.toNat_natCast]
      exact cut_mem hi hne
    rw [if_neg (by omega), Int.toNat_natCast]
    split
    · exact List.getElem_mem hi
    · exact put_mem hi hne
theorem apply_trim (b : Book) (u : ByteArray) (hu : nameOk u) : applyOp b (opTrim u) = ({ b with items := kept b b.items }, 0) := by
  have hm : MayP (opTrim u) := by
    unfold nameOk at hu
    unfold MayP opTrim
    simp only
    omega
  unfold applyOp
  rw [if_neg (by simpa using hm), if_neg (by simp [opTrim]), if_neg (by simp [opTrim]), if_neg (by simp [opTrim])]
theorem trim_twice (b : Book) : ({ ({ b with items := kept b b.items } : Book) with items := kept { b with items := kept b b.items } (kept b b.items) } : Book) = { b with items := kept b b.items } := by
  have : kept { b with items := kept b b.items } (kept b b.items) = kept b b.items := by
    show (b.items.filter fun x => decide (0 ≤ ofId b x.id)).filter (fun x => decide (0 ≤ ofId b x.id)) = b.items.filter fun x => decide (0 ≤ ofId b x.id)
    rw [List.filter_filter]
    simp
  simp only [this]
end Bk
end Go.Proofs.Ytedcnbkhdkchoaa
