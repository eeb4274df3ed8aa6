/- Books: the last lines of all sessions, as a map has them; the ledger of a right book. -/
import Derived.Test.YtedcnbkhdkchoaaBY
namespace Go.Proofs.Ytedcnbkhdkchoaa
open Go.RowKit
set_option linter.unusedVariables false
set_option linter.unusedSimpArgs false
namespace Bk
variable (Γ : Nat → Option (List Data))
def ids (m : List Item) : List Data := m.map fun y => .int .i64 y.id
def itsD (m : List Item) : List D := m.map fun y => .data (item y)
def slot (m : List Item) (id : Int) : Int := first (fun y : Item => decide (y.id = id)) 0 m
theorem findD_ids (id : Int) : ∀ (m : List Item) (n : Nat), findD (.int .i64 id) (ids m) n = some (if first (fun y : Item => decide (y.id = id)) n m < 0 then none else some (first (fun y : Item => decide (y.id = id)) n m).toNat)
  | [], n => by simp [ids, findD, first]
  | y :: t, n => by
    have ih := findD_ids id t (n + 1)
    have e0 : ids (y :: t) = .int .i64 y.id :: ids t := rfl
    rw [e0]
    unfold findD first
    by_cases e : y.id = id
    · subst e
      simp [keyEq]
    · simp only [keyEq, if_pos, decide_eq_true_eq, if_neg e]
      have : (id == y.id) = false := by simpa using fun h => e h.symm
      rw [this]
      simp only [ih]
theorem findD_slot (m : List Item) (id : Int) : findD (.int .i64 id) (ids m) 0 = some (if slot m id < 0 then none else some (slot m id).toNat) := findD_ids id m 0
def putI (m : List Item) (x : Item) : List Item := if slot m x.id < 0 then m ++ [x] else m.set (slot m x.id).toNat x
def linesM (l : List Item) : List Item := l.foldl putI []
theorem linesM_snoc (l : List Item) (x : Item) : linesM (l ++ [x]) = putI (linesM l) x := by simp [linesM]
theorem first_spec {α : Type} {p : α → Bool} : ∀ (l : List α) (n : Nat), (first p n l = -1 ∧ ∀ a ∈ l, p a = false) ∨ ∃ (j : Nat) (hj : j < l.length), first p n l = ((n + j : Nat) : Int) ∧ p l[j] = true ∧ ∀ (k : Nat) (hk : k < j), p (l[k]'(by omega)) = false
  | [], n => .inl ⟨rfl, fun a ha => by cases ha⟩
  | a :: t, n => by
    unfold first
    by_cases e : p a = true
    · exact .inr ⟨0, by simp, by rw [if_pos e]; simp, by simpa using e, fun k hk => absurd hk (by omega)⟩
    · rw [if_neg e]
      rcases first_spec (p := p) t (n + 1) with ⟨h1, h2⟩ | ⟨j, hj, h1, h2, h3⟩
      · exact .inl ⟨h1, fun x hx => by
          rcases List.mem_cons.1 hx with rfl | hx
          · simpa using e
          · exact h2 x hx⟩
      · refine .inr ⟨j + 1, by simp; omega, by rw [h1]; omega, by simpa using h2, fun k hk => ?_⟩
        cases k with
        | zero => simpa using e
        | succ k => simpa using h3 k (by omega)
/-- Either a number has no line, or one place. -/
theorem slot_spec (m : List Item) (id : Int) : (slot m id = -1 ∧ ∀ y ∈ m, y.id ≠ id) ∨ ∃ (j : Nat) (hj : j < m.length), slot m id = (j : Int) ∧ m[j].id = id := by
  rcases first_spec (p := fun y : Item => decide (y.id = id)) m 0 with ⟨h1, h2⟩ | ⟨j, hj, h1, h2, _⟩
  · exact .inl ⟨h1, fun y hy => by simpa using h2 y hy⟩
  · exact .inr ⟨j, hj, by unfold slot; rw [h1]; simp, by simpa using h2⟩
/-- What the map has for a number is its last line. -/
def HasLast (l m : List Item) (n : Nat) : Prop := ∀ id, (last l id n < 0 ∧ slot m id < 0) ∨ ∃ (k j : Nat) (hk : k < l.length) (hj : j < m.length), last l id n = (k : Int) ∧ slot m id = (j : Int) ∧ m[j] = l[k]
theorem hasLast_zero (l : List Item) : HasLast l [] 0 := fun id => .inl ⟨by simp [last], by simp [slot, first]⟩
theorem slot_ne {m : List Item} {x : Item} {id : Int} (h : x.id ≠ id) : slot (m ++ [x]) id = slot m id := by
  unfold slot
  have : ∀ (m : List Item) (n : Nat), first (fun y : Item => decide (y.id = id)) n (m ++ [x]) = first (fun y : Item => decide (y.id = id)) n m := by
    intro m
    induction m with
    | nil => intro n; simp [first, h]
    | cons a t ih => intro n; simp only [List.cons_append]; unfold first; rw [ih]
  exact this m 0
theorem slot_new {m : List Item} {x : Item} (h : ∀ y ∈ m, y.id ≠ x.id) : slot (m ++ [x]) x.id = (m.length : Int) := by
  have := first_at (p := fun y : Item => decide (y.id = x.id)) (l := m ++ [x]) (n := 0) (i := m.length) (by simp) (by simp) (fun k hk => by
    rw [List.getElem_append_left hk]
    simpa using h _ (List.getElem_mem hk))
  simpa [slot] using this
theorem slot_set {m : List Item} {x : Item} {j : Nat} (hj : j < m.length) (he : m[j].id = x.id) (id : Int) : slot (m.set j x) id = slot m id := by
  unfold slot
  have : ∀ (m : List Item) (n j : Nat) (hj : j < m.length), m[j].id = x.id → first (fun y : Item => decide (y.id = id)) n (m.set j x) = first (fun y : Item => decide (y.id = id)) n m := by
    intro m
    induction m with
    | nil => intro n j hj; exact absurd hj (by simp)
    | cons a t ih =>
      intro n j hj he
      cases j with
      | zero => simp only [List.set_cons_zero]; unfold first; simp only [List.getElem_cons_zero] at he; rw [he]
      | succ j => simp only [List.set_cons_succ]; unfold first; rw [ih (n + 1) j (by simpa using hj) (by simpa using he)]
  exact this m 0 j hj he
theorem last_succ (l : List Item) (id : Int) (i : Nat) (h : i < l.length) : last l id (i + 1) = if l[i].id = id then (i : Int) else last l id i := by
  have hg : l.getD i ⟨0, 0, 0, 0, 0⟩ = l[i] := by simp [List.getD_eq_getElem?_getD, h]
  simp only [last, hg]
theorem hasLast_succ {l m : List Item} {i : Nat} (h : i < l.length) (hm : HasLast l m i) : HasLast l (putI m l[i]) (i + 1) := by
  intro id
  rw [last_succ l id i h]
  rcases slot_spec m l[i].id with ⟨s1, s2⟩ | ⟨j, hj, s1, s2⟩
  · have hp : putI m l[i] = m ++ [l[i]] := by unfold putI; rw [if_pos (by omega)]
    rw [hp]
    by_cases e : l[i].id = id
    · subst e
      rw [if_pos rfl, slot_new s2]
      exact .inr ⟨i, m.length, h, by simp, rfl, rfl, by simp⟩
    · rw [if_neg e, slot_ne e]
      rcases hm id with ⟨h1, h2⟩ | ⟨k, j, hk, hj, h1, h2, h3⟩
      · exact .inl ⟨h1, h2⟩
      · exact .inr ⟨k, j, hk, by simp; omega, h1, h2, by rw [List.getElem_append_left hj]; exact h3⟩
  · have ej : (slot m l[i].id).toNat = j := by omega
    have hp : putI m l[i] = m.set j l[i] := by unfold putI; rw [if_neg (by omega), ej]
    rw [hp, slot_set hj s2]
    by_cases e : l[i].id = id
    · subst e
      rw [if_pos rfl]
      exact .inr ⟨i, j, h, by simp; omega, rfl, s1, by simp⟩
    · rw [if_neg e]
      rcases hm id with ⟨h1, h2⟩ | ⟨k, j2, hk, hj2, h1, h2, h3⟩
      · exact .inl ⟨h1, h2⟩
      · have hne : j ≠ j2 := by
          rintro rfl
          rcases slot_spec m id with ⟨t1, _⟩ | ⟨j3, hj3, t1, t2⟩
          · omega
          · have : j3 = j := by omega
            subst this
            exact e (s2.symm.trans t2)
        exact .inr ⟨k, j2, hk, by simp; omega, h1, h2, by rw [List.getElem_set_ne hne]; exact h3⟩
theorem ids_app (m : List Item) (x : Item) : ids (m ++ [x]) = ids m ++ [.int .i64 x.id] := by simp [ids]
theorem itsD_app (m : List Item) (x : Item) : itsD (m ++ [x]) = itsD m ++ [.data (item x)] := by simp [itsD]
theorem itsD_set (m : List Item) (x : Item) (j : Nat) : itsD (m.set j x) = (itsD m).set j (.data (item x)) := by simp [itsD, List.map_set]
theorem ids_set {m : List Item} {x : Item} {j : Nat} (hj : j < m.length) (he : m[j].id = x.id) : ids (m.set j x) = ids m := by
  unfold ids
  rw [List.map_set]
  apply List.ext_getElem
  · simp
  intro k h1 h2
  by_cases e : j = k
  · subst e; simp [he]
  · rw [List.getElem_set_ne e]
theorem itsD_get {m : List Item} {j : Nat} (hj : j < m.length) : (itsD m)[j]? = some (.data (item m[j])) := by simp [itsD, hj]
set_option maxHeartbeats 8000000 in
set_option maxRecDepth 100000 in
theorem lastLines_pc (b : Book) (hi : b.items.length ≤ 140737488351232) (ht : ∀ x ∈ b.items, x.Ty) (n0 : 0 ≤ b.next) (n1 : b.next ≤ 1000000000) (hall : ∀ (i : Nat) (h : i < b.items.length), LineOk b i b.items[i]) : PC Try.prog Γ 94 [.sl 5 (items b.items), .int .i64 b.next] (.tup [.mp (ids (linesM b.items)) (items (linesM b.items)), .bool true]) := by
  refine pc_by mixed Try.func94 rfl (fun args w => Try.call94 args w) ?_
  simp -implicitDefEqProofs (disch := omega) [go_sem]
  refine loop_ren (σ := { i : Nat // i ≤ b.items.length ∧ HasLast b.items (linesM (b.items.take i)) i }) (fun i => ⟨envL [(1, .data (.int .i64 b.next)), (6, .mref 0), (12, .data (.sl 5 (items b.items))), (13, .data (.int .i64 b.items.length)), (14, .data (.int .i64 i.1))], hpL [(0, .obj (.mp (ids (linesM (b.items.take i.1))) (itsD (linesM (b.items.take i.1)))))], 1, 0, 55⟩) (fun i => b.items.length - i.1) ⟨0, by omega, hasLast_zero _⟩ [] (rhoL [(0, some 2)]) ?_ ?_
  · apply ren_lists <;> simp -implicitDefEqProofs [go_sem, linesM, ids, itsD]
  rintro ⟨i, hi2, hm⟩
  by_cases h : i < b.items.length
  rotate_left
  · obtain rfl : i = b.items.length := by omega
    simp -implicitDefEqProofs (disch := omega) [go_sem, List.take_length, Try.results94]
    refine ⟨_, ⟨_, rfl, .mref _ (ids (linesM b.items)) (items (linesM b.items)) (itsD (linesM b.items)) rfl rfl (by simp [itsD, items]) ?_⟩, ?_⟩
    · intro j d x hd hx
      simp [itsD] at hd
      simp [items] at hx
      obtain ⟨y, hy, rfl⟩ := hd
      rw [hy] at hx
      obtain rfl : item y = x := by simpa using hx
      exact .data _
    rfl
  have hline := hall i h
  have hty := ht _ (List.getElem_mem h)
  have c1 := isFrom_pc Γ b.items[i].id 0 (b.next - 1)
  have e1 : decide (0 ≤ b.items[i].id ∧ b.items[i].id ≤ b.next - 1) = true := decide_eq_true (by unfold LineOk LineAt at hline; omega)
  rw [e1] at c1
  have c2 := mayBegin_pc Γ b.items[i] hty
  have htk : linesM (b.items.take (i + 1)) = putI (linesM (b.items.take i)) b.items[i] := by rw [← linesM_snoc, List.take_append_getElem]
  have hm2 := hasLast_succ h hm
  rw [← htk] at hm2
  have hfd := findD_slot (linesM (b.items.take i)) b.items[i].id
  have hcase := hm b.items[i].id
  obtain ⟨m, em⟩ : ∃ m, linesM (b.items.take i) = m := ⟨_, rfl⟩
  obtain ⟨m2, em2⟩ : ∃ m, linesM (b.items.take (i + 1)) = m := ⟨_, rfl⟩
  rw [em] at hfd hcase
  rw [em, em2] at htk
  rcases hcase with ⟨h1, h2⟩ | ⟨k, j, hk, hj, h1, h2, h3⟩
  · rw [if_pos h2] at hfd
    have hf : FirstOk b.items[i] := by unfold LineOk LineAt at hline; unfold FirstOk; omega
    rw [decide_eq_true hf] at c2
    have hp : m2 = m ++ [b.items[i]] := by rw [htk]; unfold putI; rw [if_pos h2]
    have hi1 : ids m ++ [.int .i64 b.items[i].id] = ids m2 := by rw [hp, ids_app]
    have hi2 : itsD m ++ [.data (item b.items[i])] = itsD m2 := by rw [hp, itsD_app]
    unfold item at hi2 c2
    simp -implicitDefEqProofs (disch := omega) [go_sem, em, hfd]
    refine .inl (call_data c1 (by simp [go_sem]) ?_)
    simp -implicitDefEqProofs (disch := omega) [go_sem]
    refine .inl (call_data c2 (by simp [go_sem]) ?_)
    simp -implicitDefEqProofs (disch := omega) [go_sem, em, hfd]
    refine next_ren ⟨i + 1, by omega, hm2⟩ (by simp only; omega) [] (rhoL [(0, some 0)]) ?_
    apply ren_lists <;> simp -implicitDefEqProofs [go_sem, em2, ← hi1, ← hi2]
    rw [hi2]
    exact renCells_plain rfl (by simp [itsD, plainD])
  · have ej : (slot m b.items[i].id).toNat = j := by omega
    rw [if_neg (by omega), ej] at hfd
    have hg := itsD_get hj
    have hmid : m[j].id = b.items[i].id := by
      rcases slot_spec m b.items[i].id with ⟨t1, _⟩ | ⟨j2, hj2, t1, t2⟩
      · omega
      · obtain rfl : j2 = j := by omega
        exact t2
    have hnx : NextOk m[j] b.items[i] := by
      have hgd : b.items.getD k default = b.items[k] := by rw [List.getD_eq_getElem?_getD, List.getElem?_eq_getElem hk]; rfl
      unfold LineOk at hline
      rw [h1] at hline
      unfold LineAt at hline
      rw [Int.toNat_natCast, hgd, ← h3] at hline
      unfold NextOk
      omega
    have c3 := mayFollow_pc Γ m[j] b.items[i]
    rw [decide_eq_true hnx] at c3
    have hp : m2 = m.set j b.items[i] := by rw [htk]; unfold putI; rw [if_neg (by omega), ej]
    have hi1 : ids m = ids m2 := by rw [hp, ids_set hj hmid]
    have hi2 : (itsD m).set j (.data (item b.items[i])) = itsD m2 := by rw [hp, itsD_set]
    unfold item at hi2 c3 hg
    simp -implicitDefEqProofs (disch := omega) [go_sem, em, hfd, hg]
    refine .inl (call_data c1 (by simp [go_sem]) ?_)
    simp -implicitDefEqProofs (disch := omega) [go_sem]
    refine .inl (call_data c3 (by simp [go_sem]) ?_)
    simp -implicitDefEqProofs (disch := omega) [go_sem, em, hfd, hg]
    refine next_ren ⟨i + 1, by omega, hm2⟩ (by simp only; omega) [] (rhoL [(0, some 0)]) ?_
    apply ren_lists <;> simp -implicitDefEqProofs [go_sem, em2, ← hi1, ← hi2]
    rw [hi2]
    exact renCells_plain rfl (by simp [itsD, plainD])
/-- Each number once. -/
def Uniq (m : List Item) : Prop := ∀ (i : Nat) (h : i < m.length), slot m m[i].id = i
theorem uniq_put {m : List Item} (x : Item) (hm : Uniq m) : Uniq (putI m x) := by
  rcases slot_spec m x.id with ⟨s1, s2⟩ | ⟨j, hj, s1, s2⟩
  · have hp : putI m x = m ++ [x] := by unfold putI; rw [if_pos (by omega)]
    rw [hp]
    intro i h
    by_cases e : i < m.length
    · rw [List.getElem_append_left e, slot_ne (fun h => s2 _ (List.getElem_mem e) h.symm)]
      exact hm i e
    · have : i = m.length := by simp at h; omega
      subst this
      simp only [List.getElem_concat_length]
      exact slot_new s2
  · have ej : (slot m x.id).toNat = j := by omega
    have hp : putI m x = m.set j x := by unfold putI; rw [if_neg (by omega), ej]
    rw [hp]
    intro i h
    rw [slot_set hj s2]
    have hi : i < m.length := by simpa using h
    by_cases e : j = i
    · subst e; simp only [List.getElem_set_self]; exact s1
    · rw [List.getElem_set_ne e]; exact hm i hi
theorem uniq_lines (l : List Item) : Uniq (linesM l) := by
  have : ∀ (l m : List Item), Uniq m → Uniq (l.foldl putI m) := by
    intro l
    induction l with
    | nil => intro m h; exact h
    | cons x t ih => intro m h; exact ih _ (uniq_put x h)
  exact this l [] (fun i h => absurd h (by simp))
theorem hasLast_all (l : List Item) : HasLast l (linesM l) l.length := by
  have : ∀ i, i ≤ l.length → HasLast l (linesM (l.take i)) i := by
    intro i
    induction i with
    | zero => intro _; exact hasLast_zero l
    | succ i ih =>
      intro h
      have := hasLast_succ (by omega : i < l.length) (ih (by omega))
      rw [← linesM_snoc, List.take_append_getElem] at this
      exact this
  have := this l.length (Nat.le_refl _)
  rwa [List.take_length] at this
theorem last_id (l : List Item) (id : Int) : ∀ (n : Nat), n ≤ l.length → ∀ (k : Nat), last l id n = (k : Int) → ∀ (hk : k < l.length), l[k].id = id
  | 0, _, k, h, _ => by simp only [last] at h; omega
  | n + 1, hn, k, h, hk => by
    rw [last_succ l id n (by omega)] at h
    by_cases e : l[n].id = id
    · rw [if_pos e] at h
      obtain rfl : n = k := by omega
      exact e
    · rw [if_neg e] at h
      exact last_id l id n (by omega) k h hk
/-- What the map has of a session that is open. -/
theorem led_open {b : Book} (hr : RightP b) {i : Nat} (h : i < b.opn.length) : ∃ (j : Nat) (hj : j < (linesM b.items).length), slot (linesM b.items) b.opn[i].id = (j : Int) ∧ (linesM b.items)[j].kind ≠ 3 ∧ (linesM b.items)[j].inn = b.opn[i].inn ∧ (linesM b.items)[j].out = b.opn[i].out := by
  obtain ⟨k0, ki, ko⟩ := hr.ends i h
  rcases hasLast_all b.items b.opn[i].id with ⟨h1, _⟩ | ⟨k, j, hk, hj, h1, h2, h3⟩
  · omega
  · rw [h1, Int.toNat_natCast] at ki ko
    have hgd : b.items.getD k default = b.items[k] := by rw [List.getD_eq_getElem?_getD, List.getElem?_eq_getElem hk]; rfl
    rw [hgd] at ki ko
    have hid := last_id b.items b.opn[i].id _ (Nat.le_refl _) k h1 hk
    refine ⟨j, hj, h2, ?_, h3 ▸ ki, h3 ▸ ko⟩
    rw [h3]
    intro e3
    have he := (hr.items k hk).ends (by rw [hid]; exact h1)
    refine he ⟨fun _ => e3, fun _ => ?_⟩
    rw [hid]
    rcases first_spec (p := fun s : Sess => decide (s.id = b.opn[i].id)) b.opn 0 with ⟨_, t2⟩ | ⟨j2, hj2, t1, _⟩
    · exact absurd (t2 _ (List.getElem_mem h)) (by simp)
    · unfold ofId; rw [t1]; omega
/-- What it has besides has stopped. -/
theorem led_rest {b : Book} (hr : RightP b) {i : Nat} (h : i < (linesM b.items).length) (hk : (linesM b.items)[i].kind ≠ 3) : 0 ≤ first (fun s : Sess => decide (s.id = (linesM b.items)[i].id)) 0 b.opn := by
  have hu := uniq_lines b.items i h
  rcases hasLast_all b.items (linesM b.items)[i].id with ⟨_, h2⟩ | ⟨k, j, hkk, hj, h1, h2, h3⟩
  · omega
  · obtain rfl : j = i := by omega
    have hid := last_id b.items _ _ (Nat.le_refl _) k h1 hkk
    have he := (hr.items k hkk).ends (by rw [hid]; exact h1)
    rw [hid, ← h3] at he
    by_cases g : 0 ≤ ofId b (linesM b.items)[j].id
    · exact g
    · exact absurd (Iff.intro (fun x => absurd x g) (fun x => absurd x hk)) he
theorem itms_get {m : List Item} {j : Nat} (hj : j < m.length) : ((items m).map D.data)[j]? = some (.data (item m[j])) := by simp [items, hj]
set_option maxHeartbeats 8000000 in
set_option maxRecDepth 100000 in
theorem rightLedger_pc (b : Book) (hr : RightP b) (ht : ∀ x ∈ b.items, x.Ty) : PC Try.prog Γ 57 [book b] (.bool true) := by
  refine pc_by mixed Try.func57 rfl (fun args w => Try.call57 args w) ?_
  have n0 := hr.n0
  have n1 := hr.n1
  have hlen := hr.len
  have c0 := lastLines_pc Γ b (by omega) ht n0 n1 (fun i h => (hr.items i h).line)
  have hopen := fun i h => led_open hr (i := i) h
  have hrest := fun i h => led_rest hr (i := i) h
  have hpl := fun id => placeOfId_pc Γ b.opn (by omega) id
  generalize linesM b.items = m at *
  simp -implicitDefEqProofs (disch := omega) [go_sem, book]
  refine .inl (call_data c0 (by simp [go_sem]) ?_)
  simp -implicitDefEqProofs (disch := omega) [go_sem]
  refine loop_ren (σ := { i : Nat // i ≤ b.opn.length }) (fun i => ⟨envL [(1, .ptr 0 0), (3, .data (.mp (ids m) (items m))), (22, .data (.sl 6 (sesss b.opn))), (23, .data (.int .i64 b.opn.length)), (24, .data (.int .i64 i.1))], hpL [(0, .blk true [.data (.int .i64 b.next), .data (.sl 6 (sesss b.opn)), .data (.sl 5 (items b.items)), .data (.sl 3 (locks b.locks))])], 1, 0, 74⟩) (fun i => b.opn.length - i.1) ⟨0, by omega⟩ [] (rhoL [(0, some 0)]) ?_ ?_
  · apply ren_lists <;> simp -implicitDefEqProofs [go_sem]
  rintro ⟨i, hi⟩
  by_cases h : i < b.opn.length
  · obtain ⟨j, hj, h1, h2, h3, h4⟩ := hopen i h
    have hfd := findD_slot m b.opn[i].id
    rw [h1, if_neg (by omega), Int.toNat_natCast] at hfd
    have hg := itms_get hj
    unfold item at hg
    simp -implicitDefEqProofs (disch := omega) [go_sem, hfd, hg, h2, h3, h4]
    refine next_ren ⟨i + 1, by omega⟩ (by simp only; omega) [] (rhoL [(0, some 0)]) ?_
    apply ren_lists <;> simp -implicitDefEqProofs [go_sem]
  obtain rfl : i = b.opn.length := by omega
  simp -implicitDefEqProofs (disch := omega) [go_sem]
  refine loop_ren (σ := { l : List Nat × Option Nat // ∀ i ∈ l.1, i < m.length }) (fun l => ⟨envL [(1, .ptr 0 0), (58, .iref 1)], hpL [(0, .blk true [.data (.int .i64 b.next), .data (.sl 6 (sesss b.opn)), .data (.sl 5 (items b.items)), .data (.sl 3 (locks b.locks))]), (1, .obj (.it (ids m) (items m) l.1.1 l.1.2))], 2, 0, 74⟩) (fun l => l.1.1.length) ⟨(List.range m.length, none), fun i h => by simpa using h⟩ [] (rhoL [(0, some 0), (1, some 3)]) ?_ ?_
  · apply ren_lists <;> simp -implicitDefEqProofs [go_sem, ids]
  rintro ⟨⟨left, cur⟩, hleft⟩
  simp -implicitDefEqProofs (disch := omega) [go_sem]
  refine ⟨fun hl => ?_, fun q k x hq hk hx => ?_⟩
  · simp -implicitDefEqProofs (disch := omega) [go_sem, Try.results57]
  have hqm := hleft q hq
  obtain rfl : k = .int .i64 m[q].id := by simpa [ids, hqm] using hk.symm
  obtain rfl : x = item m[q] := by simpa [items, hqm] using hx.symm
  unfold item at hx
  by_cases g : m[q].kind = 3
  · simp -implicitDefEqProofs (disch := omega) [go_sem, hk, hx, g, item]
    refine next_ren ⟨(left.filter (· != q), some q), fun i hi => hleft i (List.mem_filter.1 hi).1⟩ ?_ [] (rhoL [(0, some 0), (1, some 1)]) ?_
    · simp only
      refine Nat.lt_of_le_of_ne (List.length_filter_le _ _) fun e => ?_
      have := List.length_filter_eq_length_iff.1 e q hq
      simp at this
    apply ren_lists <;> simp -implicitDefEqProofs [go_sem]
  · simp -implicitDefEqProofs (disch := omega) [go_sem, hk, hx, g, item]
    refine .inl (call_data (hpl m[q].id) (by simp [go_sem]) ?_)
    have hp := hrest q hqm g
    simp -implicitDefEqProofs (disch := omega) [go_sem]
    refine next_ren ⟨(left.filter (· != q), some q), fun i hi => hleft i (List.mem_filter.1 hi).1⟩ ?_ [] (rhoL [(0, some 0), (1, some 1)]) ?_
    · simp only
      refine Nat.lt_of_le_of_ne (List.length_filter_le _ _) fun e => ?_
      have := List.length_filter_eq_length_iff.1 e q hq
      simp at this
    apply ren_lists <;> simp -implicitDefEqProofs [go_sem]
end Bk
end Go.Proofs.Ytedcnbkhdkchoaa
