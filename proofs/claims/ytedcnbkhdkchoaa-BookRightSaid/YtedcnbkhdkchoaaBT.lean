/- Books: the ledger trimmed. -/
import Derived.Test.YtedcnbkhdkchoaaBS
namespace Go.Proofs.Ytedcnbkhdkchoaa
open Go.RowKit
set_option linter.unusedVariables false
set_option linter.unusedSimpArgs false
namespace Bk
variable (Γ : Nat → Option (List Data))
@[go_sem] theorem items_take (l : List Item) (n : Nat) : List.take n (items l) = items (l.take n) := by simp [items]
@[go_sem] theorem items_drop (l : List Item) (n : Nat) : List.drop n (items l) = items (l.drop n) := by simp [items]
theorem item_cut (l : List Item) (n : Nat) (h : n < l.length) : List.take 5 (List.drop (n * 5) ((flat (items l)).map D.data)) = [.data (.int .i64 l[n].kind), .data (.int .i64 l[n].id), .data (.int .u64 l[n].inn), .data (.int .u64 l[n].out), .data (.int .i64 l[n].cause)] := by
  rw [← List.map_drop, ← flat_drop (items_cells l) n (by rw [items_length]; omega), items_drop, List.drop_eq_getElem_cons h]
  rfl
theorem item_set (l : List Item) (n : Nat) (h : n < l.length) (x : Item) : List.take (n * 5) ((flat (items l)).map D.data) ++ .data (.int .i64 x.kind) :: .data (.int .i64 x.id) :: .data (.int .u64 x.inn) :: .data (.int .u64 x.out) :: .data (.int .i64 x.cause) :: List.drop (n * 5 + 5) ((flat (items l)).map D.data) = (flat (items (l.set n x))).map D.data := by
  have e : n * 5 + 5 = (n + 1) * 5 := by omega
  rw [e, ← List.map_take, ← List.map_drop, ← flat_take (items_cells l) n (by rw [items_length]; omega), ← flat_drop (items_cells l) (n + 1) (by rw [items_length]; omega), items_take, items_drop, List.set_eq_take_append_cons_drop, if_pos h, ← items_append, List.map_append]
  rfl
/-- It goes. -/
def goes (b : Book) (x : Item) : Bool := decide (ofId b x.id < 0)
set_option maxRecDepth 100000 in
theorem byGoes_pc (b : Book) (hl : b.opn.length ≤ 1000000) (x : Item) : PC Try.prog Γ 124 [item x, .pc [.pc [.int .i64 b.next, .sl 6 (sesss b.opn)]]] (.bool (goes b x)) := by
  refine pc_by mixed Try.func124 rfl (fun args w => Try.call124 args w) ?_
  have hk := placeOfId_pc Γ b.opn (by omega) x.id
  simp -implicitDefEqProofs (disch := omega) [go_sem, item]
  refine .inl (call_data hk (by simp [go_sem]) ?_)
  simp -implicitDefEqProofs (disch := omega) [go_sem]
  refine side (by kernel_rfl) ?_
  have e : goes b x = decide (first (fun s : Sess => decide (s.id = x.id)) 0 b.opn < 0) := rfl
  simp -implicitDefEqProofs (disch := omega) [go_sem, e, Try.f124]
theorem goes_kept (b : Book) (x : Item) : decide (0 ≤ ofId b x.id) = !goes b x := by
  unfold goes
  by_cases h : ofId b x.id < 0
  · rw [decide_eq_true h, decide_eq_false (by omega)]; rfl
  · rw [decide_eq_false h, decide_eq_true (by omega)]; rfl
theorem first_neg {α : Type} {p : α → Bool} : ∀ (l : List α) (n : Nat), first p n l = -1 → ∀ a ∈ l, p a = false
  | [], _, _, a, ha => by cases ha
  | x :: l, n, h, a, ha => by
    simp only [first] at h
    split at h
    · omega
    · rename_i hx
      rcases List.mem_cons.1 ha with rfl | ha
      · simpa using hx
      · exact first_neg l (n + 1) h a ha
theorem first_before {α : Type} {p : α → Bool} : ∀ (l : List α) (m n : Nat), first p m l = ((m + n : Nat) : Int) → ∀ (j : Nat) (h : j < l.length), j < n → p l[j] = false
  | [], _, _, _, j, h, _ => by simp at h
  | x :: l, m, n, hf, j, h, hj => by
    simp only [first] at hf
    split at hf
    · omega
    · rename_i hx
      match j with
      | 0 => simpa using hx
      | j + 1 =>
        obtain ⟨q, rfl⟩ : ∃ q, n = q + 1 := ⟨n - 1, by omega⟩
        exact first_before l (m + 1) q (by rw [hf]; congr 1; omega) j (by simpa using h) (by omega)
theorem kept_all (b : Book) : ∀ l : List Item, (∀ x ∈ l, goes b x = false) → kept b l = l := by
  intro l h
  unfold kept
  rw [List.filter_eq_self]
  intro x hx
  rw [goes_kept, h x hx]; rfl
theorem kept_take (b : Book) (l : List Item) (i : Nat) (h : i < l.length) : kept b (l.take (i + 1)) = kept b (l.take i) ++ (if goes b l[i] then [] else [l[i]]) := by
  rw [List.take_succ_eq_append_getElem h]
  unfold kept
  rw [List.filter_append]
  congr 1
  cases g : goes b l[i] with
  | true => simp [goes_kept, g]
  | false => simp [goes_kept, g]
/-- What trim has in memory. -/
def trimL (b : Book) (o : Op) (r : List D) : List (Nat × Blk) := [
  (83, .blk true [.ptr 10 0]),
  (10, .blk true [.data (.int .i64 b.next), .ref 5 0 b.opn.length 6, .ref 6 0 b.items.length 5, .ref 7 0 b.locks.length 3, .data (.int .i64 o.kind), .data (.int .i64 o.id), .data (.int .i64 o.link), .data (.int .u32 o.addr), .data (.str o.user), .data (.int .u64 o.inn), .data (.int .u64 o.out), .data (.int .i64 o.cause), .data (.int .i64 o.at_)]),
  (7, .blk true ((flat (locks b.locks)).map .data)), (6, .blk true r), (5, .blk true ((flat (sesss b.opn)).map .data)),
  (2, .blk true [.data (.int .i64 0), .emp 0, .emp 0, .emp 0]),
  (1, .blk true [.data (.int .i64 o.kind), .data (.int .i64 o.id), .data (.int .i64 o.link), .data (.int .u32 o.addr), .data (.str o.user), .data (.int .u64 o.inn), .data (.int .u64 o.out), .data (.int .i64 o.cause), .data (.int .i64 o.at_)]),
  (0, .blk true [.data (.int .i64 b.next), .data (.sl 6 (sesss b.opn)), .data (.sl 5 (items b.items)), .data (.sl 3 (locks b.locks))])]
theorem over_tail {cells vs : List D} {off : Nat} (h : off + vs.length = cells.length) : over cells off vs = cells.take off ++ vs := by
  apply List.ext_getElem?
  intro q
  rw [over_get (by omega)]
  have ht : (cells.take off).length = off := by rw [List.length_take]; omega
  by_cases a : q < off
  · rw [if_neg (by omega), List.getElem?_append_left (by omega), List.getElem?_take_of_lt a]
  · rw [List.getElem?_append_right (by omega), ht]
    by_cases b : q < off + vs.length
    · rw [if_pos ⟨by omega, b⟩]
    · rw [if_neg (by omega), List.getElem?_eq_none (by omega), List.getElem?_eq_none (by omega)]
def noughts (n : Nat) : List D := (List.replicate n [.data (.int .i64 0), .data (.int .i64 0), .data (.int .u64 0), .data (.int .u64 0), .data (.int .i64 0)]).flatten
theorem noughts_data (l : List Data) (n : Nat) : ∀ c ∈ l.map D.data ++ noughts n, ∃ x, c = .data x := by
  intro c hc
  rcases List.mem_append.1 hc with hc | hc
  · obtain ⟨x, _, rfl⟩ := List.mem_map.1 hc; exact ⟨x, rfl⟩
  · unfold noughts at hc
    obtain ⟨y, hy, hc⟩ := List.mem_flatten.1 hc
    obtain ⟨_, rfl⟩ := List.mem_replicate.1 hy
    simp at hc
    rcases hc with rfl | rfl | rfl | rfl | rfl <;> exact ⟨_, rfl⟩
theorem noughts_length (n : Nat) : (noughts n).length = n * 5 := by simp [noughts]
theorem frz_goes {b : Book} {o : Op} {H' : Nat → Blk} (h83 : H' 83 = .blk true [.ptr 10 0])
    (h10 : H' 10 = .blk true [.data (.int .i64 b.next), .ref 5 0 b.opn.length 6, .ref 6 0 b.items.length 5, .ref 7 0 b.locks.length 3, .data (.int .i64 o.kind), .data (.int .i64 o.id), .data (.int .i64 o.link), .data (.int .u32 o.addr), .data (.str o.user), .data (.int .u64 o.inn), .data (.int .u64 o.out), .data (.int .i64 o.cause), .data (.int .i64 o.at_)])
    (h5 : H' 5 = .blk true ((flat (sesss b.opn)).map .data)) : Frz true H' (.ptr 83 0) (.pc [.pc [.int .i64 b.next, .sl 6 (sesss b.opn)]]) :=
  frz_ptrL h83 (.inl rfl) (frzL_c (frz_ptrL h10 (.inl rfl) (frzL_c ((frz_data _ _ _ _).2 rfl) (frzL_c (fz_sesss (rw := true) h5 (.inl rfl) rfl) frzL_n))) frzL_n)
set_option maxHeartbeats 4000000 in
set_option maxRecDepth 100000 in
theorem deleteFunc_dc (b : Book) (o : Op) (hs : Short b) : DC Try.prog Γ 123 [.ref 6 0 b.items.length 5, .fn 124 [.ptr 83 0]] (Hp.set (hpL (appL b o)) 83 (.blk true [.ptr 10 0])) 156
    (fun d0 H1 nx1 => ∃ F, WeakR F (rhoL []) ⟨envL [(0, d0)], H1, nx1, 156, 1⟩ ⟨envL [(0, .ref 6 0 (kept b b.items).length 5)], hpL (trimL b o ((flat (items (kept b b.items))).map .data ++ noughts (b.items.length - (kept b b.items).length))), 156, 156, 1⟩) := by
  refine dc_by mixed Try.func123 rfl (fun args w => Try.call123 args w) ?_
  obtain ⟨s1, s2, s3⟩ := hs
  have cg := byGoes_pc Γ b s1
  have ci := idxItem_pc Γ b.items (by omega) _ [.pc [.pc [.int .i64 b.next, .sl 6 (sesss b.opn)]]] (goes b) cg
  have hrg := first_range (goes b) b.items 0
  have hh := fun n => first_hit (p := goes b) (l := b.items) (m := 0) (n := n)
  unfold appL
  simp -implicitDefEqProofs (disch := omega) [go_sem]
  refine .inl (call_bare [6, 83, 10, 5] ci (by constructor) (fun H' hH => ?_) ?_)
  · have h6 := hH 6 (by simp)
    have h83 := hH 83 (by simp)
    have h10 := hH 10 (by simp)
    have h5 := hH 5 (by simp)
    simp -implicitDefEqProofs [go_sem] at h6 h83 h10 h5
    exact frzL_c (fz_items (rw := true) h6 (.inl rfl) rfl) (frzL_c ((frz_fn _ _ _ _ _).2 ⟨_, rfl, frzL_c (frz_goes h83 h10 h5) frzL_n⟩) frzL_n)
  by_cases g1 : first (goes b) 0 b.items = -1
  · have hk : kept b b.items = b.items := kept_all b _ (first_neg _ _ g1)
    rw [g1, hk]
    simp -implicitDefEqProofs (disch := omega) [go_sem, Try.f123]
    refine ⟨[], ?_⟩
    apply ren_lists <;> simp -implicitDefEqProofs [go_sem, trimL, noughts]
  obtain ⟨m, hm⟩ : ∃ m : Nat, first (goes b) 0 b.items = ((0 + m : Nat) : Int) := ⟨(first (goes b) 0 b.items).toNat, by omega⟩
  obtain ⟨hmn, hgo⟩ := hh m hm
  have hbef := first_before b.items 0 m hm
  rw [Nat.zero_add] at hm
  have hk0 : kept b (b.items.take m) = b.items.take m := kept_all b _ fun x hx => by
    obtain ⟨q, hq, rfl⟩ := List.mem_iff_getElem.1 hx
    rw [List.getElem_take]
    have : q < m ∧ q < b.items.length := by rw [List.length_take] at hq; omega
    exact hbef q this.2 this.1
  have hk1 : kept b (b.items.take (m + 1)) = b.items.take m := by rw [kept_take b b.items m hmn, hgo, hk0]; simp
  have hm1 : ¬ ((m : Int) = -1) := by omega
  rw [hm]
  simp -implicitDefEqProofs (disch := omega) [go_sem, hm1]
  refine loop_ren (σ := { q : Nat × List Item // q.1 ≤ b.items.length ∧ 0 < q.2.length ∧ (kept b (b.items.take q.1)).length + q.2.length = q.1 }) (fun q => ⟨envL [(0, .ref 6 0 b.items.length 5), (1, .fn 124 [.ptr 83 0]), (5, .data (.int .i64 (kept b (b.items.take q.1.1)).length)), (6, .data (.int .i64 q.1.1))], hpL (trimL b o ((flat (items (kept b (b.items.take q.1.1) ++ q.1.2 ++ b.items.drop q.1.1))).map .data)), 156, 156, 42⟩) (fun q => b.items.length - q.1.1) ⟨(m + 1, [b.items[m]]), by omega, by simp, by rw [hk1]; simp; omega⟩ [] (rhoL []) ?_ ?_
  · have hX : kept b (b.items.take (m + 1)) ++ [b.items[m]] ++ b.items.drop (m + 1) = b.items := by
      rw [hk1, List.append_assoc, List.singleton_append, ← List.drop_eq_getElem_cons hmn, List.take_append_drop]
    have hl1 : (kept b (b.items.take (m + 1))).length = m := by rw [hk1]; simp; omega
    apply ren_lists <;> simp -implicitDefEqProofs [go_sem, trimL, hX, hl1]
    trace_state
  rintro ⟨⟨j, G⟩, hj, hG, hlen⟩
  simp only at hj hG hlen ⊢
  obtain ⟨X, hX⟩ : ∃ X, X = kept b (b.items.take j) ++ G ++ b.items.drop j := ⟨_, rfl⟩
  rw [← hX]
  have hXl : X.length = b.items.length := by rw [hX]; simp; omega
  by_cases h : j < b.items.length
  · have hXj : X[j] = b.items[j] := by
      have : X[j]? = some b.items[j] := by
        rw [hX, List.getElem?_append_right (by simp; omega)]
        simp [hlen, h]
      exact (List.getElem?_eq_some_iff.1 this).2
    have hcut := item_cut X j (by omega)
    rw [hXj] at hcut
    have hkt := kept_take b b.items j h
    have hset := item_set X (kept b (b.items.take j)).length (by omega) b.items[j]
    have hcg := cg b.items[j]
    unfold trimL
    simp -implicitDefEqProofs (disch := omega) [go_sem, hcut]
    refine .inl (call_bare [83, 10, 5] hcg (by constructor) (fun H' hH => ?_) ?_)
    · have h83 := hH 83 (by simp)
      have h10 := hH 10 (by simp)
      have h5 := hH 5 (by simp)
      simp -implicitDefEqProofs [go_sem] at h83 h10 h5
      exact frzL_c ((frz_data _ _ _ _).2 rfl) (frzL_c (frz_goes h83 h10 h5) frzL_n)
    cases hq : goes b b.items[j] with
    | true =>
      rw [hq] at hkt
      simp only [if_true, List.append_nil] at hkt
      simp -implicitDefEqProofs (disch := omega) [go_sem]
      refine next_ren ⟨(j + 1, G ++ [b.items[j]]), by omega, by simp, by rw [hkt]; simp; omega⟩ (by simp only; omega) [] (rhoL []) ?_
      have hX2 : kept b (b.items.take (j + 1)) ++ (G ++ [b.items[j]]) ++ b.items.drop (j + 1) = X := by
        rw [hX, hkt, List.drop_eq_getElem_cons h]; simp
      apply ren_lists <;> simp -implicitDefEqProofs [go_sem, trimL, hkt]
      exact renCells_eq (by rw [hX, List.append_assoc])
    | false =>
      rw [hq] at hkt
      simp only [Bool.false_eq_true, if_false] at hkt
      obtain ⟨y, G', rfl⟩ : ∃ y G', G = y :: G' := by
        cases G with
        | nil => simp at hG
        | cons y G' => exact ⟨y, G', rfl⟩
      have hX2 : X.set (kept b (b.items.take j)).length b.items[j] = kept b (b.items.take (j + 1)) ++ (G' ++ [b.items[j]]) ++ b.items.drop (j + 1) := by
        rw [hX, hkt, List.drop_eq_getElem_cons h, List.append_assoc, List.set_append_right _ _ (Nat.le_refl _)]
        simp
      rw [hX2] at hset
      simp -implicitDefEqProofs (disch := omega) [go_sem]
      refine next_ren ⟨(j + 1, G' ++ [b.items[j]]), by omega, by simp, by rw [hkt]; simp at hlen ⊢; omega⟩ (by simp only; omega) [] (rhoL []) ?_
      apply ren_lists <;> simp -implicitDefEqProofs [go_sem, trimL, hkt]
      rw [hset]
      exact renCells_eq (by rw [hkt]; simp)
  obtain rfl : j = b.items.length := by omega
  rw [List.take_length] at hlen
  have hX3 : X = kept b b.items ++ G := by rw [hX, List.take_length, List.drop_length, List.append_nil]
  have hkl : (kept b b.items).length ≤ b.items.length := by omega
  have hXc : ((flat (items X)).map D.data).length = b.items.length * 5 := by rw [List.length_map, flat_items_length, hXl]
  unfold trimL
  have hover : over ((flat (items X)).map D.data) ((kept b b.items).length * 5) (noughts (b.items.length - (kept b b.items).length)) = (flat (items (kept b b.items))).map D.data ++ noughts (b.items.length - (kept b b.items).length) := by
    rw [over_tail (by rw [noughts_length, hXc, Nat.sub_mul]; have := Nat.mul_le_mul_right 5 hkl; omega)]
    rw [← List.map_take, ← flat_take (items_cells X) _ (by rw [items_length]; omega), items_take, hX3, List.take_left]
  simp -implicitDefEqProofs (disch := omega) [go_sem, List.take_length]
  refine ⟨[], ?_⟩
  change WeakR _ _ ⟨_, Hp.set _ 6 (.blk true (over _ _ (noughts (b.items.length - (kept b b.items).length)))), _, _, _⟩ _
  rw [hover]
  apply ren_lists <;> simp -implicitDefEqProofs [go_sem]
  exact renCells_datas (noughts_data _ _)
set_option maxHeartbeats 4000000 in
set_option maxRecDepth 100000 in
theorem trim_dc (b : Book) (o : Op) (hs : Short b) : DC Try.prog Γ 91 [.ptr 10 0] (hpL (appL b o)) 83 (Ends { b with items := kept b b.items } b o 0) := by
  refine dc_by mixed Try.func91 rfl (fun args w => Try.call91 args w) ?_
  have c1 := deleteFunc_dc Γ b o hs
  have hkl : (kept b b.items).length ≤ b.items.length := List.length_filter_le _ _
  obtain ⟨s1, s2, s3⟩ := hs
  generalize hL : hpL (appL b o) = H at *
  have h10 : H 10 = .blk true [.data (.int .i64 b.next), .ref 5 0 b.opn.length 6, .ref 6 0 b.items.length 5, .ref 7 0 b.locks.length 3, .data (.int .i64 o.kind), .data (.int .i64 o.id), .data (.int .i64 o.link), .data (.int .u32 o.addr), .data (.str o.user), .data (.int .u64 o.inn), .data (.int .u64 o.out), .data (.int .i64 o.cause), .data (.int .i64 o.at_)] := by rw [← hL]; simp [appL, go_sem]
  simp -implicitDefEqProofs (disch := omega) [go_sem, h10]
  refine .inr (eff_dc (d := .ref 6 0 (kept b b.items).length 5) [(6, .blk true ((flat (items (kept b b.items))).map D.data ++ noughts (b.items.length - (kept b b.items).length))), (15, .dead)] (trimL b o ((flat (items (kept b b.items))).map D.data ++ noughts (b.items.length - (kept b b.items).length))) ?_ ?_ c1 ?_)
  · rw [← hL]
    funext g
    by_cases e15 : g = 15
    · subst e15; rfl
    by_cases e6 : g = 6
    · subst e6; rfl
    by_cases e83 : g = 83
    · subst e83; rfl
    by_cases e10 : g = 10
    · subst e10; rfl
    by_cases e7 : g = 7
    · subst e7; rfl
    by_cases e5 : g = 5
    · subst e5; rfl
    by_cases e2 : g = 2
    · subst e2; rfl
    by_cases e1 : g = 1
    · subst e1; rfl
    by_cases e0 : g = 0
    · subst e0; rfl
    simp [Hp.upd, Hp.set, appL, trimL, hpL, e15, e6, e83, e10, e7, e5, e2, e1, e0]
  · rw [← hL]
    intro g hg
    have hg : 156 ≤ g := hg
    have e15 : g ≠ 15 := by omega
    have e6 : g ≠ 6 := by omega
    have e83 : g ≠ 83 := by omega
    have e10 : g ≠ 10 := by omega
    have e7 : g ≠ 7 := by omega
    have e5 : g ≠ 5 := by omega
    have e2 : g ≠ 2 := by omega
    have e1 : g ≠ 1 := by omega
    have e0 : g ≠ 0 := by omega
    simp [Hp.upd, Hp.set, appL, hpL, e15, e6, e83, e10, e7, e5, e2, e1, e0]
  subst hL
  simp -implicitDefEqProofs (disch := omega) [go_sem, h10]
  refine side (by kernel_rfl) ?_
  simp -implicitDefEqProofs (disch := omega) [go_sem, h10, Try.f91]
  exact ends_of (i := 5) (j := 6) (k := 7) (by omega) (by simp [go_sem, appL]) ⟨[], by simp [go_sem, appL]⟩ ⟨noughts (b.items.length - (kept b b.items).length), by simp [go_sem, appL]⟩ ⟨[], by simp [go_sem, appL]⟩ (by simp [go_sem, appL]) (by simp [go_sem, appL]) (by simp [go_sem, appL]) (by omega)
end Bk
end Go.Proofs.Ytedcnbkhdkchoaa
