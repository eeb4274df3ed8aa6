/- Each operation keeps the relation: part one. -/
import Derived.Test.YtedcnbkhdkchoaaC
import Derived.Laws.Tables
import Derived.Laws.Append
namespace Go.Proofs.Ytedcnbkhdkchoaa
open Go.RowKit
set_option linter.unusedVariables false
set_option linter.unusedSimpArgs false

section
variable {L : Nat → Prop} {w : World} {m : Nat → MB}

theorem VD.one {x : Data} {v : Value} (h : VD L w x v) (hc : x.cell = true) : v.oneCell' = true := by
  cases h <;> simp_all [Data.cell, Value.oneCell']
theorem VV.one {d : D} {v : Value} (h : VV L w m d v) (hc : d.cell = true) : v.oneCell' = true := by
  cases h with
  | data x v h => exact h.one hc
  | agg => simp [D.cell] at hc
  | junk => simp [D.cell] at hc
  | _ => rfl

theorem cells_one {v : Value} (h : v.oneCell' = true) : v.cells = #[v] := by cases v <;> first | rfl | cases h

/-- A value's cells, one by one. -/
theorem VV.cells {d : D} {v : Value} (h : VV L w m d v) (hc : d.cells.all D.cell = true) :
    d.cells.length = v.cells.size ∧ ∀ (i : Nat) (x : D) (y : Value), d.cells[i]? = some x → v.cells[i]? = some y → VV L w m x y ∧ y.oneCell' = true := by
  have single : ∀ {d : D} {v : Value}, VV L w m d v → d.cells = [d] → d.cell = true → d.cells.length = v.cells.size ∧ ∀ (i : Nat) (x : D) (y : Value), d.cells[i]? = some x → v.cells[i]? = some y → VV L w m x y ∧ y.oneCell' = true := by
    intro d v h he hd
    have h1 := h.one hd
    rw [he, cells_one h1]
    refine ⟨rfl, fun i x y hx hy => ?_⟩
    match i with
    | 0 => simp at hx hy; subst hx; subst hy; exact ⟨h, h1⟩
    | i + 1 => simp at hx
  cases h with
  | data x v h =>
    cases h with
    | agg cs vs hl hh =>
      refine ⟨by simpa [D.cells, Data.cells, Value.cells] using hl, fun i x y hx hy => ?_⟩
      simp only [D.cells, Data.cells, List.getElem?_map, Option.map_eq_some_iff] at hx
      obtain ⟨z, hz, rfl⟩ := hx
      have := hh i z y hz hy
      have hcz : z.cell = true := by
        rw [List.all_eq_true] at hc
        exact hc (.data z) (by simp only [D.cells, Data.cells, List.mem_map]; exact ⟨z, List.mem_of_getElem? hz, rfl⟩)
      exact ⟨.data z y this, this.one hcz⟩
    | tup => simp [D.cells, Data.cells, D.cell, Data.cell] at hc
    | bool b => exact single (.data _ _ (.bool b)) rfl rfl
    | int k n => exact single (.data _ _ (.int k n)) rfl rfl
    | str s => exact single (.data _ _ (.str s)) rfl rfl
    | sl es l a n cap b off vs hn hle hm hes ha hcc hv => exact single (.data _ _ (.sl es l a n cap b off vs hn hle hm hes ha hcc hv)) rfl rfl
    | fn f caps vs hl hh => exact single (.data _ _ (.fn f caps vs hl hh)) rfl rfl
    | mp ks xs b es clock hb hL h1 h2 h3 h4 h5 h6 h7 => exact single (.data _ _ (.mp ks xs b es clock hb hL h1 h2 h3 h4 h5 h6 h7)) rfl rfl
    | nilf => exact single (.data _ _ .nilf) rfl rfl
    | ifc t d v h => exact single (.data _ _ (.ifc t d v h)) rfl rfl
    | nili => exact single (.data _ _ .nili) rfl rfl
    | nilp => exact single (.data _ _ .nilp) rfl rfl
    | pc c b off vs hb hL hcc hv => exact single (.data _ _ (.pc c b off vs hb hL hcc hv)) rfl rfl
  | agg cs vs hl hh =>
    refine ⟨hl, fun i x y hx hy => ?_⟩
    have := hh i x y hx hy
    have hcx : x.cell = true := by
      rw [List.all_eq_true] at hc
      exact hc x (List.mem_of_getElem? hx)
    exact ⟨this, this.one hcx⟩
  | junk => simp [D.cells, D.cell] at hc
  | emp es a => exact single (.emp es a) rfl rfl
  | ref g off len es b sz cap o h1 h2 h3 h4 h5 => exact single (.ref g off len es b sz cap o h1 h2 h3 h4 h5) rfl rfl
  | ref0 g es a h1 => exact single (.ref0 g es a h1) rfl rfl
  | ptr g off b sz h1 => exact single (.ptr g off b sz h1) rfl rfl
  | cut g off len cp es b sz cap o h1 h2 h3 h4 h5 h6 => exact single (.cut g off len cp es b sz cap o h1 h2 h3 h4 h5 h6) rfl rfl
  | mref g b h1 => exact single (.mref g b h1) rfl rfl
  | iref g b h1 => exact single (.iref g b h1) rfl rfl
  | cptr cells b off vs hb hL hcc hv => exact single (.cptr cells b off vs hb hL hcc hv) rfl rfl
  | fn f caps vs hl hh => exact single (.fn f caps vs hl hh) rfl rfl
  | bnd f r v h => exact single (.bnd f r v h) rfl rfl

theorem VV.cell_at {d : D} {v : Value} (h : VV L w m d v) (hc : d.cells.all D.cell = true) {i : Nat} {x : D} (hx : d.cells[i]? = some x) : ∃ y, v.cells[i]? = some y ∧ y.oneCell' = true ∧ VV L w m x y := by
  obtain ⟨h1, h2⟩ := h.cells hc
  have hi : i < v.cells.size := by rw [← h1]; exact (List.getElem?_eq_some_iff.1 hx).1
  have hy := Array.getElem?_eq_getElem hi
  obtain ⟨h3, h4⟩ := h2 i x _ hx hy
  exact ⟨_, hy, h4, h3⟩

theorem allData_eq : ∀ {cs : List D} {xs : List Data}, allData cs = some xs → cs = xs.map .data
  | [], xs, h => by simp [allData] at h; subst h; rfl
  | d :: cs, xs, h => by
    cases d <;> simp only [allData, Option.map_eq_some_iff, reduceCtorEq] at h
    obtain ⟨ys, hys, rfl⟩ := h
    simp [allData_eq hys]

theorem VV.data_inv {x : Data} {v : Value} (h : VV L w m (.data x) v) : VD L w x v := by cases h with | data _ _ h => exact h

theorem VV.mk_agg {cs : List D} {vs : Array Value} (hl : cs.length = vs.size) (h : ∀ (i : Nat) (x : D) (v : Value), cs[i]? = some x → vs[i]? = some v → VV L w m x v) : VV L w m (mkAgg cs) (.agg vs) := by
  unfold mkAgg
  split
  · rename_i xs hxs
    have := allData_eq hxs
    subst this
    refine .data _ _ (.agg xs vs (by simpa using hl) fun i x v hx hv => ?_)
    exact (h i (.data x) v (by simp [hx]) hv).data_inv
  · exact .agg cs vs hl h

theorem cD_ok (v : Value) : VV L w m (cD v) v := by
  unfold cD
  split
  · exact .data _ _ (.bool _)
  · exact .data _ _ (.int _ _)
  · exact .data _ _ (.str _)
  · exact .emp _ _
  · exact .data _ _ .nilp
  · exact .data _ _ .nili
  · exact .data _ _ .nilf
  · exact .junk _

theorem coe_ok (P : Program) (t : TypeId) {d : D} {v : Value} (h : VV L w m d v) : VV L w m (coe P t d) v := by
  unfold coe
  split
  · cases h with
    | emp es a => (repeat' split) <;> exact .emp _ a
  · exact h

theorem eval_ok {Γ : Nat → Option (List Data)} {a : Act} {e : Nat → D} (hg : Glob Γ L w) (hv : ∀ t, VV L w m (e t) (a.tmps.getD t undef)) (x : Operand) : VV L w m (evalD Γ e x) (a.eval x) := by
  cases x with
  | tmp t => exact hv t
  | const v => exact cD_ok v
  | global g =>
    simp only [evalD, Act.eval]
    split
    · rename_i cells hc
      have := hg g cells hc
      cases this with
      | cptr cells b off vs hb hL hcc hvv => exact .cptr cells g 0 vs hb hL hcc hvv
    · exact .junk _
  | func f => exact .data _ _ (.fn f [] #[] rfl (fun i x v hx => by simp at hx))

/-- A slice that is read out: where its cells lie. -/
theorem over_get {cells vs : List D} {off : Nat} (h : off + vs.length ≤ cells.length) (i : Nat) : (over cells off vs)[i]? = if off ≤ i ∧ i < off + vs.length then vs[i - off]? else cells[i]? := by
  have gen : (cells.take off ++ vs ++ cells.drop (off + vs.length))[i]? = if off ≤ i ∧ i < off + vs.length then vs[i - off]? else cells[i]? := by
    have ht : (cells.take off).length = off := by rw [List.length_take]; omega
    by_cases h1 : i < off
    · rw [if_neg (by omega), List.append_assoc, List.getElem?_append_left (by omega), List.getElem?_take_of_lt h1]
    · rw [List.append_assoc, List.getElem?_append_right (by omega), ht]
      by_cases h2 : i - off < vs.length
      · rw [if_pos ⟨by omega, by omega⟩, List.getElem?_append_left h2]
      · rw [if_neg (by omega), List.getElem?_append_right (by omega), List.getElem?_drop]
        congr 1
        omega
  unfold over
  split
  · rename_i d
    rw [List.getElem?_set]
    by_cases h1 : off = i
    · subst h1
      simp at h
      rw [if_pos rfl, if_pos (by omega), if_pos (by simp)]
      simp
    · rw [if_neg h1, if_neg (by simp; omega)]
  · exact gen
theorem over_length {cells vs : List D} {off : Nat} (h : off + vs.length ≤ cells.length) : (over cells off vs).length = cells.length := by
  unfold over
  split
  · simp
  · simp only [List.length_append, List.length_take, List.length_drop]; omega
end

section
variable (P : Program)
theorem run_isAggT {t : TypeId} {b : Bool} (h : aggT P t = some b) (w : World) : (isAgg t).run P w = .ok b w := by
  unfold aggT at h
  cases hu : P.underlying t with
  | none => simp [hu] at h
  | some d =>
    rw [hu] at h
    cases d <;> simp_all [isAgg, run_underlying hu]
theorem info_of_sz {t : TypeId} {n : Nat} (h : szT P t = some n) : ∃ i, P.info? t = some i ∧ i.size = n := by
  unfold szT at h
  cases hi : P.info? t with
  | none => simp [hi] at h
  | some i => exact ⟨i, rfl, by simpa [hi] using h⟩
theorem run_sz {t : TypeId} {n : Nat} (h : szT P t = some n) (w : World) : (sizeOf t).run P w = .ok n w := by
  obtain ⟨i, hi, rfl⟩ := info_of_sz P h
  simp [sizeOf, typeInfo, hi]
theorem und_slice {t e : TypeId} (h : sliceT P t = some e) : P.underlying t = some (.slice e) := by
  unfold sliceT at h
  split at h <;> simp_all
theorem und_arr {t e : TypeId} {n : Nat} (h : arrT P t = some (n, e)) : P.underlying t = some (.array n e) := by
  unfold arrT at h
  split at h <;> simp_all
theorem und_int {t : TypeId} {k : IntKind} (h : intT P t = some k) : P.underlying t = some (.int k) := by
  unfold intT at h
  split at h <;> simp_all
theorem und_bool {t : TypeId} (h : boolT P t = true) : P.underlying t = some .bool := by
  unfold boolT at h
  split at h <;> simp_all
theorem und_str {t : TypeId} (h : strT P t = true) : P.underlying t = some .string := by
  unfold strT at h
  split at h <;> simp_all
theorem zero_of {t : TypeId} {z : List D} (h : zeT P t = some z) : ∃ i v, P.info? t = some i ∧ i.zero = some v ∧ z = v.cells.toList.map cD := by
  unfold zeT at h
  cases hi : P.info? t with
  | none => simp [hi] at h
  | some i =>
    simp only [hi, Option.bind_some, Option.map_eq_some_iff] at h
    obtain ⟨v, hv, rfl⟩ := h
    exact ⟨i, v, rfl, hv, rfl⟩
theorem field_of {t : TypeId} {f o : Nat} {ft : TypeId} (h : fldT P t f = some (o, ft)) : ∃ fs fd, P.underlying t = some (.struct fs) ∧ fs[f]? = some fd ∧ fd.offset = o ∧ fd.type = ft := by
  unfold fldT at h
  split at h
  · rename_i fs hu
    cases hf : fs[f]? with
    | none => simp [hf] at h
    | some fd =>
      simp [hf] at h
      exact ⟨fs, fd, hu, hf, h.1, h.2⟩
  · cases h
end

/-- An operation comes to a value, at once or behind a call. -/
def Runs (P : Program) (o : Oper) (a : Act) (w : World) (φ : Value → World → Prop) : Prop :=
  (∃ v w', (execOp a.eval o).run P w = .ok (.value v) w' ∧ φ v w') ∨ (∃ w', (execOp a.eval o).run P w = .ok .skip w' ∧ φ undef w') ∨
    ∃ f args w1, (execOp a.eval o).run P w = .ok (.enter f args) w1 ∧ Calls P f args w1 fun e w' => ∃ v, e = .returned v ∧ φ v w'
theorem Runs.mono {P : Program} {o : Oper} {a : Act} {w : World} {φ ψ : Value → World → Prop} (h : Runs P o a w φ) (hi : ∀ v w', φ v w' → ψ v w') : Runs P o a w ψ := by
  rcases h with ⟨v, w', h1, h2⟩ | ⟨w', h1, h2⟩ | ⟨f, args, w1, h1, h2⟩
  · exact .inl ⟨v, w', h1, hi _ _ h2⟩
  · exact .inr (.inl ⟨w', h1, hi _ _ h2⟩)
  · exact .inr (.inr ⟨f, args, w1, h1, h2.mono fun e w' ⟨v, he, hv⟩ => ⟨v, he, hi _ _ hv⟩⟩)
theorem Runs.wp {P : Program} {o : Oper} {a : Act} {w : World} {φ : Value → World → Prop} {next : Act → World → Prop} {Q : Exit → Act → World → Prop} (h : Runs P o a w φ) (hn : ∀ v w', φ v w' → next (a.put o.dst v) w') : o.wp P a w next Q := by
  unfold Oper.wp
  rcases h with ⟨v, w', h1, h2⟩ | ⟨w', h1, h2⟩ | ⟨f, args, w1, h1, h2⟩
  · rw [h1]; exact hn v w' h2
  · rw [h1]; exact hn undef w' h2
  · rw [h1, Oper.upon_enter]
    exact h2.mono fun e w' ⟨v, he, hv⟩ => by subst he; exact hn v w' hv

section
variable {P : Program} {Γ : Nat → Option (List Data)} {L0 : Nat → Prop} {w0 : World} {m : Nat → MB} {H : Nat → Blk} {w : World} {fr : Nat}

/-- What an operation's model run is to be held against: one value, the memory as it was. -/
theorem runs_pure {o : Oper} {a : Act} {v : Value} {d : D} (hr : (execOp a.eval o).run P w = .ok (.value v) w) (h : WR Γ L0 w0 m H w) (hv : VV (Live L0 m H) w m d v) : Runs P o a w (After Γ L0 w0 fr H m w d []) :=
  .inl ⟨v, w, hr, After.pure h hv⟩

theorem bin_ok {op : BinOp} {t : TypeId} {x y : D} {vx vy : Value} {K : D → Prop} (ox oy : Operand) (L : Nat → Prop) (hx : VV L w m x vx) (hy : VV L w m y vy) (h : binK P op t x y K) :
    ∃ d v, K d ∧ VV L w m d v ∧ (do eqGuard op t ox oy vx vy; binOp op t vx vy : Sem Value).run P w = .ok v w := by
  have bd : ∀ b, VV L w m (boolD b) (.bool b) := fun b => .data _ _ (.bool b)
  have nd : ∀ k n, VV L w m (intD k n) (.int k n) := fun k n => .data _ _ (.int k n)
  have decEq : ∀ a b : Int, (a == b) = decide (a = b) := fun a b => by by_cases h : a = b <;> simp [h]
  unfold binK at h
  split at h
  · -- integers
    rename_i k a k' b
    have hx := hx.data_inv
    have hy := hy.data_inv
    cases hx; cases hy
    have hgd : (eqGuard op t ox oy (.int k a) (.int k' b)).run P w = .ok () w := by unfold eqGuard; cases op <;> simp
    cases op <;> simp only [cmpI] at h
    all_goals first
      | (obtain ⟨rfl, h⟩ := h
         first
         | (obtain ⟨hb, h⟩ := h
            refine ⟨_, _, h, nd _ _, ?_⟩
            simp only [Sem.run_bind, hgd, Result.andThen_ok]
            simp [binOp, Op.intDiv, hb])
         | (refine ⟨_, _, h, nd _ _, ?_⟩
            simp only [Sem.run_bind, hgd, Result.andThen_ok]
            simp [binOp, Op.intArith, Op.intBits])
         | (refine ⟨_, _, h, bd _, ?_⟩
            simp only [Sem.run_bind, hgd, Result.andThen_ok]
            simp [binOp, Op.intCmp, decEq]; done)
         | (refine ⟨_, _, h, bd _, ?_⟩
            simp only [Sem.run_bind, hgd, Result.andThen_ok]
            by_cases e : a = b <;> simp [binOp, Op.intCmp, e]))
      | (obtain ⟨hb, h⟩ := h
         refine ⟨_, _, h, nd _ _, ?_⟩
         simp only [Sem.run_bind, hgd, Result.andThen_ok]
         have hb' : ¬ b < 0 := by omega
         simp [binOp, Op.shift, hb'])
  · -- strings
    rename_i a b
    have hx := hx.data_inv
    have hy := hy.data_inv
    cases hx; cases hy
    have hgd : (eqGuard op t ox oy (.string a) (.string b)).run P w = .ok () w := by unfold eqGuard; cases op <;> simp
    have heq : (a.toList == b.toList) = decide (a = b) := by
      rw [ByteArray.toList_eq, ByteArray.toList_eq]
      by_cases e : a = b
      · subst e; simp
      · have e2 : a.data.toList ≠ b.data.toList := fun k => e (by cases a; cases b; simp_all)
        simp only [e, decide_false, beq_eq_false_iff_ne]
        exact e2
    cases op <;> simp only [] at h
    all_goals first
      | exact h.elim
      | (obtain ⟨hb, h⟩ := h
         refine ⟨_, _, h, .data _ _ (.str _), ?_⟩
         simp only [Sem.run_bind, hgd, Result.andThen_ok]
         have hb' : ¬ (((a.size + b.size : Nat) : Int) > IntKind.i64.max) := by
           have : IntKind.i64.max = 9223372036854775807 := by decide
           omega
         simp only [binOp, Op.stringOp, if_neg hb']
         rfl)
      | (refine ⟨_, _, h, bd _, ?_⟩
         simp only [Sem.run_bind, hgd, Result.andThen_ok]
         simp [binOp, Op.stringOp, heq])
  · -- bools
    rename_i a b
    obtain ⟨ht, h⟩ := h
    have hx := hx.data_inv
    have hy := hy.data_inv
    cases hx; cases hy
    have hu := und_bool P ht
    have hgd : (eqGuard op t ox oy (.bool a) (.bool b)).run P w = .ok () w := by unfold eqGuard; cases op <;> simp
    have heq : (Op.equal t (.bool a) (.bool b)).run P w = .ok (a == b) w := by
      exact run_equal_bool w t a b hu
    cases op <;> simp only [] at h
    all_goals first
      | exact h.elim
      | (refine ⟨_, _, h, bd _, ?_⟩
         simp only [Sem.run_bind, hgd, Result.andThen_ok]
         simp [binOp, heq])
  · rename_i x y _ _ _
    have hx := hx.data_inv
    have hy := hy.data_inv
    cases op <;> simp only [] at h
    all_goals first
      | exact h.elim
      | (obtain ⟨b, he, h⟩ := h
         obtain ⟨h1, h2⟩ := he L w ox oy vx vy hx hy
         refine ⟨_, _, h, bd _, ?_⟩
         simp only [Sem.run_bind, h1, Result.andThen_ok]
         cases hx <;> cases hy <;> first
           | (simp [binOp, h2]; done)
           | (rename_i n1 n2 n3; first | exact (n1 _ _ _ _ rfl rfl).elim | exact (n2 _ _ rfl rfl).elim | exact (n3 _ _ rfl rfl).elim))

  · exact h.elim
end
end Go.Proofs.Ytedcnbkhdkchoaa
