/- A statement whose order is open, that holds calls and makes memory: each operation once, in whatever order, by what is known of its operands. -/
import Derived.Orders
import Derived.Below
import Derived.WalkSmall
import Derived.KernelRfl
namespace Go.Proofs.Ytlmodgdglejlpaa
open Go.RowKit
set_option linter.unusedVariables false
set_option linter.unusedSimpArgs false

/-- What was there is as it was. -/
def Stp (w w' : World) : Prop := Below w.heap.size w w'
theorem Stp.refl (w : World) : Stp w w := Below.refl _ _
theorem Stp.trans {a b c : World} (h : Stp a b) (k : Stp b c) : Stp a c := Below.trans h (Below.mono k h.size)
def Stable (f : Value → World → Prop) : Prop := ∀ v w w', Stp w w' → f v w → f v w'
theorem stable_eq (u : Value) : Stable (fun v _ => v = u) := fun _ _ _ _ h => h

/-- What one operation comes to: a value with what is said of it; what was there is as it was. -/
def Good (P : Program) (f : Value → World → Prop) (w : World) : Result Next → Prop
  | .ok (.value v) w' => f v w' ∧ Stp w w'
  | .ok .skip w' => f undef w' ∧ Stp w w'
  | .ok (.enter g args) w' => Stp w w' ∧ Calls P g args w' (fun e w'' => ∃ v, e = .returned v ∧ f v w'' ∧ Stp w' w'')
  | _ => False

section
variable {P : Program} {md : Region.Mode} {ops : Array Oper} {F : List (Value → World → Prop)} {a0 : Act} {w0 : World} {Q : Exit → Act → World → Prop}

structure Known (md : Region.Mode) (ops : Array Oper) (F : List (Value → World → Prop)) (a0 : Act) (D : Array Bool) (a : Act) (w : World) : Prop where
  defers : a.defers = a0.defers
  size : a.tmps.size = a0.tmps.size
  listed : D.size = ops.size
  closed : ∀ j o, ops[j]? = some o → D.getD j false = true → ∀ e ∈ o.after, Region.binds md e = true → D.getD e.on false = true
  old : ∀ s, (∀ j o, ops[j]? = some o → o.dst = some s → D.getD j false = false) → a.tmps.getD s undef = a0.tmps.getD s undef
  new : ∀ j o s f, ops[j]? = some o → o.dst = some s → D.getD j false = true → F[j]? = some f → s < a.tmps.size → f (a.tmps.getD s undef) w

theorem put_getD_ne {a : Act} {dst : Option Tmp} {v : Value} {s : Nat} (h : dst ≠ some s) : (a.put dst v).tmps.getD s undef = a.tmps.getD s undef := by
  cases dst with
  | none => rfl
  | some d =>
    have hd : d ≠ s := fun e => h (by rw [e])
    simp [Act.put, Array.getD_eq_getD_getElem?, Array.getElem?_setIfInBounds_ne hd]
theorem put_getD_eq {a : Act} {v : Value} {s : Nat} (h : s < a.tmps.size) : (a.put (some s) v).tmps.getD s undef = v := by
  simp [Act.put, Array.getD_eq_getD_getElem?, h]
theorem put_size (a : Act) (dst : Option Tmp) (v : Value) : (a.put dst v).tmps.size = a.tmps.size := by cases dst <;> simp [Act.put]
theorem put_defers (a : Act) (dst : Option Tmp) (v : Value) : (a.put dst v).defers = a.defers := by cases dst <;> rfl

theorem getD_set {D : Array Bool} {i j : Nat} (hi : i < D.size) : (D.setIfInBounds i true).getD j false = if i = j then true else D.getD j false := by
  by_cases h : i = j
  · subst h; simp [Array.getD_eq_getD_getElem?, hi]
  · simp [Array.getD_eq_getD_getElem?, Array.getElem?_setIfInBounds_ne h, h]

theorem Known.step {D : Array Bool} {a : Act} {w w' : World} {i : Nat} {o : Oper} {f : Value → World → Prop} {v : Value} (h : Known md ops F a0 D a w)
    (hdist : ∀ (j k : Nat) (oj ok : Oper) (s : Tmp), ops[j]? = some oj → ops[k]? = some ok → oj.dst = some s → ok.dst = some s → j = k) (hst : ∀ g ∈ F, Stable g)
    (ho : ops[i]? = some o) (hf : F[i]? = some f) (hr : i ∈ Region.ready md ops D) (hs : Stp w w') (hv : f v w') : Known md ops F a0 (D.setIfInBounds i true) (a.put o.dst v) w' := by
  have hin : i < D.size := by rw [h.listed]; exact (Array.getElem?_eq_some_iff.1 ho).1
  obtain ⟨hun, o', ho', hall⟩ := mem_ready.1 hr
  obtain rfl : o' = o := Option.some.inj (ho'.symm.trans ho)
  refine ⟨by rw [put_defers]; exact h.defers, by rw [put_size]; exact h.size, by simp; exact h.listed, ?_, ?_, ?_⟩
  · intro j oj hoj hj e he hb
    rw [getD_set hin] at hj ⊢
    by_cases hie : i = e.on
    · rw [if_pos hie]
    · rw [if_neg hie]
      by_cases hij : i = j
      · subst hij
        obtain rfl : oj = o' := Option.some.inj (hoj.symm.trans ho)
        exact hall e he hb
      · rw [if_neg hij] at hj
        exact h.closed j oj hoj hj e he hb
  · intro s hno
    have hne : o'.dst ≠ some s := fun e => by
      have := hno i o' ho e
      rw [getD_set hin, if_pos rfl] at this
      cases this
    rw [put_getD_ne hne]
    refine h.old s fun j oj hoj hd => ?_
    have := hno j oj hoj hd
    rw [getD_set hin] at this
    split at this
    · cases this
    · exact this
  · intro j oj s g hoj hd hj hg hsz
    rw [put_size] at hsz
    rw [getD_set hin] at hj
    by_cases hij : i = j
    · subst hij
      obtain rfl : oj = o' := Option.some.inj (hoj.symm.trans ho)
      obtain rfl : g = f := Option.some.inj (hg.symm.trans hf)
      rw [hd, put_getD_eq hsz]
      exact hv
    · rw [if_neg hij] at hj
      have hne : o'.dst ≠ some s := fun e => hij (hdist i j o' oj s ho hoj e hd)
      rw [put_getD_ne hne]
      exact hst g (List.mem_of_getElem? hg) _ _ _ hs (h.new j oj s g hoj hd hj hg hsz)

theorem all_of_ready_nil {D : Array Bool} (hord : ∀ i o, ops[i]? = some o → ∀ e ∈ o.after, Region.binds md e = true → e.on < i) (hr : Region.ready md ops D = []) :
    ∀ j, j < ops.size → D.getD j true = true := by
  intro j
  induction j using Nat.strongRecOn with
  | _ j ih =>
    intro hj
    by_cases hd : D.getD j true = true
    · exact hd
    · exfalso
      have hm : j ∈ Region.ready md ops D := by
        refine mem_ready.2 ⟨by simpa using hd, ops[j], Array.getElem?_eq_getElem hj, fun e he hb => ?_⟩
        have hlt := hord j _ (Array.getElem?_eq_getElem hj) e he hb
        have := ih e.on hlt (by omega)
        have hjs : j < D.size := by
          rcases Nat.lt_or_ge j D.size with h | h
          · exact h
          · exact absurd (by simp [Array.getD_eq_getD_getElem?, Array.getElem?_eq_none h]) hd
        have hes : e.on < D.size := by omega
        simpa [Array.getD_eq_getD_getElem?, hes] using this
      rw [hr] at hm
      cases hm

/-- How many operations have not come up yet. -/
def left (D : Array Bool) : Nat := D.toList.count false
theorem left_set {D : Array Bool} {i : Nat} (hi : D.getD i true = false) : left (D.setIfInBounds i true) + 1 = left D := by
  have hs : i < D.size := by
    rcases Nat.lt_or_ge i D.size with h | h
    · exact h
    · simp [Array.getD_eq_getD_getElem?, Array.getElem?_eq_none h] at hi
  have hv : D.toList[i]'(by simpa using hs) = false := by
    simpa [Array.getD_eq_getD_getElem?, hs] using hi
  unfold left
  rw [Array.toList_setIfInBounds, List.count_set (by simpa using hs), hv]
  have hpos : 0 < D.toList.count false := List.count_pos_iff.2 (by rw [← hv]; exact List.getElem_mem _)
  simp only [if_true, beq_self_eq_true, show (true == false) = false from rfl, Bool.false_eq_true, if_false]
  omega

theorem left_zero {D : Array Bool} (h : left D = 0) (j : Nat) : D.getD j true = true := by
  unfold left at h
  rcases Nat.lt_or_ge j D.size with hs | hs
  · have := List.count_eq_zero.1 h
    have hm : D[j] ∈ D.toList := by simp
    cases hd : D[j] with
    | true => simp [Array.getD_eq_getD_getElem?, hs, hd]
    | false => rw [hd] at hm; exact absurd hm this
  · simp [Array.getD_eq_getD_getElem?, Array.getElem?_eq_none hs]

theorem wpOp_of_good {i : Nat} {o : Oper} {a : Act} {w : World} {f : Value → World → Prop} {K : Act → World → Prop} (ho : ops[i]? = some o)
    (hg : if Region.wanted o (yielded ops a.tmps) then Good P f w ((execOp a.eval o).run P w) else f undef w) (hK : ∀ v w', f v w' → Stp w w' → K (a.put o.dst v) w') : wpOp P ops Q i K a w := by
  unfold wpOp
  simp only [ho]
  split
  · rename_i hw
    rw [if_pos hw] at hg
    refine .inl ?_
    unfold Oper.wp
    generalize (execOp a.eval o).run P w = r at *
    cases r with
    | halt x w' => exact hg.elim
    | ok n w' =>
      cases n with
      | value v => exact hK v w' hg.1 hg.2
      | skip => exact hK undef w' hg.1 hg.2
      | enter g args =>
        obtain ⟨h1, h2⟩ := hg
        refine h2.mono fun e w'' ⟨v, he, hv, hs⟩ => ?_
        subst he
        exact hK v w'' hv (h1.trans hs)
      | _ => exact hg.elim
  · rename_i hw
    rw [if_neg hw] at hg
    exact hK undef w hg (Stp.refl w)

theorem wpAny_of_known
    (hdist : ∀ (j k : Nat) (oj ok : Oper) (s : Tmp), ops[j]? = some oj → ops[k]? = some ok → oj.dst = some s → ok.dst = some s → j = k)
    (hord : ∀ i o, ops[i]? = some o → ∀ e ∈ o.after, Region.binds md e = true → e.on < i) (hst : ∀ g ∈ F, Stable g) (hlen : F.length = ops.size)
    (hop : ∀ k o f, ops[k]? = some o → F[k]? = some f → ∀ D a w, D.getD k true = false → (∀ e ∈ o.after, Region.binds md e = true → D.getD e.on false = true) → Known md ops F a0 D a w → Stp w0 w →
      if Region.wanted o (yielded ops a.tmps) then Good P f w ((execOp a.eval o).run P w) else f undef w)
    (hend : ∀ D a w, (∀ j, j < ops.size → D.getD j true = true) → Known md ops F a0 D a w → Stp w0 w → Q .normal a w) :
    ∀ (fuel : Nat) (D : Array Bool) (a : Act) (w : World), left D ≤ fuel → Known md ops F a0 D a w → Stp w0 w → wpAny P md ops Q fuel D a w
  | 0, D, a, w, hl, hk, hs => by
    have hz := left_zero (Nat.le_zero.1 hl)
    refine ⟨?_, hend D a w (fun j _ => hz j) hk hs⟩
    refine List.eq_nil_iff_forall_not_mem.2 fun j hj => ?_
    have := (mem_ready.1 hj).1
    rw [hz j] at this
    cases this
  | fuel + 1, D, a, w, hl, hk, hs => by
    refine ⟨fun hr => hend D a w (all_of_ready_nil hord hr) hk hs, fun i hi => ?_⟩
    obtain ⟨hun, o, ho, hall⟩ := mem_ready.1 hi
    have hlt : i < F.length := by rw [hlen]; exact (Array.getElem?_eq_some_iff.1 ho).1
    have hf : F[i]? = some F[i] := List.getElem?_eq_getElem hlt
    refine wpOp_of_good (P := P) ho (hop i o _ ho hf D a w hun hall hk hs) fun v w' hv hs' => ?_
    refine wpAny_of_known hdist hord hst hlen hop hend fuel _ _ _ ?_ (hk.step hdist hst ho hf hi hs' hv) (hs.trans hs')
    have := left_set hun
    omega
end

/-- What is said of a value: which one it is, or something that stays true. -/
structure Prd where
  val : Option Value
  say : Value → World → Prop
def Prd.holds (f : Prd) (v : Value) (w : World) : Prop := match f.val with
  | some u => v = u
  | none => f.say v w
def Prd.ok (f : Prd) : Prop := match f.val with
  | some _ => True
  | none => Stable f.say
theorem Prd.stable {f : Prd} (h : f.ok) : Stable f.holds := by
  intro v w w' hs hv
  unfold Prd.holds at *
  unfold Prd.ok at h
  cases e : f.val with
  | some u => simp only [e] at hv ⊢; exact hv
  | none => simp only [e] at hv h ⊢; exact h v w w' hs hv
/-- It is this value. -/
def Prd.is (u : Value) : Prd := ⟨some u, fun _ _ => True⟩
/-- It is one of which this is true, whatever is made later. -/
def Prd.one (φ : Value → World → Prop) : Prd := ⟨none, φ⟩
theorem Prd.is_ok (u : Value) : (Prd.is u).ok := trivial
theorem Prd.one_ok {φ : Value → World → Prop} (h : Stable φ) : (Prd.one φ).ok := h

section
variable (P : Program) (ops : Array Oper) (T : List (Option Nat)) (a0 : Act) (w0 : World)

/-- What is known of slot t once the operations of F have come up. -/
def factAt (F : List Prd) (a : Act) (w : World) (t : Nat) : Prop :=
  match T.getD t none with
  | some j => match F[j]? with
    | some f => f.holds (a.eval (.tmp t)) w
    | none => a.eval (.tmp t) = a0.tmps.getD t undef
  | none => a.eval (.tmp t) = a0.tmps.getD t undef
def factsAt (F : List Prd) (a : Act) (w : World) : List Nat → Prop
  | [] => True
  | t :: ts => factAt T a0 F a w t ∧ factsAt F a w ts
def obliged (F : List Prd) (o : Oper) (f : Prd) : Prop :=
  ∀ a w, Stp w0 w → factsAt T a0 F a w (o.looksAt ops) → if Region.wanted o (yielded ops a.tmps) then Good P f.holds w ((execOp a.eval o).run P w) else f.holds undef w
/-- The operations in the order of the text. -/
def dwalk (E : List Prd → Prop) : List Oper → List Prd → Prop
  | [], F => E F
  | o :: rest, F => ∃ f : Prd, f.ok ∧ obliged P ops T a0 w0 F o f ∧ dwalk E rest (F ++ [f])

/-- The frame behind the region; x: the slots of which something is said, but not which value they hold. -/
def frameOf (F : List Prd) (x : Nat → Value) : Nat → List (Option Nat) → List Value → List Value
  | i, t :: ts, v :: vs => (match t with
    | some j => match F[j]? with
      | some f => match f.val with
        | some u => u
        | none => x i
      | none => v
    | none => v) :: frameOf F x (i + 1) ts vs
  | _, _, vs => vs
def saidOf (F : List Prd) (x : Nat → Value) (w : World) : Nat → List (Option Nat) → Prop
  | i, t :: ts => (match t with
    | some j => match F[j]? with
      | some f => match f.val with
        | some _ => True
        | none => f.say (x i) w
      | none => True
    | none => True) ∧ saidOf F x w (i + 1) ts
  | _, [] => True

def binds? (md : Region.Mode) (o : Oper) (j : Nat) : Bool := o.after.any fun e => Region.binds md e && e.on == j
def drawB (md : Region.Mode) : Bool :=
  ((List.range ops.size).all fun j => match ops[j]? with
    | some o => (match o.dst with
      | some s => decide (s < T.length) && T.getD s none == some j
      | none => true) && (o.after.all fun e => !Region.binds md e || decide (e.on < j)) &&
      ((o.looksAt ops).all fun t => match T.getD t none with
        | some i => if i < j then binds? md o i else i == j || ((ops[i]?).map fun p => binds? md p j).getD false
        | none => true)
    | none => true) &&
  ((List.range T.length).all fun s => match T.getD s none with
    | some j => ((ops[j]?).bind (·.dst)) == some s
    | none => true)
end

theorem binds?_mem {md : Region.Mode} {o : Oper} {j : Nat} (h : binds? md o j = true) : ∃ e ∈ o.after, Region.binds md e = true ∧ e.on = j := by
  unfold binds? at h
  rw [Array.any_eq_true'] at h
  obtain ⟨e, he, hb⟩ := h
  simp only [Bool.and_eq_true, beq_iff_eq] at hb
  exact ⟨e, he, hb⟩

section
variable {P : Program} {md : Region.Mode} {ops : Array Oper} {T : List (Option Nat)} {a0 : Act} {w0 : World}

theorem drawB_op (h : drawB ops T md = true) {j : Nat} {o : Oper} (ho : ops[j]? = some o) :
    (∀ s, o.dst = some s → s < T.length ∧ T.getD s none = some j) ∧ (∀ e ∈ o.after, Region.binds md e = true → e.on < j) ∧
    ∀ t ∈ o.looksAt ops, ∀ i, T.getD t none = some i → if i < j then binds? md o i = true else i = j ∨ ∃ p, ops[i]? = some p ∧ binds? md p j = true := by
  unfold drawB at h
  simp only [Bool.and_eq_true, List.all_eq_true, List.mem_range] at h
  have hj := h.1 j (Array.getElem?_eq_some_iff.1 ho).1
  simp only [ho, Bool.and_eq_true, List.all_eq_true, Array.all_eq_true_iff_forall_mem, Bool.or_eq_true, Bool.not_eq_true', decide_eq_true_eq] at hj
  obtain ⟨⟨h1, h2⟩, h3⟩ := hj
  refine ⟨fun s hs => ?_, fun e he hb => (h2 e he).resolve_left (by simp [hb]), fun t ht i hi => ?_⟩
  · simp only [hs, Bool.and_eq_true, decide_eq_true_eq, beq_iff_eq] at h1
    exact h1
  · have := h3 t ht
    simp only [hi] at this
    split
    · rename_i hlt; rw [if_pos hlt] at this; exact this
    · rename_i hlt
      rw [if_neg hlt] at this
      simp only [Bool.or_eq_true, beq_iff_eq] at this
      rcases this with e | e
      · exact .inl e
      · right
        cases hp : ops[i]? with
        | none => simp [hp] at e
        | some p => exact ⟨p, rfl, by simpa [hp] using e⟩

theorem drawB_slot (h : drawB ops T md = true) {s j : Nat} (hs : T.getD s none = some j) : ∃ o, ops[j]? = some o ∧ o.dst = some s := by
  unfold drawB at h
  simp only [Bool.and_eq_true, List.all_eq_true, List.mem_range] at h
  have hlt : s < T.length := by
    rcases Nat.lt_or_ge s T.length with h1 | h1
    · exact h1
    · rw [List.getD_eq_getElem?_getD, List.getElem?_eq_none h1] at hs; simp at hs
  have := h.2 s hlt
  simp only [hs, beq_iff_eq] at this
  cases ho : ops[j]? with
  | none => simp [ho] at this
  | some o => exact ⟨o, rfl, by simpa [ho] using this⟩

theorem factsAt_of {F : List Prd} {a : Act} {w : World} : ∀ (l : List Nat), (∀ t ∈ l, factAt T a0 F a w t) → factsAt T a0 F a w l
  | [], _ => trivial
  | t :: ts, h => ⟨h t (by simp), factsAt_of ts fun u hu => h u (by simp [hu])⟩

/-- What the walk in the order of the text has given for each operation. -/
theorem dwalk_ops {E : List Prd → Prop} : ∀ (l : List Oper) (F : List Prd), dwalk P ops T a0 w0 E l F →
    ∃ G : List Prd, G.length = l.length ∧ (∀ f ∈ G, f.ok) ∧ (∀ i o f, l[i]? = some o → G[i]? = some f → obliged P ops T a0 w0 (F ++ G.take i) o f) ∧ E (F ++ G)
  | [], F, h => ⟨[], rfl, by simp, by simp, by rw [List.append_nil]; exact h⟩
  | o :: rest, F, ⟨f, hok, hob, h⟩ => by
    obtain ⟨G, h1, h2, h3, h4⟩ := dwalk_ops rest _ h
    refine ⟨f :: G, by simp [h1], ?_, ?_, by simpa using h4⟩
    · intro g hg
      rcases List.mem_cons.1 hg with rfl | hg
      · exact hok
      · exact h2 g hg
    · intro i p g hp hg
      cases i with
      | zero =>
        simp only [List.getElem?_cons_zero, Option.some.injEq] at hp hg
        subst hp hg
        simpa using hob
      | succ i =>
        simp only [List.getElem?_cons_succ] at hp hg
        have := h3 i p g hp hg
        simpa using this

theorem frame_eq (F : List Prd) (a : Act) (w : World) (hB : drawB ops T md = true) (hFl : F.length = ops.size) (hsz : a0.tmps.size = T.length)
    (hold : ∀ s, T.getD s none = none → a.tmps.getD s undef = a0.tmps.getD s undef) (hnew : ∀ s j f, T.getD s none = some j → F[j]? = some f → f.holds (a.tmps.getD s undef) w) :
    ∀ (ts : List (Option Nat)) (vs us : List Value) (i : Nat), ts.length = vs.length → us.length = vs.length → (∀ k, T.getD (i + k) none = ts.getD k none ∨ ts.length ≤ k) →
      (∀ k, k < vs.length → a0.tmps.getD (i + k) undef = vs.getD k undef) → (∀ k, k < us.length → a.tmps.getD (i + k) undef = us.getD k undef) →
      us = frameOf F (fun s => a.tmps.getD s undef) i ts vs ∧ saidOf F (fun s => a.tmps.getD s undef) w i ts
  | [], [], [], i, _, _, _, _, _ => ⟨rfl, trivial⟩
  | t :: ts, v :: vs, u :: us, i, h1, h2, hT, h3, h4 => by
    have ih := frame_eq F a w hB hFl hsz hold hnew ts vs us (i + 1) (by simpa using h1) (by simpa using h2)
      (fun k => by have := hT (k + 1); simp only [List.getD_cons_succ, List.length_cons] at this; rw [show i + 1 + k = i + (k + 1) by omega]; rcases this with e | e; exact .inl e; exact .inr (by omega))
      (fun k hk => by have := h3 (k + 1) (by simp; omega); simpa [Nat.add_assoc, Nat.add_comm 1 k] using this)
      (fun k hk => by have := h4 (k + 1) (by simp; omega); simpa [Nat.add_assoc, Nat.add_comm 1 k] using this)
    have hu : a.tmps.getD i undef = u := by have := h4 0 (by simp); simpa using this
    have hv : a0.tmps.getD i undef = v := by have := h3 0 (by simp); simpa using this
    have hT0 : T.getD i none = t := by have := hT 0; simpa using this
    refine ⟨?_, ?_, ih.2⟩
    · show u :: us = _ :: _
      rw [← ih.1]
      congr 1
      cases t with
      | none => rw [← hu, ← hv]; exact hold i hT0
      | some j =>
        obtain ⟨o, ho, hd⟩ := drawB_slot hB hT0
        have hj : j < F.length := by rw [hFl]; exact (Array.getElem?_eq_some_iff.1 ho).1
        have hf : F[j]? = some F[j] := List.getElem?_eq_getElem hj
        have hh := hnew i j _ hT0 hf
        simp only [hf]
        unfold Prd.holds at hh
        cases e : F[j].val with
        | some q => simp only [e] at hh ⊢; rw [← hu]; exact hh
        | none => simp only [e]; exact hu.symm
    · cases t with
      | none => trivial
      | some j =>
        obtain ⟨o, ho, hd⟩ := drawB_slot hB hT0
        have hj : j < F.length := by rw [hFl]; exact (Array.getElem?_eq_some_iff.1 ho).1
        have hf : F[j]? = some F[j] := List.getElem?_eq_getElem hj
        have hh := hnew i j _ hT0 hf
        simp only [hf]
        unfold Prd.holds at hh
        cases e : F[j].val with
        | some q => trivial
        | none => simp only [e] at hh ⊢; exact hh

/-- ONE WALK IN THE ORDER OF THE TEXT, each operation by what is known of what it looks at, serves every order. -/
theorem wp_region_known {id : Nat} {Q : Exit → Act → World → Prop} {w : World} {l : List Oper} {vs : List Value} {ds : List Deferred} (hm : P.follows .mixedOrders = true) (T : List (Option Nat)) (hB : drawB l.toArray T .any = true) (hsz : vs.length = T.length)
    (h : dwalk P l.toArray T { tmps := vs.toArray, defers := ds } w
      (fun F => ∀ (x : Nat → Value) (w' : World), Stp w w' → saidOf F x w' 0 T → Q .normal { tmps := (frameOf F x 0 T vs).toArray, defers := ds } w') l []) :
    (Code.region id l.toArray true).wp P Q { tmps := vs.toArray, defers := ds } w := by
  obtain ⟨G, hlen, hok, hob, hE⟩ := dwalk_ops l [] h
  simp only [List.nil_append] at hob hE
  have hsG : ∀ (k : Nat) (g : Value → World → Prop), (G.map Prd.holds)[k]? = some g ↔ ∃ f : Prd, G[k]? = some f ∧ g = f.holds := by
    intro k g
    rw [List.getElem?_map, Option.map_eq_some_iff]
    exact ⟨fun ⟨f, h1, h2⟩ => ⟨f, h1, h2.symm⟩, fun ⟨f, h1, h2⟩ => ⟨f, h1, h2.symm⟩⟩
  refine wp_region_any hm (wpAny_of_known (P := P) (F := G.map Prd.holds) (a0 := { tmps := vs.toArray, defers := ds }) (w0 := { w with drawn := w.drawn + 1 }) ?_ ?_ ?_ ?_ ?_ ?_ _ _ _ _ ?_ ?_ (Stp.refl _))
  · intro j k oj ok s hj hk hdj hdk
    have h1 := ((drawB_op hB hj).1 s hdj).2
    have h2 := ((drawB_op hB hk).1 s hdk).2
    exact Option.some.inj (h1.symm.trans h2)
  · exact fun i o ho => (drawB_op hB ho).2.1
  · intro g hg
    obtain ⟨f, hf, rfl⟩ := List.mem_map.1 hg
    exact Prd.stable (hok f hf)
  · simp [hlen]
  · intro k o g ho hg D a w1 hun hdep hK hS
    obtain ⟨f, hf, rfl⟩ := (hsG k g).1 hg
    have hl : l[k]? = some o := by simpa using ho
    refine hob k o f hl hf a w1 ⟨hS.os, hS.tape, hS.output, hS.size, hS.block⟩ (factsAt_of _ fun t ht => ?_)
    unfold factAt
    cases hT : T.getD t none with
    | none =>
      exact hK.old t fun j oj hoj hd => by
        have := ((drawB_op hB hoj).1 t hd).2
        rw [hT] at this
        cases this
    | some i =>
      have hc := (drawB_op hB ho).2.2 t ht i hT
      obtain ⟨oi, hoi, hdi⟩ := drawB_slot hB hT
      have hil : i < G.length := by rw [hlen]; have := (Array.getElem?_eq_some_iff.1 hoi).1; simpa using this
      have hkl : k < G.length := by rw [hlen]; have := (Array.getElem?_eq_some_iff.1 ho).1; simpa using this
      by_cases hik : i < k
      · rw [if_pos hik] at hc
        obtain ⟨e, he, hb, hon⟩ := binds?_mem hc
        have hD := hdep e he hb
        rw [hon] at hD
        have hgi : (G.take k)[i]? = some G[i] := by
          rw [List.getElem?_take_of_lt hik]
          exact List.getElem?_eq_getElem hil
        simp only [hgi]
        have hts : t < a.tmps.size := by
          rw [hK.size]
          have := ((drawB_op hB hoi).1 t hdi).1
          simpa [hsz] using this
        exact hK.new i oi t G[i].holds hoi hdi hD ((hsG i _).2 ⟨G[i], List.getElem?_eq_getElem hil, rfl⟩) hts
      · rw [if_neg hik] at hc
        have hgi : (G.take k)[i]? = none := List.getElem?_eq_none (by simp; omega)
        simp only [hgi]
        refine hK.old t fun j oj hoj hd => ?_
        have hji : j = i := by
          have := ((drawB_op hB hoj).1 t hd).2
          rw [hT] at this
          exact (Option.some.inj this).symm
        subst hji
        have hks : k < D.size := by rw [hK.listed]; exact (Array.getElem?_eq_some_iff.1 ho).1
        have hkf : D.getD k false = false := by
          simpa [Array.getD_eq_getD_getElem?, hks] using hun
        rcases hc with rfl | ⟨p, hp, hb⟩
        · exact hkf
        · obtain rfl : p = oj := Option.some.inj (hp.symm.trans hoj)
          obtain ⟨e, he, hb2, hon⟩ := binds?_mem hb
          cases hDj : D.getD j false with
          | false => rfl
          | true =>
            have := hK.closed j p hoj hDj e he hb2
            rw [hon, hkf] at this
            cases this
  · intro D a w1 hall hK hS
    have hold : ∀ s, T.getD s none = none → a.tmps.getD s undef = (vs.toArray).getD s undef := fun s hs => hK.old s fun j oj hoj hd => by
      have := ((drawB_op hB hoj).1 s hd).2
      rw [hs] at this
      cases this
    have hnew : ∀ (s j : Nat) (f : Prd), T.getD s none = some j → G[j]? = some f → f.holds (a.tmps.getD s undef) w1 := fun s j f hs hf => by
      obtain ⟨oj, hoj, hd⟩ := drawB_slot hB hs
      have hjs : j < l.toArray.size := (Array.getElem?_eq_some_iff.1 hoj).1
      have hD := hall j hjs
      have hD' : D.getD j false = true := by
        have : j < D.size := by rw [hK.listed]; exact hjs
        simpa [Array.getD_eq_getD_getElem?, this] using hD
      refine hK.new j oj s f.holds hoj hd hD' ((hsG j _).2 ⟨f, hf, rfl⟩) ?_
      rw [hK.size]
      have := ((drawB_op hB hoj).1 s hd).1
      simpa [hsz] using this
    have hasz : a.tmps.size = vs.length := by rw [hK.size]; simp
    have key := frame_eq (a0 := { tmps := vs.toArray, defers := ds }) G a w1 hB (by simp [hlen]) (by simpa using hsz) hold hnew T vs a.tmps.toList 0 hsz.symm (by simpa using hasz)
      (fun k => by
        rcases Nat.lt_or_ge k T.length with h1 | h1
        · exact .inl (by simp)
        · exact .inr h1)
      (fun k hk => by simp [Array.getD_eq_getD_getElem?, List.getD_eq_getElem?_getD])
      (fun k hk => by simp [Array.getD_eq_getD_getElem?, List.getD_eq_getElem?_getD])
    have hw : Stp w w1 := ⟨hS.os, hS.tape, hS.output, hS.size, hS.block⟩
    have := hE (fun s => a.tmps.getD s undef) w1 hw key.2
    rw [← key.1] at this
    have ha : a = { tmps := a.tmps.toList.toArray, defers := ds } := by
      have hd := hK.defers
      cases a
      simp at hd
      simp [hd]
    rw [ha]
    exact this
  · show left _ ≤ _
    unfold left
    have : (Array.replicate l.toArray.size false).toList.count false ≤ l.toArray.size := by
      refine Nat.le_trans List.count_le_length ?_
      simp
    exact this
  · refine ⟨rfl, rfl, by simp, ?_, fun _ _ => rfl, ?_⟩
    · intro j o ho hj
      rw [Array.getD_eq_getD_getElem?, Array.getElem?_replicate] at hj
      split at hj <;> simp at hj
    · intro j o s f ho hd hj
      rw [Array.getD_eq_getD_getElem?, Array.getElem?_replicate] at hj
      split at hj <;> simp at hj

theorem dwalk_is {E : List Prd → Prop} {o : Oper} {rest : List Oper} {F : List Prd} {u : Value} (h : obliged P ops T a0 w0 F o (Prd.is u)) (k : dwalk P ops T a0 w0 E rest (F ++ [Prd.is u])) : dwalk P ops T a0 w0 E (o :: rest) F :=
  ⟨Prd.is u, Prd.is_ok u, h, k⟩
theorem dwalk_one {E : List Prd → Prop} {o : Oper} {rest : List Oper} {F : List Prd} (φ : Value → World → Prop) (hst : Stable φ) (h : obliged P ops T a0 w0 F o (Prd.one φ)) (k : dwalk P ops T a0 w0 E rest (F ++ [Prd.one φ])) : dwalk P ops T a0 w0 E (o :: rest) F :=
  ⟨Prd.one φ, Prd.one_ok hst, h, k⟩
theorem dwalk_end {E : List Prd → Prop} {F : List Prd} (h : E F) : dwalk P ops T a0 w0 E [] F := h

theorem yielded_eq {a : Act} {g s : Nat} {b : Bool} (hs : (ops[g]?).bind (·.dst) = some s) (h : a.eval (.tmp s) = .bool b) : yielded ops a.tmps g = some b := by
  have h' : a.tmps.getD s undef = .bool b := h
  unfold yielded
  rw [hs]
  simp only [Option.bind_some]
  rcases Nat.lt_or_ge s a.tmps.size with h1 | h1
  · rw [Array.getD_eq_getD_getElem?, Array.getElem?_eq_getElem h1, Option.getD_some] at h'
    rw [Array.getElem?_eq_getElem h1, h']
  · rw [Array.getD_eq_getD_getElem?, Array.getElem?_eq_none h1] at h'
    cases h'

theorem good_plain {o : Oper} {a : Act} {w : World} {f : Value → World → Prop} (hg : o.guard = none) (h : Good P f w ((execOp a.eval o).run P w)) :
    if Region.wanted o (yielded ops a.tmps) then Good P f w ((execOp a.eval o).run P w) else f undef w := by
  rw [if_pos (by simp [Region.wanted, hg])]
  exact h
theorem good_wanted {o : Oper} {a : Act} {w : World} {f : Value → World → Prop} {g s : Nat} {b : Bool} (hg : o.guard = some (g, b)) (hs : (ops[g]?).bind (·.dst) = some s) (hb : a.eval (.tmp s) = .bool b)
    (h : Good P f w ((execOp a.eval o).run P w)) : if Region.wanted o (yielded ops a.tmps) then Good P f w ((execOp a.eval o).run P w) else f undef w := by
  rw [if_pos (by simp [Region.wanted, hg, yielded_eq hs hb])]
  exact h
theorem good_unwanted {o : Oper} {a : Act} {w : World} {f : Value → World → Prop} {g s : Nat} {b : Bool} (hg : o.guard = some (g, b)) (hs : (ops[g]?).bind (·.dst) = some s) (hb : a.eval (.tmp s) = .bool (!b))
    (h : f undef w) : if Region.wanted o (yielded ops a.tmps) then Good P f w ((execOp a.eval o).run P w) else f undef w := by
  rw [if_neg (by simp [Region.wanted, hg, yielded_eq hs hb])]
  exact h
theorem good_value {w w' : World} {f : Value → World → Prop} {v : Value} {r : Result Next} (hr : r = .ok (.value v) w') (h : f v w') (hs : Stp w w') : Good P f w r := by
  subst hr; exact ⟨h, hs⟩
theorem good_enter {w : World} {f : Value → World → Prop} {g : FuncId} {args : Array Value} {r : Result Next} (hr : r = .ok (.enter g args) w) (h : Calls P g args w (fun e w'' => ∃ v, e = .returned v ∧ f v w'' ∧ Stp w w'')) : Good P f w r := by
  subst hr; exact ⟨Stp.refl _, h⟩
end
end Go.Proofs.Ytlmodgdglejlpaa
