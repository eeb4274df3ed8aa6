/- Code on plain data, in the order of the text; calls whose rows are the caller's. -/
import Derived.Test.YtlfmgellojjndaaL
namespace Go.Proofs.Ytlfmgellojjndaa
open Go.RowKit
set_option linter.unusedVariables false
set_option linter.unusedSimpArgs false

/-- What a slot holds behind an operation that was passed over. -/
def undefD : D := .data (.tup [])
def stepSt (s : St) (o : Oper) (d : D) (u : List (Nat × Blk)) : St := ⟨Env.dst s.env o.dst d, Hp.upd s.hp u, s.nx + 1, s.lo, s.nt⟩
def dstOk (o : Oper) (nt : Nat) : Bool := match o.dst with
  | some t => decide (t < nt)
  | none => true
/-- Does an operation's guard let it by? -/
def wantedD (ops : Array Oper) (e : Nat → D) (o : Oper) : Option Bool := match o.guard with
  | none => some true
  | some (j, want) => match (ops[j]?).bind (·.dst) with
    | some t => (match e t with
      | .data (.bool b) => some (b == want)
      | .data (.tup []) => some false
      | _ => none)
    | none => some false

/-- A call that runs on the caller's own numbered rows. -/
def DC (P : Program) (Γ : Nat → Option (List Data)) (f : FuncId) (ds : List D) (H : Nat → Blk) (nx : Nat) (K : D → (Nat → Blk) → Nat → Prop) : Prop :=
  CallOk P f ∧ ∀ (L0 : Nat → Prop) (w0 : World) (m : Nat → MB) (w : World) (vs : Array Value), WR Γ L0 w0 m H w → (∀ g, nx ≤ g → m g = .res) → (∀ g, nx ≤ g → H g = .dead) → ds.length = vs.size → (∀ (i : Nat) (d : D) (v : Value), ds[i]? = some d → vs[i]? = some v → VV (Live L0 m H) w m d v) →
    Calls P f vs w fun e w' => ∃ v d H' nx' m', e = .returned v ∧ WR Γ L0 w0 m' H' w' ∧ VV (Live L0 m' H') w' m' d v ∧ Grow (Live L0 m H) w (Live L0 m' H') w' ∧ (∀ g, g < nx → m' g = m g) ∧ (∀ g, nx' ≤ g → m' g = .res) ∧ nx ≤ nx' ∧ K d H' nx'

def dcK (P : Program) (Γ : Nat → Option (List Data)) (o : Oper) (e : Nat → D) (H : Nat → Blk) (nx : Nat) (K : D → (Nat → Blk) → Nat → Prop) : Prop := match o.op with
  | .call c => (match c.callee with
    | .value x => (match fnD (evalD Γ e x) with
      | some (f, caps) => DC P Γ f (c.args.toList.map (evalD Γ e) ++ caps) H nx K
      | none => False)
    | _ => False)
  | _ => False
def isCall (o : Oper) : Bool := match o.op with
  | .call c => (match c.callee with
    | .value _ => true
    | _ => false)
  | _ => false

/-- One or the other. -/
def ifW (b : Bool) (x y : Prop) : Prop := match b with
  | true => x
  | false => y

section
variable (P : Program) (Γ : Nat → Option (List Data))
/-- Operations one after the other. -/
def opsW (ops : Array Oper) : List Oper → St → (St → Prop) → Prop
  | [], s, K => K s
  | o :: rest, s, K => dstOk o s.nt = true ∧ (match wantedD ops s.env o with
    | some b => ifW b (ifW (isCall o)
        ((opK P Γ o s.env s.hp s.nx fun d _ u => opsW ops rest (stepSt s o d u) K) ∨ dcK P Γ o s.env s.hp s.nx fun d H' nx' => opsW ops rest ⟨Env.dst s.env o.dst d, H', nx', s.lo, s.nt⟩ K)
        (opK P Γ o s.env s.hp s.nx fun d _ u => opsW ops rest (stepSt s o d u) K)) (opsW ops rest (stepSt s o undefD []) K)
    | none => False)
end

section
variable {P : Program} {Γ : Nat → Option (List Data)} {L0 : Nat → Prop} {w0 : World}

theorem dst_get {a : Act} {e : Nat → D} {dst : Option Nat} {d : D} {v : Value} {L : Nat → Prop} {w : World} {m : Nat → MB} (hd : ∀ t, dst = some t → t < a.tmps.size) (hv : VV L w m d v) (h : ∀ t, VV L w m (e t) (a.tmps.getD t undef)) (t : Nat) :
    VV L w m (Env.dst e dst d t) ((a.put dst v).tmps.getD t undef) := by
  cases dst with
  | none => exact h t
  | some q =>
    have hq := hd q rfl
    by_cases e1 : t = q
    · subst e1
      have h1 : (a.put (some t) v).tmps.getD t undef = v := by simp [Act.put, hq]
      have h2 : Env.dst e (some t) d t = d := by simp [Env.dst, Env.set]
      rw [h1, h2]; exact hv
    · have h1 : (a.put (some q) v).tmps.getD t undef = a.tmps.getD t undef := by
        simp [Act.put, Array.getElem?_setIfInBounds_ne (Ne.symm e1)]
      have h2 : Env.dst e (some q) d t = e t := by simp [Env.dst, Env.set, e1]
      rw [h1, h2]; exact h t

/-- What stays of the numbers of before. -/
structure Ext (L0 : Nat → Prop) (m : Nat → MB) (s : St) (w : World) (m' : Nat → MB) (s' : St) (w' : World) : Prop where
  grow : Grow (Live L0 m s.hp) w (Live L0 m' s'.hp) w'
  keep : ∀ g, g < s.lo → m' g = m g
  lo : s'.lo = s.lo
  nt : s'.nt = s.nt
theorem Ext.refl (L0 : Nat → Prop) (m : Nat → MB) (s : St) (w : World) : Ext L0 m s w m s w := ⟨Grow.refl _ _, fun _ _ => rfl, rfl, rfl⟩
theorem Ext.trans {m m' m'' : Nat → MB} {s s' s'' : St} {w w' w'' : World} (h : Ext L0 m s w m' s' w') (k : Ext L0 m' s' w' m'' s'' w'') : Ext L0 m s w m'' s'' w'' :=
  ⟨h.grow.trans k.grow, fun g hg => (k.keep g (by rw [h.lo]; exact hg)).trans (h.keep g hg), k.lo.trans h.lo, k.nt.trans h.nt⟩

theorem put_slots (a : Act) (dst : Option Nat) (v : Value) : (a.put dst v).tmps.size = a.tmps.size := by cases dst <;> simp [Act.put]

/-- A step of one operation. -/
theorem step_rel {m : Nat → MB} {s : St} {a : Act} {w : World} {o : Oper} {d : D} {u : List (Nat × Blk)} {v : Value} {w' : World} (h : Rel Γ L0 w0 m s a w) (hd : dstOk o s.nt = true) (ha : After Γ L0 w0 s.nx s.hp m w d u v w') :
    ∃ m', Rel Γ L0 w0 m' (stepSt s o d u) (a.put o.dst v) w' ∧ Ext L0 m s w m' (stepSt s o d u) w' := by
  obtain ⟨m', h1, h2, h3, h4⟩ := ha
  have hmr : ∀ g, m g ≠ .res → m' g = m g := fun g hg => h4 g fun e => hg (by rw [e]; exact h.res _ (Nat.le_refl _))
  have hres : ∀ g, s.nx + 1 ≤ g → m' g = .res := fun g hg => by rw [h4 g (by omega)]; exact h.res g (by omega)
  refine ⟨m', ⟨?_, ?_, h1.heap, hres, ?_, h1.below, h1.l0, h1.glob, ?_, ?_⟩, h3, fun g hg => h4 g (by have := h.lo; omega), rfl, rfl⟩
  · have : (a.put o.dst v).defers = a.defers := by cases o.dst <;> rfl
    rw [this]; exact h.defers
  · intro t
    refine dst_get (fun t ht => ?_) h2 (fun t => (h.vals t).mono h3 hmr) t
    rw [h.slots]
    simpa [dstOk, ht] using hd
  · intro g hg
    cases hb : (stepSt s o d u).hp g with
    | dead => rfl
    | blk rw cells =>
      rcases h1.heap.blk g rw cells hb with ⟨k, _⟩ | ⟨_, _, _, _, k, _⟩
      · rw [hres g hg] at k; cases k
      · rw [hres g hg] at k; cases k
  · exact Nat.le_succ_of_le h.lo
  · rw [put_slots]; exact h.slots

theorem wanted_ok {ops : Array Oper} {e : Nat → D} {a : Act} {L : Nat → Prop} {w : World} {m : Nat → MB} {o : Oper} {b : Bool} (h : ∀ t, VV L w m (e t) (a.tmps.getD t undef)) (hw : wantedD ops e o = some b) : Region.wanted o (yielded ops a.tmps) = b := by
  unfold wantedD at hw
  unfold Region.wanted
  cases hg : o.guard with
  | none => rw [hg] at hw; simpa using hw
  | some jw =>
    obtain ⟨j, want⟩ := jw
    rw [hg] at hw
    simp only at hw ⊢
    unfold yielded
    cases hj : (ops[j]?).bind (·.dst) with
    | none => rw [hj] at hw; simp only [Option.some.injEq] at hw; subst hw; simp
    | some t =>
      rw [hj] at hw
      simp only at hw
      have ht := h t
      simp only [Option.bind_some]
      split at hw
      · rename_i b' hb
        rw [hb] at ht
        have := ht.data_inv
        generalize hv : a.tmps.getD t undef = v at this
        cases this
        have hlt : a.tmps[t]? = some (.bool b') := by
          rcases Nat.lt_or_ge t a.tmps.size with h1 | h1
          · simp [h1] at hv; simp [h1, hv]
          · simp [Array.getElem?_eq_none h1, undef] at hv
        rw [hlt]
        simp only [Option.some.injEq] at hw
        subst hw
        simp
      · rename_i hb
        rw [hb] at ht
        have := ht.data_inv
        generalize hv : a.tmps.getD t undef = v at this
        cases this with
        | tup _ vs hl _ =>
        simp only [Option.some.injEq] at hw
        subst hw
        cases hq : a.tmps[t]? with
        | none => simp
        | some x =>
          have : x = .tuple vs := by simpa [hq] using hv
          subst this
          simp
      · cases hw

theorem undef_ok (L : Nat → Prop) (w : World) (m : Nat → MB) : VV L w m undefD undef := .data _ _ (.tup [] #[] rfl (fun i x v hx => by simp at hx))

/-- A call on the caller's own numbered rows. -/
theorem dc_step {m : Nat → MB} {s : St} {a : Act} {w : World} {o : Oper} {K : St → Prop} {next : Act → World → Prop} {Q : Exit → Act → World → Prop} (h : Rel Γ L0 w0 m s a w) (hd : dstOk o s.nt = true)
    (hk : dcK P Γ o s.env s.hp s.nx fun d H' nx' => K ⟨Env.dst s.env o.dst d, H', nx', s.lo, s.nt⟩)
    (hn : ∀ m' s' a' w', Rel Γ L0 w0 m' s' a' w' → Ext L0 m s w m' s' w' → K s' → next a' w') : o.wp P a w next Q := by
  obtain ⟨dst, op, type, pos, after, guard⟩ := o
  unfold dcK at hk
  cases op <;> simp only at hk
  case call c =>
    obtain ⟨callee, args, argTypes⟩ := c
    cases callee <;> simp only at hk
    case value x =>
      split at hk
      · rename_i f caps hf
        obtain ⟨hcall, hk⟩ := hk
        have hρ : ∀ x, VV (Live L0 m s.hp) w m (evalD Γ s.env x) (a.eval x) := fun x => eval_ok h.glob h.vals x
        -- the function's value
        have hfv : ∃ cvs, a.eval x = .func (.func f) #[] cvs ∧ caps.length = cvs.size ∧ ∀ (i : Nat) (d : D) (v : Value), caps[i]? = some d → cvs[i]? = some v → VV (Live L0 m s.hp) w m d v := by
          have hx := hρ x
          unfold fnD at hf
          split at hf
          · rename_i f' he
            rw [he] at hx
            cases hf
            have := hx.data_inv
            generalize hce : a.eval x = vx at this
            cases this
            exact ⟨#[], rfl, rfl, fun i d v hx => by simp at hx⟩
          · rename_i f' caps' he
            rw [he] at hx
            cases hf
            generalize hce : a.eval x = vx at hx
            cases hx with
            | fn _ _ vs hl hh => exact ⟨vs, rfl, hl, hh⟩
          · cases hf
        obtain ⟨cvs, hce, hcl, hch⟩ := hfv
        have hc := hk L0 w0 m w (args.map a.eval ++ cvs) h.wr h.res h.dead (by simp [hcl]) (fun i d v h1 h2 => by
          rw [Array.getElem?_append] at h2
          rw [List.getElem?_append] at h1
          simp only [List.length_map, Array.length_toList] at h1
          split at h2
          · rename_i hlt
            simp only [Array.size_map] at hlt
            rw [if_pos hlt] at h1
            simp only [List.getElem?_map, Option.map_eq_some_iff, Array.getElem?_toList] at h1
            simp only [Array.getElem?_map, Option.map_eq_some_iff] at h2
            obtain ⟨y, hy, rfl⟩ := h1
            obtain ⟨y', hy', rfl⟩ := h2
            rw [hy] at hy'; cases hy'
            exact hρ _
          · rename_i hlt
            simp only [Array.size_map] at hlt h2
            rw [if_neg hlt] at h1
            exact hch _ d v h1 h2)
        have hrun : (execOp a.eval ⟨dst, .call ⟨.value x, args, argTypes⟩, type, pos, after, guard⟩).run P w = .ok (.enter f (args.map a.eval ++ cvs)) w := by
          simp only [execOp, resolve, Sem.run_bind, hce, Deferred.ofValue, Sem.run_pure, Result.andThen_ok, invoke]
          simp only [Array.empty_append]
          exact hcall _ w
        unfold Oper.wp
        rw [hrun, Oper.upon_enter]
        refine hc.mono fun e w' ⟨v, d, H', nx', m', he, k1, k2, k3, k4, k5, k6, k7⟩ => ?_
        subst he
        simp only
        have hmr : ∀ g, m g ≠ .res → m' g = m g := fun g hg => k4 g (Nat.lt_of_not_le fun hle => hg (h.res g hle))
        have hrel : Rel Γ L0 w0 m' ⟨Env.dst s.env dst d, H', nx', s.lo, s.nt⟩ (a.put dst v) w' := by
          refine ⟨?_, ?_, k1.heap, k5, ?_, k1.below, k1.l0, k1.glob, Nat.le_trans h.lo k6, by rw [put_slots]; exact h.slots⟩
          · have : (a.put dst v).defers = a.defers := by cases dst <;> rfl
            rw [this]; exact h.defers
          · intro t
            refine dst_get (fun t ht => ?_) k2 (fun t => (h.vals t).mono k3 hmr) t
            rw [h.slots]
            simpa [dstOk, ht] using hd
          · intro g hg
            show H' g = .dead
            cases hb : H' g with
            | dead => rfl
            | blk rw cells =>
              rcases k1.heap.blk g rw cells hb with ⟨k, _⟩ | ⟨_, _, _, _, k, _⟩
              · rw [k5 g hg] at k; cases k
              · rw [k5 g hg] at k; cases k
        exact hn m' _ _ _ hrel ⟨k3, fun g hg => k4 g (Nat.lt_of_lt_of_le hg h.lo), rfl, rfl⟩ k7
      · exact hk.elim
    all_goals exact hk.elim
  all_goals exact hk.elim

/-- Operations in the order of the text keep the relation. -/
theorem ops_sound {ops : Array Oper} {Q : Exit → Act → World → Prop} {K : St → Prop} : ∀ (l : List Oper) (m : Nat → MB) (s : St) (a : Act) (w : World), Rel Γ L0 w0 m s a w → opsW P Γ ops l s K →
    (∀ m' s' a' w', Rel Γ L0 w0 m' s' a' w' → Ext L0 m s w m' s' w' → K s' → Q .normal a' w') → wpList P ops Q l a w
  | [], m, s, a, w, h, hk, hQ => hQ m s a w h (Ext.refl _ _ _ _) hk
  | o :: rest, m, s, a, w, h, hk, hQ => by
    obtain ⟨hd, hk⟩ := hk
    have viaOp : (opK P Γ o s.env s.hp s.nx fun d _ u => opsW P Γ ops rest (stepSt s o d u) K) → o.wp P a w (wpList P ops Q rest) Q := fun hk => by
      obtain ⟨d, rd, u, hk, hr⟩ := op_sound h.wr (h.res _ (Nat.le_refl _)) (h.dead _ (Nat.le_refl _)) h.vals hk
      refine hr.wp fun v w' ha => ?_
      obtain ⟨m', h1, h2⟩ := step_rel h hd ha
      exact ops_sound rest m' _ _ _ h1 hk fun m'' s' a' w'' h3 h4 h5 => hQ m'' s' a' w'' h3 (h2.trans h4) h5
    have viaDc : (dcK P Γ o s.env s.hp s.nx fun d H' nx' => opsW P Γ ops rest ⟨Env.dst s.env o.dst d, H', nx', s.lo, s.nt⟩ K) → o.wp P a w (wpList P ops Q rest) Q := fun hk =>
      dc_step h hd hk fun m' s' a' w' h1 h2 h3 => ops_sound rest m' _ _ _ h1 h3 fun m'' s' a' w'' h4 h5 h6 => hQ m'' s' a' w'' h4 (h2.trans h5) h6
    unfold wpList
    cases hw : wantedD ops s.env o with
    | none => rw [hw] at hk; exact hk.elim
    | some b =>
      rw [hw] at hk
      rw [wanted_ok h.vals hw]
      cases b with
      | true =>
        simp only [ifW] at hk
        rw [if_pos rfl]
        left
        split at hk
        · rcases hk with hk | hk
          · exact viaOp hk
          · exact viaDc hk
        · exact viaOp hk
      | false =>
        simp only [ifW] at hk
        rw [if_neg (by simp)]
        obtain ⟨m', h1, h2⟩ := step_rel (d := undefD) (u := []) (v := undef) (w' := w) h hd ⟨m, h.wr, undef_ok _ _ _, Grow.refl _ _, fun _ _ => rfl⟩
        exact ops_sound rest m' _ _ _ h1 hk fun m'' s' a' w'' h3 h4 h5 => hQ m'' s' a' w'' h3 (h2.trans h4) h5
end
end Go.Proofs.Ytlfmgellojjndaa
