/- Code on plain data, in the order of the text; calls whose rows are the caller's. -/
import Derived.Test.YtedcnbkhdkchoaaL
namespace Go.Proofs.Ytedcnbkhdkchoaa
open Go.RowKit
set_option linter.unusedVariables false
set_option linter.unusedSimpArgs false

/-- What a slot holds behind an operation that was passed over. -/
def undefD : D := .data (.tup [])
def stepSt (s : St) (o : Oper) (d : D) (u : List (Nat × Blk)) : St := ⟨Env.dst s.env o.dst d, Hp.upd s.hp u, s.nx + 1, s.lo, s.nt⟩
def dstOk (o : Oper) (nt : Nat) : Bool := match o.dst with
  | some t => decide (t < nt)
  | none => true
/-- Does an operation's guard let it by? -/
def wantedD (ops : Array Oper) (e : Nat → D) (o : Oper) : Option Bool := match o.guard with
  | none => some true
  | some (j, want) => match (ops[j]?).bind (·.dst) with
    | some t => (match e t with
      | .data (.bool b) => some (b == want)
      | .data (.tup []) => some false
      | _ => none)
    | none => some false

/-- A call that runs on the caller's own numbered rows. -/
def DC (P : Program) (Γ : Nat → Option (List Data)) (f : FuncId) (ds : List D) (H : Nat → Blk) (nx : Nat) (K : D → (Nat → Blk) → Nat → Prop) : Prop :=
  CallOk P f ∧ ∀ (L0 : Nat → Prop) (w0 : World) (m : Nat → MB) (w : World) (vs : Array Value), WR Γ L0 w0 m H w → (∀ g, nx ≤ g → m g = .res) → (∀ g, nx ≤ g → H g = .dead) → ds.length = vs.size → (∀ (i : Nat) (d : D) (v : Value), ds[i]? = some d → vs[i]? = some v → VV (Live L0 m H) w m d v) →
    Calls P f vs w fun e w' => ∃ v d H' nx' m', e = .returned v ∧ WR Γ L0 w0 m' H' w' ∧ VV (Live L0 m' H') w' m' d v ∧ Grow (Live L0 m H) w (Live L0 m' H') w' ∧ (∀ g, g < nx → m' g = m g) ∧ (∀ g, nx' ≤ g → m' g = .res) ∧ nx ≤ nx' ∧ K d H' nx'

def dcK (P : Program) (Γ : Nat → Option (List Data)) (o : Oper) (e : Nat → D) (H : Nat → Blk) (nx : Nat) (K : D → (Nat → Blk) → Nat → Prop) : Prop := match o.op with
  | .call c => (match c.callee with
    | .value x => (match fnD (evalD Γ e x) with
      | some (f, pre, caps) => DC P Γ f (pre ++ (c.args.toList.map (evalD Γ e) ++ caps)) H nx K
      | none => False)
    | _ => False)
  | .next it false => (match evalD Γ e it with
    | .iref g => (match H g with
      | .obj (.it ks xs left _) => (left = [] → K (.data (.tup [.bool false])) (Hp.upd H []) (nx + 1)) ∧
          ∀ i k x, i ∈ left → ks[i]? = some k → xs[i]? = some x → K (.data (.tup [.bool true, k, x])) (Hp.upd H [(g, .obj (.it ks xs (left.filter (· != i)) (some i)))]) (nx + 1)
      | _ => False)
    | _ => False)
  | .binOp .eql t x (.const (.slice none 0 0)) _ => (sliceT P t).isSome = true ∧ (match evalD Γ e x with
    | .data (.sl _ l) => ∀ b : Bool, (b = true → l = []) → K (.data (.bool b)) (Hp.upd H []) (nx + 1)
    | .ref _ _ len _ => ∀ b : Bool, (b = true → len = 0) → K (.data (.bool b)) (Hp.upd H []) (nx + 1)
    | .emp _ => ∀ b : Bool, K (.data (.bool b)) (Hp.upd H []) (nx + 1)
    | _ => False)
  | _ => False
/-- It may be a call whose rows are the caller's; or it goes on in more than one way. -/
def isCall (o : Oper) : Bool := match o.op with
  | .call c => (match c.callee with
    | .value _ => true
    | _ => false)
  | .next _ false => true
  | .binOp .eql _ _ (.const (.slice none 0 0)) _ => true
  | _ => false

/-- One or the other. -/
def ifW (b : Bool) (x y : Prop) : Prop := match b with
  | true => x
  | false => y

section
variable (P : Program) (Γ : Nat → Option (List Data))
/-- Operations one after the other. -/
def opsW (ops : Array Oper) : List Oper → St → (St → Prop) → Prop
  | [], s, K => K s
  | o :: rest, s, K => dstOk o s.nt = true ∧ (match wantedD ops s.env o with
    | some b => ifW b (ifW (isCall o)
        ((opK P Γ o s.env s.hp s.nx fun d _ u => opsW ops rest (stepSt s o d u) K) ∨ dcK P Γ o s.env s.hp s.nx fun d H' nx' => opsW ops rest ⟨Env.dst s.env o.dst d, H', nx', s.lo, s.nt⟩ K)
        (opK P Γ o s.env s.hp s.nx fun d _ u => opsW ops rest (stepSt s o d u) K)) (opsW ops rest (stepSt s o undefD []) K)
    | none => False)
end

section
variable {P : Program} {Γ : Nat → Option (List Data)} {L0 : Nat → Prop} {w0 : World}

theorem dst_get {a : Act} {e : Nat → D} {dst : Option Nat} {d : D} {v : Value} {L : Nat → Prop} {w : World} {m : Nat → MB} (hd : ∀ t, dst = some t → t < a.tmps.size) (hv : VV L w m d v) (h : ∀ t, VV L w m (e t) (a.tmps.getD t undef)) (t : Nat) :
    VV L w m (Env.dst e dst d t) ((a.put dst v).tmps.getD t undef) := by
  cases dst with
  | none => exact h t
  | some q =>
    have hq := hd q rfl
    by_cases e1 : t = q
    · subst e1
      have h1 : (a.put (some t) v).tmps.getD t undef = v := by simp [Act.put, hq]
      have h2 : Env.dst e (some t) d t = d := by simp [Env.dst, Env.set]
      rw [h1, h2]; exact hv
    · have h1 : (a.put (some q) v).tmps.getD t undef = a.tmps.getD t undef := by
        simp [Act.put, Array.getElem?_setIfInBounds_ne (Ne.symm e1)]
      have h2 : Env.dst e (some q) d t = e t := by simp [Env.dst, Env.set, e1]
      rw [h1, h2]; exact h t

/-- What stays of the numbers of before. -/
structure Ext (L0 : Nat → Prop) (m : Nat → MB) (s : St) (w : World) (m' : Nat → MB) (s' : St) (w' : World) : Prop where
  grow : Grow (Live L0 m s.hp) w (Live L0 m' s'.hp) w'
  keep : ∀ g, g < s.lo → m' g = m g
  lo : s'.lo = s.lo
  nt : s'.nt = s.nt
theorem Ext.refl (L0 : Nat → Prop) (m : Nat → MB) (s : St) (w : World) : Ext L0 m s w m s w := ⟨Grow.refl _ _, fun _ _ => rfl, rfl, rfl⟩
theorem Ext.trans {m m' m'' : Nat → MB} {s s' s'' : St} {w w' w'' : World} (h : Ext L0 m s w m' s' w') (k : Ext L0 m' s' w' m'' s'' w'') : Ext L0 m s w m'' s'' w'' :=
  ⟨h.grow.trans k.grow, fun g hg => (k.keep g (by rw [h.lo]; exact hg)).trans (h.keep g hg), k.lo.trans h.lo, k.nt.trans h.nt⟩

theorem put_slots (a : Act) (dst : Option Nat) (v : Value) : (a.put dst v).tmps.size = a.tmps.size := by cases dst <;> simp [Act.put]

theorem WR.none {m : Nat → MB} {H : Nat → Blk} {w : World} (h : WR Γ L0 w0 m H w) {g : Nat} (hg : m g = .res) : H g = .dead := by
  cases hb : H g with
  | dead => rfl
  | blk rw cells =>
    rcases h.heap.blk g rw cells hb with ⟨k, _⟩ | ⟨_, _, _, _, k, _⟩
    · rw [hg] at k; cases k
    · rw [hg] at k; cases k
  | obj o =>
    obtain ⟨_, _, k, _⟩ := h.heap.obj g o hb
    rw [hg] at k; cases k

theorem After.drew {fr : Nat} {m : Nat → MB} {H : Nat → Blk} {w : World} {d : D} {u : List (Nat × Blk)} {v : Value} {w' : World} (h : After Γ L0 w0 fr H m w.drew d u v w') : After Γ L0 w0 fr H m w d u v w' := by
  obtain ⟨m', h1, h2, h3, h4⟩ := h
  exact ⟨m', h1, h2, ⟨h3.size, fun b hb hL => h3.keep b hb hL⟩, h4⟩

/-- What comes next of a map. -/
theorem next_ok {m : Nat → MB} {H : Nat → Blk} {w : World} {fr g : Nat} {ks xs : List Data} {left : List Nat} {cur : Option Nat} {v : Value} {ty : TypeId} {K : D → (Nat → Blk) → Prop} (h : WR Γ L0 w0 m H w) (hg : H g = .obj (.it ks xs left cur)) (hv : VV (Live L0 m H) w m (.iref g) v)
    (h0 : left = [] → K (.data (.tup [.bool false])) (Hp.upd H [])) (h1 : ∀ i k x, i ∈ left → ks[i]? = some k → xs[i]? = some x → K (.data (.tup [.bool true, k, x])) (Hp.upd H [(g, .obj (.it ks xs (left.filter (· != i)) (some i)))])) :
    ∃ d u r w', K d (Hp.upd H u) ∧ (Instr.next v false ty).run P w = .ok r w' ∧ After Γ L0 w0 fr H m w d u r w' := by
  obtain ⟨b, ob, k1, k2, k3, k4⟩ := h.heap.obj g _ hg
  cases hv with
  | iref _ b' hm' =>
  rw [k1] at hm'; cases hm'
  cases k4 with
  | it _ _ _ _ bm seen hmv hleft hcur =>
  have hmv0 := hmv
  cases hmv with
  | mp _ _ _ es clock hb hL hh hkl hxl hk hx hborn hclock =>
  have hgi := run_getObj_any (P := P) k3 (fun vs ty fz e => by cases e)
  have hgm := MapKept.run_getObj_map (P := P) hh
  have hold : (es.filter fun e => !seen.contains e.born).filter (fun e => decide (e.born < ks.length)) = es.filter fun e => !seen.contains e.born := by
    rw [Array.filter_eq_self]
    intro e he
    obtain ⟨i, hi, hie⟩ := Array.mem_iff_getElem.1 (Array.mem_filter.1 he).1
    have := hborn i e (by rw [← hie]; exact Array.getElem?_eq_getElem hi)
    simp; omega
  have hnew : (es.filter fun e => !seen.contains e.born).filter (fun e => decide (ks.length ≤ e.born)) = #[] := by
    rw [Array.filter_eq_empty_iff]
    intro e he
    obtain ⟨i, hi, hie⟩ := Array.mem_iff_getElem.1 (Array.mem_filter.1 he).1
    have := hborn i e (by rw [← hie]; exact Array.getElem?_eq_getElem hi)
    simp; omega
  have hnot : (!seen.isEmpty && !es.isEmpty && es.all (fun e => decide (ks.length ≤ e.born))) = false := by
    by_cases he : es = #[]
    · subst he; simp
    · have hpos : 0 < es.size := by
        rcases Nat.eq_zero_or_pos es.size with q | q
        · exact absurd (Array.eq_empty_of_size_eq_zero q) he
        · exact q
      have : es.all (fun e => decide (ks.length ≤ e.born)) = false := by
        rw [Bool.eq_false_iff]
        intro hall
        rw [Array.all_eq_true] at hall
        have h2 := hall 0 hpos
        have h3 := hborn 0 es[0] (Array.getElem?_eq_getElem hpos)
        simp only [decide_eq_true_eq] at h2
        omega
      simp [this]
  generalize hcand : (es.filter fun e => !seen.contains e.born) = rest at hold hnew
  have hstep : ∀ (c : Nat) (w1 : World), w1.heap = w.heap → ((if rest.isEmpty then #[none] else #[]) ++ rest.map some : Array (Option MapEntry))[c]? = some none → left = [] := by
    intro c w1 _ hc
    have hre : rest = #[] := by
      by_cases he : rest = #[]
      · exact he
      · have : rest.isEmpty = false := by simpa using he
        rw [this] at hc
        simp at hc
    rw [hre] at hcand
    rw [Array.filter_eq_empty_iff] at hcand
    apply List.eq_nil_iff_forall_not_mem.2
    intro i hi
    obtain ⟨q1, q2⟩ := (hleft i).1 hi
    have hlt : i < es.size := by omega
    have := hcand es[i] (Array.getElem_mem hlt)
    rw [hborn i es[i] (Array.getElem?_eq_getElem hlt)] at this
    simp at this
    exact q2 this
  have hsome : ∀ (c : Nat) (e : MapEntry), ((if rest.isEmpty then #[none] else #[]) ++ rest.map some : Array (Option MapEntry))[c]? = some (some e) → ∃ i, es[i]? = some e ∧ e.born = i ∧ i ∈ left := by
    intro c e hc
    have hmem : e ∈ rest := by
      have := Array.mem_of_getElem? hc
      simp only [Array.mem_append, Array.mem_map] at this
      rcases this with q | ⟨y, hy, e2⟩
      · split at q <;> simp at q
      · cases e2; exact hy
    rw [← hcand] at hmem
    obtain ⟨q1, q2⟩ := Array.mem_filter.1 hmem
    obtain ⟨i, hi, hie⟩ := Array.mem_iff_getElem.1 q1
    have hei : es[i]? = some e := by rw [← hie]; exact Array.getElem?_eq_getElem hi
    have hbi := hborn i e hei
    refine ⟨i, hei, hbi, (hleft i).2 ⟨by omega, ?_⟩⟩
    rw [hbi] at q2
    simpa using q2
  have hsize : 0 < ((if rest.isEmpty then #[none] else #[]) ++ rest.map some : Array (Option MapEntry)).size := by
    by_cases he : rest = #[]
    · subst he; simp
    · have : 0 < rest.size := by
        rcases Nat.eq_zero_or_pos rest.size with q | q
        · exact absurd (Array.eq_empty_of_size_eq_zero q) he
        · exact q
      simp; omega
  generalize hcs : ((if rest.isEmpty then #[none] else #[]) ++ rest.map some : Array (Option MapEntry)) = cands at *
  -- what was drawn
  have hdraw : ∃ c w1, c < cands.size ∧ (choose (.mapNext cands.size)).run P w = .ok c w1 ∧ (w1 = w ∨ w1 = w.drew) := by
    by_cases hf : cands.size ≤ 1
    · exact ⟨0, w, hsize, by simp [choose, Sem.run, Question.forced, hf], .inl rfl⟩
    · exact ⟨w.tape w.drawn (.mapNext cands.size) % cands.size, w.drew, Nat.mod_lt _ hsize, by simp only [choose, Sem.run]; rw [if_neg (by simp [Question.forced, hf])]; rfl, .inr rfl⟩
  obtain ⟨c, w1, hc, hrun, hw1⟩ := hdraw
  have hwr1 : WR Γ L0 w0 m H w1 := by
    rcases hw1 with e | e
    · rw [e]; exact h
    · rw [e]; exact h.drew
  have back : ∀ {d u r w'}, After Γ L0 w0 fr H m w1 d u r w' → After Γ L0 w0 fr H m w d u r w' := fun ha => by
    rcases hw1 with e | e
    · rw [e] at ha; exact ha
    · rw [e] at ha; exact ha.drew
  have hheap : w1.heap = w.heap := by rcases hw1 with e | e <;> rw [e] <;> rfl
  have hcell := Array.getElem?_eq_getElem hc
  cases hce : cands[c] with
  | none =>
    rw [hce] at hcell
    have hl := hstep c w1 hheap hcell
    refine ⟨_, [], .tuple #[.bool false], w1, h0 hl, ?_, back (After.pure hwr1 (.data _ _ (.tup _ _ rfl fun i y u hy hu => ?_)))⟩
    · simp only [Instr.next, Sem.run_bind, hgi, Result.andThen_ok, hgm, ge_iff_le, hnot, Bool.false_eq_true, if_false, hcand, hold, hnew, Array.append_empty, hcs, hrun, hcell, Sem.run_pure]
    · match i with
      | 0 => simp at hy hu; subst hy; subst hu; exact .bool false
      | i + 1 => simp at hy
  | some e =>
    rw [hce] at hcell
    obtain ⟨i, hei, hbi, hil⟩ := hsome c e hcell
    have hlt : i < es.size := (Array.getElem?_eq_some_iff.1 hei).1
    have hki := List.getElem?_eq_getElem (l := ks) (show i < ks.length by omega)
    have hxi := List.getElem?_eq_getElem (l := xs) (show i < xs.length by omega)
    have hob : ObIs (Live L0 m H) w1 m (.it ks xs (left.filter (· != i)) (some i)) (.mapIter (some bm) ks.length (seen.push i) ks.length) := by
      refine .it ks xs _ _ bm (seen.push i) ?_ (fun j => ?_) (fun j hj => ?_)
      · exact hmv0.mono ⟨by rw [hheap]; exact Nat.le_refl _, fun b hb hL => ⟨by rw [hheap], hL⟩⟩
      · rw [List.mem_filter, hleft j]
        simp only [bne_iff_ne, ne_eq, Array.mem_push, not_or]
        constructor
        · rintro ⟨⟨a, b⟩, c⟩; exact ⟨a, b, c⟩
        · rintro ⟨a, b, c⟩; exact ⟨⟨a, b⟩, c⟩
      · cases hj; exact ⟨by simp, by omega⟩
    obtain ⟨w', hw', haf⟩ := set_obj (fr := fr) hwr1 hg k1 (by rw [hheap]; exact k3) hob
    refine ⟨_, _, .tuple #[.bool true, e.key, e.val], w', h1 i _ _ hil hki hxi, ?_, back (haf _ _ fun L' w2 m' hgr _ => .data _ _ (.tup _ _ rfl fun j y u hy hu => ?_))⟩
    · have hset : (setObj b (.mapIter (some bm) ks.length (seen.push e.born) clock)).run P w1 = .ok () w' := by
        rw [hw', hbi, hclock, ← hkl]
        simp [setObj, Sem.run, hheap, k3]
      simp only [Instr.next, Sem.run_bind, hgi, Result.andThen_ok, hgm, ge_iff_le, hnot, Bool.false_eq_true, if_false, hcand, hold, hnew, Array.append_empty, hcs, hrun, hcell, Sem.run_pure, hset]
    · have hg2 : Grow (Live L0 m H) w L' w2 := ⟨by rw [← hheap]; exact hgr.size, fun b hb hL => by rw [← hheap]; exact hgr.keep b (by rw [hheap]; exact hb) hL⟩
      match j with
      | 0 => simp at hy hu; subst hy; subst hu; exact .bool true
      | 1 => simp at hy hu; subst hy; subst hu; exact (hk i _ e hki hei).mono hg2
      | 2 => simp at hy hu; subst hy; subst hu; exact (hx i _ e hxi hei).mono hg2
      | j + 3 => simp at hy

/-- Is a row none? -/
theorem isnil_ok {m : Nat → MB} {H : Nat → Blk} {w : World} {t : TypeId} {v : Value} {a : Option Addr} {n c : Nat} (ox oy : Operand) (ht : (sliceT P t).isSome = true) (hv : v = .slice a n c) :
    (do eqGuard .eql t ox oy v (.slice none 0 0); binOp .eql t v (.slice none 0 0) : Sem Value).run P w = .ok (.bool a.isNone) w := by
  obtain ⟨e, he⟩ := Option.isSome_iff_exists.1 ht
  have hu := und_slice P he
  subst hv
  have heq : ∀ d, (Op.equalIn (d + 1) t (.slice a n c) (.slice none 0 0)).run P w = .ok a.isNone w := fun d => by
    cases a <;> simp [Op.equalIn, run_underlying hu]
  have h2 : (Op.equal t (.slice a n c) (.slice none 0 0)).run P w = .ok a.isNone w := heq _
  cases a <;> simp [eqGuard, binOp, h2]

/-- A step of one operation. -/
theorem step_rel {m : Nat → MB} {s : St} {a : Act} {w : World} {o : Oper} {d : D} {u : List (Nat × Blk)} {v : Value} {w' : World} (h : Rel Γ L0 w0 m s a w) (hd : dstOk o s.nt = true) (ha : After Γ L0 w0 s.nx s.hp m w d u v w') :
    ∃ m', Rel Γ L0 w0 m' (stepSt s o d u) (a.put o.dst v) w' ∧ Ext L0 m s w m' (stepSt s o d u) w' := by
  obtain ⟨m', h1, h2, h3, h4⟩ := ha
  have hmr : ∀ g, m g ≠ .res → m' g = m g := fun g hg => h4 g fun e => hg (by rw [e]; exact h.res _ (Nat.le_refl _))
  have hres : ∀ g, s.nx + 1 ≤ g → m' g = .res := fun g hg => by rw [h4 g (by omega)]; exact h.res g (by omega)
  refine ⟨m', ⟨?_, ?_, h1.heap, hres, ?_, h1.below, h1.l0, h1.glob, ?_, ?_⟩, h3, fun g hg => h4 g (by have := h.lo; omega), rfl, rfl⟩
  · have : (a.put o.dst v).defers = a.defers := by cases o.dst <;> rfl
    rw [this]; exact h.defers
  · intro t
    refine dst_get (fun t ht => ?_) h2 (fun t => (h.vals t).mono h3 hmr) t
    rw [h.slots]
    simpa [dstOk, ht] using hd
  · intro g hg
    exact h1.none (hres g hg)
  · exact Nat.le_succ_of_le h.lo
  · rw [put_slots]; exact h.slots

theorem wanted_ok {ops : Array Oper} {e : Nat → D} {a : Act} {L : Nat → Prop} {w : World} {m : Nat → MB} {o : Oper} {b : Bool} (h : ∀ t, VV L w m (e t) (a.tmps.getD t undef)) (hw : wantedD ops e o = some b) : Region.wanted o (yielded ops a.tmps) = b := by
  unfold wantedD at hw
  unfold Region.wanted
  cases hg : o.guard with
  | none => rw [hg] at hw; simpa using hw
  | some jw =>
    obtain ⟨j, want⟩ := jw
    rw [hg] at hw
    simp only at hw ⊢
    unfold yielded
    cases hj : (ops[j]?).bind (·.dst) with
    | none => rw [hj] at hw; simp only [Option.some.injEq] at hw; subst hw; simp
    | some t =>
      rw [hj] at hw
      simp only at hw
      have ht := h t
      simp only [Option.bind_some]
      split at hw
      · rename_i b' hb
        rw [hb] at ht
        have := ht.data_inv
        generalize hv : a.tmps.getD t undef = v at this
        cases this
        have hlt : a.tmps[t]? = some (.bool b') := by
          rcases Nat.lt_or_ge t a.tmps.size with h1 | h1
          · simp [h1] at hv; simp [h1, hv]
          · simp [Array.getElem?_eq_none h1, undef] at hv
        rw [hlt]
        simp only [Option.some.injEq] at hw
        subst hw
        simp
      · rename_i hb
        rw [hb] at ht
        have := ht.data_inv
        generalize hv : a.tmps.getD t undef = v at this
        cases this with
        | tup _ vs hl _ =>
        simp only [Option.some.injEq] at hw
        subst hw
        cases hq : a.tmps[t]? with
        | none => simp
        | some x =>
          have : x = .tuple vs := by simpa [hq] using hv
          subst this
          simp
      · cases hw

theorem undef_ok (L : Nat → Prop) (w : World) (m : Nat → MB) : VV L w m undefD undef := .data _ _ (.tup [] #[] rfl (fun i x v hx => by simp at hx))

/-- A call on the caller's own numbered rows. -/
theorem dc_step {m : Nat → MB} {s : St} {a : Act} {w : World} {o : Oper} {K : St → Prop} {next : Act → World → Prop} {Q : Exit → Act → World → Prop} (h : Rel Γ L0 w0 m s a w) (hd : dstOk o s.nt = true)
    (hk : dcK P Γ o s.env s.hp s.nx fun d H' nx' => K ⟨Env.dst s.env o.dst d, H', nx', s.lo, s.nt⟩)
    (hn : ∀ m' s' a' w', Rel Γ L0 w0 m' s' a' w' → Ext L0 m s w m' s' w' → K s' → next a' w') : o.wp P a w next Q := by
  obtain ⟨dst, op, type, pos, after, guard⟩ := o
  unfold dcK at hk
  have viaAfter : ∀ (hr : Runs P ⟨dst, op, type, pos, after, guard⟩ a w fun v w' => ∃ d u, K ⟨Env.dst s.env dst d, Hp.upd s.hp u, s.nx + 1, s.lo, s.nt⟩ ∧ After Γ L0 w0 s.nx s.hp m w d u v w'), Oper.wp P ⟨dst, op, type, pos, after, guard⟩ a w next Q := fun hr => by
    refine hr.wp fun v w' ⟨d, u, hK, ha⟩ => ?_
    obtain ⟨m', h1, h2⟩ := step_rel h hd ha
    exact hn m' _ _ _ h1 h2 hK
  have hρ : ∀ x, VV (Live L0 m s.hp) w m (evalD Γ s.env x) (a.eval x) := fun x => eval_ok h.glob h.vals x
  cases op <;> simp only at hk
  case next it isStr =>
    split at hk
    · rename_i heq; cases heq
    · rename_i it' heq
      cases heq
      split at hk
      · rename_i g hx
        have hxv := hρ it
        rw [hx] at hxv
        split at hk
        · rename_i ks xs left cur hg
          obtain ⟨d, u, r, w', q1, q2, q3⟩ := next_ok (P := P) (fr := s.nx) (ty := type) (K := fun d H' => K ⟨Env.dst s.env dst d, H', s.nx + 1, s.lo, s.nt⟩) h.wr hg hxv hk.1 hk.2
          exact viaAfter (.inl ⟨r, w', by simp [execOp, q2], d, u, q1, q3⟩)
        · exact hk.elim
      · exact hk.elim
    all_goals first | exact hk.elim | (rename_i heq; cases heq)
  case binOp op t x y yt =>
    split at hk
    · rename_i heq; cases heq
    · rename_i heq; cases heq
    · rename_i t' x' yt' heq
      cases heq
      obtain ⟨ht, hk⟩ := hk
      have hxv := hρ x
      have fin : ∀ (q : Option Addr) (n c : Nat), a.eval x = .slice q n c → K ⟨Env.dst s.env dst (.data (.bool q.isNone)), Hp.upd s.hp [], s.nx + 1, s.lo, s.nt⟩ → Oper.wp P ⟨dst, .binOp .eql t x (.const (.slice none 0 0)) yt, type, pos, after, guard⟩ a w next Q := fun q n c hv hK =>
        viaAfter (.inl ⟨.bool q.isNone, w, by
          have := isnil_ok (P := P) (m := m) (H := s.hp) (w := w) (t := t) (v := a.eval x) (a := q) (n := n) (c := c) x (.const (.slice none 0 0)) ht hv
          simp only [execOp, Act.eval]
          simp only [Act.eval] at this
          rw [Sem.run_bind, this]; rfl, _, [], hK, After.pure h.wr (.data _ _ (.bool _))⟩)
      split at hk
      · rename_i es l hx
        rw [hx] at hxv
        have hxv := hxv.data_inv
        generalize hce : a.eval x = vx at hxv
        cases hxv with
        | sl _ _ q n cap b off vs hn hle hm hes ha hc hv =>
        refine fin q n cap hce (hk _ fun hq => ?_)
        rcases ha with ⟨rfl, _⟩ | h0
        · cases hq
        · exact h0
      · rename_i g off len es hx
        rw [hx] at hxv
        generalize hce : a.eval x = vx at hxv
        cases hxv with
        | ref _ _ _ _ b sz cap o j1 j2 j3 j4 j5 => exact fin _ _ _ hce (hk _ fun hq => by cases hq)
        | ref0 _ _ q j1 => exact fin _ _ _ hce (hk _ fun hq => rfl)
      · rename_i es hx
        rw [hx] at hxv
        generalize hce : a.eval x = vx at hxv
        cases hxv with
        | emp _ q => exact fin _ _ _ hce (hk _)
      · exact hk.elim
    · exact hk.elim
  case call c =>
    obtain ⟨callee, args, argTypes⟩ := c
    cases callee <;> simp only at hk
    case value x =>
      split at hk
      · rename_i f pre caps hf
        obtain ⟨hcall, hk⟩ := hk
        have hρ : ∀ x, VV (Live L0 m s.hp) w m (evalD Γ s.env x) (a.eval x) := fun x => eval_ok h.glob h.vals x
        have hargs : ∀ (i : Nat) (d : D) (v : Value), (args.toList.map (evalD Γ s.env))[i]? = some d → (args.map a.eval)[i]? = some v → VV (Live L0 m s.hp) w m d v := fun i d v h1 h2 => by
          simp only [List.getElem?_map, Option.map_eq_some_iff, Array.getElem?_toList] at h1
          simp only [Array.getElem?_map, Option.map_eq_some_iff] at h2
          obtain ⟨y, hy, rfl⟩ := h1
          obtain ⟨y', hy', rfl⟩ := h2
          rw [hy] at hy'; cases hy'
          exact hρ _
        obtain ⟨pvs, cvs, hce, hpl, hpv, hcl, hch⟩ := callee_ok (hρ x) hf
        have hc := hk L0 w0 m w (pvs ++ (args.map a.eval ++ cvs)) h.wr h.res h.dead (by simp [hcl, hpl]) (args_ok hpl hpv (by simp) hargs hch)
        have hrun : (execOp a.eval ⟨dst, .call ⟨.value x, args, argTypes⟩, type, pos, after, guard⟩).run P w = .ok (.enter f (pvs ++ (args.map a.eval ++ cvs))) w := by
          simp only [execOp, resolve, Sem.run_bind, hce, Deferred.ofValue, Sem.run_pure, Result.andThen_ok, invoke]
          rw [← Array.append_assoc]
          exact hcall _ w
        unfold Oper.wp
        rw [hrun, Oper.upon_enter]
        refine hc.mono fun e w' ⟨v, d, H', nx', m', he, k1, k2, k3, k4, k5, k6, k7⟩ => ?_
        subst he
        simp only
        have hmr : ∀ g, m g ≠ .res → m' g = m g := fun g hg => k4 g (Nat.lt_of_not_le fun hle => hg (h.res g hle))
        have hrel : Rel Γ L0 w0 m' ⟨Env.dst s.env dst d, H', nx', s.lo, s.nt⟩ (a.put dst v) w' := by
          refine ⟨?_, ?_, k1.heap, k5, ?_, k1.below, k1.l0, k1.glob, Nat.le_trans h.lo k6, by rw [put_slots]; exact h.slots⟩
          · have : (a.put dst v).defers = a.defers := by cases dst <;> rfl
            rw [this]; exact h.defers
          · intro t
            refine dst_get (fun t ht => ?_) k2 (fun t => (h.vals t).mono k3 hmr) t
            rw [h.slots]
            simpa [dstOk, ht] using hd
          · intro g hg
            exact k1.none (k5 g hg)
        exact hn m' _ _ _ hrel ⟨k3, fun g hg => k4 g (Nat.lt_of_lt_of_le hg h.lo), rfl, rfl⟩ k7
      · exact hk.elim
    all_goals exact hk.elim
  all_goals exact hk.elim

/-- Operations in the order of the text keep the relation. -/
theorem ops_sound {ops : Array Oper} {Q : Exit → Act → World → Prop} {K : St → Prop} : ∀ (l : List Oper) (m : Nat → MB) (s : St) (a : Act) (w : World), Rel Γ L0 w0 m s a w → opsW P Γ ops l s K →
    (∀ m' s' a' w', Rel Γ L0 w0 m' s' a' w' → Ext L0 m s w m' s' w' → K s' → Q .normal a' w') → wpList P ops Q l a w
  | [], m, s, a, w, h, hk, hQ => hQ m s a w h (Ext.refl _ _ _ _) hk
  | o :: rest, m, s, a, w, h, hk, hQ => by
    obtain ⟨hd, hk⟩ := hk
    have viaOp : (opK P Γ o s.env s.hp s.nx fun d _ u => opsW P Γ ops rest (stepSt s o d u) K) → o.wp P a w (wpList P ops Q rest) Q := fun hk => by
      obtain ⟨d, rd, u, hk, hr⟩ := op_sound h.wr (h.res _ (Nat.le_refl _)) (h.dead _ (Nat.le_refl _)) h.vals hk
      refine hr.wp fun v w' ha => ?_
      obtain ⟨m', h1, h2⟩ := step_rel h hd ha
      exact ops_sound rest m' _ _ _ h1 hk fun m'' s' a' w'' h3 h4 h5 => hQ m'' s' a' w'' h3 (h2.trans h4) h5
    have viaDc : (dcK P Γ o s.env s.hp s.nx fun d H' nx' => opsW P Γ ops rest ⟨Env.dst s.env o.dst d, H', nx', s.lo, s.nt⟩ K) → o.wp P a w (wpList P ops Q rest) Q := fun hk =>
      dc_step h hd hk fun m' s' a' w' h1 h2 h3 => ops_sound rest m' _ _ _ h1 h3 fun m'' s' a' w'' h4 h5 h6 => hQ m'' s' a' w'' h4 (h2.trans h5) h6
    unfold wpList
    cases hw : wantedD ops s.env o with
    | none => rw [hw] at hk; exact hk.elim
    | some b =>
      rw [hw] at hk
      rw [wanted_ok h.vals hw]
      cases b with
      | true =>
        simp only [ifW] at hk
        rw [if_pos rfl]
        left
        split at hk
        · rcases hk with hk | hk
          · exact viaOp hk
          · exact viaDc hk
        · exact viaOp hk
      | false =>
        simp only [ifW] at hk
        rw [if_neg (by simp)]
        obtain ⟨m', h1, h2⟩ := step_rel (d := undefD) (u := []) (v := undef) (w' := w) h hd ⟨m, h.wr, undef_ok _ _ _, Grow.refl _ _, fun _ _ => rfl⟩
        exact ops_sound rest m' _ _ _ h1 hk fun m'' s' a' w'' h3 h4 h5 => hQ m'' s' a' w'' h3 (h2.trans h4) h5
end
end Go.Proofs.Ytedcnbkhdkchoaa
