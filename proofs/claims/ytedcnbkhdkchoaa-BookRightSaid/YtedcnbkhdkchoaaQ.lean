/- Operations whose order is open: the theorem. -/
import Derived.Test.YtedcnbkhdkchoaaO
namespace Go.Proofs.Ytedcnbkhdkchoaa
open Go.RowKit
set_option linter.unusedVariables false
set_option linter.unusedSimpArgs false

section
variable {P : Program} {Γ : Nat → Option (List Data)} {L0 : Nat → Prop} {w0 : World}

/-- What the check says of two operations. -/
structure Apart (ops : Array Oper) (l : List (Oper × Res)) (an : List Nat) : Prop where
  pair : ∀ i j oi ri oj rj, i < j → l[i]? = some (oi, ri) → l[j]? = some (oj, rj) → (∀ s, oi.dst = some s → oj.dst ≠ some s) ∧ ((an.getD j 0).testBit i = true ∨
    ((∀ s, oi.dst = some s → s ∉ oj.looksAt ops) ∧ (∀ s, oj.dst = some s → s ∉ oi.looksAt ops) ∧ (∀ g ∈ ri.u.map (·.1), g ∉ rj.rd ∧ g ∉ rj.u.map (·.1)) ∧ ∀ g ∈ rj.u.map (·.1), g ∉ ri.rd))

theorem apart_of {ops : Array Oper} {rs : List Res} (hl : rs.length = ops.toList.length) (h : drawOk ops (rs.map Res.tr) = true) :
    Apart ops (ops.toList.zip rs) (ancs ops.toList []) ∧ ∀ (i : Nat) (o : Oper), ops[i]? = some o → ∀ e ∈ o.after, Region.binds .any e = true → e.on < i := by
  unfold drawOk at h
  rw [Bool.and_eq_true] at h
  obtain ⟨h1, h2⟩ := h
  obtain ⟨ha1, _⟩ := ancs_len ops.toList []
  simp only [List.length_nil, Nat.zero_add] at ha1
  refine ⟨⟨fun i j oi ri oj rj hij hi hj => ?_⟩, fun i o ho e he hb => ?_⟩
  · unfold pairsOk at h1
    rw [List.all_eq_true] at h1
    have hjl := (List.getElem?_eq_some_iff.1 hj).1
    have hzl : (ops.toList.zip ((rs.map Res.tr).zip (ancs ops.toList []))).length = ops.toList.length := by simp [hl, ha1]
    have hjl2 : j < ops.toList.length := by simp [hl] at hjl; simpa using hjl
    have h3 := h1 j (by rw [List.mem_range, hzl]; exact hjl2)
    rw [List.all_eq_true] at h3
    have h4 := h3 i (List.mem_range.2 hij)
    have zip_at : ∀ q oq rq, (ops.toList.zip rs)[q]? = some (oq, rq) → (ops.toList.zip ((rs.map Res.tr).zip (ancs ops.toList [])))[q]? = some (oq, rq.tr, (ancs ops.toList []).getD q 0) := fun q oq rq hq => by
      rw [List.getElem?_zip_eq_some] at hq ⊢
      refine ⟨hq.1, ?_⟩
      rw [List.getElem?_zip_eq_some]
      have hlt : q < (ancs ops.toList []).length := by rw [ha1]; exact (List.getElem?_eq_some_iff.1 hq.1).1
      exact ⟨by simp [hq.2], by rw [List.getElem?_eq_getElem hlt, List.getD_eq_getElem?_getD, List.getElem?_eq_getElem hlt]; rfl⟩
    rw [zip_at i oi ri hi, zip_at j oj rj hj] at h4
    simp only [pairOk, Bool.and_eq_true, Bool.or_eq_true] at h4
    obtain ⟨h5, h6⟩ := h4
    refine ⟨fun s hs hs2 => ?_, ?_⟩
    · rw [hs, hs2] at h5; simp at h5
    · rcases h6 with h6 | ⟨⟨⟨h6, h7⟩, h8⟩, h9⟩
      · exact .inl h6
      · right
        refine ⟨fun s hs hm => ?_, fun s hs hm => ?_, fun g hg => ?_, fun g hg hm => ?_⟩
        · rw [hs] at h6; simp [slotsOf, hm] at h6
        · rw [hs] at h7; simp [slotsOf, hm] at h7
        · rw [List.all_eq_true] at h8
          have := h8 g hg
          simp only [Bool.and_eq_true, Bool.not_eq_true', List.contains_eq_mem, decide_eq_false_iff_not] at this
          exact this
        · rw [List.all_eq_true] at h9
          have := h9 g hg
          simp only [Bool.not_eq_true', List.contains_eq_mem, decide_eq_false_iff_not] at this
          exact this hm
  · rw [List.all_eq_true] at h2
    have hi := (Array.getElem?_eq_some_iff.1 ho).1
    have := h2 i (List.mem_range.2 hi)
    rw [ho] at this
    simp only [Array.all_eq_true_iff_forall_mem, Bool.or_eq_true, Bool.not_eq_true', decide_eq_true_eq] at this
    exact (this e he).resolve_left (by simp [hb])

/-- Whatever comes ahead of an operation that has come up, or that may, has come up. -/
theorem anc_up {ops : Array Oper} {B : Nat → Bool} (hord : ∀ (i : Nat) (o : Oper), ops[i]? = some o → ∀ e ∈ o.after, Region.binds .any e = true → e.on < i)
    (hcl : ∀ (j : Nat) (o : Oper), ops[j]? = some o → B j = true → ∀ e ∈ o.after, Region.binds .any e = true → B e.on = true) :
    ∀ (j : Nat) (o : Oper), ops[j]? = some o → (∀ e ∈ o.after, Region.binds .any e = true → B e.on = true) → ∀ i, ((ancs ops.toList []).getD j 0).testBit i = true → B i = true := by
  intro j
  induction j using Nat.strongRecOn with
  | _ j ih =>
    intro o ho hdep i hb
    obtain ⟨e, he, hbd, h⟩ := ancs_at ops.toList [] j o (by simpa using ho) i (by simpa using hb)
    simp only [List.length_nil, Nat.zero_add] at h
    have hlt := hord j o ho e he hbd
    have hup := hdep e he hbd
    rcases h with h | h
    · rw [← h]; exact hup
    · have hes : e.on < ops.size := by have := (Array.getElem?_eq_some_iff.1 ho).1; omega
      refine ih e.on hlt ops[e.on] (Array.getElem?_eq_getElem hes) (hcl e.on _ (Array.getElem?_eq_getElem hes) hup) i ?_
      rw [List.getD_eq_getElem?_getD, List.getElem?_take_of_lt hlt, ← List.getD_eq_getElem?_getD] at h
      exact h

/-- In the midst of operations whose order is open. -/
structure Mid (Γ : Nat → Option (List Data)) (L0 : Nat → Prop) (w0 : World) (ops : Array Oper) (l : List (Oper × Res)) (m0 : Nat → MB) (s0 : St) (wS : World) (B : Array Bool) (m : Nat → MB) (a : Act) (w : World) : Prop where
  defers : a.defers = []
  slots : a.tmps.size = s0.nt
  listed : B.size = ops.size
  vals : ∀ t, VV (Live L0 m (hpF (B.getD · false) l 0 s0.hp)) w m (envF (B.getD · false) l 0 s0.env t) (a.tmps.getD t undef)
  wr : WR Γ L0 w0 m (hpF (B.getD · false) l 0 s0.hp) w
  fresh : ∀ (j : Nat) (o : Oper) (r : Res), l[j]? = some (o, r) → B.getD j false = false → ∀ q, q < r.k → m (s0.nx + offs (l.take j) + q) = .res
  beyond : ∀ g, s0.nx + offs l ≤ g → m g = .res
  keep : ∀ g, g < s0.nx → m g = m0 g
  grow : Grow (Live L0 m0 s0.hp) wS (Live L0 m (hpF (B.getD · false) l 0 s0.hp)) w
  closed : ∀ (j : Nat) (o : Oper), ops[j]? = some o → B.getD j false = true → ∀ e ∈ o.after, Region.binds .any e = true → B.getD e.on false = true

theorem wanted_congr {ops : Array Oper} {o : Oper} {e e' : Nat → D} (h : ∀ s ∈ o.looksAt ops, e' s = e s) : wantedD ops e' o = wantedD ops e o := by
  unfold wantedD
  cases hg : o.guard with
  | none => rfl
  | some jw =>
    obtain ⟨j, want⟩ := jw
    simp only
    cases hd : (ops[j]?).bind (·.dst) with
    | none => rfl
    | some t =>
      have := h t (by
        unfold Oper.looksAt
        rw [hg]
        simp only [List.mem_append]
        exact .inr (by simp [hd]))
      simp only [this]

theorem eff_wp {o : Oper} {e : Nat → D} {a : Act} {m : Nat → MB} {H : Nat → Blk} {w : World} {fr : Nat} {r : Res} {next : Act → World → Prop} {Q : Exit → Act → World → Prop} (h : WR Γ L0 w0 m H w) (hv : ∀ t, VV (Live L0 m H) w m (e t) (a.tmps.getD t undef))
    (hres : ∀ q, q < r.k → m (fr + q) = .res) (hbey : ∀ g, fr + 64 ≤ g → m g = .res) (hop : effK P Γ o e H fr fun d' rd' u' k' => d' = r.d ∧ rd' = r.rd ∧ u' = r.u ∧ k' = r.k)
    (fin : ∀ v w', AfterK Γ L0 w0 fr r.k H m w r.d r.u v w' → next (a.put o.dst v) w') : o.wp P a w next Q := by
  obtain ⟨dst, op, type, pos, after, guard⟩ := o
  have hρ : ∀ x, VV (Live L0 m H) w m (evalD Γ e x) (a.eval x) := fun x => eval_ok h.glob hv x
  unfold effK at hop
  cases op <;> simp only at hop
  case call c =>
    obtain ⟨callee, args, argTypes⟩ := c
    cases callee <;> simp only at hop
    case value x =>
      split at hop
      · rename_i f pre caps hf
        obtain ⟨d, rd, u, k, hk0, hec, rfl, rfl, rfl, rfl⟩ := hop
        obtain ⟨hcall, hec⟩ := hec H (fun _ _ => rfl) (fun _ _ => rfl)
        have hargs : ∀ (i : Nat) (d : D) (v : Value), (args.toList.map (evalD Γ e))[i]? = some d → (args.map a.eval)[i]? = some v → VV (Live L0 m H) w m d v := fun i d v h1 h2 => by
          simp only [List.getElem?_map, Option.map_eq_some_iff, Array.getElem?_toList] at h1
          simp only [Array.getElem?_map, Option.map_eq_some_iff] at h2
          obtain ⟨y, hy, rfl⟩ := h1
          obtain ⟨y', hy', rfl⟩ := h2
          rw [hy] at hy'; cases hy'
          exact hρ _
        obtain ⟨pvs, cvs, hce, hpl, hpv, hcl, hch⟩ := callee_ok (hρ x) hf
        have hc := hec L0 w0 m w (pvs ++ (args.map a.eval ++ cvs)) h hres hbey (by simp [hcl, hpl]) (args_ok hpl hpv (by simp) hargs hch)
        have hrun : (execOp a.eval ⟨dst, .call ⟨.value x, args, argTypes⟩, type, pos, after, guard⟩).run P w = .ok (.enter f (pvs ++ (args.map a.eval ++ cvs))) w := by
          simp only [execOp, resolve, Sem.run_bind, hce, Deferred.ofValue, Sem.run_pure, Result.andThen_ok, invoke]
          rw [← Array.append_assoc]
          exact hcall _ w
        unfold Oper.wp
        rw [hrun, Oper.upon_enter]
        exact hc.mono fun e w' ⟨v, he, ha⟩ => by subst he; exact fin v w' ha
      · exact hop.elim
    all_goals exact hop.elim
  all_goals exact hop.elim

theorem mid_step {ops : Array Oper} {l : List (Oper × Res)} {rs : List Res} {m0 : Nat → MB} {s0 : St} {wS : World} {B : Array Bool} {m : Nat → MB} {a : Act} {w : World} {i : Nat} {o : Oper} {Q : Exit → Act → World → Prop} {next : Act → World → Prop}
    (hl : l = ops.toList.zip rs) (hlen : rs.length = ops.toList.length) (hlo : s0.lo ≤ s0.nx) (hap : Apart ops l (ancs ops.toList [])) (hord : ∀ (i : Nat) (o : Oper), ops[i]? = some o → ∀ e ∈ o.after, Region.binds .any e = true → e.on < i)
    (hcomes : ∀ i o r, ops.toList[i]? = some o → rs[i]? = some r → Comes1 P Γ ops o (stAt (l.take i) s0) r)
    (hbig : offs l ≤ 64) (h : Mid Γ L0 w0 ops l m0 s0 wS B m a w) (hun : B.getD i true = false) (ho : ops[i]? = some o) (hdep : ∀ e ∈ o.after, Region.binds .any e = true → B.getD e.on false = true)
    (hn : ∀ m' a' w', Mid Γ L0 w0 ops l m0 s0 wS (B.setIfInBounds i true) m' a' w' → next a' w') : wpOp P ops Q i next a w := by
  have hi : i < ops.size := (Array.getElem?_eq_some_iff.1 ho).1
  have hiB : i < B.size := by rw [h.listed]; exact hi
  have hunf : B.getD i false = false := by simpa [Array.getD_eq_getD_getElem?, hiB] using hun
  have hir : i < rs.length := by rw [hlen]; simpa using hi
  have hri := List.getElem?_eq_getElem hir
  have hli : l[i]? = some (o, rs[i]) := by rw [hl, List.getElem?_zip_eq_some]; exact ⟨by simpa using ho, hri⟩
  generalize hre : rs[i] = r at hri hli
  obtain ⟨hd, hcm⟩ := hcomes i o r (by simpa using ho) hri
  have hup := anc_up (B := (B.getD · false)) hord h.closed i o ho hdep
  -- what came up behind this one in the text hangs on nothing of it
  have later : ∀ j oj rj, i < j → l[j]? = some (oj, rj) → B.getD j false = true → ¬ ((ancs ops.toList []).getD j 0).testBit i = true := by
    intro j oj rj hij hj hbj hbit
    have hoj : ops[j]? = some oj := by rw [hl, List.getElem?_zip_eq_some] at hj; simpa using hj.1
    have := anc_up (B := (B.getD · false)) hord h.closed j oj hoj (h.closed j oj hoj hbj) i hbit
    simp only [hunf] at this
    cases this
  obtain ⟨hse, hsh⟩ := stAt_env l i 0 s0
  simp only [Nat.zero_add] at hse hsh
  obtain ⟨hnx, _, hnt⟩ := stAt_nx (l.take i) s0
  have hll : l.length = ops.size := by rw [hl]; simp [hlen]
  have hnx' : (stAt (l.take i) s0).nx = s0.nx + offs (l.take i) := hnx
  have hoff := offs_take_succ hli
  have hoffl := offs_take_le l (i + 1)
  -- the slots that it looks at
  have hslots : ∀ s ∈ o.looksAt ops, envF (B.getD · false) l 0 s0.env s = (stAt (l.take i) s0).env s := by
    intro s hs
    rw [hse]
    refine envF_agree rfl fun j oj rj hj hdj => ?_
    simp only [Nat.zero_add]
    rcases Nat.lt_trichotomy j i with hji | hji | hji
    · simp only [hji, decide_true]
      rcases (hap.pair j i oj rj o r hji hj hli).2 with hbit | ⟨h1, _⟩
      · exact hup j hbit
      · exact absurd hs (h1 s hdj)
    · subst hji; simp [hunf]
    · have : ¬ j < i := by omega
      simp only [this, decide_false]
      cases hbj : B.getD j false with
      | false => rfl
      | true =>
        rcases (hap.pair i j o r oj rj hji hli hj).2 with hbit | ⟨_, h2, _⟩
        · exact absurd hbit (later j oj rj hji hj hbj)
        · exact absurd hs (h2 s hdj)
  -- the blocks that it looks at or changes
  have hblocks : ∀ g, (g ∈ r.rd ∨ g ∈ r.u.map (·.1)) → hpF (B.getD · false) l 0 s0.hp g = (stAt (l.take i) s0).hp g := by
    intro g hg
    rw [hsh]
    refine hpF_agree rfl fun j oj rj hj hdj => ?_
    simp only [Nat.zero_add]
    rcases Nat.lt_trichotomy j i with hji | hji | hji
    · simp only [hji, decide_true]
      rcases (hap.pair j i oj rj o r hji hj hli).2 with hbit | ⟨_, _, h3, _⟩
      · exact hup j hbit
      · obtain ⟨q1, q2⟩ := h3 g hdj
        rcases hg with hg | hg
        · exact absurd hg q1
        · exact absurd hg q2
    · subst hji; simp [hunf]
    · have : ¬ j < i := by omega
      simp only [this, decide_false]
      cases hbj : B.getD j false with
      | false => rfl
      | true =>
        rcases (hap.pair i j o r oj rj hji hli hj).2 with hbit | ⟨_, _, h3, h4⟩
        · exact absurd hbit (later j oj rj hji hj hbj)
        · rcases hg with hg | hg
          · exact absurd hg (h4 g hdj)
          · exact absurd hdj (h3 g hg).2
  -- what the state becomes
  have henv : envF ((B.setIfInBounds i true).getD · false) l 0 s0.env = Env.dst (envF (B.getD · false) l 0 s0.env) o.dst r.d := by
    funext t
    by_cases ht : o.dst = some t
    · rw [ht, dst_eq]
      refine envF_at hli ht (by simp [getD_set' hiB]) fun j o' r' hj hij _ hd' => ?_
      exact (hap.pair i j o r o' r' hij hli hj).1 t ht hd'
    · rw [dst_ne ht]
      refine envF_agree rfl fun j o' r' hj hd' => ?_
      simp only [Nat.zero_add, getD_set' hiB]
      by_cases e : i = j
      · subst e; rw [hli] at hj; cases hj; exact absurd hd' ht
      · simp [e]
  have hhp : hpF ((B.setIfInBounds i true).getD · false) l 0 s0.hp = Hp.upd (hpF (B.getD · false) l 0 s0.hp) r.u := by
    funext g
    by_cases hg : g ∈ r.u.map (·.1)
    · refine hpF_at hli hg (by simp [getD_set' hiB]) fun j o' r' hj hij hb hg' => ?_
      have hbj : B.getD j false = true := by
        simp only [Nat.zero_add, getD_set' hiB] at hb
        rw [if_neg (by omega)] at hb
        exact hb
      rcases (hap.pair i j o r o' r' hij hli hj).2 with hbit | ⟨_, _, h3, _⟩
      · exact later j o' r' hij hj hbj hbit
      · exact (h3 g hg).2 hg'
    · rw [upd_not hg]
      refine hpF_agree rfl fun j o' r' hj hg' => ?_
      simp only [Nat.zero_add, getD_set' hiB]
      by_cases e : i = j
      · subst e; rw [hli] at hj; cases hj; exact absurd hg' hg
      · simp [e]
  have hresi : ∀ q, q < r.k → m (s0.nx + offs (l.take i) + q) = .res := h.fresh i o r hli hunf
  -- the step itself
  have fin : ∀ v w', AfterK Γ L0 w0 (s0.nx + offs (l.take i)) r.k (hpF (B.getD · false) l 0 s0.hp) m w r.d r.u v w' → next (a.put o.dst v) w' := by
    rintro v w' ⟨m', k1, k2, k3, k4⟩
    have hmr : ∀ g, m g ≠ .res → m' g = m g := fun g hg => k4 g (by
      rcases Nat.lt_or_ge g (s0.nx + offs (l.take i)) with e | e
      · exact .inl e
      · rcases Nat.lt_or_ge g (s0.nx + offs (l.take i) + r.k) with e2 | e2
        · exact absurd (by have := hresi (g - (s0.nx + offs (l.take i))) (by omega); rwa [show s0.nx + offs (l.take i) + (g - (s0.nx + offs (l.take i))) = g by omega] at this) hg
        · exact .inr e2)
    refine hn m' _ _ ⟨?_, by rw [put_slots]; exact h.slots, by simp; exact h.listed, ?_, ?_, ?_, ?_, ?_, ?_, ?_⟩
    · have : (a.put o.dst v).defers = a.defers := by cases o.dst <;> rfl
      rw [this]; exact h.defers
    · intro t
      rw [henv, hhp]
      refine dst_get (fun t ht => ?_) k2 (fun t => (h.vals t).mono k3 hmr) t
      rw [h.slots, ← hnt]
      simpa [dstOk, ht] using hd
    · rw [hhp]; exact k1
    · intro j o' r' hj hb q hq
      rw [getD_set' hiB] at hb
      by_cases e : i = j
      · simp [e] at hb
      · rw [if_neg e] at hb
        have hj1 := offs_take_succ hj
        rw [k4 _ (by
          rcases Nat.lt_or_ge j i with e2 | e2
          · have := offs_mono l (show j + 1 ≤ i by omega); exact .inl (by omega)
          · have := offs_mono l (show i + 1 ≤ j by omega); exact .inr (by omega))]
        exact h.fresh j o' r' hj hb q hq
    · intro g hg
      rw [k4 _ (by omega)]
      exact h.beyond g hg
    · intro g hg
      rw [k4 _ (by omega)]
      exact h.keep g hg
    · rw [hhp]; exact h.grow.trans k3
    · intro j oj hoj hb e he hbd
      rw [getD_set' hiB] at hb ⊢
      by_cases e1 : i = e.on
      · rw [if_pos e1]
      · rw [if_neg e1]
        by_cases e2 : i = j
        · subst e2
          rw [ho] at hoj; cases hoj
          exact hdep e he hbd
        · rw [if_neg e2] at hb
          exact h.closed j oj hoj hb e he hbd
  unfold wpOp
  simp only [ho]
  have hwc := wanted_congr (ops := ops) (o := o) hslots
  cases hw : wantedD ops (stAt (l.take i) s0).env o with
  | none => rw [hw] at hcm; exact hcm.elim
  | some b =>
    rw [hw] at hcm
    rw [wanted_ok h.vals (hwc.trans hw)]
    cases b with
    | true =>
      simp only at hcm
      rw [if_pos rfl]
      left
      have hops : ∀ x ∈ o.op.operands, evalD Γ (envF (B.getD · false) l 0 s0.env) x = evalD Γ (stAt (l.take i) s0).env x := fun x hx => by
        cases x with
        | tmp t =>
          refine hslots t ?_
          unfold Oper.looksAt
          simp only [List.mem_append]
          refine .inl ?_
          rw [List.mem_filterMap]
          exact ⟨.tmp t, by simpa using hx, rfl⟩
        | const v => rfl
        | global g => rfl
        | func f => rfl
      rcases hcm with ⟨hk1, hcm⟩ | hcm
      · rw [hk1] at hresi
        have hres0 : m (s0.nx + offs (l.take i)) = .res := hresi 0 (by omega)
        have hop : opK P Γ o (envF (B.getD · false) l 0 s0.env) (hpF (B.getD · false) l 0 s0.hp) (s0.nx + offs (l.take i)) fun d' rd' u' => d' = r.d ∧ rd' = r.rd ∧ u' = r.u := by
          rw [← hnx', op_congr (e := (stAt (l.take i) s0).env) hops]
          exact op_loc hcm (fun g hg => hblocks g (.inl hg)) (fun g hg => hblocks g (.inr hg))
        obtain ⟨d, rd, u, ⟨rfl, rfl, rfl⟩, hr⟩ := op_sound h.wr hres0 (h.wr.none hres0) h.vals hop
        exact hr.wp fun v w' ha => fin v w' (by rw [hk1]; exact ha.k)
      · have hop : effK P Γ o (envF (B.getD · false) l 0 s0.env) (hpF (B.getD · false) l 0 s0.hp) (s0.nx + offs (l.take i)) fun d' rd' u' k' => d' = r.d ∧ rd' = r.rd ∧ u' = r.u ∧ k' = r.k := by
          rw [← hnx', eff_congr (e := (stAt (l.take i) s0).env) hops]
          exact eff_loc hcm (fun g hg => hblocks g (.inl hg)) (fun g hg => hblocks g (.inr hg))
        exact eff_wp h.wr h.vals hresi (fun g hg => h.beyond g (by omega)) hop fin
    | false =>
      simp only at hcm
      subst hcm
      rw [if_neg (by simp)]
      exact fin undef w ⟨m, h.wr, undef_ok _ _ _, Grow.refl _ _, fun _ _ => rfl⟩

/-- How many operations have not come up yet. -/
def leftOf (B : Array Bool) : Nat := B.toList.count false
theorem leftOf_set {B : Array Bool} {i : Nat} (hi : B.getD i true = false) : leftOf (B.setIfInBounds i true) + 1 = leftOf B := by
  have hs : i < B.size := by
    rcases Nat.lt_or_ge i B.size with h | h
    · exact h
    · simp [Array.getD_eq_getD_getElem?, Array.getElem?_eq_none h] at hi
  have hv : B.toList[i]'(by simpa using hs) = false := by
    simpa [Array.getD_eq_getD_getElem?, hs] using hi
  unfold leftOf
  rw [Array.toList_setIfInBounds, List.count_set (by simpa using hs), hv]
  have hpos : 0 < B.toList.count false := List.count_pos_iff.2 (by rw [← hv]; exact List.getElem_mem _)
  simp only [if_true, beq_self_eq_true, show (true == false) = false from rfl, Bool.false_eq_true, if_false]
  omega
theorem leftOf_zero {B : Array Bool} (h : leftOf B = 0) {j : Nat} (hj : j < B.size) : B.getD j false = true := by
  unfold leftOf at h
  have := List.count_eq_zero.1 h
  have hm : B[j] ∈ B.toList := by simp
  cases hd : B[j] with
  | true => simp [Array.getD_eq_getD_getElem?, hj, hd]
  | false => rw [hd] at hm; exact absurd hm this

theorem ready_nil {ops : Array Oper} {B : Array Bool} (hs : B.size = ops.size) (hord : ∀ (i : Nat) (o : Oper), ops[i]? = some o → ∀ e ∈ o.after, Region.binds .any e = true → e.on < i) (hr : Region.ready .any ops B = []) :
    ∀ j, j < ops.size → B.getD j false = true := by
  intro j
  induction j using Nat.strongRecOn with
  | _ j ih =>
    intro hj
    cases hb : B.getD j false with
    | true => rfl
    | false =>
      exfalso
      have hjB : j < B.size := by omega
      have hm : j ∈ Region.ready .any ops B := by
        unfold Region.ready
        rw [List.mem_filter]
        refine ⟨List.mem_range.2 hj, ?_⟩
        have h1 : B.getD j true = false := by simpa [Array.getD_eq_getD_getElem?, hjB] using hb
        rw [h1, Array.getElem?_eq_getElem hj]
        simp only [Bool.not_false, Option.map_some, Option.getD_some, Bool.true_and, Array.all_eq_true_iff_forall_mem, Bool.or_eq_true, Bool.not_eq_true']
        intro e he
        cases hbd : Region.binds .any e with
        | false => exact .inl rfl
        | true => exact .inr (ih e.on (hord j _ (Array.getElem?_eq_getElem hj) e he hbd) (by have := hord j _ (Array.getElem?_eq_getElem hj) e he hbd; omega))
      rw [hr] at hm
      cases hm

theorem any_sound {ops : Array Oper} {l : List (Oper × Res)} {rs : List Res} {m0 : Nat → MB} {s0 : St} {wS : World} {Q : Exit → Act → World → Prop}
    (hl : l = ops.toList.zip rs) (hlen : rs.length = ops.toList.length) (hlo : s0.lo ≤ s0.nx) (hap : Apart ops l (ancs ops.toList [])) (hord : ∀ (i : Nat) (o : Oper), ops[i]? = some o → ∀ e ∈ o.after, Region.binds .any e = true → e.on < i)
    (hcomes : ∀ i o r, ops.toList[i]? = some o → rs[i]? = some r → Comes1 P Γ ops o (stAt (l.take i) s0) r)
    (hbig : offs l ≤ 64) (hend : ∀ B m a w, (∀ j, j < ops.size → B.getD j false = true) → Mid Γ L0 w0 ops l m0 s0 wS B m a w → Q .normal a w) :
    ∀ (fuel : Nat) (B : Array Bool) (m : Nat → MB) (a : Act) (w : World), leftOf B ≤ fuel → Mid Γ L0 w0 ops l m0 s0 wS B m a w → wpAny P .any ops Q fuel B a w
  | 0, B, m, a, w, hf, h => by
    have hz : ∀ j, j < ops.size → B.getD j false = true := fun j hj => leftOf_zero (Nat.le_zero.1 hf) (by rw [h.listed]; exact hj)
    refine ⟨List.eq_nil_iff_forall_not_mem.2 fun j hj => ?_, hend B m a w hz h⟩
    obtain ⟨h1, o, ho, _⟩ := ready_mem hj
    have hjs := (Array.getElem?_eq_some_iff.1 ho).1
    have := hz j hjs
    have hjB : j < B.size := by rw [h.listed]; exact hjs
    simp [Array.getD_eq_getD_getElem?, hjB] at this h1
    rw [this] at h1; cases h1
  | fuel + 1, B, m, a, w, hf, h => by
    refine ⟨fun hr => hend B m a w (ready_nil h.listed hord hr) h, fun i hi => ?_⟩
    obtain ⟨hun, o, ho, hdep⟩ := ready_mem hi
    refine mid_step hl hlen hlo hap hord hcomes hbig h hun ho hdep fun m' a' w' h' => ?_
    refine any_sound hl hlen hlo hap hord hcomes hbig hend fuel _ m' a' w' ?_ h'
    have := leftOf_set hun
    omega

/-- Fine, and not too many numbers. -/
def drawOk2 (ops : Array Oper) (tr : List Tr) (a b : Nat) : Bool := drawOk ops tr && Nat.ble b (a + 64)
/-- A region whose order is open. -/
theorem draw_sound {id : Nat} {ops : Array Oper} {K : St → Prop} {Q : Exit → Act → World → Prop} {m : Nat → MB} {s : St} {a : Act} {w : World} (hm : P.follows .mixedOrders = true) (h : Rel Γ L0 w0 m s a w)
    (hk : drawW P Γ ops ops.toList s [] fun s' tr => drawOk2 ops tr s.nx s'.nx = true ∧ K s') (hQ : ∀ m' s' a' w', Rel Γ L0 w0 m' s' a' w' → Ext L0 m s w m' s' w' → K s' → Q .normal a' w') : (Code.region id ops true).wp P Q a w := by
  obtain ⟨rs, hlen, hcomes, hok, hK⟩ := draw_text _ _ _ hk
  simp only [List.reverse_nil, List.nil_append, drawOk2, Bool.and_eq_true] at hok
  obtain ⟨hok, hbig⟩ := hok
  have hbig := Nat.le_of_ble_eq_true hbig
  rw [(stAt_nx _ _).1] at hbig
  obtain ⟨hap, hord⟩ := apart_of hlen hok
  refine wp_region_any hm ?_
  have hfalse : ∀ j, (Array.replicate ops.size false).getD j false = false := fun j => by
    by_cases hj : j < ops.size <;> simp [Array.getD_eq_getD_getElem?, hj]
  have no : ∀ (l : List (Oper × Res)) (k : Nat) (e : Nat → D) (H : Nat → Blk), envF (fun j => (Array.replicate ops.size false).getD j false) l k e = e ∧ hpF (fun j => (Array.replicate ops.size false).getD j false) l k H = H := by
    have hB : (fun j => (Array.replicate ops.size false).getD j false) = fun _ => false := funext hfalse
    rw [hB]
    intro l
    induction l with
    | nil => intro k e H; exact ⟨rfl, rfl⟩
    | cons x l ih =>
      intro k e H
      obtain ⟨o, r⟩ := x
      simp only [envF, hpF, Bool.false_eq_true, if_false]
      exact ih (k + 1) e H
  have hdr : Grow (Live L0 m s.hp) w (Live L0 m s.hp) w.drew := ⟨Nat.le_refl _, fun b _ hL => ⟨rfl, hL⟩⟩
  refine any_sound (P := P) (L0 := L0) (w0 := w0) (m0 := m) (s0 := s) (wS := w) rfl hlen h.lo hap hord hcomes (by omega) ?_ ops.size _ m a _ ?_ ⟨h.defers, h.slots, by simp, ?_, ?_, ?_, ?_, fun _ _ => rfl, ?_, ?_⟩
  · intro B m' a' w' hall hmid
    have hall' : ∀ j o r, (ops.toList.zip rs)[j]? = some (o, r) → B.getD (0 + j) false = decide (0 + j < 0 + (ops.toList.zip rs).length) := fun j o r hj => by
      have hlt := (List.getElem?_eq_some_iff.1 hj).1
      have : j < ops.size := by simp [hlen] at hlt; exact hlt
      simp only [Nat.zero_add, hlt, decide_true]
      exact hall j this
    obtain ⟨e1, e2⟩ := stAt_env (ops.toList.zip rs) (ops.toList.zip rs).length 0 s
    rw [List.take_length] at e1 e2
    have he : envF (B.getD · false) (ops.toList.zip rs) 0 s.env = (stAt (ops.toList.zip rs) s).env := by
      rw [e1]; funext t; exact envF_agree rfl fun j o r hj _ => hall' j o r hj
    have hh : hpF (B.getD · false) (ops.toList.zip rs) 0 s.hp = (stAt (ops.toList.zip rs) s).hp := by
      rw [e2]; funext g; exact hpF_agree rfl fun j o r hj _ => hall' j o r hj
    obtain ⟨f1, f2, f3⟩ := stAt_nx (ops.toList.zip rs) s
    have hzl : (ops.toList.zip rs).length = ops.size := by simp [hlen]
    have hv := hmid.vals
    have hw := hmid.wr
    have hg := hmid.grow
    rw [he, hh] at hv
    rw [hh] at hw hg
    have hres : ∀ g, (stAt (ops.toList.zip rs) s).nx ≤ g → m' g = .res := fun g hgg => hmid.beyond g (by rw [f1] at hgg; exact hgg)
    refine hQ m' (stAt (ops.toList.zip rs) s) a' w' ⟨hmid.defers, hv, hw.heap, hres, ?_, hw.below, hw.l0, hw.glob, ?_, ?_⟩ ⟨hg, fun g hgg => hmid.keep g (Nat.lt_of_lt_of_le hgg h.lo), f2, f3⟩ hK
    · intro g hgg
      exact hw.none (hres g hgg)
    · rw [f1, f2]; exact Nat.le_trans h.lo (Nat.le_add_right _ _)
    · rw [f3]; exact hmid.slots
  · unfold leftOf
    simp
  · intro t
    rw [(no _ _ _ s.hp).1, (no _ _ s.env _).2]
    exact (h.vals t).mono hdr (fun _ _ => rfl)
  · rw [(no _ _ s.env _).2]
    exact h.wr.drew
  · intro j o r hj _ q _
    exact h.res _ (by omega)
  · intro g hg
    exact h.res g (by omega)
  · rw [(no _ _ s.env _).2]
    exact hdr
  · intro j o ho hb
    rw [hfalse] at hb; cases hb
end
end Go.Proofs.Ytedcnbkhdkchoaa
