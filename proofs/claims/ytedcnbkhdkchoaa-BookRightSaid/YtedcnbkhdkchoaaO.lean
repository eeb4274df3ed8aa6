/- Operations whose order is open: the order of the text stands for all. -/
import Derived.Test.YtedcnbkhdkchoaaN
namespace Go.Proofs.Ytedcnbkhdkchoaa
open Go.RowKit
set_option linter.unusedVariables false
set_option linter.unusedSimpArgs false

theorem upd_not {u : List (Nat × Blk)} {g : Nat} : ∀ {H : Nat → Blk}, g ∉ u.map (·.1) → Hp.upd H u g = H g := by
  induction u with
  | nil => intro H _; rfl
  | cons x u ih =>
    intro H h
    obtain ⟨k, b⟩ := x
    simp only [List.map_cons, List.mem_cons, not_or] at h
    rw [Hp.upd, ih h.2]
    simp [Hp.set, h.1]
theorem upd_key {u : List (Nat × Blk)} {g : Nat} : ∀ {H H' : Nat → Blk}, (H g = H' g ∨ g ∈ u.map (·.1)) → Hp.upd H u g = Hp.upd H' u g := by
  induction u with
  | nil => intro H H' h; simpa [Hp.upd] using h
  | cons x u ih =>
    intro H H' h
    obtain ⟨k, b⟩ := x
    simp only [Hp.upd]
    refine ih ?_
    by_cases e : g = k
    · left; simp [Hp.set, e]
    · rcases h with h | h
      · left; simp [Hp.set, e, h]
      · right
        simpa [e] using h

/-- Slots and blocks behind those operations of a list that have come up. -/
def envF (B : Nat → Bool) : List (Oper × Res) → Nat → (Nat → D) → Nat → D
  | [], _, e => e
  | (o, r) :: l, i, e => envF B l (i + 1) (if B i then Env.dst e o.dst r.d else e)
def hpF (B : Nat → Bool) : List (Oper × Res) → Nat → (Nat → Blk) → Nat → Blk
  | [], _, H => H
  | (o, r) :: l, i, H => hpF B l (i + 1) (if B i then Hp.upd H r.u else H)

theorem dst_ne {e : Nat → D} {dst : Option Nat} {d : D} {t : Nat} (h : dst ≠ some t) : Env.dst e dst d t = e t := by
  cases dst with
  | none => rfl
  | some q =>
    have : t ≠ q := fun e => h (by rw [e])
    simp [Env.dst, Env.set, this]
theorem dst_eq {e : Nat → D} {d : D} {t : Nat} : Env.dst e (some t) d t = d := by simp [Env.dst, Env.set]

theorem envF_agree {B B' : Nat → Bool} {t : Nat} : ∀ {l : List (Oper × Res)} {k : Nat} {e e' : Nat → D}, e t = e' t → (∀ j o r, l[j]? = some (o, r) → o.dst = some t → B (k + j) = B' (k + j)) → envF B l k e t = envF B' l k e' t
  | [], k, e, e', he, _ => he
  | (o, r) :: l, k, e, e', he, h => by
    simp only [envF]
    refine envF_agree ?_ fun j o' r' hj hd => by have := h (j + 1) o' r' (by simpa using hj) hd; rwa [show k + 1 + j = k + (j + 1) by omega]
    by_cases hd : o.dst = some t
    · have := h 0 o r rfl hd
      simp only [Nat.add_zero] at this
      rw [this]
      split
      · rw [hd, dst_eq, dst_eq]
      · exact he
    · split <;> split <;> simp [dst_ne hd, he]
theorem envF_at {B : Nat → Bool} {t i : Nat} {o : Oper} {r : Res} : ∀ {l : List (Oper × Res)} {k : Nat} {e : Nat → D}, l[i]? = some (o, r) → o.dst = some t → B (k + i) = true → (∀ j o' r', l[j]? = some (o', r') → i < j → B (k + j) = true → o'.dst ≠ some t) → envF B l k e t = r.d
  | [], k, e, hi, _, _, _ => by simp at hi
  | (o', r') :: l, k, e, hi, hd, hb, h => by
    simp only [envF]
    match i with
    | 0 =>
      simp at hi
      obtain ⟨rfl, rfl⟩ := hi
      simp only [Nat.add_zero] at hb
      have : envF B l (k + 1) (if B k then Env.dst e o'.dst r'.d else e) t = envF (fun _ => false) l (k + 1) (if B k then Env.dst e o'.dst r'.d else e) t := by
        refine envF_agree rfl fun j o2 r2 hj hd2 => ?_
        cases hbj : B (k + 1 + j) with
        | false => rfl
        | true => exact absurd hd2 (h (j + 1) o2 r2 (by simpa using hj) (by omega) (by rwa [show k + (j + 1) = k + 1 + j by omega]))
      rw [this]
      have no : ∀ (l : List (Oper × Res)) (k : Nat) (e : Nat → D), envF (fun _ => false) l k e = e := by
        intro l
        induction l with
        | nil => intro k e; rfl
        | cons x l ih => intro k e; obtain ⟨o, r⟩ := x; simp [envF, ih]
      rw [no, if_pos hb, hd, dst_eq]
    | i + 1 =>
      exact envF_at (i := i) (by simpa using hi) hd (by rwa [show k + 1 + i = k + (i + 1) by omega]) fun j o2 r2 hj hij hb2 => h (j + 1) o2 r2 (by simpa using hj) (by omega) (by rwa [show k + (j + 1) = k + 1 + j by omega])

theorem hpF_agree {B B' : Nat → Bool} {g : Nat} : ∀ {l : List (Oper × Res)} {k : Nat} {H H' : Nat → Blk}, H g = H' g → (∀ j o r, l[j]? = some (o, r) → g ∈ r.u.map (·.1) → B (k + j) = B' (k + j)) → hpF B l k H g = hpF B' l k H' g
  | [], k, H, H', he, _ => he
  | (o, r) :: l, k, H, H', he, h => by
    simp only [hpF]
    refine hpF_agree ?_ fun j o' r' hj hd => by have := h (j + 1) o' r' (by simpa using hj) hd; rwa [show k + 1 + j = k + (j + 1) by omega]
    by_cases hd : g ∈ r.u.map (·.1)
    · have := h 0 o r rfl hd
      simp only [Nat.add_zero] at this
      rw [this]
      split
      · exact upd_key (.inl he)
      · exact he
    · split <;> split <;> simp [upd_not hd, he]
theorem hpF_at {B : Nat → Bool} {g i : Nat} {o : Oper} {r : Res} {X : Nat → Blk} : ∀ {l : List (Oper × Res)} {k : Nat} {H : Nat → Blk}, l[i]? = some (o, r) → g ∈ r.u.map (·.1) → B (k + i) = true → (∀ j o' r', l[j]? = some (o', r') → i < j → B (k + j) = true → g ∉ r'.u.map (·.1)) → hpF B l k H g = Hp.upd X r.u g
  | [], k, H, hi, _, _, _ => by simp at hi
  | (o', r') :: l, k, H, hi, hd, hb, h => by
    simp only [hpF]
    match i with
    | 0 =>
      simp at hi
      obtain ⟨rfl, rfl⟩ := hi
      simp only [Nat.add_zero] at hb
      have : hpF B l (k + 1) (if B k then Hp.upd H r'.u else H) g = hpF (fun _ => false) l (k + 1) (if B k then Hp.upd H r'.u else H) g := by
        refine hpF_agree rfl fun j o2 r2 hj hd2 => ?_
        cases hbj : B (k + 1 + j) with
        | false => rfl
        | true => exact absurd hd2 (h (j + 1) o2 r2 (by simpa using hj) (by omega) (by rwa [show k + (j + 1) = k + 1 + j by omega]))
      rw [this]
      have no : ∀ (l : List (Oper × Res)) (k : Nat) (H : Nat → Blk), hpF (fun _ => false) l k H = H := by
        intro l
        induction l with
        | nil => intro k H; rfl
        | cons x l ih => intro k H; obtain ⟨o, r⟩ := x; simp [hpF, ih]
      rw [no, if_pos hb]
      exact upd_key (.inr hd)
    | i + 1 =>
      exact hpF_at (i := i) (by simpa using hi) hd (by rwa [show k + 1 + i = k + (i + 1) by omega]) fun j o2 r2 hj hij hb2 => h (j + 1) o2 r2 (by simpa using hj) (by omega) (by rwa [show k + (j + 1) = k + 1 + j by omega])

/-- How many numbers they have used up. -/
def offs (l : List (Oper × Res)) : Nat := (l.map (·.2.k)).sum
theorem offs_cons (x : Oper × Res) (l : List (Oper × Res)) : offs (x :: l) = x.2.k + offs l := by simp [offs]
theorem offs_append (l l' : List (Oper × Res)) : offs (l ++ l') = offs l + offs l' := by simp [offs]
theorem offs_take_succ {l : List (Oper × Res)} {i : Nat} {o : Oper} {r : Res} (h : l[i]? = some (o, r)) : offs (l.take (i + 1)) = offs (l.take i) + r.k := by
  rw [List.take_add_one, h, offs_append]
  simp [offs]
theorem offs_take_le (l : List (Oper × Res)) (i : Nat) : offs (l.take i) ≤ offs l := by
  have := offs_append (l.take i) (l.drop i)
  rw [List.take_append_drop] at this
  omega
theorem offs_mono (l : List (Oper × Res)) {i j : Nat} (h : i ≤ j) : offs (l.take i) ≤ offs (l.take j) := by
  have := offs_take_le (l.take j) i
  rwa [List.take_take, Nat.min_eq_left h] at this
/-- The state behind operations in the order of the text. -/
def stAt : List (Oper × Res) → St → St
  | [], s => s
  | (o, r) :: l, s => stAt l (stepK s o r.d r.u r.k)
theorem stAt_nx : ∀ (l : List (Oper × Res)) (s : St), (stAt l s).nx = s.nx + offs l ∧ (stAt l s).lo = s.lo ∧ (stAt l s).nt = s.nt
  | [], s => ⟨rfl, rfl, rfl⟩
  | (o, r) :: l, s => by
    obtain ⟨h1, h2, h3⟩ := stAt_nx l (stepK s o r.d r.u r.k)
    exact ⟨by simp only [stAt, h1, offs_cons]; simp [stepK]; omega, h2, h3⟩
theorem stAt_env : ∀ (l : List (Oper × Res)) (i k : Nat) (s : St), (stAt (l.take i) s).env = envF (fun j => decide (j < k + i)) l k s.env ∧ (stAt (l.take i) s).hp = hpF (fun j => decide (j < k + i)) l k s.hp
  | [], i, k, s => by simp [stAt, envF, hpF]
  | (o, r) :: l, 0, k, s => by
    have no : ∀ (l : List (Oper × Res)) (q : Nat) (e : Nat → D) (H : Nat → Blk), k ≤ q → envF (fun j => decide (j < k)) l q e = e ∧ hpF (fun j => decide (j < k)) l q H = H := by
      intro l
      induction l with
      | nil => intro q e H _; exact ⟨rfl, rfl⟩
      | cons x l ih =>
        intro q e H hq
        obtain ⟨o, r⟩ := x
        have : ¬ q < k := by omega
        simp [envF, hpF, this, ih (q + 1) e H (by omega)]
    have := no ((o, r) :: l) k s.env s.hp (Nat.le_refl _)
    simp only [List.take_zero, stAt, Nat.add_zero]
    exact ⟨this.1.symm, this.2.symm⟩
  | (o, r) :: l, i + 1, k, s => by
    have := stAt_env l i (k + 1) (stepK s o r.d r.u r.k)
    simp only [List.take_succ_cons, stAt, envF, hpF]
    have hk : k < k + (i + 1) := by omega
    simp only [hk, decide_true, if_true]
    rw [show k + (i + 1) = k + 1 + i by omega]
    exact this

section
variable {P : Program} {Γ : Nat → Option (List Data)} {L0 : Nat → Prop} {w0 : World}

/-- What the walk in the order of the text has given. -/
theorem draw_text {ops : Array Oper} {K : St → List Tr → Prop} : ∀ (l : List Oper) (s : St) (tr : List Tr), drawW P Γ ops l s tr K →
    ∃ rs : List Res, rs.length = l.length ∧ (∀ i o r, l[i]? = some o → rs[i]? = some r → Comes1 P Γ ops o (stAt ((l.zip rs).take i) s) r) ∧ K (stAt (l.zip rs) s) (tr.reverse ++ rs.map Res.tr)
  | [], s, tr, h => ⟨[], rfl, by simp, by simpa [stAt, drawW] using h⟩
  | o :: l, s, tr, h => by
    obtain ⟨hd, h⟩ := h
    have fin : ∀ r : Res, Comes1 P Γ ops o s r → drawW P Γ ops l (stepK s o r.d r.u r.k) (r.tr :: tr) K → ∃ rs : List Res, rs.length = (o :: l).length ∧ (∀ i o' r, (o :: l)[i]? = some o' → rs[i]? = some r → Comes1 P Γ ops o' (stAt (((o :: l).zip rs).take i) s) r) ∧
        K (stAt ((o :: l).zip rs) s) (tr.reverse ++ rs.map Res.tr) := by
      intro r hc hw
      obtain ⟨rs, h1, h2, h3⟩ := draw_text l _ _ hw
      refine ⟨r :: rs, by simp [h1], fun i o' r' hi hr => ?_, by simpa [stAt] using h3⟩
      match i with
      | 0 => simp at hi hr; subst hi; subst hr; simpa [stAt] using hc
      | i + 1 =>
        have := h2 i o' r' (by simpa using hi) (by simpa using hr)
        simpa [stAt] using this
    cases hw : wantedD ops s.env o with
    | none => rw [hw] at h; exact h.elim
    | some b =>
      rw [hw] at h
      cases b with
      | true =>
        have one : (opK P Γ o s.env s.hp s.nx fun d rd u => drawW P Γ ops l (stepSt s o d u) (⟨rd, u.map (·.1)⟩ :: tr) K) → ∃ rs : List Res, rs.length = (o :: l).length ∧ (∀ i o' r, (o :: l)[i]? = some o' → rs[i]? = some r → Comes1 P Γ ops o' (stAt (((o :: l).zip rs).take i) s) r) ∧
            K (stAt ((o :: l).zip rs) s) (tr.reverse ++ rs.map Res.tr) := fun h => by
          obtain ⟨d, rd, u, h1, h2⟩ := op_lin o s.env s.hp s.nx _ h
          exact fin ⟨d, rd, u, 1⟩ ⟨hd, by rw [hw]; exact .inl ⟨rfl, h1⟩⟩ h2
        simp only [ifW] at h
        split at h
        · rcases h with h | h
          · exact one h
          · obtain ⟨d, rd, u, k, h1, h2⟩ := eff_lin o s.env s.hp s.nx h
            exact fin ⟨d, rd, u, k⟩ ⟨hd, by rw [hw]; exact .inr h1⟩ h2
        · exact one h
      | false => exact fin ⟨undefD, [], [], 1⟩ ⟨hd, by rw [hw]⟩ h

theorem ancs_len : ∀ (l : List Oper) (acc : List Nat), (ancs l acc).length = acc.length + l.length ∧ (ancs l acc).take acc.length = acc
  | [], acc => by simp [ancs]
  | o :: l, acc => by
    obtain ⟨h1, h2⟩ := ancs_len l (acc ++ [o.after.toList.foldl (fun s e => if Region.binds .any e then s ||| 2 ^ e.on ||| acc.getD e.on 0 else s) 0])
    refine ⟨by simp only [ancs, h1]; simp; omega, ?_⟩
    simp only [ancs]
    have := congrArg (List.take acc.length) h2
    rw [List.take_take] at this
    simpa using this
theorem fold_bits {acc : List Nat} {i : Nat} : ∀ (l : List Edge) (s : Nat), (l.foldl (fun s e => if Region.binds .any e then s ||| 2 ^ e.on ||| acc.getD e.on 0 else s) s).testBit i = true → s.testBit i = true ∨ ∃ e ∈ l, Region.binds .any e = true ∧ (e.on = i ∨ (acc.getD e.on 0).testBit i = true)
  | [], s, h => .inl h
  | e :: l, s, h => by
    rcases fold_bits l _ h with h1 | ⟨e', he, h2⟩
    · simp only at h1
      split at h1
      · rename_i hb
        simp only [Nat.testBit_or, Bool.or_eq_true] at h1
        rcases h1 with (h1 | h1) | h1
        · exact .inl h1
        · exact .inr ⟨e, by simp, hb, .inl (by
            rw [Nat.testBit_two_pow] at h1
            simpa using h1)⟩
        · exact .inr ⟨e, by simp, hb, .inr h1⟩
      · exact .inl h1
    · exact .inr ⟨e', by simp [he], h2⟩
theorem ancs_at : ∀ (l : List Oper) (acc : List Nat) (k : Nat) (o : Oper), l[k]? = some o → ∀ i, ((ancs l acc).getD (acc.length + k) 0).testBit i = true → ∃ e ∈ o.after, Region.binds .any e = true ∧ (e.on = i ∨ (((ancs l acc).take (acc.length + k)).getD e.on 0).testBit i = true)
  | [], acc, k, o, h, i, hb => by simp at h
  | o' :: l, acc, 0, o, h, i, hb => by
    simp at h
    subst h
    simp only [ancs, Nat.add_zero] at hb ⊢
    obtain ⟨h1, h2⟩ := ancs_len l (acc ++ [o'.after.toList.foldl (fun s e => if Region.binds .any e then s ||| 2 ^ e.on ||| acc.getD e.on 0 else s) 0])
    have h3 : (ancs l (acc ++ [o'.after.toList.foldl (fun s e => if Region.binds .any e then s ||| 2 ^ e.on ||| acc.getD e.on 0 else s) 0])).getD acc.length 0 = o'.after.toList.foldl (fun s e => if Region.binds .any e then s ||| 2 ^ e.on ||| acc.getD e.on 0 else s) 0 := by
      have := congrArg (fun q => q.getD acc.length 0) h2
      simp only [List.getD_eq_getElem?_getD] at this ⊢
      rw [List.getElem?_take_of_lt (by simp)] at this
      simpa using this
    have h4 : (ancs l (acc ++ [o'.after.toList.foldl (fun s e => if Region.binds .any e then s ||| 2 ^ e.on ||| acc.getD e.on 0 else s) 0])).take acc.length = acc := by
      have := congrArg (List.take acc.length) h2
      rw [List.take_take] at this
      simpa using this
    rw [h3] at hb
    rw [h4]
    rcases fold_bits _ _ hb with h5 | ⟨e, he, h5⟩
    · simp at h5
    · exact ⟨e, by simpa using he, h5⟩
  | o' :: l, acc, k + 1, o, h, i, hb => by
    have := ancs_at l (acc ++ [o'.after.toList.foldl (fun s e => if Region.binds .any e then s ||| 2 ^ e.on ||| acc.getD e.on 0 else s) 0]) k o (by simpa using h) i
    simp only [List.length_append, List.length_singleton] at this
    simp only [ancs, show acc.length + (k + 1) = acc.length + 1 + k by omega] at hb ⊢
    exact this hb

theorem getD_set' {B : Array Bool} {i j : Nat} (hi : i < B.size) : (B.setIfInBounds i true).getD j false = if i = j then true else B.getD j false := by
  by_cases h : i = j
  · subst h; simp [Array.getD_eq_getD_getElem?, hi]
  · simp [Array.getD_eq_getD_getElem?, Array.getElem?_setIfInBounds_ne h, h]
theorem ready_mem {md : Region.Mode} {ops : Array Oper} {B : Array Bool} {i : Nat} (h : i ∈ Region.ready md ops B) : B.getD i true = false ∧ ∃ o, ops[i]? = some o ∧ ∀ e ∈ o.after, Region.binds md e = true → B.getD e.on false = true := by
  unfold Region.ready at h
  simp only [List.mem_filter, List.mem_range, Bool.and_eq_true, Bool.not_eq_true'] at h
  obtain ⟨hi, h1, h2⟩ := h
  refine ⟨h1, ops[i], Array.getElem?_eq_getElem hi, fun e he hb => ?_⟩
  rw [Array.getElem?_eq_getElem hi] at h2
  simp only [Option.map_some, Option.getD_some, Array.all_eq_true_iff_forall_mem, Bool.or_eq_true, Bool.not_eq_true'] at h2
  exact (h2 e he).resolve_left (by simp [hb])
end
end Go.Proofs.Ytedcnbkhdkchoaa
