/- Operations whose order is open: on plain data they may be taken in the order of the text, where what they touch lies apart. -/
import Derived.Test.YtedcnbkhdkchoaaM
import Derived.Orders
namespace Go.Proofs.Ytedcnbkhdkchoaa
open Go.RowKit
set_option linter.unusedVariables false
set_option linter.unusedSimpArgs false

/-- What an operation has looked at, and what it has changed. -/
structure Tr where
  rd : List Nat
  ks : List Nat

/-- Which operations each one comes behind, as bits. -/
def ancs : List Oper → List Nat → List Nat
  | [], acc => acc
  | o :: rest, acc => ancs rest (acc ++ [o.after.toList.foldl (fun s e => if Region.binds .any e then s ||| 2 ^ e.on ||| acc.getD e.on 0 else s) 0])

def slotsOf (ops : Array Oper) (o : Oper) : List Nat := o.looksAt ops
/-- Of two operations, the earlier in the text at i: they are in order, or apart. -/
def pairOk (ops : Array Oper) (i j : Nat) (oi oj : Oper) (ti tj : Tr) (aj : Nat) : Bool :=
  (match oi.dst, oj.dst with
    | some s, some t => s != t
    | _, _ => true) &&
  (aj.testBit i ||
    ((match oi.dst with
      | some s => !(slotsOf ops oj).contains s
      | none => true) &&
    (match oj.dst with
      | some s => !(slotsOf ops oi).contains s
      | none => true) &&
    ti.ks.all (fun g => !tj.rd.contains g && !tj.ks.contains g) && tj.ks.all fun g => !ti.rd.contains g))
def pairsOk (ops : Array Oper) (l : List (Oper × Tr × Nat)) : Bool :=
  (List.range l.length).all fun j => (List.range j).all fun i => match l[i]?, l[j]? with
    | some (oi, ti, _), some (oj, tj, aj) => pairOk ops i j oi oj ti tj aj
    | _, _ => true
def drawOk (ops : Array Oper) (tr : List Tr) : Bool :=
  pairsOk ops (ops.toList.zip (tr.zip (ancs ops.toList []))) && ((List.range ops.size).all fun i => match ops[i]? with
    | some o => o.after.all fun e => !Region.binds .any e || decide (e.on < i)
    | none => true)

/-- Behind an operation that has used up some numbers from fr on. -/
def AfterK (Γ : Nat → Option (List Data)) (L0 : Nat → Prop) (w0 : World) (fr k : Nat) (H : Nat → Blk) (m : Nat → MB) (w : World) (d : D) (u : List (Nat × Blk)) (v : Value) (w' : World) : Prop :=
  ∃ m', WR Γ L0 w0 m' (Hp.upd H u) w' ∧ VV (Live L0 m' (Hp.upd H u)) w' m' d v ∧ Grow (Live L0 m H) w (Live L0 m' (Hp.upd H u)) w' ∧ ∀ g, (g < fr ∨ fr + k ≤ g) → m' g = m g
theorem After.k {Γ : Nat → Option (List Data)} {L0 : Nat → Prop} {w0 : World} {fr : Nat} {H : Nat → Blk} {m : Nat → MB} {w : World} {d : D} {u : List (Nat × Blk)} {v : Value} {w' : World} (h : After Γ L0 w0 fr H m w d u v w') : AfterK Γ L0 w0 fr 1 H m w d u v w' := by
  obtain ⟨m', h1, h2, h3, h4⟩ := h
  exact ⟨m', h1, h2, h3, fun g hg => h4 g (by omega)⟩

section
variable (P : Program) (Γ : Nat → Option (List Data))
/-- A call whose doing at these rows is known. -/
def EC (f : FuncId) (ds : List D) (H : Nat → Blk) (fr k : Nat) (d : D) (u : List (Nat × Blk)) : Prop :=
  CallOk P f ∧ ∀ (L0 : Nat → Prop) (w0 : World) (m : Nat → MB) (w : World) (vs : Array Value), WR Γ L0 w0 m H w → (∀ q, q < k → m (fr + q) = .res) → (∀ g, fr + 64 ≤ g → m g = .res) → ds.length = vs.size →
    (∀ (i : Nat) (d : D) (v : Value), ds[i]? = some d → vs[i]? = some v → VV (Live L0 m H) w m d v) → Calls P f vs w fun e w' => ∃ v, e = .returned v ∧ AfterK Γ L0 w0 fr k H m w d u v w'
def effC (f : FuncId) (ds : List D) (H : Nat → Blk) (fr : Nat) (K : D → List Nat → List (Nat × Blk) → Nat → Prop) : Prop :=
  ∃ d rd u k, 0 < k ∧ (∀ H', (∀ g ∈ rd, H' g = H g) → (∀ g ∈ u.map (·.1), H' g = H g) → EC P Γ f ds H' fr k d u) ∧ K d rd u k
def effK (o : Oper) (e : Nat → D) (H : Nat → Blk) (fr : Nat) (K : D → List Nat → List (Nat × Blk) → Nat → Prop) : Prop := match o.op with
  | .call c => (match c.callee with
    | .value x => (match fnD (evalD Γ e x) with
      | some (f, pre, caps) => effC P Γ f (pre ++ (c.args.toList.map (evalD Γ e) ++ caps)) H fr K
      | none => False)
    | _ => False)
  | _ => False
def stepK (s : St) (o : Oper) (d : D) (u : List (Nat × Blk)) (k : Nat) : St := ⟨Env.dst s.env o.dst d, Hp.upd s.hp u, s.nx + k, s.lo, s.nt⟩
def drawW (ops : Array Oper) : List Oper → St → List Tr → (St → List Tr → Prop) → Prop
  | [], s, tr, K => K s tr.reverse
  | o :: rest, s, tr, K => dstOk o s.nt = true ∧ (match wantedD ops s.env o with
    | some b => ifW b (ifW (isCall o) ((opK P Γ o s.env s.hp s.nx fun d rd u => drawW ops rest (stepSt s o d u) (⟨rd, u.map (·.1)⟩ :: tr) K) ∨ effK P Γ o s.env s.hp s.nx fun d rd u k => drawW ops rest (stepK s o d u k) (⟨rd, u.map (·.1)⟩ :: tr) K)
        (opK P Γ o s.env s.hp s.nx fun d rd u => drawW ops rest (stepSt s o d u) (⟨rd, u.map (·.1)⟩ :: tr) K)) (drawW ops rest (stepSt s o undefD []) (⟨[], []⟩ :: tr) K)
    | none => False)

/-- What an operation came to in the order of the text. -/
structure Res where
  d : D
  rd : List Nat
  u : List (Nat × Blk)
  k : Nat
def Res.tr (r : Res) : Tr := ⟨r.rd, r.u.map (·.1)⟩

/-- An operation at a state comes to this. -/
def Comes1 (ops : Array Oper) (o : Oper) (s : St) (r : Res) : Prop := dstOk o s.nt = true ∧ (match wantedD ops s.env o with
    | some true => (r.k = 1 ∧ opK P Γ o s.env s.hp s.nx fun d rd u => d = r.d ∧ rd = r.rd ∧ u = r.u) ∨ effK P Γ o s.env s.hp s.nx fun d rd u k => d = r.d ∧ rd = r.rd ∧ u = r.u ∧ k = r.k
    | some false => r = ⟨undefD, [], [], 1⟩
    | none => False)
end

section
variable {P : Program} {Γ : Nat → Option (List Data)} {L0 : Nat → Prop} {w0 : World}

/-- opK at its own outcome. -/
def IsOp (P : Program) (Γ : Nat → Option (List Data)) (o : Oper) (e : Nat → D) (H : Nat → Blk) (fr : Nat) (d : D) (rd : List Nat) (u : List (Nat × Blk)) : Prop := opK P Γ o e H fr fun d' rd' u' => d' = d ∧ rd' = rd ∧ u' = u

/-- It goes on in one way alone. -/
def Lin (F : (D → List Nat → List (Nat × Blk) → Prop) → Prop) : Prop := ∀ K, F K → ∃ d rd u, F (fun d' rd' u' => d' = d ∧ rd' = rd ∧ u' = u) ∧ K d rd u
theorem lin_false : Lin (fun _ => False) := fun K h => h.elim
theorem lin_k (d : D) (rd : List Nat) (u : List (Nat × Blk)) : Lin (fun K => K d rd u) := fun K h => ⟨d, rd, u, ⟨rfl, rfl, rfl⟩, h⟩
theorem lin_and {p : Prop} {F : (D → List Nat → List (Nat × Blk) → Prop) → Prop} (h : Lin F) : Lin (fun K => p ∧ F K) := fun K ⟨hp, hf⟩ => by
  obtain ⟨d, rd, u, h1, h2⟩ := h K hf
  exact ⟨d, rd, u, ⟨hp, h1⟩, h2⟩
theorem lin_ex {α : Type} {F : α → (D → List Nat → List (Nat × Blk) → Prop) → Prop} (h : ∀ x, Lin (F x)) : Lin (fun K => ∃ x, F x K) := fun K ⟨x, hf⟩ => by
  obtain ⟨d, rd, u, h1, h2⟩ := h x K hf
  exact ⟨d, rd, u, ⟨x, h1⟩, h2⟩
theorem lin_ite {c : Prop} [Decidable c] {F G : (D → List Nat → List (Nat × Blk) → Prop) → Prop} (h1 : Lin F) (h2 : Lin G) : Lin (fun K => if c then F K else G K) := by
  by_cases h : c
  · simp only [h, if_true]; exact h1
  · simp only [h, if_false]; exact h2

set_option maxHeartbeats 2000000 in
theorem op_lin (o : Oper) (e : Nat → D) (H : Nat → Blk) (fr : Nat) : Lin (opK P Γ o e H fr) := by
  unfold opK
  obtain ⟨dst, op, type, pos, after, guard⟩ := o
  cases op <;> simp only
  case call c =>
    obtain ⟨callee, args, argTypes⟩ := c
    cases callee <;> simp only
    case value x =>
      split
      · unfold callK
        repeat' first | exact lin_k _ _ _ | apply lin_and | (apply lin_ex; intro _)
      · exact lin_false
    case builtin b =>
      cases b <;> simp only
      all_goals (try unfold lenK); (try unfold appendK); (try unfold copyK); (try unfold clearK); (try unfold minmaxK); (try unfold srcK zerosK)
      all_goals (repeat' first | exact lin_false | exact lin_k _ _ _ | apply lin_and | (apply lin_ex; intro _) | apply lin_ite | split | dsimp only | unfold srcK | unfold zerosK | unfold boundsK)
    case invoke => exact lin_false
  case makeMap t r =>
    cases r
    · exact lin_k _ _ _
    · exact lin_false
  all_goals (try unfold buildK); (try unfold extractK); (try unfold zerosK); (try unfold loadK); (try unfold storeK); (try unfold binK eqK); (try unfold unK); (try unfold convK markK); (try unfold sliceK sliceArrK); (try unfold cutK boundsC); (try unfold lookupK lookK); (try unfold zvK); (try unfold insertK); (try unfold entryK); (try unfold boundsK); (try unfold fieldAddrK); (try unfold fieldK); (try unfold indexAddrK); (try unfold indexK); (try unfold partK)
  all_goals (repeat' first | exact lin_false | exact lin_k _ _ _ | apply lin_and | (apply lin_ex; intro _) | apply lin_ite | split | dsimp only | unfold srcK | unfold zerosK | unfold boundsK | unfold lookK | unfold zvK)
theorem eff_lin (o : Oper) (e : Nat → D) (H : Nat → Blk) (fr : Nat) {K : D → List Nat → List (Nat × Blk) → Nat → Prop} (h : effK P Γ o e H fr K) : ∃ d rd u k, (effK P Γ o e H fr fun d' rd' u' k' => d' = d ∧ rd' = rd ∧ u' = u ∧ k' = k) ∧ K d rd u k := by
  unfold effK at h ⊢
  split at h
  · split at h
    · split at h
      · obtain ⟨d, rd, u, k, h1, h2, h3⟩ := h
        exact ⟨d, rd, u, k, ⟨d, rd, u, k, h1, h2, rfl, rfl, rfl, rfl⟩, h3⟩
      · exact h.elim
    · exact h.elim
  · exact h.elim
theorem eff_congr {o : Oper} {e e' : Nat → D} (h : ∀ x ∈ o.op.operands, evalD Γ e' x = evalD Γ e x) (H : Nat → Blk) (fr : Nat) (K : D → List Nat → List (Nat × Blk) → Nat → Prop) : effK P Γ o e' H fr K = effK P Γ o e H fr K := by
  obtain ⟨dst, op, type, pos, after, guard⟩ := o
  cases op <;> simp only [effK, Op.operands] at h ⊢
  case call c =>
    obtain ⟨callee, args, argTypes⟩ := c
    have hargs : args.toList.map (evalD Γ e') = args.toList.map (evalD Γ e) := by
      apply List.map_congr_left
      intro x hx
      refine h x ?_
      simp only [Call.operands, Array.mem_append]
      exact .inr (by simpa using hx)
    cases callee <;> simp only
    case value x =>
      have hx : evalD Γ e' x = evalD Γ e x := h x (by simp [Call.operands])
      rw [hargs, hx]
theorem eff_loc {o : Oper} {e : Nat → D} {H H' : Nat → Blk} {fr : Nat} {d : D} {rd : List Nat} {u : List (Nat × Blk)} {k : Nat} (h : effK P Γ o e H fr fun d' rd' u' k' => d' = d ∧ rd' = rd ∧ u' = u ∧ k' = k)
    (hr : ∀ g ∈ rd, H' g = H g) (hu : ∀ g ∈ u.map (·.1), H' g = H g) : effK P Γ o e H' fr fun d' rd' u' k' => d' = d ∧ rd' = rd ∧ u' = u ∧ k' = k := by
  unfold effK at *
  split at h
  · split at h
    · split at h
      · obtain ⟨d1, rd1, u1, k1, h0, h1, rfl, rfl, rfl, rfl⟩ := h
        exact ⟨d1, rd1, u1, k1, h0, fun H2 a b => h1 H2 (fun g hg => (a g hg).trans (hr g hg)) (fun g hg => (b g hg).trans (hu g hg)), rfl, rfl, rfl, rfl⟩
      · exact h.elim
    · exact h.elim
  · exact h.elim

theorem op_congr {o : Oper} {e e' : Nat → D} (h : ∀ x ∈ o.op.operands, evalD Γ e' x = evalD Γ e x) (H : Nat → Blk) (fr : Nat) (K : D → List Nat → List (Nat × Blk) → Prop) : opK P Γ o e' H fr K = opK P Γ o e H fr K := by
  obtain ⟨dst, op, type, pos, after, guard⟩ := o
  cases op <;> simp only [opK, Op.operands] at h ⊢
  case move x => rw [h x (by simp)]
  case assign x => rw [h x (by simp)]
  case pick c a b => rw [h c (by simp), h a (by simp), h b (by simp)]
  case box t x => rw [h x (by simp)]
  case build t parts =>
    have : parts.toList.map (fun x => (x.1, evalD Γ e' x.2)) = parts.toList.map (fun x => (x.1, evalD Γ e x.2)) := by
      apply List.map_congr_left
      intro x hx
      rw [h x.2 (by simp only [List.mem_toArray, List.mem_map]; exact ⟨x, hx, rfl⟩)]
    rw [this]
  case buildSlice t len parts =>
    have : parts.toList.map (fun x => (x.1, evalD Γ e' x.2)) = parts.toList.map (fun x => (x.1, evalD Γ e x.2)) := by
      apply List.map_congr_left
      intro x hx
      rw [h x.2 (by simp only [List.mem_toArray, List.mem_map]; exact ⟨x, hx, rfl⟩)]
    rw [this]
  case load t x => rw [h x (by simp)]
  case store t a x => rw [h a (by simp), h x (by simp)]
  case binOp op t x y _ => rw [h x (by simp), h y (by simp)]
  case unOp op _ x => rw [h x (by simp)]
  case convert s d x => rw [h x (by simp)]
  case makeSlice t l c => rw [h l (by simp), h c (by simp)]
  case slice t x lo hi mx =>
    have hlo : lo.map (evalD Γ e') = lo.map (evalD Γ e) := by cases lo with | none => rfl | some y => simp [h y (by simp)]
    have hhi : hi.map (evalD Γ e') = hi.map (evalD Γ e) := by cases hi with | none => rfl | some y => simp [h y (by simp)]
    have hmx : mx.map (evalD Γ e') = mx.map (evalD Γ e) := by cases mx with | none => rfl | some y => simp [h y (by simp)]
    rw [h x (by simp), hlo, hhi, hmx]
  case fieldAddr t x f => rw [h x (by simp)]
  case field t x f => rw [h x (by simp)]
  case indexAddr t x ix => rw [h x (by simp), h ix (by simp)]
  case index t x ix => rw [h x (by simp), h ix (by simp)]
  case extract x i => rw [h x (by simp)]
  case nilCheck x => rw [h x (by simp)]
  case makeMap t r => cases r <;> rfl
  case insert t m k x => rw [h m (by simp), h k (by simp), h x (by simp)]
  case mapUpdate t m k x => rw [h m (by simp), h k (by simp), h x (by simp)]
  case lookup t x i ok => rw [h x (by simp), h i (by simp)]
  case range t x => rw [h x (by simp)]
  case entry x => rw [h x (by simp)]
  case makeFunc f first caps =>
    have : caps.toList.map (evalD Γ e') = caps.toList.map (evalD Γ e) := by
      apply List.map_congr_left
      intro x hx
      exact h x (by simp only [Array.mem_append]; exact .inr (by simpa using hx))
    rw [this]
    have hone : ∀ x, x ∈ first.toList → evalD Γ e' x = evalD Γ e x := fun x hx => h x (by simp only [Array.mem_append]; exact .inl (by simpa using hx))
    generalize first.toList = fl at hone
    match f, fl, hone with
    | .func f, [], _ => rfl
    | .func f, [r], hone =>
      have := hone r (by simp)
      simp only [this]
    | .func f, _ :: _ :: _, _ => rfl
    | .method .., _, _ => rfl
    | .methodOf .., _, _ => rfl
    | .via .., _, _ => rfl
    | .yield .., _, _ => rfl
  case call c =>
    obtain ⟨callee, args, argTypes⟩ := c
    have hargs : args.toList.map (evalD Γ e') = args.toList.map (evalD Γ e) := by
      apply List.map_congr_left
      intro x hx
      refine h x ?_
      simp only [Call.operands, Array.mem_append]
      exact .inr (by simpa using hx)
    have hone : ∀ x, x ∈ args.toList → evalD Γ e' x = evalD Γ e x := fun x hx => h x (by
      simp only [Call.operands, Array.mem_append]
      exact .inr (by simpa using hx))
    cases callee <;> simp only
    case value x =>
      have hx : evalD Γ e' x = evalD Γ e x := h x (by simp [Call.operands])
      rw [hargs, hx]
    case builtin b =>
      cases b <;> simp only
      case len =>
        split
        · rename_i t x _ hx
          rw [hone x (by rw [hx]; simp)]
        · rfl
      case append =>
        split
        · rename_i st xt x y _ _ hx
          rw [hone x (by rw [hx]; simp), hone y (by rw [hx]; simp)]
        · rfl
      case copy =>
        split
        · rename_i st x y _ hx
          rw [hone x (by rw [hx]; simp), hone y (by rw [hx]; simp)]
        · rfl
      case clear =>
        split
        · rename_i t x _ hx
          rw [hone x (by rw [hx]; simp)]
        · rfl
      case min => rw [hargs]
      case max => rw [hargs]

theorem boundsK_iff {len : Nat} {lo hi : Option D} {K : Nat → Nat → Prop} : boundsK len lo hi K ↔ ∃ a b, boundsK len lo hi (fun a' b' => a' = a ∧ b' = b) ∧ K a b := by
  unfold boundsK
  constructor
  · intro h
    split at h
    · obtain ⟨h0, h1, h2, h⟩ := h
      exact ⟨_, _, ⟨h0, h1, h2, rfl, rfl⟩, h⟩
    · exact h.elim
  · rintro ⟨a, b, h, hk⟩
    split at h
    · obtain ⟨h0, h1, h2, rfl, rfl⟩ := h
      exact ⟨h0, h1, h2, hk⟩
    · exact h.elim

theorem src_loc {y : D} {es : Nat} {H H' : Nat → Blk} {K : Nat → List D → List Nat → Prop} (h : srcK y es H K) (ha : ∀ n cs rd, K n cs rd → ∀ g ∈ rd, H' g = H g) : srcK y es H' K := by
  unfold srcK at *
  split at h
  · exact h
  · exact h
  · obtain ⟨h1, h⟩ := h
    refine ⟨h1, ?_⟩
    split at h
    · rename_i hg
      obtain ⟨h2, h⟩ := h
      rw [ha _ _ _ h _ (by simp), hg]
      exact ⟨h2, h⟩
    · exact h.elim
  · obtain ⟨h1, h⟩ := h
    refine ⟨h1, ?_⟩
    split at h
    · rename_i hg
      obtain ⟨h2, h⟩ := h
      rw [ha _ _ _ h _ (by simp), hg]
      exact ⟨h2, h⟩
    · exact h.elim
  · exact h
  · exact h

theorem src_ex {y : D} {es : Nat} {H : Nat → Blk} {K : Nat → List D → List Nat → Prop} (h : srcK y es H K) : ∃ n cs rd, K n cs rd := by
  unfold srcK at h
  split at h
  · exact ⟨_, _, _, h⟩
  · exact ⟨_, _, _, h.2⟩
  · obtain ⟨_, h⟩ := h
    split at h
    · exact ⟨_, _, _, h.2⟩
    · exact h.elim
  · obtain ⟨_, h⟩ := h
    split at h
    · exact ⟨_, _, _, h.2⟩
    · exact h.elim
  · exact ⟨_, _, _, h.2⟩
  · exact h.elim

theorem ins_loc {t : TypeId} {x key v d : D} {H H' : Nat → Blk} {rd : List Nat} {u : List (Nat × Blk)} (h : insertK P t x key v H fun rd' u' => D.junk = d ∧ rd' = rd ∧ u' = u) (hr : ∀ g ∈ rd, H' g = H g) : insertK P t x key v H' fun rd' u' => D.junk = d ∧ rd' = rd ∧ u' = u := by
  unfold insertK at *
  split at h
  · obtain ⟨h1, h⟩ := h
    refine ⟨h1, ?_⟩
    split at h
    · rename_i hg
      have hrd : ∀ g, [g] = rd → H' g = H g := fun g e => hr g (by rw [← e]; simp)
      split at h
      · rename_i hf
        rw [hrd _ h.2.1, hg]
        simp only [hf]
        exact h
      · rename_i hf
        rw [hrd _ h.2.1, hg]
        simp only [hf]
        exact h
      · exact h.elim
    · exact h.elim
  · exact h.elim
theorem look_ex {et : TypeId} {ks : List Data} {xs : List D} {k : Data} {ok : Bool} {d : D} {rd0 rd : List Nat} {u0 u : List (Nat × Blk)} (h : lookK P et ks xs k ok fun d' => d' = d ∧ rd0 = rd ∧ u0 = u) : rd0 = rd := by
  unfold lookK zvK at h
  repeat' split at h
  all_goals first | exact h.2.1 | exact h.elim

theorem op_loc {o : Oper} {e : Nat → D} {H H' : Nat → Blk} {fr : Nat} {d : D} {rd : List Nat} {u : List (Nat × Blk)} (h : opK P Γ o e H fr fun d' rd' u' => d' = d ∧ rd' = rd ∧ u' = u)
    (hr : ∀ g ∈ rd, H' g = H g) (hu : ∀ g ∈ u.map (·.1), H' g = H g) : opK P Γ o e H' fr fun d' rd' u' => d' = d ∧ rd' = rd ∧ u' = u := by
  obtain ⟨dst, op, type, pos, after, guard⟩ := o
  cases op <;> simp only [opK] at h ⊢
  case convert s d' x =>
    split at h
    · rename_i g off len es heq
      unfold markK at *
      obtain ⟨h1, h2, h3, h4, h⟩ := h
      refine ⟨h1, h2, h3, h4, ?_⟩
      split at h
      · rename_i el hel
        try simp only [hel]
        obtain ⟨h5, h⟩ := h
        refine ⟨h5, ?_⟩
        split at h
        · rename_i cells hg
          split at h
          · rename_i l hl
            obtain ⟨h6, h7, h8, h9, h10⟩ := h
            rw [hr g (by rw [← h9]; simp), hg]
            try simp only [hl]
            exact ⟨h6, h7, h8, h9, h10⟩
          · exact h.elim
        · exact h.elim
      · exact h.elim
    · exact h
  case load t x =>
    unfold loadK at *
    split at h
    · split at h
      · rename_i hg
        split at h
        · obtain ⟨h1, h2, h3, h4⟩ := h
          rw [hr _ (by rw [← h3]; simp), hg]
          exact ⟨h1, h2, h3, h4⟩
        · obtain ⟨q, h1, h2, h3, h4⟩ := h
          rw [hr _ (by rw [← h3]; simp), hg]
          exact ⟨q, h1, h2, h3, h4⟩
        · exact h.elim
      · exact h.elim
    · exact h
    · exact h.elim
  case store t x y =>
    unfold storeK at *
    split at h
    · split at h
      · rename_i hg
        obtain ⟨h1, h2, h3, h4, h5, h6⟩ := h
        rw [hu _ (by rw [← h6]; simp), hg]
        exact ⟨h1, h2, h3, h4, h5, h6⟩
      · exact h.elim
    · exact h.elim
  case slice t x lo hi mx =>
    split at h
    · unfold sliceArrK at *
      split at h
      · exact h.elim
      · split at h
        · split at h
          · rename_i hg
            have hb := h.2.2
            obtain ⟨a, b, _, _, h3, _⟩ := boundsK_iff.1 hb
            simp only
            rw [hr _ (by rw [← h3]; simp), hg]
            simp only [*]
            simp_all
          · exact h.elim
        · exact h
        · exact h.elim
    · unfold sliceArrK at *
      split at h
      · exact h.elim
      · split at h
        · split at h
          · rename_i hg
            have hb := h.2.2
            obtain ⟨a, b, _, _, h3, _⟩ := boundsK_iff.1 hb
            simp only
            rw [hr _ (by rw [← h3]; simp), hg]
            simp_all
          · exact h.elim
        · exact h
        · exact h.elim
    · exact h
    · exact h
  case call c =>
    obtain ⟨callee, args, argTypes⟩ := c
    cases callee <;> simp only at h ⊢
    case value x =>
      split at h
      · obtain ⟨F, xs, r, rd', hF, hpc, hfz, h1, h2, h3⟩ := h
        have hkey : ∀ g ∈ F, H' g = H g := fun g hg => by
          obtain ⟨rw, cells, hb⟩ := hF g hg
          refine hu g (by rw [← h3]; simp only [List.map_map, List.mem_map]; exact ⟨g, hg, rfl⟩)
        have hmap : F.map (fun g => (g, fz (H' g))) = F.map fun g => (g, fz (H g)) := List.map_congr_left fun g hg => by rw [hkey g hg]
        refine ⟨F, xs, r, rd', fun g hg => by rw [hkey g hg]; exact hF g hg, hpc, ?_, h1, h2, by rw [hmap]; exact h3⟩
        rw [hmap]
        rcases hfz with ⟨q1, q2, q3⟩ | q3
        · exact .inl ⟨q1, q2, fun H2 hH2 => q3 H2 fun g hg => (hH2 g hg).trans (hr g (by rw [← h2]; exact hg))⟩
        · exact .inr fun H2 hH2 => q3 H2 fun g hg => (hH2 g hg).trans (hr g (by rw [← h2]; exact hg))
      · exact h.elim
    case builtin b =>
      cases b <;> simp only at h ⊢
      case append =>
        split at h
        · unfold appendK at *
          split at h
          · split at h
            · obtain ⟨h1, h2, h⟩ := h
              refine ⟨h1, h2, ?_⟩
              split at h
              · split at h
                · rename_i hif
                  rw [if_pos hif]
                  exact h
                · rename_i hif
                  rw [if_neg hif]
                  obtain ⟨h3, h⟩ := h
                  exact ⟨h3, src_loc h fun n cs rd' hk g hg => hr g (by rw [← hk.2.2.2.2.1]; exact hg)⟩
              · obtain ⟨h3, h⟩ := h
                refine ⟨h3, ?_⟩
                split at h
                · rename_i g _ _ _ _ hg
                  obtain ⟨h4, h⟩ := h
                  split at h
                  · rename_i hif
                    split at h
                    · have hz := h.2.2.2
                      unfold zerosK at hz
                      split at hz
                      · rw [hr _ (by rw [← hz.2.2.2.2.1]; simp), hg]
                        simp only
                        rw [if_pos hif]
                        simp_all
                      · exact hz.elim
                    · exact h.elim
                  · rename_i hif
                    obtain ⟨h5, h⟩ := h
                    obtain ⟨n, cs, rd', hk⟩ := src_ex h
                    rw [hr _ (by rw [← hk.2.2.2.2.1]; simp), hg]
                    simp only
                    rw [if_neg hif]
                    exact ⟨h4, h5, src_loc h fun n cs rd' hk q hq => hr q (by rw [← hk.2.2.2.2.1]; simp [hq])⟩
                · exact h.elim
              · obtain ⟨h3, h⟩ := h
                refine ⟨h3, ?_⟩
                split at h
                · rename_i g _ _ _ _ _ _ hg
                  obtain ⟨h4, h5, h6, h⟩ := h
                  obtain ⟨n, cs, rd', hk⟩ := src_ex h
                  rw [hr _ (by rw [← hk.2.2.2.1]; simp), hg]
                  exact ⟨h4, h5, h6, src_loc h fun n cs rd' hk q hq => hr q (by rw [← hk.2.2.2.1]; simp [hq])⟩
                · exact h.elim
              · exact h.elim
            · exact h.elim
          · exact h.elim
        · exact h.elim
      case copy =>
        split at h
        · unfold copyK at *
          split at h
          · split at h
            · split at h
              · obtain ⟨h3, h⟩ := h
                refine ⟨h3, ?_⟩
                split at h
                · rename_i hg
                  obtain ⟨h4, h⟩ := h
                  obtain ⟨n, cs, rd', hk⟩ := src_ex h
                  rw [hr _ (by rw [← hk.2.2.1]; simp), hg]
                  exact ⟨h4, src_loc h fun n cs rd' hk q hq => hr q (by rw [← hk.2.2.1]; simp [hq])⟩
                · exact h.elim
              · exact h.elim
            · exact h.elim
          · exact h.elim
        · exact h.elim
      case clear =>
        split at h
        · unfold clearK at *
          split at h
          · split at h
            · exact h
            · split at h
              · rename_i hg
                obtain ⟨h1, h2, h⟩ := h
                have hz := h
                unfold zerosK at hz
                split at hz
                · rw [hr _ (by rw [← hz.2.2.2.2.1]; simp), hg]
                  exact ⟨h1, h2, h⟩
                · exact hz.elim
              · exact h.elim
            · split at h
              · rename_i hg
                obtain ⟨h1, h2, h⟩ := h
                have hz := h
                unfold zerosK at hz
                split at hz
                · rw [hr _ (by rw [← hz.2.2.2.2.1]; simp), hg]
                  exact ⟨h1, h2, h⟩
                · exact hz.elim
              · exact h.elim
            · exact h.elim
          · exact h.elim
        · exact h.elim
      all_goals exact h
    all_goals exact h
  case makeMap t r => cases r <;> exact h
  case insert t m k x => exact ins_loc h hr
  case mapUpdate t m k x => exact ins_loc h hr
  case lookup t x i ok =>
    unfold lookupK at *
    split at h
    · obtain ⟨h1, h⟩ := h
      refine ⟨h1, ?_⟩
      split at h
      · exact h
      · split at h
        · rename_i hg
          rw [hr _ (by rw [← look_ex h]; simp), hg]
          exact h
        · exact h.elim
      · exact h.elim
    · exact h.elim
  case entry x =>
    unfold entryK at *
    split at h
    · split at h
      · rename_i hg
        obtain ⟨k, v, h1, h2, h3, h4, h5⟩ := h
        rw [hr _ (by rw [← h4]; simp), hg]
        exact ⟨k, v, h1, h2, h3, h4, h5⟩
      · exact h.elim
    · exact h.elim
  all_goals exact h
end
end Go.Proofs.Ytedcnbkhdkchoaa
