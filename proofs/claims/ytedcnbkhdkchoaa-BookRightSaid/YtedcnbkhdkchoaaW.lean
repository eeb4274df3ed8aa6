/- Arrays of numbers, held against each other. -/
import Derived.DeepKeys
import Derived.Laws.StructEq
import Derived.Test.YtedcnbkhdkchoaaU
namespace Go.Proofs.Ytedcnbkhdkchoaa
open Go.RowKit
set_option linter.unusedVariables false
set_option linter.unusedSimpArgs false

theorem vd_ints {L : Nat → Prop} {w : World} {k : IntKind} : ∀ {l : List Nat} {vs : Array Value}, l.length = vs.size → (∀ (i : Nat) (x : Data) (v : Value), (l.map fun n => Data.int k (n : Nat))[i]? = some x → vs[i]? = some v → VD L w x v) → vs = (l.map fun n => Value.int k (n : Nat)).toArray := by
  intro l vs hl h
  apply Array.ext
  · simp [hl]
  · intro i h1 h2
    have hi : i < l.length := by simpa using h2
    have := h i (.int k (l[i] : Nat)) vs[i] (by simp [hi]) (Array.getElem?_eq_getElem h1)
    simp only [List.getElem_toArray, List.getElem_map]
    generalize vs[i] = q at this ⊢
    cases this
    rfl
def lints (k : IntKind) (l : List Nat) : List Lit := l.map fun n => Lit.int k (n : Nat)
theorem lints_inj {k : IntKind} : ∀ {l m : List Nat}, lints k l = lints k m ↔ l = m
  | [], [] => by simp
  | [], _ :: _ => by simp [lints]
  | _ :: _, [] => by simp [lints]
  | x :: l, y :: m => by
    have ih := @lints_inj k l m
    show (Lit.int k (x : Nat) :: lints k l = Lit.int k (y : Nat) :: lints k m) ↔ _
    simp only [List.cons.injEq, ih, Lit.int.injEq, true_and]
    constructor <;> rintro ⟨a, b⟩ <;> exact ⟨by omega, b⟩
theorem mapM_all {α β : Type} (f : α → Option β) (g : α → β) : ∀ l : List α, (∀ a ∈ l, f a = some (g a)) → l.mapM f = some (l.map g)
  | [], _ => rfl
  | a :: l, h => by
    rw [List.mapM_cons, h a (by simp), mapM_all f g l fun b hb => h b (by simp [hb])]
    rfl
/-- What a type of arrays of numbers must be. -/
structure IntArr (P : Program) (t e : TypeId) (n : Nat) (k : IntKind) (B : Nat) : Prop where
  ut : P.underlying t = some (.array n e)
  ue : P.underlying e = some (.int k)
  ct : P.cellsOf t = n
  ce : P.cellsOf e = 1
  deep : EqAt P (9998 + 2) t
  guard : P.eqGuardType P.depth t = false
  range : ∀ x : Nat, x < B → P.keyLits 2 e [.int k (x : Nat)] = some [Lit.int k (x : Nat)]
theorem eqR_ints {P : Program} {t e : TypeId} {n B : Nat} {k : IntKind} (h : IntArr P t e n k B) {l m : List Nat} (hl : l.length = n) (hm : m.length = n) (bl : ∀ x ∈ l, x < B) (bm : ∀ x ∈ m, x < B) :
    EqR P t (.agg (l.map fun x => .int k (x : Nat))) (.agg (m.map fun x => .int k (x : Nat))) (decide (l = m)) := by
  intro L w ox oy vx vy hx hy
  cases hx with
  | agg _ vs hs hv =>
  cases hy with
  | agg _ us hs2 hv2 =>
  obtain rfl := vd_ints (by simpa using hs) hv
  obtain rfl := vd_ints (by simpa using hs2) hv2
  refine ⟨fun op => run_eqGuard_agg w op t ox oy _ _ h.guard, ?_⟩
  have lits : ∀ (l : List Nat), l.length = n → (∀ x ∈ l, x < B) → P.keyLits 3 t ((l.map fun x => Value.int k (x : Nat)).toArray).toList = some (lints k l) := by
    intro l hl hb
    rw [Program.keyLits.eq_def]
    simp only [h.ut, h.ct, h.ce]
    rw [if_pos (by simp [hl]), mapM_all _ (fun i => [Lit.int k (l.getD i 0 : Nat)])]
    · subst hl
      simp only [Option.map_some, Option.some.injEq]
      rw [List.flatten_eq_flatMap, List.flatMap_map]
      simp only [id]
      unfold lints
      have fm : ∀ (l' : List Nat) (f : Nat → Lit), l'.flatMap (fun a => [f a]) = l'.map f := fun l' f => by
        induction l' with
        | nil => rfl
        | cons a l' ih => simp [ih]
      rw [fm]
      apply List.ext_getElem?
      intro i
      by_cases hi : i < l.length
      · simp [hi, List.getD_eq_getElem?_getD]
      · simp [hi, List.getElem?_eq_none (Nat.le_of_not_lt hi)]
    · intro i hi
      have hi : i < l.length := by rw [hl]; exact List.mem_range.1 hi
      have e : (((l.map fun x => Value.int k (x : Nat)).toArray.toList).drop (i * 1)).take 1 = [.int k (l[i] : Nat)] := by
        rw [Nat.mul_one, List.drop_eq_getElem_cons (by simpa using hi)]
        simp
      rw [e, h.range _ (hb _ (List.getElem_mem hi))]
      simp [hi]
  have formed : ∀ (l : List Nat), l.length = n → (Value.agg (l.map fun x => Value.int k (x : Nat)).toArray).formed P t = true := by
    intro l hl
    simp only [Value.formed, h.ut, h.ct]
    simp [hl]
  obtain ⟨r, hr, hi⟩ := h.deep w 3 3 _ _ (lints k l) (lints k m) (formed l hl) (formed m hm) (by simpa [Value.cells] using lits l hl bl) (by simpa [Value.cells] using lits m hm bm)
  have e : r = decide (l = m) := by
    rw [Bool.eq_iff_iff, hi, lints_inj]
    simp
  rw [← e]
  exact hr
/-- Two of them, in the walk. -/
theorem eqK_ints {P : Program} {t e : TypeId} {n B : Nat} {k : IntKind} (h : IntArr P t e n k B) {l m : List Nat} (hl : l.length = n) (hm : m.length = n) (bl : ∀ x ∈ l, x < B) (bm : ∀ x ∈ m, x < B) {K : Bool → Prop} (hk : K (decide (l = m))) : eqK P t (.agg (l.map fun x => .int k (x : Nat))) (.agg (m.map fun x => .int k (x : Nat))) K := ⟨_, eqR_ints h hl hm bl bm, hk⟩
end Go.Proofs.Ytedcnbkhdkchoaa
