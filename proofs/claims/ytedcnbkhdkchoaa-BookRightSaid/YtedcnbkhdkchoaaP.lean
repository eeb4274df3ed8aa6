/- Structs of numbers, truth values and strings, held against each other. -/
import Derived.DeepKeys
import Derived.Laws.StructEq
import Derived.Test.YtedcnbkhdkchoaaW
namespace Go.Proofs.Ytedcnbkhdkchoaa
open Go.RowKit
set_option linter.unusedVariables false
set_option linter.unusedSimpArgs false

/-- A kind of cell. -/
inductive FK where
  | b
  | i (k : IntKind)
  | s
def FK.okB (P : Program) (t : TypeId) : FK → Bool
  | .b => match P.underlying t with | some .bool => true | _ => false
  | .i k => match P.underlying t with | some (.int q) => decide (q = k) | _ => false
  | .s => match P.underlying t with | some .string => true | _ => false
def FK.fit : FK → Data → Prop
  | .b, x => ∃ b, x = .bool b
  | .i k, x => ∃ n : Int, x = .int k n ∧ (Lit.int k n).wf = true
  | .s, x => ∃ s : ByteArray, x = .str s ∧ s.size ≤ maxLen
def FitD (ks : List FK) (xs : List Data) : Prop := xs.length = ks.length ∧ ∀ (i : Nat) (k : FK) (x : Data), ks[i]? = some k → xs[i]? = some x → k.fit x
@[go_sem] theorem fitD_nil : FitD [] [] ↔ True := iff_true_intro ⟨rfl, fun i k x h => by simp at h⟩
@[go_sem] theorem fitD_cons (k : FK) (ks : List FK) (x : Data) (xs : List Data) : FitD (k :: ks) (x :: xs) ↔ k.fit x ∧ FitD ks xs := by
  constructor
  · rintro ⟨h1, h2⟩
    exact ⟨h2 0 k x rfl rfl, by simpa using h1, fun i k' x' hk hx => h2 (i + 1) k' x' (by simpa using hk) (by simpa using hx)⟩
  · rintro ⟨h1, h2, h3⟩
    refine ⟨by simpa using h2, fun i k' x' hk hx => ?_⟩
    match i with
    | 0 => simp at hk hx; subst hk; subst hx; exact h1
    | i + 1 => exact h3 i k' x' (by simpa using hk) (by simpa using hx)
theorem fit_bool (b : Bool) : FK.fit .b (.bool b) := ⟨b, rfl⟩
theorem fit_int {k : IntKind} {n : Int} (h : k.min ≤ n ∧ n ≤ k.max) : FK.fit (.i k) (.int k n) := ⟨n, rfl, by simp [Lit.wf, h]⟩
theorem fit_str {s : ByteArray} (h : s.size ≤ maxLen) : FK.fit .s (.str s) := ⟨s, rfl, h⟩
def litD : Data → Lit
  | .bool b => .bool b
  | .int k n => .int k n
  | .str s => .string s.data.toList
  | _ => .bool false
def valD : Data → Value
  | .bool b => .bool b
  | .int k n => .int k n
  | .str s => .string s
  | _ => .nilIface
theorem fit_val {k : FK} {x : Data} {v : Value} {L : Nat → Prop} {w : World} (hf : k.fit x) (h : VD L w x v) : v = valD x := by
  cases k with
  | b => obtain ⟨b, rfl⟩ := hf; cases h; rfl
  | i k => obtain ⟨n, rfl, _⟩ := hf; cases h; rfl
  | s => obtain ⟨s, rfl, _⟩ := hf; cases h; rfl
theorem fit_inj {k : FK} {x y : Data} (hx : k.fit x) (hy : k.fit y) (e : litD x = litD y) : x = y := by
  cases k with
  | b => obtain ⟨b, rfl⟩ := hx; obtain ⟨c, rfl⟩ := hy; simpa [litD] using e
  | i k => obtain ⟨n, rfl, _⟩ := hx; obtain ⟨m, rfl, _⟩ := hy; simpa [litD] using e
  | s =>
    obtain ⟨s, rfl, _⟩ := hx
    obtain ⟨t, rfl, _⟩ := hy
    have : s.data.toList = t.data.toList := by simpa [litD] using e
    have h2 : s = t := by
      cases s; cases t
      simp only at this
      congr 1
      exact Array.toList_inj.1 this
    rw [h2]
theorem fitD_inj : ∀ {ks : List FK} {xs ys : List Data}, FitD ks xs → FitD ks ys → (xs.map litD = ys.map litD ↔ xs = ys)
  | [], xs, ys, hx, hy => by
    have h1 := List.eq_nil_of_length_eq_zero hx.1
    have h2 := List.eq_nil_of_length_eq_zero hy.1
    subst h1; subst h2; simp
  | k :: ks, [], _, hx, _ => by have := hx.1; simp at this
  | k :: ks, _ :: _, [], _, hy => by have := hy.1; simp at this
  | k :: ks, x :: xs, y :: ys, hx, hy => by
    obtain ⟨a1, a2⟩ := (fitD_cons k ks x xs).1 hx
    obtain ⟨b1, b2⟩ := (fitD_cons k ks y ys).1 hy
    have ih := fitD_inj a2 b2
    simp only [List.map_cons, List.cons.injEq, ih]
    constructor
    · rintro ⟨e1, e2⟩; exact ⟨fit_inj a1 b1 e1, e2⟩
    · rintro ⟨e1, e2⟩; exact ⟨by rw [e1], e2⟩
def flatB (P : Program) (fs : Array Field) (ks : List FK) : Bool := (List.range ks.length).all fun i => match fs[i]?, ks[i]? with
  | some f, some k => decide (f.offset = i) && decide (P.cellsOf f.type = 1) && k.okB P f.type
  | _, _ => false
/-- A struct of such cells. -/
structure FlatS (P : Program) (t : TypeId) (fs : Array Field) (ks : List FK) : Prop where
  ut : P.underlying t = some (.struct fs)
  n : fs.size = ks.length
  ct : P.cellsOf t = ks.length
  names : fs.all (·.name != "_") = true
  each : flatB P fs ks = true
  deep : EqAt P (9998 + 2) t
  guard : P.eqGuardType P.depth t = false
theorem FlatS.lits {P : Program} {t : TypeId} {fs : Array Field} {ks : List FK} (h : FlatS P t fs ks) {xs : List Data} (hx : FitD ks xs) : P.keyLits 3 t (xs.map valD) = some (xs.map litD) := by
  rw [Program.keyLits.eq_def]
  simp only [h.ut]
  have hlen : xs.length = P.cellsOf t := by rw [h.ct, hx.1]
  rw [if_pos ⟨by simp [hlen], h.names⟩]
  have key : ∀ (n : Nat) (l : List Field), n + l.length = xs.length → (∀ i, i < l.length → l[i]? = fs[n + i]?) → (l.mapM fun f => P.keyLits 2 f.type (((xs.map valD).drop f.offset).take (P.cellsOf f.type))) = some ((xs.drop n).map fun x => [litD x]) := by
    intro n l
    induction l generalizing n with
    | nil => intro hl _; simp at hl; rw [List.drop_of_length_le (by omega)]; rfl
    | cons f l ih =>
      intro hl hf
      simp only [List.length_cons] at hl
      have hnl : n < xs.length := by omega
      have hnk : n < ks.length := by rw [← hx.1]; exact hnl
      have hfn : fs[n]? = some f := by have := hf 0 (by simp); simpa using this.symm
      have hall := List.all_eq_true.1 h.each n (List.mem_range.2 hnk)
      rw [hfn, List.getElem?_eq_getElem hnk] at hall
      simp only [Bool.and_eq_true, decide_eq_true_eq] at hall
      obtain ⟨⟨ho, hc⟩, hk⟩ := hall
      have hfit := hx.2 n ks[n] xs[n] (List.getElem?_eq_getElem hnk) (List.getElem?_eq_getElem hnl)
      rw [List.mapM_cons, ih (n + 1) (by omega) (fun i hi => by have := hf (i + 1) (by simp; omega); simpa [Nat.add_assoc, Nat.add_comm 1] using this)]
      have e1 : ((xs.map valD).drop f.offset).take (P.cellsOf f.type) = [valD xs[n]] := by
        rw [ho, hc, List.drop_eq_getElem_cons (by simpa using hnl)]; simp
      have e2 : P.keyLits 2 f.type [valD xs[n]] = some [litD xs[n]] := by
        generalize ks[n] = kk at hk hfit
        cases kk with
        | b =>
          obtain ⟨b, hb⟩ := hfit
          rw [hb, Program.keyLits.eq_def]
          simp only [FK.okB] at hk
          split at hk
          · rename_i hu; simp only [hu]; rfl
          · cases hk
        | i k =>
          obtain ⟨m, hb, hw⟩ := hfit
          rw [hb, Program.keyLits.eq_def]
          simp only [FK.okB] at hk
          split at hk
          · rename_i q hu
            have hq : q = k := by simpa using hk
            subst hq
            simp only [hu, valD]
            rw [if_pos (by simpa using hw)]; rfl
          · cases hk
        | s =>
          obtain ⟨st, hb, hw⟩ := hfit
          rw [hb, Program.keyLits.eq_def]
          simp only [FK.okB] at hk
          split at hk
          · rename_i hu
            simp only [hu, valD]
            rw [if_pos hw]; rfl
          · cases hk
      rw [e1, e2, List.drop_eq_getElem_cons hnl]
      rfl
  have := key 0 fs.toList (by simp [h.n, hx.1]) (fun i hi => by simp)
  rw [this]
  simp only [List.drop_zero, Option.map_some, Option.some.injEq]
  rw [List.flatten_eq_flatMap, List.flatMap_map]
  have fm : ∀ (l : List Data), (l.flatMap fun x => id [litD x]) = l.map litD := fun l => by
    induction l with
    | nil => rfl
    | cons a l ih =>
      simp only [List.flatMap_cons, List.map_cons, id] at ih ⊢
      rw [ih]; rfl
  exact fm xs
theorem fitD_vals {ks : List FK} {xs : List Data} {vs : Array Value} {L : Nat → Prop} {w : World} (hx : FitD ks xs) (hl : xs.length = vs.size) (h : ∀ (i : Nat) (x : Data) (v : Value), xs[i]? = some x → vs[i]? = some v → VD L w x v) : vs = (xs.map valD).toArray := by
  apply Array.ext
  · simp [hl]
  · intro i h1 h2
    have hi : i < xs.length := by simpa using h2
    have hk : i < ks.length := by rw [← hx.1]; exact hi
    have hv := h i xs[i] vs[i] (List.getElem?_eq_getElem hi) (Array.getElem?_eq_getElem h1)
    rw [fit_val (hx.2 i ks[i] xs[i] (List.getElem?_eq_getElem hk) (List.getElem?_eq_getElem hi)) hv]
    simp
/-- Two of them, in the walk. -/
theorem eqK_flat {P : Program} {t : TypeId} {fs : Array Field} {ks : List FK} (h : FlatS P t fs ks) {xs ys : List Data} (hx : FitD ks xs) (hy : FitD ks ys) {p : Prop} [Decidable p] (hp : xs = ys ↔ p) {K : Bool → Prop} (hk : K (decide p)) : eqK P t (.agg xs) (.agg ys) K := by
  refine ⟨_, fun L w ox oy vx vy h1 h2 => ?_, hk⟩
  cases h1 with
  | agg _ vs hs hv =>
  cases h2 with
  | agg _ us hs2 hv2 =>
  obtain rfl := fitD_vals hx hs hv
  obtain rfl := fitD_vals hy hs2 hv2
  refine ⟨fun op => run_eqGuard_agg w op t ox oy _ _ h.guard, ?_⟩
  have formed : ∀ (l : List Data), FitD ks l → (Value.agg (l.map valD).toArray).formed P t = true := by
    intro l hl
    simp only [Value.formed, h.ut, h.ct]
    simp [hl.1]
  obtain ⟨r, hr, hi⟩ := h.deep w 3 3 _ _ (xs.map litD) (ys.map litD) (formed xs hx) (formed ys hy) (by simpa [Value.cells] using h.lits hx) (by simpa [Value.cells] using h.lits hy)
  have e : r = decide p := by
    rw [Bool.eq_iff_iff, hi, fitD_inj hx hy, hp]
    simp
  rw [← e]
  exact hr
end Go.Proofs.Ytedcnbkhdkchoaa
