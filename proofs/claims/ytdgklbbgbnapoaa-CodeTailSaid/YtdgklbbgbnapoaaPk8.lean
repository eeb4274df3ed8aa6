/- A call that is handed a nil row, looked at as one that is handed a row of nothing. Structs of numbers, truth values and strings, held against each other. -/
import Derived.Test.YtdgklbbgbnapoaaPk7
import Derived.DeepKeys
import Derived.Laws.StructEq
namespace Go.Proofs.Ytdgklbbgbnapoaa
open Go.RowKit
set_option linter.unusedVariables false
set_option linter.unusedSimpArgs false
section
variable {P : Program} {Γ : Nat → Option (List Data)}
theorem dc_nil {f : FuncId} {es n : Nat} {xs : List D} {H : Nat → Blk} {nx : Nat} {K : D → (Nat → Blk) → Nat → Prop} (h : DC P Γ f (.ref nx 0 0 es :: xs) (Hp.upd H [(nx, .blk true [])]) (nx + 1) K)
    (hxs : ∀ x ∈ xs, (∃ y, x = .data y) ∨ ∃ c, x = .cptr c) : DC P Γ f (.emp n :: xs) H nx K := by
  refine ⟨h.1, fun L0 w0 m w vs hwr hres hdead hl hv => ?_⟩
  have hmx : m nx = .res := hres nx (Nat.le_refl _)
  have hHd : H nx = .dead := hdead nx (Nat.le_refl _)
  have hHx : Hp.upd H [(nx, .blk true [])] nx = .blk true [] := by simp [Hp.upd, Hp.set]
  have hHn : ∀ g, g ≠ nx → Hp.upd H [(nx, .blk true [])] g = H g := fun g hg => by simp [Hp.upd, Hp.set, hg]
  generalize Hp.upd H [(nx, .blk true [])] = H2 at *
  obtain ⟨m2, hm2x, hm2n⟩ : ∃ m2 : Nat → MB, m2 nx = .nil ∧ ∀ g, g ≠ nx → m2 g = m g := ⟨fun q => if q = nx then .nil else m q, if_pos rfl, fun g hg => if_neg hg⟩
  have hm : ∀ g, m g ≠ .res → m2 g = m g := fun g hg => hm2n g fun e => hg (by rw [e]; exact hmx)
  have hlive : ∀ b, Live L0 m2 H2 b ↔ Live L0 m H b := by
    intro b
    constructor
    · rintro (hb | ⟨g, sz, hq, hmg⟩)
      · exact .inl hb
      · by_cases e : g = nx
        · rw [e, hm2x] at hmg; cases hmg
        · rw [hHn g e] at hq; rw [hm2n g e] at hmg; exact .inr ⟨g, sz, hq, hmg⟩
    · rintro (hb | ⟨g, sz, hq, hmg⟩)
      · exact .inl hb
      · have e : g ≠ nx := fun e => by rw [e, hHd] at hq; cases hq
        exact .inr ⟨g, sz, by rw [hHn g e]; exact hq, by rw [hm2n g e]; exact hmg⟩
  have hg1 : Grow (Live L0 m H) w (Live L0 m2 H2) w := Grow.less w fun b hb => (hlive b).1 hb
  have hg2 : Grow (Live L0 m2 H2) w (Live L0 m H) w := Grow.less w fun b hb => (hlive b).2 hb
  have hwr2 : WR Γ L0 w0 m2 H2 w := by
    refine ⟨⟨?_, ?_, ?_, ?_⟩, hwr.below, hwr.l0, hwr.glob.mono hg1⟩
    · intro g rw cells hq
      by_cases e : g = nx
      · subst e
        rw [hHx] at hq; cases hq
        exact .inl ⟨hm2x, rfl⟩
      · rw [hHn g e] at hq
        rcases hwr.heap.blk g rw cells hq with ⟨k1, k2⟩ | ⟨b, sz, us, ty, k1, k2, k3, k4, k5, k6, k7⟩
        · exact .inl ⟨by rw [hm2n g e]; exact k1, k2⟩
        · refine .inr ⟨b, sz, us, ty, by rw [hm2n g e]; exact k1, k2, fun e2 hb => k3 e2 ((hlive b).1 hb), k4, k5, k6, fun i d hd => ?_⟩
          obtain ⟨v, hv, h1c, hvv⟩ := k7 i d hd
          exact ⟨v, hv, h1c, hvv.mono hg1 hm⟩
    · intro g g' cs rw' cs' b sz sz' hq hq' h1 h2
      by_cases e : g = nx
      · rw [e, hm2x] at h1; cases h1
      · by_cases e' : g' = nx
        · rw [e', hm2x] at h2; cases h2
        · rw [hHn g e] at hq; rw [hHn g' e'] at hq'; rw [hm2n g e] at h1; rw [hm2n g' e'] at h2
          exact hwr.heap.inj g g' cs rw' cs' b sz sz' hq hq' h1 h2
    · intro g o hq
      by_cases e : g = nx
      · rw [e, hHx] at hq; cases hq
      · rw [hHn g e] at hq
        obtain ⟨b, v, k1, k2, k3, k4⟩ := hwr.heap.obj g o hq
        exact ⟨b, v, by rw [hm2n g e]; exact k1, k2, k3, k4.mono hg1 hm⟩
    · intro g g' o o' b sz sz' hq hq' h1 h2
      by_cases e : g = nx
      · rw [e, hHx] at hq; cases hq
      · by_cases e' : g' = nx
        · rw [e', hHx] at hq'; cases hq'
        · rw [hHn g e] at hq; rw [hHn g' e'] at hq'; rw [hm2n g e] at h1; rw [hm2n g' e'] at h2
          exact hwr.heap.injO g g' o o' b sz sz' hq hq' h1 h2
  refine (h.2 L0 w0 m2 w vs hwr2 (fun g hg => (hm2n g (by omega)).trans (hres g (by omega))) (fun g hg => (hHn g (by omega)).trans (hdead g (by omega))) (by simpa using hl) fun i d v hd hvi => ?_).mono
    fun e w' ⟨v, d, H', nx', m', he, k1, k2, k3, k4, k5, k6, k7⟩ => ⟨v, d, H', nx', m', he, k1, k2, hg1.trans k3, fun g hg => (k4 g (by omega)).trans (hm2n g (by omega)), k5, by omega, k7⟩
  cases i with
  | zero =>
    simp only [List.getElem?_cons_zero, Option.some.injEq] at hd
    subst hd
    have h0 := hv 0 (.emp n) v rfl hvi
    cases h0 with
    | emp _ a => exact .ref0 nx es a hm2x
  | succ i =>
    have hd2 := hd
    rw [List.getElem?_cons_succ] at hd2
    have hvv := hv (i + 1) d v (by rw [List.getElem?_cons_succ]; exact hd2) hvi
    rcases hxs d (List.mem_of_getElem? hd2) with ⟨y, rfl⟩ | ⟨c, rfl⟩
    · exact hvv.mono hg1 hm
    · exact hvv.mono hg1 hm
end
end Go.Proofs.Ytdgklbbgbnapoaa
namespace Go.Proofs.Ytdgklbbgbnapoaa
open Go.RowKit
set_option linter.unusedVariables false
set_option linter.unusedSimpArgs false

/-- A kind of cell. -/
inductive FK where
  | b
  | i (k : IntKind)
  | s
def FK.okB (P : Program) (t : TypeId) : FK → Bool
  | .b => match P.underlying t with | some .bool => true | _ => false
  | .i k => match P.underlying t with | some (.int q) => decide (q = k) | _ => false
  | .s => match P.underlying t with | some .string => true | _ => false
def FK.fit : FK → Data → Prop
  | .b, x => ∃ b, x = .bool b
  | .i k, x => ∃ n : Int, x = .int k n ∧ (Lit.int k n).wf = true
  | .s, x => ∃ s : ByteArray, x = .str s ∧ s.size ≤ maxLen
def FitD (ks : List FK) (xs : List Data) : Prop := xs.length = ks.length ∧ ∀ (i : Nat) (k : FK) (x : Data), ks[i]? = some k → xs[i]? = some x → k.fit x
@[go_sem] theorem fitD_nil : FitD [] [] ↔ True := iff_true_intro ⟨rfl, fun i k x h => by simp at h⟩
@[go_sem] theorem fitD_cons (k : FK) (ks : List FK) (x : Data) (xs : List Data) : FitD (k :: ks) (x :: xs) ↔ k.fit x ∧ FitD ks xs := by
  constructor
  · rintro ⟨h1, h2⟩
    exact ⟨h2 0 k x rfl rfl, by simpa using h1, fun i k' x' hk hx => h2 (i + 1) k' x' (by simpa using hk) (by simpa using hx)⟩
  · rintro ⟨h1, h2, h3⟩
    refine ⟨by simpa using h2, fun i k' x' hk hx => ?_⟩
    match i with
    | 0 => simp at hk hx; subst hk; subst hx; exact h1
    | i + 1 => exact h3 i k' x' (by simpa using hk) (by simpa using hx)
theorem fit_bool (b : Bool) : FK.fit .b (.bool b) := ⟨b, rfl⟩
theorem fit_int {k : IntKind} {n : Int} (h : k.min ≤ n ∧ n ≤ k.max) : FK.fit (.i k) (.int k n) := ⟨n, rfl, by simp [Lit.wf, h]⟩
theorem fit_str {s : ByteArray} (h : s.size ≤ maxLen) : FK.fit .s (.str s) := ⟨s, rfl, h⟩
def litD : Data → Lit
  | .bool b => .bool b
  | .int k n => .int k n
  | .str s => .string s.data.toList
  | _ => .bool false
def valD : Data → Value
  | .bool b => .bool b
  | .int k n => .int k n
  | .str s => .string s
  | _ => .nilIface
theorem fit_val {k : FK} {x : Data} {v : Value} {L : Nat → Prop} {w : World} (hf : k.fit x) (h : VD L w x v) : v = valD x := by
  cases k with
  | b => obtain ⟨b, rfl⟩ := hf; cases h; rfl
  | i k => obtain ⟨n, rfl, _⟩ := hf; cases h; rfl
  | s => obtain ⟨s, rfl, _⟩ := hf; cases h; rfl
theorem fit_inj {k : FK} {x y : Data} (hx : k.fit x) (hy : k.fit y) (e : litD x = litD y) : x = y := by
  cases k with
  | b => obtain ⟨b, rfl⟩ := hx; obtain ⟨c, rfl⟩ := hy; simpa [litD] using e
  | i k => obtain ⟨n, rfl, _⟩ := hx; obtain ⟨m, rfl, _⟩ := hy; simpa [litD] using e
  | s =>
    obtain ⟨s, rfl, _⟩ := hx
    obtain ⟨t, rfl, _⟩ := hy
    have : s.data.toList = t.data.toList := by simpa [litD] using e
    have h2 : s = t := by
      cases s; cases t
      simp only at this
      congr 1
      exact Array.toList_inj.1 this
    rw [h2]
theorem fitD_inj : ∀ {ks : List FK} {xs ys : List Data}, FitD ks xs → FitD ks ys → (xs.map litD = ys.map litD ↔ xs = ys)
  | [], xs, ys, hx, hy => by
    have h1 := List.eq_nil_of_length_eq_zero hx.1
    have h2 := List.eq_nil_of_length_eq_zero hy.1
    subst h1; subst h2; simp
  | k :: ks, [], _, hx, _ => by have := hx.1; simp at this
  | k :: ks, _ :: _, [], _, hy => by have := hy.1; simp at this
  | k :: ks, x :: xs, y :: ys, hx, hy => by
    obtain ⟨a1, a2⟩ := (fitD_cons k ks x xs).1 hx
    obtain ⟨b1, b2⟩ := (fitD_cons k ks y ys).1 hy
    have ih := fitD_inj a2 b2
    simp only [List.map_cons, List.cons.injEq, ih]
    constructor
    · rintro ⟨e1, e2⟩; exact ⟨fit_inj a1 b1 e1, e2⟩
    · rintro ⟨e1, e2⟩; exact ⟨by rw [e1], e2⟩
def flatB (P : Program) (fs : Array Field) (ks : List FK) : Bool := (List.range ks.length).all fun i => match fs[i]?, ks[i]? with
  | some f, some k => decide (f.offset = i) && decide (P.cellsOf f.type = 1) && k.okB P f.type
  | _, _ => false
/-- A struct of such cells. -/
structure FlatS (P : Program) (t : TypeId) (fs : Array Field) (ks : List FK) : Prop where
  ut : P.underlying t = some (.struct fs)
  n : fs.size = ks.length
  ct : P.cellsOf t = ks.length
  names : fs.all (·.name != "_") = true
  each : flatB P fs ks = true
  deep : EqAt P (9998 + 2) t
  guard : P.eqGuardType P.depth t = false
theorem FlatS.lits {P : Program} {t : TypeId} {fs : Array Field} {ks : List FK} (h : FlatS P t fs ks) {xs : List Data} (hx : FitD ks xs) : P.keyLits 3 t (xs.map valD) = some (xs.map litD) := by
  rw [Program.keyLits.eq_def]
  simp only [h.ut]
  have hlen : xs.length = P.cellsOf t := by rw [h.ct, hx.1]
  rw [if_pos ⟨by simp [hlen], h.names⟩]
  have key : ∀ (n : Nat) (l : List Field), n + l.length = xs.length → (∀ i, i < l.length → l[i]? = fs[n + i]?) → (l.mapM fun f => P.keyLits 2 f.type (((xs.map valD).drop f.offset).take (P.cellsOf f.type))) = some ((xs.drop n).map fun x => [litD x]) := by
    intro n l
    induction l generalizing n with
    | nil => intro hl _; simp at hl; rw [List.drop_of_length_le (by omega)]; rfl
    | cons f l ih =>
      intro hl hf
      simp only [List.length_cons] at hl
      have hnl : n < xs.length := by omega
      have hnk : n < ks.length := by rw [← hx.1]; exact hnl
      have hfn : fs[n]? = some f := by have := hf 0 (by simp); simpa using this.symm
      have hall := List.all_eq_true.1 h.each n (List.mem_range.2 hnk)
      rw [hfn, List.getElem?_eq_getElem hnk] at hall
      simp only [Bool.and_eq_true, decide_eq_true_eq] at hall
      obtain ⟨⟨ho, hc⟩, hk⟩ := hall
      have hfit := hx.2 n ks[n] xs[n] (List.getElem?_eq_getElem hnk) (List.getElem?_eq_getElem hnl)
      rw [List.mapM_cons, ih (n + 1) (by omega) (fun i hi => by have := hf (i + 1) (by simp; omega); simpa [Nat.add_assoc, Nat.add_comm 1] using this)]
      have e1 : ((xs.map valD).drop f.offset).take (P.cellsOf f.type) = [valD xs[n]] := by
        rw [ho, hc, List.drop_eq_getElem_cons (by simpa using hnl)]; simp
      have e2 : P.keyLits 2 f.type [valD xs[n]] = some [litD xs[n]] := by
        generalize ks[n] = kk at hk hfit
        cases kk with
        | b =>
          obtain ⟨b, hb⟩ := hfit
          rw [hb, Program.keyLits.eq_def]
          simp only [FK.okB] at hk
          split at hk
          · rename_i hu; simp only [hu]; rfl
          · cases hk
        | i k =>
          obtain ⟨m, hb, hw⟩ := hfit
          rw [hb, Program.keyLits.eq_def]
          simp only [FK.okB] at hk
          split at hk
          · rename_i q hu
            have hq : q = k := by simpa using hk
            subst hq
            simp only [hu, valD]
            rw [if_pos (by simpa using hw)]; rfl
          · cases hk
        | s =>
          obtain ⟨st, hb, hw⟩ := hfit
          rw [hb, Program.keyLits.eq_def]
          simp only [FK.okB] at hk
          split at hk
          · rename_i hu
            simp only [hu, valD]
            rw [if_pos hw]; rfl
          · cases hk
      rw [e1, e2, List.drop_eq_getElem_cons hnl]
      rfl
  have := key 0 fs.toList (by simp [h.n, hx.1]) (fun i hi => by simp)
  rw [this]
  simp only [List.drop_zero, Option.map_some, Option.some.injEq]
  rw [List.flatten_eq_flatMap, List.flatMap_map]
  have fm : ∀ (l : List Data), (l.flatMap fun x => id [litD x]) = l.map litD := fun l => by
    induction l with
    | nil => rfl
    | cons a l ih =>
      simp only [List.flatMap_cons, List.map_cons, id] at ih ⊢
      rw [ih]; rfl
  exact fm xs
theorem fitD_vals {ks : List FK} {xs : List Data} {vs : Array Value} {L : Nat → Prop} {w : World} (hx : FitD ks xs) (hl : xs.length = vs.size) (h : ∀ (i : Nat) (x : Data) (v : Value), xs[i]? = some x → vs[i]? = some v → VD L w x v) : vs = (xs.map valD).toArray := by
  apply Array.ext
  · simp [hl]
  · intro i h1 h2
    have hi : i < xs.length := by simpa using h2
    have hk : i < ks.length := by rw [← hx.1]; exact hi
    have hv := h i xs[i] vs[i] (List.getElem?_eq_getElem hi) (Array.getElem?_eq_getElem h1)
    rw [fit_val (hx.2 i ks[i] xs[i] (List.getElem?_eq_getElem hk) (List.getElem?_eq_getElem hi)) hv]
    simp
/-- Two of them, in the walk. -/
theorem eqK_flat {P : Program} {t : TypeId} {fs : Array Field} {ks : List FK} (h : FlatS P t fs ks) {xs ys : List Data} (hx : FitD ks xs) (hy : FitD ks ys) {p : Prop} [Decidable p] (hp : xs = ys ↔ p) {K : Bool → Prop} (hk : K (decide p)) : eqK P t (.agg xs) (.agg ys) K := by
  refine ⟨_, fun L w ox oy vx vy h1 h2 => ?_, hk⟩
  cases h1 with
  | agg _ vs hs hv =>
  cases h2 with
  | agg _ us hs2 hv2 =>
  obtain rfl := fitD_vals hx hs hv
  obtain rfl := fitD_vals hy hs2 hv2
  refine ⟨fun op => run_eqGuard_agg w op t ox oy _ _ h.guard, ?_⟩
  have formed : ∀ (l : List Data), FitD ks l → (Value.agg (l.map valD).toArray).formed P t = true := by
    intro l hl
    simp only [Value.formed, h.ut, h.ct]
    simp [hl.1]
  obtain ⟨r, hr, hi⟩ := h.deep w 3 3 _ _ (xs.map litD) (ys.map litD) (formed xs hx) (formed ys hy) (by simpa [Value.cells] using h.lits hx) (by simpa [Value.cells] using h.lits hy)
  have e : r = decide p := by
    rw [Bool.eq_iff_iff, hi, fitD_inj hx hy, hp]
    simp
  rw [← e]
  exact hr
end Go.Proofs.Ytdgklbbgbnapoaa
