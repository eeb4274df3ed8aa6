/- Functions that hand back rows of their own, which the caller may write: a contract of its own (OC), and its use in a call. -/
import Derived.Test.YtlfmgellojjndaaU
namespace Go.Proofs.Ytlfmgellojjndaa
open Go.RowKit
set_option linter.unusedVariables false
set_option linter.unusedSimpArgs false

mutual
/-- Numbers moved up. -/
def shD (n : Nat) : D → D
  | .ref g off len es => .ref (g + n) off len es
  | .ptr g off => .ptr (g + n) off
  | .agg cs => .agg (shL n cs)
  | .fn f caps => .fn f (shL n caps)
  | .data x => .data x
  | .emp es => .emp es
  | .cptr cells => .cptr cells
  | .junk => .junk
def shL (n : Nat) : List D → List D
  | [] => []
  | d :: ds => shD n d :: shL n ds
end
theorem shL_eq (n : Nat) : ∀ ds : List D, shL n ds = ds.map (shD n)
  | [] => by simp [shL]
  | d :: ds => by simp [shL, shL_eq n ds]
def shB (n : Nat) : Blk → Blk
  | .dead => .dead
  | .blk rw cells => .blk rw (shL n cells)
@[go_sem] theorem shD_ref (n g off len es : Nat) : shD n (.ref g off len es) = .ref (g + n) off len es := by simp [shD]
@[go_sem] theorem shD_ptr (n g off : Nat) : shD n (.ptr g off) = .ptr (g + n) off := by simp [shD]
@[go_sem] theorem shD_agg (n : Nat) (cs : List D) : shD n (.agg cs) = .agg (shL n cs) := by simp [shD]
@[go_sem] theorem shD_data (n : Nat) (x : Data) : shD n (.data x) = .data x := by simp [shD]
@[go_sem] theorem shD_emp (n es : Nat) : shD n (.emp es) = .emp es := by simp [shD]
@[go_sem] theorem shL_nil (n : Nat) : shL n [] = [] := by simp [shL]
@[go_sem] theorem shL_cons (n : Nat) (d : D) (ds : List D) : shL n (d :: ds) = shD n d :: shL n ds := by simp [shL]
@[go_sem] theorem shL_data (n : Nat) (l : List Data) : shL n (l.map D.data) = l.map D.data := by rw [shL_eq]; simp [shD_data]
@[go_sem] theorem shB_blk (n : Nat) (rw : Bool) (cells : List D) : shB n (.blk rw cells) = .blk rw (shL n cells) := rfl
@[go_sem] theorem shB_dead (n : Nat) : shB n .dead = .dead := rfl
/-- The caller's rows, and above them those handed back. -/
def ownH (nx : Nat) (H : Nat → Blk) (M : List (Nat × Blk)) : Nat → Blk := fun g => if g < nx then H g else shB nx (hpL M (g - nx))
@[go_sem] theorem ownH_eq (nx : Nat) (H : Nat → Blk) (M : List (Nat × Blk)) (g : Nat) : ownH nx H M g = if g < nx then H g else shB nx (hpL M (g - nx)) := rfl

/-- What a call comes to that hands back rows of its own: d, over k rows M. -/
def OC (P : Program) (Γ : Nat → Option (List Data)) (f : FuncId) (xs : List Data) (d : D) (M : List (Nat × Blk)) (k : Nat) : Prop := CallOk P f ∧
  ∀ (L : Nat → Prop) (w : World) (vs : Array Value), Glob Γ L w → (∀ b, L b → b < w.heap.size) → xs.length = vs.size → (∀ (i : Nat) (x : Data) (v : Value), xs[i]? = some x → vs[i]? = some v → VD L w x v) →
    Calls P f vs w fun e w' => ∃ v m, e = .returned v ∧ WR Γ L w m (hpL M) w' ∧ VV (Live L m (hpL M)) w' m d v ∧ (∀ g, k ≤ g → m g = .res) ∧ ∀ g, k ≤ g → hpL M g = .dead

section
variable {P : Program} {Γ : Nat → Option (List Data)} {L0 : Nat → Prop} {w0 : World}

theorem WR.joined {m : Nat → MB} {H H2 : Nat → Blk} {w : World} {nx : Nat} (h : WR Γ L0 w0 m H w) (hold : ∀ g, H2 g = H g ∨ ∃ rw cells, H g = .blk rw cells ∧ H2 g = .blk false cells) (hres : ∀ g, nx ≤ g → m g = .res)
    {mc : Nat → MB} {M : List (Nat × Blk)} {w' : World} (hc : WR Γ (Live L0 m H2) w mc (hpL M) w') :
    let m' := fun g => if g < nx then m g else mc (g - nx)
    WR Γ L0 w0 m' (ownH nx H2 M) w' ∧ Grow (Live L0 m H) w (Live L0 m' (ownH nx H2 M)) w' ∧ ∀ d v, VV (Live (Live L0 m H2) mc (hpL M)) w' mc d v → VV (Live L0 m' (ownH nx H2 M)) w' m' (shD nx d) v := by
  intro m'
  have hlo : ∀ g, g < nx → m' g = m g := fun g hg => if_pos hg
  have hhi : ∀ g, m' (g + nx) = mc g := fun g => by simp only [m']; rw [if_neg (by omega)]; congr 1; omega
  have Hlo : ∀ g, g < nx → ownH nx H2 M g = H2 g := fun g hg => if_pos hg
  have Hhi : ∀ g, ownH nx H2 M (g + nx) = shB nx (hpL M g) := fun g => by simp only [ownH]; rw [if_neg (by omega)]; congr 2; omega
  have below_nx : ∀ g, m g ≠ .res → g < nx := fun g hg => Nat.lt_of_not_le fun e => hg (hres g e)
  have part : ∀ g, g < nx ∨ ∃ q, g = q + nx := fun g => by
    rcases Nat.lt_or_ge g nx with e | e
    · exact .inl e
    · exact .inr ⟨g - nx, by omega⟩
  have unsh : ∀ {b : Blk} {rw : Bool} {cs : List D}, shB nx b = .blk rw cs → ∃ c0, b = .blk rw c0 ∧ cs = c0.map (shD nx) := by
    intro b rw cs e
    cases b with
    | dead => cases e
    | blk r c => simp only [shB, Blk.blk.injEq] at e; exact ⟨c, by rw [e.1], by rw [← e.2, shL_eq]⟩
  have src : ∀ g rw cs, H2 g = .blk rw cs → ∃ rw0, H g = .blk rw0 cs ∧ (rw = true → rw0 = true) := by
    intro g rw cs hg
    rcases hold g with e | ⟨rw0, cells, e1, e⟩
    · rw [e] at hg; exact ⟨rw, hg, id⟩
    · rw [e] at hg; cases hg; exact ⟨rw0, e1, fun e => by cases e⟩
  have hsub : ∀ b, Live L0 m H2 b → Live L0 m H b := by
    rintro b (hb | ⟨g, cs, sz, hg, hm⟩)
    · exact .inl hb
    · obtain ⟨rw0, h1, h2⟩ := src g true cs hg
      rw [h2 rfl] at h1
      exact .inr ⟨g, cs, sz, h1, hm⟩
  have live1 : ∀ b, Live L0 m' (ownH nx H2 M) b → Live (Live L0 m H2) mc (hpL M) b := by
    rintro b (hb | ⟨g, cs, sz, hg, hm⟩)
    · exact .inl (.inl hb)
    · rcases part g with e | ⟨q, rfl⟩
      · rw [Hlo g e] at hg; rw [hlo g e] at hm
        exact .inl (.inr ⟨g, cs, sz, hg, hm⟩)
      · rw [Hhi] at hg; rw [hhi] at hm
        obtain ⟨c0, e1, _⟩ := unsh hg
        exact .inr ⟨q, c0, sz, e1, hm⟩
  have newb : ∀ q rw cs b sz, hpL M q = .blk rw cs → mc q = .at b sz → w.heap.size ≤ b := by
    intro q rw cs b sz hg hm
    rcases hc.heap.blk q rw cs hg with ⟨k1, _⟩ | ⟨b', sz', vs, ty, k1, k2, _⟩
    · rw [k1] at hm; cases hm
    · rw [k1] at hm; cases hm; exact k2
  have old_live : ∀ b, b < w.heap.size → Live (Live L0 m H2) mc (hpL M) b → Live L0 m H2 b := by
    rintro b hb (hl | ⟨q, cs, sz, hg, hm⟩)
    · exact hl
    · have := newb q true cs b sz hg hm; omega
  have hgrow : Grow (Live L0 m H) w (Live L0 m' (ownH nx H2 M)) w' :=
    ⟨hc.below.size, fun b hb hL => ⟨hc.below.block b hb, fun hl => hL (hsub b (old_live b hb (live1 b hl)))⟩⟩
  have hgrow2 : Grow (Live (Live L0 m H2) mc (hpL M)) w' (Live L0 m' (ownH nx H2 M)) w' := Grow.less w' live1
  have hVV : ∀ d v, VV (Live (Live L0 m H2) mc (hpL M)) w' mc d v → VV (Live L0 m' (ownH nx H2 M)) w' m' (shD nx d) v := by
    intro d v hv
    induction hv with
    | data x v h => rw [shD_data]; exact .data x v (h.mono hgrow2)
    | emp es a => rw [shD_emp]; exact .emp es a
    | ref g off len es b sz cap o h1 h2 h3 h4 h5 => rw [shD_ref]; exact .ref _ off len es b sz cap o (by rw [hhi]; exact h1) h2 h3 h4 h5
    | ref0 g es a h1 => rw [shD_ref]; exact .ref0 _ es a (by rw [hhi]; exact h1)
    | ptr g off b sz h1 => rw [shD_ptr]; exact .ptr _ off b sz (by rw [hhi]; exact h1)
    | cptr cells b off vs hb hL hc hv => simp only [shD]; exact .cptr cells b off vs hb (fun hl => hL (live1 b hl)) hc (fun i x hx => (hv i x hx).mono hgrow2)
    | agg cs vs hl _ ih =>
      rw [shD_agg, shL_eq]
      refine .agg _ vs (by simpa using hl) fun i x v hx hv => ?_
      rw [List.getElem?_map, Option.map_eq_some_iff] at hx
      obtain ⟨y, hy, rfl⟩ := hx
      exact ih i y v hy hv
    | fn f caps vs hl _ ih =>
      simp only [shD, shL_eq]
      refine .fn f _ vs (by simpa using hl) fun i x v hx hv => ?_
      rw [List.getElem?_map, Option.map_eq_some_iff] at hx
      obtain ⟨y, hy, rfl⟩ := hx
      exact ih i y v hy hv
    | junk v => simp only [shD]; exact .junk v
  refine ⟨⟨⟨?_, ?_⟩, ?_, h.l0, h.glob.mono hgrow⟩, hgrow, hVV⟩
  · intro g rw cs hg
    rcases part g with e | ⟨q, rfl⟩
    · rw [Hlo g e] at hg
      obtain ⟨rw0, hg0, hrw⟩ := src g rw cs hg
      rcases h.heap.blk g rw0 cs hg0 with ⟨k1, k2⟩ | ⟨b, sz, vs, ty, k1, k2, k3, k4, k5, k6, k7⟩
      · exact .inl ⟨by rw [hlo g e]; exact k1, k2⟩
      · have hlt := h.lt hg0 k1
        refine .inr ⟨b, sz, vs, ty, by rw [hlo g e]; exact k1, k2, fun e2 hl => ?_, by rw [hc.below.block b hlt]; exact k4, k5, k6, fun i d hd => ?_⟩
        · rcases old_live b hlt (live1 b hl) with hl | ⟨q, cq, szq, hq, hmq⟩
          · exact absurd (h.l0 b hl) (by omega)
          · obtain ⟨rwq, hq0, hrwq⟩ := src q true cq hq
            have := hrwq rfl
            subst this
            have hqg := h.heap.inj q g cq rw0 cs b szq sz hq0 hg0 hmq k1
            subst hqg
            rw [hg, e2] at hq; cases hq
        · obtain ⟨v, hv, h1c, hvv⟩ := k7 i d hd
          exact ⟨v, hv, h1c, hvv.mono hgrow (fun q hq => hlo q (below_nx q hq))⟩
    · rw [Hhi] at hg
      obtain ⟨c0, e1, rfl⟩ := unsh hg
      rcases hc.heap.blk q rw c0 e1 with ⟨k1, k2⟩ | ⟨b, sz, vs, ty, k1, k2, k3, k4, k5, k6, k7⟩
      · exact .inl ⟨by rw [hhi]; exact k1, by rw [k2]; rfl⟩
      · refine .inr ⟨b, sz, vs, ty, by rw [hhi]; exact k1, Nat.le_trans h.below.size k2, fun e2 hl => k3 e2 (live1 b hl), k4, k5, by simpa using k6, fun i d hd => ?_⟩
        rw [List.getElem?_map, Option.map_eq_some_iff] at hd
        obtain ⟨y, hy, rfl⟩ := hd
        obtain ⟨v, hv, h1c, hvv⟩ := k7 i y hy
        exact ⟨v, hv, h1c, hVV y v hvv⟩
  · intro g g' cs rw' cs' b sz sz' hg hg' hm1 hm2
    rcases part g with e | ⟨q, rfl⟩ <;> rcases part g' with e' | ⟨q', rfl⟩
    · rw [Hlo g e] at hg; rw [Hlo g' e'] at hg'; rw [hlo g e] at hm1; rw [hlo g' e'] at hm2
      obtain ⟨rw0, hg0, hrw⟩ := src g true cs hg
      obtain ⟨rw0', hg0', hrw'⟩ := src g' rw' cs' hg'
      have := hrw rfl
      subst this
      exact h.heap.inj g g' cs rw0' cs' b sz sz' hg0 hg0' hm1 hm2
    · rw [Hlo g e] at hg; rw [hlo g e] at hm1; rw [Hhi] at hg'; rw [hhi] at hm2
      obtain ⟨c0, e1, _⟩ := unsh hg'
      obtain ⟨rw0, hg0, _⟩ := src g true cs hg
      have h1 := h.lt hg0 hm1
      have h2 := newb q' rw' c0 b sz' e1 hm2
      omega
    · rw [Hlo g' e'] at hg'; rw [hlo g' e'] at hm2; rw [Hhi] at hg; rw [hhi] at hm1
      obtain ⟨c0, e1, _⟩ := unsh hg
      obtain ⟨rw0, hg0, _⟩ := src g' rw' cs' hg'
      have h1 := h.lt hg0 hm2
      have h2 := newb q true c0 b sz e1 hm1
      omega
    · rw [Hhi] at hg hg'; rw [hhi] at hm1 hm2
      obtain ⟨c0, e1, _⟩ := unsh hg
      obtain ⟨c1, e2, _⟩ := unsh hg'
      rw [hc.heap.inj q q' c0 rw' c1 b sz sz' e1 e2 hm1 hm2]
  · exact h.below.trans (hc.below.mono h.below.size)

/-- A call that hands back rows of its own: the caller's rows F, if any are handed over, are written no more. -/
theorem dc_own {f : FuncId} {ds : List D} {H : Nat → Blk} {nx : Nat} {K : D → (Nat → Blk) → Nat → Prop} (F : List Nat) {xs : List Data} {d : D} {M : List (Nat × Blk)} {k : Nat} (hF : ∀ g ∈ F, ∃ rw cells, H g = .blk rw cells) (h : OC P Γ f xs d M k)
    (hf : FrzL false (fzH H F) ds xs) (hk : K (shD nx d) (ownH nx (fzH H F) M) (nx + k)) : DC P Γ f ds H nx K := by
  obtain ⟨hcall, hoc⟩ := h
  refine ⟨hcall, fun L0 w0 m w vs hwr hres hdead hl hv => ?_⟩
  have hold : ∀ g, fzH H F g = H g ∨ ∃ rw cells, H g = .blk rw cells ∧ fzH H F g = .blk false cells := fun g => by
    unfold fzH
    by_cases e : g ∈ F
    · obtain ⟨rw, cells, hg⟩ := hF g e
      exact .inr ⟨rw, cells, hg, by simp [e, hg, fz]⟩
    · exact .inl (by simp [e])
  obtain ⟨h1, hg1⟩ := hwr.called (Below.refl _ w) hold
  have hlive : ∀ b, Live L0 m (fzH H F) b → Live L0 m H b := by
    rintro b (hb | ⟨g, cells, sz, hg, hm⟩)
    · exact .inl hb
    · rcases hold g with e | ⟨rw, cs, e1, e2⟩
      · rw [e] at hg; exact .inr ⟨g, cells, sz, hg, hm⟩
      · rw [e2] at hg; cases hg
  obtain ⟨hlx, hfx⟩ := hf
  refine (hoc (Live L0 m (fzH H F)) w vs h1.glob (fun b hb => h1.live_lt hb) (by omega) (fun i x v hx hvi => ?_)).mono fun e w' ⟨v, mc, he, hc, hd, hr, hM⟩ => ?_
  · have hi : i < ds.length := by rw [hlx]; exact (List.getElem?_eq_some_iff.1 hx).1
    have hd := List.getElem?_eq_getElem hi
    refine (hfx i _ x hd hx).vd (m := m) (L := Live L0 m H) hlive (fun g rw cells b sz hg hrw hm => ?_) (fun g rw cells hg hm => ?_) (hv i _ v hd hvi)
    · have e : rw = false := by simpa using hrw
      obtain ⟨vs', ty, e1, e2, e3, e4, e5⟩ := at_of h1 hg hm
      obtain ⟨rw0, hg0, _⟩ := fzH_blk hg
      obtain ⟨vs2, ty2, f1, _, _, _, f5⟩ := at_of hwr hg0 hm
      exact ⟨hwr.lt hg0 hm, e4 e, vs2, ty2, f1, fun i d hd => by obtain ⟨v, a1, _, a3⟩ := f5 i d hd; exact ⟨v, a1, a3⟩⟩
    · rcases h1.heap.blk g rw cells hg with ⟨_, q⟩ | ⟨_, _, _, _, q, _⟩
      · exact q
      · rw [hm] at q; cases q
  · obtain ⟨j1, j2, j3⟩ := hwr.joined hold hres hc
    exact ⟨v, shD nx d, ownH nx (fzH H F) M, nx + k, _, he, j1, j3 d v hd, j2, fun g hg => if_pos hg, fun g hg => (if_neg (by omega)).trans (hr _ (by omega)), by omega, hk⟩

/-- What a function hands back of its own. -/
def retOQ (P : Program) (fn : Func) (d : D) (M : List (Nat × Blk)) (k : Nat) : Exit → St → Prop
  | .normal, s | .ret, s => resK P fn.results.toList s fun ds => ∃ d0 F R, ds = [d0] ∧ WeakR F (rhoL R) ⟨envL [(0, d0)], s.hp, s.nx, 0, 1⟩ ⟨envL [(0, d)], hpL M, k, 0, 1⟩
  | _, _ => False
@[congr] theorem retOQ_congr {n0 : Nat} (tk : tick = n0) (P : Program) (fn : Func) (d : D) (M : List (Nat × Blk)) (k : Nat) (e : Exit) (s : St) : retOQ P fn d M k e s = retOQ P fn d M k e s := rfl

/-- The result, and the rows that it takes with it. -/
def ownK (H : Nat → Blk) (nx : Nat) (d : D) (M : List (Nat × Blk)) (k : Nat) (ds : List D) : Prop := ∃ d0 F R, ds = [d0] ∧ WeakR F (rhoL R) ⟨envL [(0, d0)], H, nx, 0, 1⟩ ⟨envL [(0, d)], hpL M, k, 0, 1⟩
@[congr] theorem ownK_congr {n0 : Nat} (tk : tick = n0) (H : Nat → Blk) (nx : Nat) (d : D) (M : List (Nat × Blk)) (k : Nat) {ds ds' : List D} (h : ds = ds') : ownK H nx d M k ds = ownK H nx d M k ds' := by rw [h]
@[go_sem] theorem retOQ_ret (fn : Func) (d : D) (M : List (Nat × Blk)) (k : Nat) (s : St) : retOQ P fn d M k .ret s = resK P fn.results.toList s fun ds => ownK s.hp s.nx d M k ds := rfl
@[go_sem] theorem retOQ_normal (fn : Func) (d : D) (M : List (Nat × Blk)) (k : Nat) (s : St) : retOQ P fn d M k .normal s = resK P fn.results.toList s fun ds => ownK s.hp s.nx d M k ds := rfl
theorem oc_of (hm : P.follows .mixedOrders = true) {f : FuncId} {fn : Func} {c : Code} {xs : List Data} {d : D} {M : List (Nat × Blk)} {k : Nat} (hf : P.funcs[f]? = some fn) (hb : fn.body = some c) (hc : CallOk P f)
    (h : wpF P Γ c (retOQ P fn d M k) ⟨envArgs (xs.map toD), fun _ => .dead, 0, 0, xs.length + (fn.ntmps - xs.length)⟩) : OC P Γ f xs d M k := by
  refine ⟨hc, fun L w vs hg hL hl hv => calls_of_wp hf hb ?_⟩
  have hlive : ∀ b, Live L (fun _ => .res) (fun _ => Blk.dead) b ↔ L b := fun b => ⟨(fun h => by
    rcases h with h | ⟨g, cells, sz, hg, _⟩
    · exact h
    · cases hg), .inl⟩
  have hrel : Rel Γ L w (fun _ => .res) ⟨envArgs (xs.map toD), fun _ => .dead, 0, 0, xs.length + (fn.ntmps - xs.length)⟩ { tmps := vs ++ Array.replicate (fn.ntmps - vs.size) undef, defers := [] } w := by
    refine ⟨rfl, fun t => ?_, ⟨(fun g rw cells hg => by cases hg), (fun g g' cells rw' cells' b sz sz' hg => by cases hg)⟩, fun _ _ => rfl, fun _ _ => rfl, Below.refl _ _, hL, hg.mono (Grow.less w fun b hb => (hlive b).1 hb), Nat.le_refl _, by simp [hl]⟩
    refine args_env (by simpa using hl) (fun i d v hd hvi => ?_) t
    rw [List.getElem?_map, Option.map_eq_some_iff] at hd
    obtain ⟨x, hx, rfl⟩ := hd
    exact toD_ok ((hv i x v hx hvi).mono (Grow.less w fun b hb => (hlive b).1 hb))
  refine wp_mono (wp_sound hm c _ _ _ _ _ hrel h) fun e a' w' ⟨m', s', h1, h2, h3⟩ => ?_
  have hlo : s'.lo = 0 := h2.lo
  have key : (resK P fn.results.toList s' fun ds => ∃ d0 F R, ds = [d0] ∧ WeakR F (rhoL R) ⟨envL [(0, d0)], s'.hp, s'.nx, 0, 1⟩ ⟨envL [(0, d)], hpL M, k, 0, 1⟩) → a'.defers = [] ∧ ∃ v, (results fn a'.tmps).run P w' = .ok v w' ∧ ∃ v' m, Ending.returned v = .returned v' ∧ WR Γ L w m (hpL M) w' ∧ VV (Live L m (hpL M)) w' m d v' ∧ (∀ g, k ≤ g → m g = .res) ∧ ∀ g, k ≤ g → hpL M g = .dead := by
    intro hk
    obtain ⟨ds, us, ⟨d0, F, R, rfl, hw⟩, k1, k2, k3⟩ := res_ok h1 _ _ hk
    match us, k1 with
    | [u], _ =>
      have hv0 := k2 0 d0 u rfl rfl
      have hr2 : Rel Γ L w m' ⟨envL [(0, d0)], s'.hp, s'.nx, 0, 1⟩ { tmps := #[u], defers := [] } w' := by
        refine ⟨rfl, fun t => ?_, h1.heap, h1.res, h1.dead, h1.below, h1.l0, h1.glob, Nat.zero_le _, rfl⟩
        by_cases ht : t = 0
        · subst ht; exact hv0
        · simp only [envL, ht, if_false]; exact .junk _
      obtain ⟨m2, r1, r2⟩ := renW_rel hr2 hw
      refine ⟨h1.defers, _, results_run k3, u, m2, rfl, r1.wr, ?_, r1.res, r1.dead⟩
      exact r1.vals 0
  cases e with
  | normal => exact key h3
  | ret => exact key h3
  | _ => exact h3.elim
theorem oc_by (hm : P.follows .mixedOrders = true) {f : FuncId} {fn : Func} {c : Code} {xs : List Data} {d : D} {M : List (Nat × Blk)} {k : Nat} (hf : P.funcs[f]? = some fn) (hb : fn.body = some c) (hc : CallOk P f)
    (h : startK (xs.map toD) (xs.length + (fn.ntmps - xs.length)) fun ds n => wpF P Γ c (retOQ P fn d M k) ⟨envArgs ds, fun _ => .dead, 0, 0, n⟩) : OC P Γ f xs d M k := oc_of hm hf hb hc h
/-- What is handed back, read out. -/
theorem pc_of_oc {f : FuncId} {xs : List Data} {d : D} {M : List (Nat × Blk)} {k : Nat} {r : Data} (h : OC P Γ f xs d M k) (hf : Frz true (hpL M) d r) : PC P Γ f xs r := by
  refine ⟨h.1, fun L w vs hg hL hl hv => (h.2 L w vs hg hL hl hv).mono fun e w' ⟨v, m, he, hc, hd, _⟩ => ⟨v, he, ?_, hc.below⟩⟩
  refine hf.vd (m := m) (L := Live L m (hpL M)) (fun b hb => .inl hb) (fun g rw cells b sz hg _ hm => ?_) (fun g rw cells hg hm => ?_) hd
  · obtain ⟨vs, ty, e1, e2, e3, _, e5⟩ := at_of hc hg hm
    have hbase : w.heap.size ≤ b := by
      rcases hc.heap.blk g rw cells hg with ⟨q, _⟩ | ⟨b', sz', _, _, q1, q2, _⟩
      · rw [q] at hm; cases hm
      · rw [q1] at hm; cases hm; exact q2
    exact ⟨hc.lt hg hm, fun hb => by have := hL b hb; omega, vs, ty, e1, fun i d hd => by obtain ⟨v, a1, _, a3⟩ := e5 i d hd; exact ⟨v, a1, a3⟩⟩
  · rcases hc.heap.blk g rw cells hg with ⟨_, q⟩ | ⟨_, _, _, _, q, _⟩
    · exact q
    · rw [hm] at q; cases q
theorem own_of {H : Nat → Blk} {nx : Nat} {d d0 : D} {M : List (Nat × Blk)} {k : Nat} (F : List Nat) (R : List (Nat × Option Nat)) (h : WeakR F (rhoL R) ⟨envL [(0, d0)], H, nx, 0, 1⟩ ⟨envL [(0, d)], hpL M, k, 0, 1⟩) : ownK H nx d M k [d0] := ⟨d0, F, R, rfl, h⟩
theorem over_zero {cells vs : List D} (h : vs.length ≤ cells.length) : over cells 0 vs = vs ++ cells.drop vs.length := by
  match vs with
  | [] => simp [over]
  | [d] =>
    cases cells with
    | nil => simp at h
    | cons c cs => simp [over]
  | a :: b :: vs => simp [over]
end
end Go.Proofs.Ytlfmgellojjndaa
