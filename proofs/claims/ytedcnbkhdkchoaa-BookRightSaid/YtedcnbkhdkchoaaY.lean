/- Functions that hand back rows of their own, which the caller may write: a contract of its own (OC), and its use in a call. -/
import Derived.Test.YtedcnbkhdkchoaaU
namespace Go.Proofs.Ytedcnbkhdkchoaa
open Go.RowKit
set_option linter.unusedVariables false
set_option linter.unusedSimpArgs false

mutual
/-- Numbers moved up. -/
def shD (n : Nat) : D → D
  | .ref g off len es => .ref (g + n) off len es
  | .ptr g off => .ptr (g + n) off
  | .cut g off len cp es => .cut (g + n) off len cp es
  | .mref g => .mref (g + n)
  | .iref g => .iref (g + n)
  | .agg cs => .agg (shL n cs)
  | .fn f caps => .fn f (shL n caps)
  | .bnd f r => .bnd f (shD n r)
  | .data x => .data x
  | .emp es => .emp es
  | .cptr cells => .cptr cells
  | .junk => .junk
def shL (n : Nat) : List D → List D
  | [] => []
  | d :: ds => shD n d :: shL n ds
end
theorem shL_eq (n : Nat) : ∀ ds : List D, shL n ds = ds.map (shD n)
  | [] => by simp [shL]
  | d :: ds => by simp [shL, shL_eq n ds]
def shB (n : Nat) : Blk → Blk
  | .dead => .dead
  | .blk rw cells => .blk rw (shL n cells)
  | .obj (.mp ks xs) => .obj (.mp ks (shL n xs))
  | .obj o => .obj o
@[go_sem] theorem shB_mp (n : Nat) (ks : List Data) (xs : List D) : shB n (.obj (.mp ks xs)) = .obj (.mp ks (shL n xs)) := rfl
@[go_sem] theorem shB_it (n : Nat) (ks xs : List Data) (l : List Nat) (c : Option Nat) : shB n (.obj (.it ks xs l c)) = .obj (.it ks xs l c) := rfl
@[go_sem] theorem shD_mref (n g : Nat) : shD n (.mref g) = .mref (g + n) := by simp [shD]
@[go_sem] theorem shD_fn (n : Nat) (f : FuncId) (cs : List D) : shD n (.fn f cs) = .fn f (shL n cs) := by simp [shD]
@[go_sem] theorem shD_ref (n g off len es : Nat) : shD n (.ref g off len es) = .ref (g + n) off len es := by simp [shD]
@[go_sem] theorem shD_ptr (n g off : Nat) : shD n (.ptr g off) = .ptr (g + n) off := by simp [shD]
@[go_sem] theorem shD_agg (n : Nat) (cs : List D) : shD n (.agg cs) = .agg (shL n cs) := by simp [shD]
@[go_sem] theorem shD_data (n : Nat) (x : Data) : shD n (.data x) = .data x := by simp [shD]
@[go_sem] theorem shD_emp (n es : Nat) : shD n (.emp es) = .emp es := by simp [shD]
@[go_sem] theorem shL_nil (n : Nat) : shL n [] = [] := by simp [shL]
@[go_sem] theorem shL_cons (n : Nat) (d : D) (ds : List D) : shL n (d :: ds) = shD n d :: shL n ds := by simp [shL]
@[go_sem] theorem shL_data (n : Nat) (l : List Data) : shL n (l.map D.data) = l.map D.data := by rw [shL_eq]; simp [shD_data]
@[go_sem] theorem shB_blk (n : Nat) (rw : Bool) (cells : List D) : shB n (.blk rw cells) = .blk rw (shL n cells) := rfl
@[go_sem] theorem shB_dead (n : Nat) : shB n .dead = .dead := rfl
/-- The caller's rows, and above them those handed back. -/
def ownH (nx : Nat) (H : Nat → Blk) (M : List (Nat × Blk)) : Nat → Blk := fun g => if g < nx then H g else shB nx (hpL M (g - nx))
@[go_sem] theorem ownH_eq (nx : Nat) (H : Nat → Blk) (M : List (Nat × Blk)) (g : Nat) : ownH nx H M g = if g < nx then H g else shB nx (hpL M (g - nx)) := rfl

/-- What a call comes to that hands back rows of its own: d, over k rows M. -/
def OC (P : Program) (Γ : Nat → Option (List Data)) (f : FuncId) (xs : List Data) (d : D) (M : List (Nat × Blk)) (k : Nat) : Prop := CallOk P f ∧
  ∀ (L : Nat → Prop) (w : World) (vs : Array Value), Glob Γ L w → (∀ b, L b → b < w.heap.size) → xs.length = vs.size → (∀ (i : Nat) (x : Data) (v : Value), xs[i]? = some x → vs[i]? = some v → VD L w x v) →
    Calls P f vs w fun e w' => ∃ v m, e = .returned v ∧ WR Γ L w m (hpL M) w' ∧ VV (Live L m (hpL M)) w' m d v ∧ (∀ g, k ≤ g → m g = .res) ∧ ∀ g, k ≤ g → hpL M g = .dead

section
variable {P : Program} {Γ : Nat → Option (List Data)} {L0 : Nat → Prop} {w0 : World}

/-- The caller's rows, and in a window those handed back. -/
def ownW (fr k : Nat) (H : Nat → Blk) (M : List (Nat × Blk)) : Nat → Blk := fun g => if fr ≤ g ∧ g < fr + k then shB fr (hpL M (g - fr)) else H g
theorem WR.joinedW {m : Nat → MB} {H H2 : Nat → Blk} {w : World} {fr k : Nat} (h : WR Γ L0 w0 m H w) (hold : ∀ g, H2 g = H g ∨ ∃ rw cells, H g = .blk rw cells ∧ H2 g = .blk false cells) (hres : ∀ q, q < k → m (fr + q) = .res)
    {mc : Nat → MB} {M : List (Nat × Blk)} {w' : World} (hc : WR Γ (Live L0 m H2) w mc (hpL M) w') (hk : ∀ g, k ≤ g → mc g = .res) :
    let m' := fun g => if fr ≤ g ∧ g < fr + k then mc (g - fr) else m g
    WR Γ L0 w0 m' (ownW fr k H2 M) w' ∧ Grow (Live L0 m H) w (Live L0 m' (ownW fr k H2 M)) w' ∧ ∀ d v, VV (Live (Live L0 m H2) mc (hpL M)) w' mc d v → VV (Live L0 m' (ownW fr k H2 M)) w' m' (shD fr d) v := by
  intro m'
  have hlo : ∀ g, ¬ (fr ≤ g ∧ g < fr + k) → m' g = m g := fun g hg => if_neg hg
  have hin : ∀ g, g < k → m' (g + fr) = mc g := fun g hg => by simp only [m']; rw [if_pos (by omega)]; congr 1; omega
  have hhi : ∀ g, mc g ≠ .res → m' (g + fr) = mc g := fun g hg => hin g (Nat.lt_of_not_le fun e => hg (hk g e))
  have Hlo : ∀ g, ¬ (fr ≤ g ∧ g < fr + k) → ownW fr k H2 M g = H2 g := fun g hg => if_neg hg
  have Hhi : ∀ g, g < k → ownW fr k H2 M (g + fr) = shB fr (hpL M g) := fun g hg => by simp only [ownW]; rw [if_pos (by omega)]; congr 2; omega
  have out_of : ∀ g, m g ≠ .res → ¬ (fr ≤ g ∧ g < fr + k) := fun g hg e => hg (by have := hres (g - fr) (by omega); rwa [show fr + (g - fr) = g by omega] at this)
  have part : ∀ g, ¬ (fr ≤ g ∧ g < fr + k) ∨ ∃ q, q < k ∧ g = q + fr := fun g => by
    by_cases e : fr ≤ g ∧ g < fr + k
    · exact .inr ⟨g - fr, by omega, by omega⟩
    · exact .inl e
  have unsh : ∀ {b : Blk} {rw : Bool} {cs : List D}, shB fr b = .blk rw cs → ∃ c0, b = .blk rw c0 ∧ cs = c0.map (shD fr) := by
    intro b rw cs e
    cases b with
    | dead => cases e
    | obj o => cases o <;> cases e
    | blk r c => simp only [shB, Blk.blk.injEq] at e; exact ⟨c, by rw [e.1], by rw [← e.2, shL_eq]⟩
  have src : ∀ g rw cs, H2 g = .blk rw cs → ∃ rw0, H g = .blk rw0 cs ∧ (rw = true → rw0 = true) := by
    intro g rw cs hg
    rcases hold g with e | ⟨rw0, cells, e1, e⟩
    · rw [e] at hg; exact ⟨rw, hg, id⟩
    · rw [e] at hg; cases hg; exact ⟨rw0, e1, fun e => by cases e⟩
  have osrc : ∀ g o, H2 g = .obj o → H g = .obj o := by
    intro g o hg
    rcases hold g with e | ⟨rw0, cells, e1, e⟩
    · rw [← e]; exact hg
    · rw [e] at hg; cases hg
  have rsrc : ∀ g, (H2 g).rw = true → H2 g = H g := by
    intro g hg
    rcases hold g with e | ⟨rw0, cells, e1, e⟩
    · exact e
    · rw [e] at hg; cases hg
  have rwsh : ∀ b : Blk, (shB fr b).rw = b.rw := fun b => by
    cases b with
    | dead => rfl
    | blk => rfl
    | obj o => cases o <;> rfl
  have hsub : ∀ b, Live L0 m H2 b → Live L0 m H b := by
    rintro b (hb | ⟨g, sz, hg, hm⟩)
    · exact .inl hb
    · exact .inr ⟨g, sz, by rw [← rsrc g hg]; exact hg, hm⟩
  have live1 : ∀ b, Live L0 m' (ownW fr k H2 M) b → Live (Live L0 m H2) mc (hpL M) b := by
    rintro b (hb | ⟨g, sz, hg, hm⟩)
    · exact .inl (.inl hb)
    · rcases part g with e | ⟨q, hq, rfl⟩
      · rw [Hlo g e] at hg; rw [hlo g e] at hm
        exact .inl (.inr ⟨g, sz, hg, hm⟩)
      · rw [Hhi q hq, rwsh] at hg; rw [hin q hq] at hm
        exact .inr ⟨q, sz, hg, hm⟩
  have newb : ∀ q b sz, hpL M q ≠ .dead → mc q = .at b sz → w.heap.size ≤ b := by
    intro q b sz hg hm
    cases hb : hpL M q with
    | dead => exact absurd hb hg
    | blk rw cs =>
      rcases hc.heap.blk q rw cs hb with ⟨k1, _⟩ | ⟨b', sz', vs, ty, k1, k2, _⟩
      · rw [k1] at hm; cases hm
      · rw [k1] at hm; cases hm; exact k2
    | obj o =>
      obtain ⟨b', v, k1, k2, _⟩ := hc.heap.obj q o hb
      rw [k1] at hm; cases hm; exact k2
  have old_live : ∀ b, b < w.heap.size → Live (Live L0 m H2) mc (hpL M) b → Live L0 m H2 b := by
    rintro b hb (hl | ⟨q, sz, hg, hm⟩)
    · exact hl
    · have := newb q b sz (fun e => by rw [e] at hg; cases hg) hm; omega
  have hgrow : Grow (Live L0 m H) w (Live L0 m' (ownW fr k H2 M)) w' :=
    ⟨hc.below.size, fun b hb hL => ⟨hc.below.block b hb, fun hl => hL (hsub b (old_live b hb (live1 b hl)))⟩⟩
  have hgrow2 : Grow (Live (Live L0 m H2) mc (hpL M)) w' (Live L0 m' (ownW fr k H2 M)) w' := Grow.less w' live1
  have ne : ∀ {g b sz}, mc g = .at b sz → mc g ≠ .res := fun e q => by rw [e] at q; cases q
  have hVV : ∀ d v, VV (Live (Live L0 m H2) mc (hpL M)) w' mc d v → VV (Live L0 m' (ownW fr k H2 M)) w' m' (shD fr d) v := by
    intro d v hv
    induction hv with
    | data x v h => rw [shD_data]; exact .data x v (h.mono hgrow2)
    | emp es a => rw [shD_emp]; exact .emp es a
    | ref g off len es b sz cap o h1 h2 h3 h4 h5 => rw [shD_ref]; exact .ref _ off len es b sz cap o (by rw [hhi g (ne h1)]; exact h1) h2 h3 h4 h5
    | ref0 g es a h1 => rw [shD_ref]; exact .ref0 _ es a (by rw [hhi g (fun q => by rw [h1] at q; cases q)]; exact h1)
    | ptr g off b sz h1 => rw [shD_ptr]; exact .ptr _ off b sz (by rw [hhi g (ne h1)]; exact h1)
    | cut g off len cp es b sz cap o h1 h2 h3 h4 h5 h6 => simp only [shD]; exact .cut _ off len cp es b sz cap o (by rw [hhi g (ne h1)]; exact h1) h2 h3 h4 h5 h6
    | mref g b h1 => simp only [shD]; exact .mref _ b (by rw [hhi g (ne h1)]; exact h1)
    | iref g b h1 => simp only [shD]; exact .iref _ b (by rw [hhi g (ne h1)]; exact h1)
    | cptr cells b off vs hb hL hc hv => simp only [shD]; exact .cptr cells b off vs hb (fun hl => hL (live1 b hl)) hc (fun i x hx => (hv i x hx).mono hgrow2)
    | agg cs vs hl _ ih =>
      rw [shD_agg, shL_eq]
      refine .agg _ vs (by simpa using hl) fun i x v hx hv => ?_
      rw [List.getElem?_map, Option.map_eq_some_iff] at hx
      obtain ⟨y, hy, rfl⟩ := hx
      exact ih i y v hy hv
    | fn f caps vs hl _ ih =>
      simp only [shD, shL_eq]
      refine .fn f _ vs (by simpa using hl) fun i x v hx hv => ?_
      rw [List.getElem?_map, Option.map_eq_some_iff] at hx
      obtain ⟨y, hy, rfl⟩ := hx
      exact ih i y v hy hv
    | bnd f r v _ ih => simp only [shD]; exact .bnd f _ v ih
    | junk v => simp only [shD]; exact .junk v
  have hkeep : ∀ g, m g ≠ .res → m' g = m g := fun g hg => hlo g (out_of g hg)
  have big : ∀ q, hpL M q ≠ .dead → q < k := fun q hq => Nat.lt_of_not_le fun e => hq (hc.none (hk q e))
  refine ⟨⟨⟨?_, ?_, ?_, ?_⟩, ?_, h.l0, h.glob.mono hgrow⟩, hgrow, hVV⟩
  · intro g rw cs hg
    rcases part g with e | ⟨q, hq, rfl⟩
    · rw [Hlo g e] at hg
      obtain ⟨rw0, hg0, hrw⟩ := src g rw cs hg
      rcases h.heap.blk g rw0 cs hg0 with ⟨k1, k2⟩ | ⟨b, sz, vs, ty, k1, k2, k3, k4, k5, k6, k7⟩
      · exact .inl ⟨by rw [hlo g e]; exact k1, k2⟩
      · have hlt := h.lt hg0 k1
        refine .inr ⟨b, sz, vs, ty, by rw [hlo g e]; exact k1, k2, fun e2 hl => ?_, by rw [hc.below.block b hlt]; exact k4, k5, k6, fun i d hd => ?_⟩
        · rcases old_live b hlt (live1 b hl) with hl | ⟨q, szq, hq, hmq⟩
          · exact absurd (h.l0 b hl) (by omega)
          · have hqg := h.inj (by rw [← rsrc q hq]; exact hq) (fun q2 => by rw [q2] at hg0; cases hg0) hmq k1
            subst hqg
            rw [hg, e2] at hq; cases hq
        · obtain ⟨v, hv, h1c, hvv⟩ := k7 i d hd
          exact ⟨v, hv, h1c, hvv.mono hgrow hkeep⟩
    · rw [Hhi q hq] at hg
      obtain ⟨c0, e1, rfl⟩ := unsh hg
      rcases hc.heap.blk q rw c0 e1 with ⟨k1, k2⟩ | ⟨b, sz, vs, ty, k1, k2, k3, k4, k5, k6, k7⟩
      · exact .inl ⟨by rw [hin q hq]; exact k1, by rw [k2]; rfl⟩
      · refine .inr ⟨b, sz, vs, ty, by rw [hin q hq]; exact k1, Nat.le_trans h.below.size k2, fun e2 hl => k3 e2 (live1 b hl), k4, k5, by simpa using k6, fun i d hd => ?_⟩
        rw [List.getElem?_map, Option.map_eq_some_iff] at hd
        obtain ⟨y, hy, rfl⟩ := hd
        obtain ⟨v, hv, h1c, hvv⟩ := k7 i y hy
        exact ⟨v, hv, h1c, hVV y v hvv⟩
  · intro g g' cs rw' cs' b sz sz' hg hg' hm1 hm2
    rcases part g with e | ⟨q, hq, rfl⟩ <;> rcases part g' with e' | ⟨q', hq', rfl⟩
    · rw [Hlo g e] at hg; rw [Hlo g' e'] at hg'; rw [hlo g e] at hm1; rw [hlo g' e'] at hm2
      obtain ⟨rw0, hg0, hrw⟩ := src g true cs hg
      obtain ⟨rw0', hg0', hrw'⟩ := src g' rw' cs' hg'
      have := hrw rfl
      subst this
      exact h.heap.inj g g' cs rw0' cs' b sz sz' hg0 hg0' hm1 hm2
    · rw [Hlo g e] at hg; rw [hlo g e] at hm1; rw [Hhi q' hq'] at hg'; rw [hin q' hq'] at hm2
      obtain ⟨c0, e1, _⟩ := unsh hg'
      obtain ⟨rw0, hg0, _⟩ := src g true cs hg
      have h1 := h.lt hg0 hm1
      have h2 := newb q' b sz' (by rw [e1]; intro q; cases q) hm2
      omega
    · rw [Hlo g' e'] at hg'; rw [hlo g' e'] at hm2; rw [Hhi q hq] at hg; rw [hin q hq] at hm1
      obtain ⟨c0, e1, _⟩ := unsh hg
      obtain ⟨rw0, hg0, _⟩ := src g' rw' cs' hg'
      have h1 := h.lt hg0 hm2
      have h2 := newb q b sz (by rw [e1]; intro q; cases q) hm1
      omega
    · rw [Hhi q hq] at hg; rw [Hhi q' hq'] at hg'; rw [hin q hq] at hm1; rw [hin q' hq'] at hm2
      obtain ⟨c0, e1, _⟩ := unsh hg
      obtain ⟨c1, e2, _⟩ := unsh hg'
      rw [hc.heap.inj q q' c0 rw' c1 b sz sz' e1 e2 hm1 hm2]
  · intro g o hg
    rcases part g with e | ⟨q, hq, rfl⟩
    · rw [Hlo g e] at hg
      obtain ⟨b, v, k1, k2, k3, k4⟩ := h.heap.obj g o (osrc g o hg)
      have hlt := h.ltO (osrc g o hg) k1
      exact ⟨b, v, by rw [hlo g e]; exact k1, k2, by rw [hc.below.block b hlt]; exact k3, k4.mono hgrow hkeep⟩
    · rw [Hhi q hq] at hg
      cases hb : hpL M q with
      | dead => rw [hb] at hg; cases hg
      | blk => rw [hb] at hg; cases hg
      | obj o1 =>
        obtain ⟨b, v, k1, k2, k3, k4⟩ := hc.heap.obj q o1 hb
        rw [hb] at hg
        refine ⟨b, v, by rw [hin q hq]; exact k1, Nat.le_trans h.below.size k2, k3, ?_⟩
        cases k4 with
        | mp ks xs es clock a1 a2 a3 a4 a5 a6 =>
          cases hg
          rw [shL_eq]
          refine .mp ks _ es clock a1 (by simpa using a2) (fun i x e p q => (a3 i x e p q).mono hgrow2) (fun i x e p q => ?_) a5 a6
          rw [List.getElem?_map, Option.map_eq_some_iff] at p
          obtain ⟨y, hy, rfl⟩ := p
          exact hVV y _ (a4 i y e hy q)
        | it ks xs left cur bm seen hv a1 a2 =>
          cases hg
          exact .it ks xs left cur bm seen (hv.mono hgrow2) a1 a2
  · intro g g' o o' b sz sz' hg hg' hm1 hm2
    have osh : ∀ {b : Blk} {o : Ob}, shB fr b = .obj o → ∃ o0, b = .obj o0 := by
      intro b o e
      cases b with
      | dead => cases e
      | blk => cases e
      | obj o0 => exact ⟨o0, rfl⟩
    rcases part g with e | ⟨q, hq, rfl⟩ <;> rcases part g' with e' | ⟨q', hq', rfl⟩
    · rw [Hlo g e] at hg; rw [Hlo g' e'] at hg'; rw [hlo g e] at hm1; rw [hlo g' e'] at hm2
      exact h.heap.injO g g' o o' b sz sz' (osrc g o hg) (osrc g' o' hg') hm1 hm2
    · rw [Hlo g e] at hg; rw [hlo g e] at hm1; rw [Hhi q' hq'] at hg'; rw [hin q' hq'] at hm2
      obtain ⟨c0, e1⟩ := osh hg'
      have h1 := h.ltO (osrc g o hg) hm1
      have h2 := newb q' b sz' (by rw [e1]; intro q; cases q) hm2
      omega
    · rw [Hlo g' e'] at hg'; rw [hlo g' e'] at hm2; rw [Hhi q hq] at hg; rw [hin q hq] at hm1
      obtain ⟨c0, e1⟩ := osh hg
      have h1 := h.ltO (osrc g' o' hg') hm2
      have h2 := newb q b sz (by rw [e1]; intro q; cases q) hm1
      omega
    · rw [Hhi q hq] at hg; rw [Hhi q' hq'] at hg'; rw [hin q hq] at hm1; rw [hin q' hq'] at hm2
      obtain ⟨c0, e1⟩ := osh hg
      obtain ⟨c1, e2⟩ := osh hg'
      rw [hc.heap.injO q q' c0 c1 b sz sz' e1 e2 hm1 hm2]
  · exact h.below.trans (hc.below.mono h.below.size)

theorem WR.joined {m : Nat → MB} {H H2 : Nat → Blk} {w : World} {nx k : Nat} (h : WR Γ L0 w0 m H w) (hold : ∀ g, H2 g = H g ∨ ∃ rw cells, H g = .blk rw cells ∧ H2 g = .blk false cells) (hres : ∀ g, nx ≤ g → m g = .res)
    {mc : Nat → MB} {M : List (Nat × Blk)} {w' : World} (hc : WR Γ (Live L0 m H2) w mc (hpL M) w') (hk : ∀ g, k ≤ g → mc g = .res) :
    let m' := fun g => if g < nx then m g else mc (g - nx)
    WR Γ L0 w0 m' (ownH nx H2 M) w' ∧ Grow (Live L0 m H) w (Live L0 m' (ownH nx H2 M)) w' ∧ ∀ d v, VV (Live (Live L0 m H2) mc (hpL M)) w' mc d v → VV (Live L0 m' (ownH nx H2 M)) w' m' (shD nx d) v := by
  intro m'
  have e1 : m' = fun g => if nx ≤ g ∧ g < nx + k then mc (g - nx) else m g := by
    funext g
    simp only [m']
    by_cases h1 : g < nx
    · rw [if_pos h1, if_neg (by omega)]
    · rw [if_neg h1]
      by_cases h2 : g < nx + k
      · rw [if_pos (by omega)]
      · rw [if_neg (by omega), hk _ (by omega), hres g (by omega)]
  have hdead : ∀ g, nx ≤ g → H2 g = .dead := fun g hg => by
    have h0 := h.none (hres g hg)
    rcases hold g with e | ⟨rw0, cells, e, _⟩
    · rw [e, h0]
    · rw [h0] at e; cases e
  have e2 : ownH nx H2 M = ownW nx k H2 M := by
    funext g
    simp only [ownH, ownW]
    by_cases h1 : g < nx
    · rw [if_pos h1, if_neg (by omega)]
    · rw [if_neg h1]
      by_cases h2 : g < nx + k
      · rw [if_pos (by omega)]
      · rw [if_neg (by omega), hdead g (by omega), hc.none (hk _ (by omega))]; rfl
  rw [e1, e2]
  exact h.joinedW hold (fun q _ => hres _ (by omega)) hc hk

/-- A call that hands back rows of its own: the caller's rows F, if any are handed over, are written no more. -/
theorem dc_own {f : FuncId} {ds : List D} {H : Nat → Blk} {nx : Nat} {K : D → (Nat → Blk) → Nat → Prop} (F : List Nat) {xs : List Data} {d : D} {M : List (Nat × Blk)} {k : Nat} (hF : ∀ g ∈ F, ∃ rw cells, H g = .blk rw cells) (h : OC P Γ f xs d M k)
    (hf : FrzL false (fzH H F) ds xs) (hk : K (shD nx d) (ownH nx (fzH H F) M) (nx + k)) : DC P Γ f ds H nx K := by
  obtain ⟨hcall, hoc⟩ := h
  refine ⟨hcall, fun L0 w0 m w vs hwr hres hdead hl hv => ?_⟩
  have hold : ∀ g, fzH H F g = H g ∨ ∃ rw cells, H g = .blk rw cells ∧ fzH H F g = .blk false cells := fun g => by
    unfold fzH
    by_cases e : g ∈ F
    · obtain ⟨rw, cells, hg⟩ := hF g e
      exact .inr ⟨rw, cells, hg, by simp [e, hg, fz]⟩
    · exact .inl (by simp [e])
  obtain ⟨h1, hg1⟩ := hwr.called (Below.refl _ w) hold
  have hlive : ∀ b, Live L0 m (fzH H F) b → Live L0 m H b := by
    rintro b (hb | ⟨g, sz, hg, hm⟩)
    · exact .inl hb
    · rcases hold g with e | ⟨rw, cs, e1, e2⟩
      · rw [e] at hg; exact .inr ⟨g, sz, hg, hm⟩
      · rw [e2] at hg; cases hg
  obtain ⟨hlx, hfx⟩ := hf
  refine (hoc (Live L0 m (fzH H F)) w vs h1.glob (fun b hb => h1.live_lt hb) (by omega) (fun i x v hx hvi => ?_)).mono fun e w' ⟨v, mc, he, hc, hd, hr, hM⟩ => ?_
  · have hi : i < ds.length := by rw [hlx]; exact (List.getElem?_eq_some_iff.1 hx).1
    have hd := List.getElem?_eq_getElem hi
    refine (hfx i _ x hd hx).vd (m := m) (L := Live L0 m H) hlive (fun g rw cells b sz hg hrw hm => ?_) (fun g rw cells hg hm => ?_) (fun e => by cases e) (hv i _ v hd hvi)
    · have e : rw = false := by simpa using hrw
      obtain ⟨vs', ty, e1, e2, e3, e4, e5⟩ := at_of h1 hg hm
      obtain ⟨rw0, hg0, _⟩ := fzH_blk hg
      obtain ⟨vs2, ty2, f1, _, _, _, f5⟩ := at_of hwr hg0 hm
      exact ⟨hwr.lt hg0 hm, e4 e, vs2, ty2, f1, fun i d hd => by obtain ⟨v, a1, _, a3⟩ := f5 i d hd; exact ⟨v, a1, a3⟩⟩
    · rcases h1.heap.blk g rw cells hg with ⟨_, q⟩ | ⟨_, _, _, _, q, _⟩
      · exact q
      · rw [hm] at q; cases q
  · obtain ⟨j1, j2, j3⟩ := hwr.joined hold hres hc hr
    exact ⟨v, shD nx d, ownH nx (fzH H F) M, nx + k, _, he, j1, j3 d v hd, j2, fun g hg => if_pos hg, fun g hg => (if_neg (by omega)).trans (hr _ (by omega)), by omega, hk⟩

/-- What a function hands back of its own. -/
def retOQ (P : Program) (fn : Func) (d : D) (M : List (Nat × Blk)) (k : Nat) : Exit → St → Prop
  | .normal, s | .ret, s => resK P fn.results.toList s fun ds => ∃ d0 F R, ds = [d0] ∧ WeakR F (rhoL R) ⟨envL [(0, d0)], s.hp, s.nx, 0, 1⟩ ⟨envL [(0, d)], hpL M, k, 0, 1⟩
  | _, _ => False
@[congr] theorem retOQ_congr {n0 : Nat} (tk : tick = n0) (P : Program) (fn : Func) (d : D) (M : List (Nat × Blk)) (k : Nat) (e : Exit) (s : St) : retOQ P fn d M k e s = retOQ P fn d M k e s := rfl

/-- The result, and the rows that it takes with it. -/
def ownK (H : Nat → Blk) (nx : Nat) (d : D) (M : List (Nat × Blk)) (k : Nat) (ds : List D) : Prop := ∃ d0 F R, ds = [d0] ∧ WeakR F (rhoL R) ⟨envL [(0, d0)], H, nx, 0, 1⟩ ⟨envL [(0, d)], hpL M, k, 0, 1⟩
@[congr] theorem ownK_congr {n0 : Nat} (tk : tick = n0) (H : Nat → Blk) (nx : Nat) (d : D) (M : List (Nat × Blk)) (k : Nat) {ds ds' : List D} (h : ds = ds') : ownK H nx d M k ds = ownK H nx d M k ds' := by rw [h]
@[go_sem] theorem retOQ_ret (fn : Func) (d : D) (M : List (Nat × Blk)) (k : Nat) (s : St) : retOQ P fn d M k .ret s = resK P fn.results.toList s fun ds => ownK s.hp s.nx d M k ds := rfl
@[go_sem] theorem retOQ_normal (fn : Func) (d : D) (M : List (Nat × Blk)) (k : Nat) (s : St) : retOQ P fn d M k .normal s = resK P fn.results.toList s fun ds => ownK s.hp s.nx d M k ds := rfl
theorem oc_of (hm : P.follows .mixedOrders = true) {f : FuncId} {fn : Func} {c : Code} {xs : List Data} {d : D} {M : List (Nat × Blk)} {k : Nat} (hf : P.funcs[f]? = some fn) (hb : fn.body = some c) (hc : CallOk P f)
    (h : wpF P Γ c (retOQ P fn d M k) ⟨envArgs (xs.map toD), fun _ => .dead, 0, 0, xs.length + (fn.ntmps - xs.length)⟩) : OC P Γ f xs d M k := by
  refine ⟨hc, fun L w vs hg hL hl hv => calls_of_wp hf hb ?_⟩
  have hlive : ∀ b, Live L (fun _ => .res) (fun _ => Blk.dead) b ↔ L b := fun b => ⟨(fun h => by
    rcases h with h | ⟨g, sz, hg, _⟩
    · exact h
    · cases hg), .inl⟩
  have hrel : Rel Γ L w (fun _ => .res) ⟨envArgs (xs.map toD), fun _ => .dead, 0, 0, xs.length + (fn.ntmps - xs.length)⟩ { tmps := vs ++ Array.replicate (fn.ntmps - vs.size) undef, defers := [] } w := by
    refine ⟨rfl, fun t => ?_, ⟨(fun g rw cells hg => by cases hg), (fun g g' cells rw' cells' b sz sz' hg => by cases hg), (fun g o hg => by cases hg), (fun g g' o o' b sz sz' hg => by cases hg)⟩, fun _ _ => rfl, fun _ _ => rfl, Below.refl _ _, hL, hg.mono (Grow.less w fun b hb => (hlive b).1 hb), Nat.le_refl _, by simp [hl]⟩
    refine args_env (by simpa using hl) (fun i d v hd hvi => ?_) t
    rw [List.getElem?_map, Option.map_eq_some_iff] at hd
    obtain ⟨x, hx, rfl⟩ := hd
    exact toD_ok ((hv i x v hx hvi).mono (Grow.less w fun b hb => (hlive b).1 hb))
  refine wp_mono (wp_sound hm c _ _ _ _ _ hrel h) fun e a' w' ⟨m', s', h1, h2, h3⟩ => ?_
  have hlo : s'.lo = 0 := h2.lo
  have key : (resK P fn.results.toList s' fun ds => ∃ d0 F R, ds = [d0] ∧ WeakR F (rhoL R) ⟨envL [(0, d0)], s'.hp, s'.nx, 0, 1⟩ ⟨envL [(0, d)], hpL M, k, 0, 1⟩) → a'.defers = [] ∧ ∃ v, (results fn a'.tmps).run P w' = .ok v w' ∧ ∃ v' m, Ending.returned v = .returned v' ∧ WR Γ L w m (hpL M) w' ∧ VV (Live L m (hpL M)) w' m d v' ∧ (∀ g, k ≤ g → m g = .res) ∧ ∀ g, k ≤ g → hpL M g = .dead := by
    intro hk
    obtain ⟨ds, us, ⟨d0, F, R, rfl, hw⟩, k1, k2, k3⟩ := res_ok h1 _ _ hk
    match us, k1 with
    | [u], _ =>
      have hv0 := k2 0 d0 u rfl rfl
      have hr2 : Rel Γ L w m' ⟨envL [(0, d0)], s'.hp, s'.nx, 0, 1⟩ { tmps := #[u], defers := [] } w' := by
        refine ⟨rfl, fun t => ?_, h1.heap, h1.res, h1.dead, h1.below, h1.l0, h1.glob, Nat.zero_le _, rfl⟩
        by_cases ht : t = 0
        · subst ht; exact hv0
        · simp only [envL, ht, if_false]; exact .junk _
      obtain ⟨m2, r1, r2⟩ := renW_rel hr2 hw
      refine ⟨h1.defers, _, results_run k3, u, m2, rfl, r1.wr, ?_, r1.res, r1.dead⟩
      exact r1.vals 0
  cases e with
  | normal => exact key h3
  | ret => exact key h3
  | _ => exact h3.elim
theorem oc_by (hm : P.follows .mixedOrders = true) {f : FuncId} {fn : Func} {c : Code} {xs : List Data} {d : D} {M : List (Nat × Blk)} {k : Nat} (hf : P.funcs[f]? = some fn) (hb : fn.body = some c) (hc : CallOk P f)
    (h : startK (xs.map toD) (xs.length + (fn.ntmps - xs.length)) fun ds n => wpF P Γ c (retOQ P fn d M k) ⟨envArgs ds, fun _ => .dead, 0, 0, n⟩) : OC P Γ f xs d M k := oc_of hm hf hb hc h
/-- What is handed back, read out. -/
theorem pc_of_oc {f : FuncId} {xs : List Data} {d : D} {M : List (Nat × Blk)} {k : Nat} {r : Data} (h : OC P Γ f xs d M k) (hf : Frz true (hpL M) d r) : PC P Γ f xs r := by
  refine ⟨h.1, fun L w vs hg hL hl hv => (h.2 L w vs hg hL hl hv).mono fun e w' ⟨v, m, he, hc, hd, _⟩ => ⟨v, he, ?_, hc.below⟩⟩
  refine hf.vd (m := m) (L := Live L m (hpL M)) (fun b hb => .inl hb) (fun g rw cells b sz hg _ hm => ?_) (fun g rw cells hg hm => ?_) (fun _ g o b hg hm => ?_) hd
  rotate_left 2
  · obtain ⟨b', v', q1, q2, q3, q4⟩ := hc.heap.obj g o hg
    rw [q1] at hm; cases hm
    exact ⟨hc.ltO hg q1, fun hb => by have := hL b hb; omega, v', q3, q4⟩
  · obtain ⟨vs, ty, e1, e2, e3, _, e5⟩ := at_of hc hg hm
    have hbase : w.heap.size ≤ b := by
      rcases hc.heap.blk g rw cells hg with ⟨q, _⟩ | ⟨b', sz', _, _, q1, q2, _⟩
      · rw [q] at hm; cases hm
      · rw [q1] at hm; cases hm; exact q2
    exact ⟨hc.lt hg hm, fun hb => by have := hL b hb; omega, vs, ty, e1, fun i d hd => by obtain ⟨v, a1, _, a3⟩ := e5 i d hd; exact ⟨v, a1, a3⟩⟩
  · rcases hc.heap.blk g rw cells hg with ⟨_, q⟩ | ⟨_, _, _, _, q, _⟩
    · exact q
    · rw [hm] at q; cases q
theorem own_of {H : Nat → Blk} {nx : Nat} {d d0 : D} {M : List (Nat × Blk)} {k : Nat} (F : List Nat) (R : List (Nat × Option Nat)) (h : WeakR F (rhoL R) ⟨envL [(0, d0)], H, nx, 0, 1⟩ ⟨envL [(0, d)], hpL M, k, 0, 1⟩) : ownK H nx d M k [d0] := ⟨d0, F, R, rfl, h⟩
theorem over_zero {cells vs : List D} (h : vs.length ≤ cells.length) : over cells 0 vs = vs ++ cells.drop vs.length := by
  match vs with
  | [] => simp [over]
  | [d] =>
    cases cells with
    | nil => simp at h
    | cons c cs => simp [over]
  | a :: b :: vs => simp [over]
end
end Go.Proofs.Ytedcnbkhdkchoaa
