/- The relation through new blocks and through writes. -/
import Derived.Test.YtedcnbkhdkchoaaB
namespace Go.Proofs.Ytedcnbkhdkchoaa
open Go.RowKit
set_option linter.unusedVariables false
set_option linter.unusedSimpArgs false

/-- The part of the relation that speaks of memory. -/
structure WR (Γ : Nat → Option (List Data)) (L0 : Nat → Prop) (w0 : World) (m : Nat → MB) (H : Nat → Blk) (w : World) : Prop where
  heap : HR L0 w0.heap.size m H w
  below : Below w0.heap.size w0 w
  l0 : ∀ b, L0 b → b < w0.heap.size
  glob : Glob Γ (Live L0 m H) w

section
variable {Γ : Nat → Option (List Data)} {L0 : Nat → Prop} {w0 : World} {m : Nat → MB} {H : Nat → Blk} {w : World}

theorem Rel.wr {s : St} {a : Act} (h : Rel Γ L0 w0 m s a w) : WR Γ L0 w0 m s.hp w := ⟨h.heap, h.below, h.l0, h.glob⟩

/-- Behind an operation: its value, what it did to the numbered blocks. -/
def After (Γ : Nat → Option (List Data)) (L0 : Nat → Prop) (w0 : World) (fr : Nat) (H : Nat → Blk) (m : Nat → MB) (w : World) (d : D) (u : List (Nat × Blk)) (v : Value) (w' : World) : Prop :=
  ∃ m', WR Γ L0 w0 m' (Hp.upd H u) w' ∧ VV (Live L0 m' (Hp.upd H u)) w' m' d v ∧ Grow (Live L0 m H) w (Live L0 m' (Hp.upd H u)) w' ∧ ∀ g, g ≠ fr → m' g = m g

theorem After.pure (h : WR Γ L0 w0 m H w) {fr : Nat} {d : D} {v : Value} (hv : VV (Live L0 m H) w m d v) : After Γ L0 w0 fr H m w d [] v w :=
  ⟨m, h, hv, Grow.refl _ _, fun _ _ => rfl⟩

theorem WR.lt (h : WR Γ L0 w0 m H w) {g : Nat} {rw : Bool} {cells : List D} {b sz : Nat} (hg : H g = .blk rw cells) (hm : m g = .at b sz) : b < w.heap.size := by
  rcases h.heap.blk g rw cells hg with ⟨h1, _⟩ | ⟨b', sz', vs, ty, h1, _, _, h2, _⟩
  · rw [h1] at hm; cases hm
  · rw [h1] at hm; cases hm
    rcases Nat.lt_or_ge b w.heap.size with h3 | h3
    · exact h3
    · rw [Array.getElem?_eq_none h3] at h2; cases h2

theorem WR.ltO (h : WR Γ L0 w0 m H w) {g : Nat} {o : Ob} {b sz : Nat} (hg : H g = .obj o) (hm : m g = .at b sz) : b < w.heap.size := by
  obtain ⟨b', v, h1, _, h3, _⟩ := h.heap.obj g o hg
  rw [h1] at hm; cases hm
  exact (Array.getElem?_eq_some_iff.1 h3).1
theorem WR.live_lt (h : WR Γ L0 w0 m H w) {b : Nat} (hb : Live L0 m H b) : b < w.heap.size := by
  rcases hb with hb | ⟨g, sz, hg, hm⟩
  · exact Nat.lt_of_lt_of_le (h.l0 b hb) h.below.size
  · rcases Blk.rw_inv hg with ⟨cells, e⟩ | ⟨o, e⟩
    · exact h.lt e hm
    · exact h.ltO e hm
/-- A block of cells isn't one of something else. -/
theorem WR.apart (h : WR Γ L0 w0 m H w) {g g' : Nat} {rw : Bool} {cells : List D} {o : Ob} {b sz sz' : Nat} (hg : H g = .blk rw cells) (hg' : H g' = .obj o) (hm : m g = .at b sz) (hm' : m g' = .at b sz') : False := by
  rcases h.heap.blk g rw cells hg with ⟨h1, _⟩ | ⟨b1, sz1, vs, ty, h1, _, _, h2, _⟩
  · rw [h1] at hm; cases hm
  · rw [h1] at hm; cases hm
    obtain ⟨b2, v, k1, _, k3, k4⟩ := h.heap.obj g' o hg'
    rw [k1] at hm'; cases hm'
    rw [h2] at k3; cases k3
    exact k4.not_cells
theorem WR.inj (h : WR Γ L0 w0 m H w) {g g' : Nat} {b sz sz' : Nat} (hg : (H g).rw = true) (hg' : H g' ≠ .dead) (hm : m g = .at b sz) (hm' : m g' = .at b sz') : g = g' := by
  rcases Blk.rw_inv hg with ⟨cells, e⟩ | ⟨o, e⟩
  · cases e' : H g' with
    | dead => exact absurd e' hg'
    | blk rw cells' => exact h.heap.inj g g' cells rw cells' b sz sz' e e' hm hm'
    | obj o => exact (h.apart e e' hm hm').elim
  · cases e' : H g' with
    | dead => exact absurd e' hg'
    | blk rw cells' => exact (h.apart e' e hm' hm).elim
    | obj o' => exact h.heap.injO g g' o o' b sz sz' e e' hm hm'

theorem heap_push (w : World) (o : Obj) (k : Nat) (h : k < w.heap.size) : (w.alloc o).heap[k]? = w.heap[k]? := Below.heap_alloc w o k h
theorem heap_push_new (w : World) (o : Obj) : (w.alloc o).heap[w.heap.size]? = some o := by
  show (w.heap.push o)[w.heap.size]? = _
  simp

/-- A new block under a new number, of whatever kind; some others may be done with. (w1: the world ahead of the block itself: a draw more, at most.) -/
theorem WR.newB (h : WR Γ L0 w0 m H w) {fr : Nat} (hfr : m fr = .res) {w1 : World} (hw1 : w1.heap = w.heap ∧ w1.os = w.os ∧ w1.tape = w.tape ∧ w1.output = w.output) {ob : Obj} {sz : Nat}
    {H' : Nat → Blk} (hold : ∀ g, g ≠ fr → H' g = H g ∨ H' g = .dead)
    (hblk : ∀ rw cells, H' fr = .blk rw cells → rw = true ∧ ∃ vs ty, ob = .cells vs ty (0, 0) ∧ vs.size = sz ∧ cells.length ≤ sz ∧ ∀ (i : Nat) (d : D), cells[i]? = some d → ∃ v, vs[i]? = some v ∧ v.oneCell' = true ∧ VV (Live L0 m H) w m d v)
    (hobj : ∀ o, H' fr = .obj o → sz = 0 ∧ ObIs (Live L0 m H) w m o ob) :
    let m' := fun g => if g = fr then MB.at w.heap.size sz else m g
    WR Γ L0 w0 m' H' (w1.alloc ob) ∧ Grow (Live L0 m H) w (Live L0 m' H') (w1.alloc ob) ∧ (∀ g, g ≠ fr → m' g = m g) ∧ m' fr = .at w.heap.size sz := by
  intro m'
  obtain ⟨h1, h2, h3, h4⟩ := hw1
  have hs : w1.heap.size = w.heap.size := by rw [h1]
  have hm' : ∀ g, g ≠ fr → m' g = m g := fun g hg => if_neg hg
  have hmr : ∀ g, m g ≠ .res → m' g = m g := fun g hg => hm' g (fun e => hg (by rw [e]; exact hfr))
  have hmf : m' fr = .at w.heap.size sz := if_pos rfl
  have back : ∀ g, g ≠ fr → H' g ≠ .dead → H' g = H g := fun g e hg => (hold g e).resolve_right hg
  have hgrow : Grow (Live L0 m H) w (Live L0 m' H') (w1.alloc ob) := by
    refine ⟨by simp [hs], fun b hb hL => ⟨by rw [heap_push _ _ _ (by omega), h1], ?_⟩⟩
    rintro (k | ⟨g, sz', hg, hm⟩)
    · exact hL (.inl k)
    · by_cases e : g = fr
      · subst e; rw [hmf] at hm; cases hm; omega
      · have := back g e (fun q => by rw [q] at hg; cases hg)
        rw [this] at hg; rw [hm' g e] at hm; exact hL (.inr ⟨g, sz', hg, hm⟩)
  refine ⟨⟨⟨?_, ?_, ?_, ?_⟩, ?_, h.l0, h.glob.mono hgrow⟩, hgrow, hm', hmf⟩
  · intro g rw cs hg
    by_cases e : g = fr
    · subst e
      obtain ⟨hrw, vs, ty, e1, e2, e3, e4⟩ := hblk rw cs hg
      subst hrw
      refine .inr ⟨w.heap.size, sz, vs, ty, hmf, h.below.size, (fun e => by cases e), ?_, e2, e3, fun i d hd => ?_⟩
      · rw [← hs, e1]; exact heap_push_new _ _
      · obtain ⟨v, hv, h1c, hvv⟩ := e4 i d hd
        exact ⟨v, hv, h1c, hvv.mono hgrow hmr⟩
    · rw [back g e (by rw [hg]; intro q; cases q)] at hg
      rcases h.heap.blk g rw cs hg with ⟨k1, k2⟩ | ⟨b, sz, vs', ty', k1, k2, k3, k4, k5, k6, k7⟩
      · exact .inl ⟨by rw [hm' g e]; exact k1, k2⟩
      · have hb := h.lt hg k1
        refine .inr ⟨b, sz, vs', ty', by rw [hm' g e]; exact k1, k2, fun hrw => (hgrow.keep b hb (k3 hrw)).2, by rw [heap_push _ _ _ (by omega), h1]; exact k4, k5, k6, fun i d hd => ?_⟩
        obtain ⟨v, hv, h1c, hvv⟩ := k7 i d hd
        exact ⟨v, hv, h1c, hvv.mono hgrow hmr⟩
  · intro g g' cs rw' cs' b sz sz' hg hg' hm1 hm2
    by_cases e : g = fr
    · by_cases e' : g' = fr
      · rw [e, e']
      · rw [e, hmf] at hm1; cases hm1
        rw [back g' e' (by rw [hg']; intro q; cases q)] at hg'; rw [hm' g' e'] at hm2; have := h.lt hg' hm2; omega
    · rw [back g e (by rw [hg]; intro q; cases q)] at hg; rw [hm' g e] at hm1
      by_cases e' : g' = fr
      · rw [e', hmf] at hm2; cases hm2; have := h.lt hg hm1; omega
      · rw [back g' e' (by rw [hg']; intro q; cases q)] at hg'; rw [hm' g' e'] at hm2; exact h.heap.inj g g' cs rw' cs' b sz sz' hg hg' hm1 hm2
  · intro g o hg
    by_cases e : g = fr
    · subst e
      obtain ⟨e1, e2⟩ := hobj o hg
      subst e1
      exact ⟨w.heap.size, ob, hmf, h.below.size, by rw [← hs]; exact heap_push_new _ _, e2.mono hgrow hmr⟩
    · rw [back g e (by rw [hg]; intro q; cases q)] at hg
      obtain ⟨b, v, k1, k2, k3, k4⟩ := h.heap.obj g o hg
      have hb := h.ltO hg k1
      exact ⟨b, v, by rw [hm' g e]; exact k1, k2, by rw [heap_push _ _ _ (by omega), h1]; exact k3, k4.mono hgrow hmr⟩
  · intro g g' o o' b sz sz' hg hg' hm1 hm2
    by_cases e : g = fr
    · by_cases e' : g' = fr
      · rw [e, e']
      · rw [e, hmf] at hm1; cases hm1
        rw [back g' e' (by rw [hg']; intro q; cases q)] at hg'; rw [hm' g' e'] at hm2; have := h.ltO hg' hm2; omega
    · rw [back g e (by rw [hg]; intro q; cases q)] at hg; rw [hm' g e] at hm1
      by_cases e' : g' = fr
      · rw [e', hmf] at hm2; cases hm2; have := h.ltO hg hm1; omega
      · rw [back g' e' (by rw [hg']; intro q; cases q)] at hg'; rw [hm' g' e'] at hm2; exact h.heap.injO g g' o o' b sz sz' hg hg' hm1 hm2
  · have hb := h.below
    refine ⟨h2.trans hb.os, h3.trans hb.tape, h4.trans hb.output, by simp [hs]; exact Nat.le_trans hb.size (Nat.le_succ _), fun k hk => ?_⟩
    have := hb.size
    rw [heap_push _ _ _ (by omega), h1]
    exact hb.block k hk

/-- A new block of cells. -/
theorem WR.new (h : WR Γ L0 w0 m H w) {fr : Nat} (hfr : m fr = .res) {w1 : World} (hw1 : w1.heap = w.heap ∧ w1.os = w.os ∧ w1.tape = w.tape ∧ w1.output = w.output) {vs : Array Value} {ty : TypeId} {fz : Nat × Nat}
    {H' : Nat → Blk} {cells : List D} (hnew : H' fr = .blk true cells) (hold : ∀ g, g ≠ fr → H' g = H g ∨ H' g = .dead) (hfz : fz = (0, 0))
    (hlen : cells.length ≤ vs.size) (hcell : ∀ (i : Nat) (d : D), cells[i]? = some d → ∃ v, vs[i]? = some v ∧ v.oneCell' = true ∧ VV (Live L0 m H) w m d v) :
    let m' := fun g => if g = fr then MB.at w.heap.size vs.size else m g
    WR Γ L0 w0 m' H' (w1.alloc (.cells vs ty fz)) ∧ Grow (Live L0 m H) w (Live L0 m' H') (w1.alloc (.cells vs ty fz)) ∧ (∀ g, g ≠ fr → m' g = m g) ∧ m' fr = .at w.heap.size vs.size := by
  subst hfz
  exact h.newB hfr hw1 hold (fun rw cs hg => by rw [hnew] at hg; cases hg; exact ⟨rfl, vs, ty, rfl, rfl, hlen, hcell⟩) (fun o hg => by rw [hnew] at hg; cases hg)

/-- A write into a block of the call's own; it may go on under a new number. -/
theorem WR.write (h : WR Γ L0 w0 m H w) {g t : Nat} {cells cells' : List D} {b sz : Nat} {vs vs' : Array Value} {ty : TypeId} (hg : H g = .blk true cells) (hm : m g = .at b sz) (hb : w.heap[b]? = some (.cells vs ty (0, 0)))
    (ht : t = g ∨ m t = .res) {H' : Nat → Blk} (hnew : H' t = .blk true cells') (hgone : t ≠ g → H' g = .dead) (hold : ∀ k, k ≠ t → k ≠ g → H' k = H k)
    (hsz : vs'.size = sz) (hlen : cells'.length ≤ sz) (hcell : ∀ (i : Nat) (d : D), cells'[i]? = some d → ∃ v, vs'[i]? = some v ∧ v.oneCell' = true ∧ VV (Live L0 m H) w m d v) :
    let m' := fun k => if k = t then MB.at b sz else m k
    WR Γ L0 w0 m' H' (w.setRow b vs') ∧ Grow (Live L0 m H) w (Live L0 m' H') (w.setRow b vs') ∧ (∀ k, k ≠ t → m' k = m k) ∧ (∀ k, m k ≠ .res → m' k = m k) ∧ m' t = .at b sz := by
  intro m'
  have hm' : ∀ k, k ≠ t → m' k = m k := fun k hk => if_neg hk
  have hmt : m' t = .at b sz := if_pos rfl
  have hmr : ∀ k, m k ≠ .res → m' k = m k := fun k hk => by
    by_cases e : k = t
    · rcases ht with ht | ht
      · rw [e, hmt, ht, hm]
      · rw [e] at hk; exact absurd ht hk
    · exact hm' k e
  have hlive : Live L0 m H b := .inr ⟨g, sz, by rw [hg]; rfl, hm⟩
  have hother : ∀ k, k ≠ b → (w.setRow b vs').heap[k]? = w.heap[k]? := fun k hk => setRow_other w b k vs' hk
  have hsub : ∀ k, Live L0 m' H' k → Live L0 m H k := by
    rintro k (hk | ⟨q, sz', hq, hmq⟩)
    · exact .inl hk
    · by_cases e : q = t
      · subst e; rw [hmt] at hmq; cases hmq; exact hlive
      · by_cases e2 : q = g
        · subst e2; rw [hgone (fun e3 => e e3.symm)] at hq; cases hq
        · rw [hold q e e2] at hq; rw [hm' q e] at hmq; exact .inr ⟨q, sz', hq, hmq⟩
  have hgrow : Grow (Live L0 m H) w (Live L0 m' H') (w.setRow b vs') :=
    ⟨by simp, fun k hk hL => ⟨hother k (fun e => hL (by rw [e]; exact hlive)), fun hl => hL (hsub k hl)⟩⟩
  -- a block of the walk's that lies at b is g's
  have hat : ∀ q rw cs sz', H q = .blk rw cs → m q = .at b sz' → q = g := fun q rw cs sz' hq hmq => (h.heap.inj g q cells rw cs b sz sz' hg hq hm hmq).symm
  have hbase : w0.heap.size ≤ b := by
    rcases h.heap.blk g true cells hg with ⟨k1, _⟩ | ⟨b', sz', vs2, ty2, k1, k2, _⟩
    · rw [k1] at hm; cases hm
    · rw [k1] at hm; cases hm; exact k2
  have oback : ∀ q o, H' q = .obj o → q ≠ t ∧ q ≠ g ∧ H q = .obj o := by
    intro q o hq
    have e1 : q ≠ t := fun e => by rw [e, hnew] at hq; cases hq
    have e2 : q ≠ g := fun e => by
      subst e
      rw [hgone (fun e => e1 e.symm)] at hq; cases hq
    exact ⟨e1, e2, by rw [← hold q e1 e2]; exact hq⟩
  refine ⟨⟨⟨?_, ?_, fun q o hq => ?_, fun q q' o o' b1 s1 s2 hq hq' hm1 hm2 => ?_⟩, ?_, h.l0, h.glob.mono hgrow⟩, hgrow, hm', hmr, hmt⟩
  rotate_left 2
  · obtain ⟨e1, e2, hq⟩ := oback q o hq
    obtain ⟨b2, v, k1, k2, k3, k4⟩ := h.heap.obj q o hq
    have hne : b2 ≠ b := fun e => (h.apart hg hq hm (by rw [k1, e])).elim
    exact ⟨b2, v, by rw [hm' q e1]; exact k1, k2, by rw [hother b2 hne]; exact k3, k4.mono hgrow hmr⟩
  · obtain ⟨e1, _, hq⟩ := oback q o hq
    obtain ⟨e2, _, hq'⟩ := oback q' o' hq'
    rw [hm' q e1] at hm1; rw [hm' q' e2] at hm2
    exact h.heap.injO q q' o o' b1 s1 s2 hq hq' hm1 hm2
  rotate_left 1
  · intro q rw cs hq
    by_cases e : q = t
    · subst e
      rw [hnew] at hq; cases hq
      refine .inr ⟨b, sz, vs', ty, hmt, hbase, (fun e => by cases e), setRow_heap w b vs vs' ty (0, 0) hb, hsz, hlen, fun i d hd => ?_⟩
      obtain ⟨v, hv, h1c, hvv⟩ := hcell i d hd
      exact ⟨v, hv, h1c, hvv.mono hgrow hmr⟩
    · by_cases e2 : q = g
      · subst e2; rw [hgone (fun e3 => e e3.symm)] at hq; cases hq
      · rw [hold q e e2] at hq
        rcases h.heap.blk q rw cs hq with ⟨k1, k2⟩ | ⟨b2, sz2, vs2, ty2, k1, k2, k3, k4, k5, k6, k7⟩
        · exact .inl ⟨by rw [hm' q e]; exact k1, k2⟩
        · have hne : b2 ≠ b := fun e3 => e2 (hat q rw cs sz2 hq (by rw [k1, e3]))
          refine .inr ⟨b2, sz2, vs2, ty2, by rw [hm' q e]; exact k1, k2, fun hrw hl => k3 hrw (hsub _ hl), by rw [hother b2 hne]; exact k4, k5, k6, fun i d hd => ?_⟩
          obtain ⟨v, hv, h1c, hvv⟩ := k7 i d hd
          exact ⟨v, hv, h1c, hvv.mono hgrow hmr⟩
  · intro q q' cs rw' cs' b1 sz1 sz2 hq hq' hm1 hm2
    -- the number under which a block was held ahead
    have back : ∀ q rw cs sz1, H' q = .blk rw cs → m' q = .at b1 sz1 → ∃ p rwp csp szp, H p = .blk rwp csp ∧ m p = .at b1 szp ∧ (rw = true → rwp = true) ∧ (q = t ∧ p = g ∨ q ≠ t ∧ p = q) := by
      intro q rw cs sz1 hq hm1
      by_cases e : q = t
      · subst e
        rw [hmt] at hm1; cases hm1
        exact ⟨g, true, cells, _, hg, hm, fun _ => rfl, .inl ⟨rfl, rfl⟩⟩
      · by_cases e2 : q = g
        · subst e2; rw [hgone (fun e3 => e e3.symm)] at hq; cases hq
        · rw [hold q e e2] at hq; rw [hm' q e] at hm1
          exact ⟨q, rw, cs, sz1, hq, hm1, id, .inr ⟨e, rfl⟩⟩
    obtain ⟨p, rwp, csp, szp, hp1, hp2, hp3, hp4⟩ := back q true cs sz1 hq hm1
    obtain ⟨p', rwp', csp', szp', hp1', hp2', hp3', hp4'⟩ := back q' rw' cs' sz2 hq' hm2
    have hpt := hp3 rfl
    subst hpt
    have he := h.heap.inj p p' csp rwp' csp' b1 szp szp' hp1 hp1' hp2 hp2'
    rcases hp4 with ⟨e1, e2⟩ | ⟨e1, e2⟩ <;> rcases hp4' with ⟨e3, e4⟩ | ⟨e3, e4⟩
    · rw [e1, e3]
    · exfalso
      have hq'g : q' = g := by rw [← e4, ← he, e2]
      rw [hq'g, hgone (fun e5 => e3 (by rw [hq'g, e5]))] at hq'
      cases hq'
    · exfalso
      have hqg : q = g := by rw [← e2, he, e4]
      rw [hqg, hgone (fun e5 => e1 (by rw [hqg, e5]))] at hq
      cases hq
    · rw [← e2, ← e4, he]
  · exact below_setRow h.below hbase vs'

/-- A block of the call's own that is done with, whatever has become of it. -/
theorem WR.kill (h : WR Γ L0 w0 m H w) {g : Nat} {cells : List D} {b sz : Nat} (hg : H g = .blk true cells) (hm : m g = .at b sz) {w1 : World} (hs : w1.heap.size = w.heap.size) (ho : ∀ k, k ≠ b → w1.heap[k]? = w.heap[k]?) (hb : w1.os = w.os ∧ w1.tape = w.tape ∧ w1.output = w.output)
    {H' : Nat → Blk} (hgone : H' g = .dead) (hold : ∀ k, k ≠ g → H' k = H k) :
    WR Γ L0 w0 m H' w1 ∧ Grow (Live L0 m H) w (Live L0 m H') w1 ∧ ¬ Live L0 m H' b := by
  have hlive : Live L0 m H b := .inr ⟨g, sz, by rw [hg]; rfl, hm⟩
  have hsub : ∀ k, Live L0 m H' k → Live L0 m H k := by
    rintro k (hk | ⟨q, sz', hq, hmq⟩)
    · exact .inl hk
    · by_cases e2 : q = g
      · subst e2; rw [hgone] at hq; cases hq
      · rw [hold q e2] at hq; exact .inr ⟨q, sz', hq, hmq⟩
  have hgrow : Grow (Live L0 m H) w (Live L0 m H') w1 :=
    ⟨by omega, fun k hk hL => ⟨ho k (fun e => hL (by rw [e]; exact hlive)), fun hl => hL (hsub k hl)⟩⟩
  have hat : ∀ q rw cs sz', H q = .blk rw cs → m q = .at b sz' → q = g := fun q rw cs sz' hq hmq => (h.heap.inj g q cells rw cs b sz sz' hg hq hm hmq).symm
  have hbase : w0.heap.size ≤ b := by
    rcases h.heap.blk g true cells hg with ⟨k1, _⟩ | ⟨b', sz', vs2, ty2, k1, k2, _⟩
    · rw [k1] at hm; cases hm
    · rw [k1] at hm; cases hm; exact k2
  have oback : ∀ q o, H' q = .obj o → q ≠ g ∧ H q = .obj o := by
    intro q o hq
    have e2 : q ≠ g := fun e => by rw [e, hgone] at hq; cases hq
    exact ⟨e2, by rw [← hold q e2]; exact hq⟩
  refine ⟨⟨⟨?_, ?_, fun q o hq => ?_, fun q q' o o' b1 s1 s2 hq hq' hm1 hm2 => ?_⟩, ?_, h.l0, h.glob.mono hgrow⟩, hgrow, ?_⟩
  rotate_left 2
  · obtain ⟨e2, hq⟩ := oback q o hq
    obtain ⟨b2, v, k1, k2, k3, k4⟩ := h.heap.obj q o hq
    have hne : b2 ≠ b := fun e => (h.apart hg hq hm (by rw [k1, e])).elim
    exact ⟨b2, v, k1, k2, by rw [ho b2 hne]; exact k3, k4.mono hgrow (fun _ _ => rfl)⟩
  · obtain ⟨_, hq⟩ := oback q o hq
    obtain ⟨_, hq'⟩ := oback q' o' hq'
    exact h.heap.injO q q' o o' b1 s1 s2 hq hq' hm1 hm2
  rotate_left 2
  · intro q rw cs hq
    by_cases e2 : q = g
    · subst e2; rw [hgone] at hq; cases hq
    · rw [hold q e2] at hq
      rcases h.heap.blk q rw cs hq with ⟨k1, k2⟩ | ⟨b2, sz2, vs2, ty2, k1, k2, k3, k4, k5, k6, k7⟩
      · exact .inl ⟨k1, k2⟩
      · have hne : b2 ≠ b := fun e3 => e2 (hat q rw cs sz2 hq (by rw [k1, e3]))
        refine .inr ⟨b2, sz2, vs2, ty2, k1, k2, fun hrw hl => k3 hrw (hsub _ hl), by rw [ho b2 hne]; exact k4, k5, k6, fun i d hd => ?_⟩
        obtain ⟨v, hv, h1c, hvv⟩ := k7 i d hd
        exact ⟨v, hv, h1c, hvv.mono hgrow (fun _ _ => rfl)⟩
  · intro q q' cs rw' cs' b1 sz1 sz2 hq hq' hm1 hm2
    by_cases e : q = g
    · subst e; rw [hgone] at hq; cases hq
    · by_cases e' : q' = g
      · subst e'; rw [hgone] at hq'; cases hq'
      · rw [hold q e] at hq; rw [hold q' e'] at hq'
        exact h.heap.inj q q' cs rw' cs' b1 sz1 sz2 hq hq' hm1 hm2
  · exact h.below.trans ⟨hb.1, hb.2.1, hb.2.2, by omega, fun k hk => ho k (by omega)⟩
  · rintro (hl | ⟨q, sz', hq, hmq⟩)
    · have := h.l0 b hl; omega
    · by_cases e2 : q = g
      · subst e2; rw [hgone] at hq; cases hq
      · rw [hold q e2] at hq
        exact e2 (h.inj (by rw [hg]; rfl) (fun q2 => by rw [q2] at hq; cases hq) hm hmq).symm

/-- A draw. -/
theorem WR.drew (h : WR Γ L0 w0 m H w) : WR Γ L0 w0 m H w.drew :=
  have hg : Grow (Live L0 m H) w (Live L0 m H) w.drew := ⟨Nat.le_refl _, fun b _ hL => ⟨rfl, hL⟩⟩
  ⟨⟨fun g rw cs hgc => by
      rcases h.heap.blk g rw cs hgc with k | ⟨b, sz, vs, ty, k1, k2, k3, k4, k5, k6, k7⟩
      · exact .inl k
      · exact .inr ⟨b, sz, vs, ty, k1, k2, k3, k4, k5, k6, fun i d hd => by obtain ⟨v, hv, h1c, hvv⟩ := k7 i d hd; exact ⟨v, hv, h1c, hvv.mono hg (fun _ _ => rfl)⟩⟩, h.heap.inj, fun g o hgo => by
      obtain ⟨b, v, k1, k2, k3, k4⟩ := h.heap.obj g o hgo
      exact ⟨b, v, k1, k2, k3, k4.mono hg (fun _ _ => rfl)⟩, h.heap.injO⟩, h.below.drew, h.l0, h.glob.mono hg⟩

/-- A call that has written nothing old; some rows may be written no more. -/
theorem WR.called (h : WR Γ L0 w0 m H w) {w' : World} (hb : Below w.heap.size w w') {H' : Nat → Blk} (hold : ∀ g, H' g = H g ∨ ∃ rw cells, H g = .blk rw cells ∧ H' g = .blk false cells) :
    WR Γ L0 w0 m H' w' ∧ Grow (Live L0 m H) w (Live L0 m H') w' := by
  have hsub : ∀ k, Live L0 m H' k → Live L0 m H k := by
    rintro k (hk | ⟨q, sz', hq, hmq⟩)
    · exact .inl hk
    · rcases hold q with e | ⟨rw, cells, _, e⟩
      · rw [e] at hq; exact .inr ⟨q, sz', hq, hmq⟩
      · rw [e] at hq; cases hq
  have hgrow : Grow (Live L0 m H) w (Live L0 m H') w' := ⟨hb.size, fun k hk hL => ⟨hb.block k hk, fun hl => hL (hsub k hl)⟩⟩
  have src : ∀ g rw cs, H' g = .blk rw cs → ∃ rw0, H g = .blk rw0 cs ∧ (rw = true → rw0 = true) := by
    intro g rw cs hg
    rcases hold g with e | ⟨rw0, cells, e1, e⟩
    · rw [e] at hg; exact ⟨rw, hg, id⟩
    · rw [e] at hg; cases hg; exact ⟨rw0, e1, fun e => by cases e⟩
  have oback : ∀ q o, H' q = .obj o → H q = .obj o := by
    intro q o hq
    rcases hold q with e | ⟨rw, cells, _, e⟩
    · rw [← e]; exact hq
    · rw [e] at hq; cases hq
  refine ⟨⟨⟨?_, ?_, fun q o hq => ?_, fun q q' o o' b1 s1 s2 hq hq' hm1 hm2 => h.heap.injO q q' o o' b1 s1 s2 (oback q o hq) (oback q' o' hq') hm1 hm2⟩, ?_, h.l0, h.glob.mono hgrow⟩, hgrow⟩
  rotate_left 2
  · obtain ⟨b2, v, k1, k2, k3, k4⟩ := h.heap.obj q o (oback q o hq)
    exact ⟨b2, v, k1, k2, by rw [hb.block b2 (h.ltO (oback q o hq) k1)]; exact k3, k4.mono hgrow (fun _ _ => rfl)⟩
  rotate_left 1
  · intro g rw cs hg
    obtain ⟨rw0, hg0, hrw⟩ := src g rw cs hg
    rcases h.heap.blk g rw0 cs hg0 with k | ⟨b, sz, vs, ty, k1, k2, k3, k4, k5, k6, k7⟩
    · exact .inl k
    · have hlt := h.lt hg0 k1
      refine .inr ⟨b, sz, vs, ty, k1, k2, fun e hl => ?_, by rw [hb.block b hlt]; exact k4, k5, k6, fun i d hd => ?_⟩
      · -- a row that is written no more is live under no other number
        rcases hl with hl | ⟨q, szq, hq, hmq⟩
        · exact absurd (h.l0 b hl) (by omega)
        · have hq0 : (H q).rw = true := by
            rcases hold q with e | ⟨rw, cells, _, e⟩
            · rw [← e]; exact hq
            · rw [e] at hq; cases hq
          have hqg := h.inj hq0 (fun q2 => by rw [q2] at hg0; cases hg0) hmq k1
          subst hqg
          rw [hg, e] at hq; cases hq
      · obtain ⟨v, hv, h1c, hvv⟩ := k7 i d hd
        exact ⟨v, hv, h1c, hvv.mono hgrow (fun _ _ => rfl)⟩
  · intro g g' cs rw' cs' b sz sz' hg hg' hm1 hm2
    obtain ⟨rw0, hg0, hrw⟩ := src g true cs hg
    obtain ⟨rw0', hg0', hrw'⟩ := src g' rw' cs' hg'
    have := hrw rfl
    subst this
    exact h.heap.inj g g' cs rw0' cs' b sz sz' hg0 hg0' hm1 hm2
  · exact h.below.trans (hb.mono h.below.size)
end
end Go.Proofs.Ytedcnbkhdkchoaa
