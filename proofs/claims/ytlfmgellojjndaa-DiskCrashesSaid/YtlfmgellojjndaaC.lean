/- The relation through new blocks and through writes. -/
import Derived.Test.YtlfmgellojjndaaB
namespace Go.Proofs.Ytlfmgellojjndaa
open Go.RowKit
set_option linter.unusedVariables false
set_option linter.unusedSimpArgs false

/-- The part of the relation that speaks of memory. -/
structure WR (Γ : Nat → Option (List Data)) (L0 : Nat → Prop) (w0 : World) (m : Nat → MB) (H : Nat → Blk) (w : World) : Prop where
  heap : HR L0 w0.heap.size m H w
  below : Below w0.heap.size w0 w
  l0 : ∀ b, L0 b → b < w0.heap.size
  glob : Glob Γ (Live L0 m H) w

section
variable {Γ : Nat → Option (List Data)} {L0 : Nat → Prop} {w0 : World} {m : Nat → MB} {H : Nat → Blk} {w : World}

theorem Rel.wr {s : St} {a : Act} (h : Rel Γ L0 w0 m s a w) : WR Γ L0 w0 m s.hp w := ⟨h.heap, h.below, h.l0, h.glob⟩

/-- Behind an operation: its value, what it did to the numbered blocks. -/
def After (Γ : Nat → Option (List Data)) (L0 : Nat → Prop) (w0 : World) (fr : Nat) (H : Nat → Blk) (m : Nat → MB) (w : World) (d : D) (u : List (Nat × Blk)) (v : Value) (w' : World) : Prop :=
  ∃ m', WR Γ L0 w0 m' (Hp.upd H u) w' ∧ VV (Live L0 m' (Hp.upd H u)) w' m' d v ∧ Grow (Live L0 m H) w (Live L0 m' (Hp.upd H u)) w' ∧ ∀ g, g ≠ fr → m' g = m g

theorem After.pure (h : WR Γ L0 w0 m H w) {fr : Nat} {d : D} {v : Value} (hv : VV (Live L0 m H) w m d v) : After Γ L0 w0 fr H m w d [] v w :=
  ⟨m, h, hv, Grow.refl _ _, fun _ _ => rfl⟩

theorem WR.lt (h : WR Γ L0 w0 m H w) {g : Nat} {rw : Bool} {cells : List D} {b sz : Nat} (hg : H g = .blk rw cells) (hm : m g = .at b sz) : b < w.heap.size := by
  rcases h.heap.blk g rw cells hg with ⟨h1, _⟩ | ⟨b', sz', vs, ty, h1, _, _, h2, _⟩
  · rw [h1] at hm; cases hm
  · rw [h1] at hm; cases hm
    rcases Nat.lt_or_ge b w.heap.size with h3 | h3
    · exact h3
    · rw [Array.getElem?_eq_none h3] at h2; cases h2

theorem WR.live_lt (h : WR Γ L0 w0 m H w) {b : Nat} (hb : Live L0 m H b) : b < w.heap.size := by
  rcases hb with hb | ⟨g, cells, sz, hg, hm⟩
  · exact Nat.lt_of_lt_of_le (h.l0 b hb) h.below.size
  · exact h.lt hg hm

theorem heap_push (w : World) (o : Obj) (k : Nat) (h : k < w.heap.size) : (w.alloc o).heap[k]? = w.heap[k]? := Below.heap_alloc w o k h
theorem heap_push_new (w : World) (o : Obj) : (w.alloc o).heap[w.heap.size]? = some o := by
  show (w.heap.push o)[w.heap.size]? = _
  simp

/-- A new block under a new number; some others may be done with. (w1: the world ahead of the block itself: a draw more, at most.) -/
theorem WR.new (h : WR Γ L0 w0 m H w) {fr : Nat} (hfr : m fr = .res) {w1 : World} (hw1 : w1.heap = w.heap ∧ w1.os = w.os ∧ w1.tape = w.tape ∧ w1.output = w.output) {vs : Array Value} {ty : TypeId} {fz : Nat × Nat}
    {H' : Nat → Blk} {cells : List D} (hnew : H' fr = .blk true cells) (hold : ∀ g, g ≠ fr → H' g = H g ∨ H' g = .dead) (hfz : fz = (0, 0))
    (hlen : cells.length ≤ vs.size) (hcell : ∀ (i : Nat) (d : D), cells[i]? = some d → ∃ v, vs[i]? = some v ∧ v.oneCell' = true ∧ VV (Live L0 m H) w m d v) :
    let m' := fun g => if g = fr then MB.at w.heap.size vs.size else m g
    WR Γ L0 w0 m' H' (w1.alloc (.cells vs ty fz)) ∧ Grow (Live L0 m H) w (Live L0 m' H') (w1.alloc (.cells vs ty fz)) ∧ (∀ g, g ≠ fr → m' g = m g) ∧ m' fr = .at w.heap.size vs.size := by
  intro m'
  subst hfz
  obtain ⟨h1, h2, h3, h4⟩ := hw1
  have hs : w1.heap.size = w.heap.size := by rw [h1]
  have hm' : ∀ g, g ≠ fr → m' g = m g := fun g hg => if_neg hg
  have hmr : ∀ g, m g ≠ .res → m' g = m g := fun g hg => hm' g (fun e => hg (by rw [e]; exact hfr))
  have hmf : m' fr = .at w.heap.size vs.size := if_pos rfl
  have hgrow : Grow (Live L0 m H) w (Live L0 m' H') (w1.alloc (.cells vs ty (0, 0))) := by
    refine ⟨by simp [hs], fun b hb hL => ⟨by rw [heap_push _ _ _ (by omega), h1], ?_⟩⟩
    rintro (k | ⟨g, cs, sz, hg, hm⟩)
    · exact hL (.inl k)
    · by_cases e : g = fr
      · subst e; rw [hmf] at hm; cases hm; omega
      · rcases hold g e with h5 | h5
        · rw [h5] at hg; rw [hm' g e] at hm; exact hL (.inr ⟨g, cs, sz, hg, hm⟩)
        · rw [h5] at hg; cases hg
  refine ⟨⟨⟨?_, ?_⟩, ?_, h.l0, h.glob.mono hgrow⟩, hgrow, hm', hmf⟩
  · intro g rw cs hg
    by_cases e : g = fr
    · subst e
      rw [hnew] at hg; cases hg
      refine .inr ⟨w.heap.size, vs.size, vs, ty, hmf, h.below.size, (fun e => by cases e), ?_, rfl, hlen, fun i d hd => ?_⟩
      · rw [← hs]; exact heap_push_new _ _
      · obtain ⟨v, hv, h1c, hvv⟩ := hcell i d hd
        exact ⟨v, hv, h1c, hvv.mono hgrow hmr⟩
    · rcases hold g e with h5 | h5
      · rw [h5] at hg
        rcases h.heap.blk g rw cs hg with ⟨k1, k2⟩ | ⟨b, sz, vs', ty', k1, k2, k3, k4, k5, k6, k7⟩
        · exact .inl ⟨by rw [hm' g e]; exact k1, k2⟩
        · have hb := h.lt hg k1
          refine .inr ⟨b, sz, vs', ty', by rw [hm' g e]; exact k1, k2, fun hrw => (hgrow.keep b hb (k3 hrw)).2, by rw [heap_push _ _ _ (by omega), h1]; exact k4, k5, k6, fun i d hd => ?_⟩
          obtain ⟨v, hv, h1c, hvv⟩ := k7 i d hd
          exact ⟨v, hv, h1c, hvv.mono hgrow hmr⟩
      · rw [h5] at hg; cases hg
  · intro g g' cs rw' cs' b sz sz' hg hg' hm1 hm2
    by_cases e : g = fr
    · by_cases e' : g' = fr
      · rw [e, e']
      · rw [e, hmf] at hm1; cases hm1
        rcases hold g' e' with h5 | h5
        · rw [h5] at hg'; rw [hm' g' e'] at hm2; have := h.lt hg' hm2; omega
        · rw [h5] at hg'; cases hg'
    · rcases hold g e with h5 | h5
      · rw [h5] at hg; rw [hm' g e] at hm1
        by_cases e' : g' = fr
        · rw [e', hmf] at hm2; cases hm2; have := h.lt hg hm1; omega
        · rcases hold g' e' with h6 | h6
          · rw [h6] at hg'; rw [hm' g' e'] at hm2; exact h.heap.inj g g' cs rw' cs' b sz sz' hg hg' hm1 hm2
          · rw [h6] at hg'; cases hg'
      · rw [h5] at hg; cases hg
  · have hb := h.below
    refine ⟨h2.trans hb.os, h3.trans hb.tape, h4.trans hb.output, by simp [hs]; exact Nat.le_trans hb.size (Nat.le_succ _), fun k hk => ?_⟩
    have := hb.size
    rw [heap_push _ _ _ (by omega), h1]
    exact hb.block k hk

/-- A write into a block of the call's own; it may go on under a new number. -/
theorem WR.write (h : WR Γ L0 w0 m H w) {g t : Nat} {cells cells' : List D} {b sz : Nat} {vs vs' : Array Value} {ty : TypeId} (hg : H g = .blk true cells) (hm : m g = .at b sz) (hb : w.heap[b]? = some (.cells vs ty (0, 0)))
    (ht : t = g ∨ m t = .res) {H' : Nat → Blk} (hnew : H' t = .blk true cells') (hgone : t ≠ g → H' g = .dead) (hold : ∀ k, k ≠ t → k ≠ g → H' k = H k)
    (hsz : vs'.size = sz) (hlen : cells'.length ≤ sz) (hcell : ∀ (i : Nat) (d : D), cells'[i]? = some d → ∃ v, vs'[i]? = some v ∧ v.oneCell' = true ∧ VV (Live L0 m H) w m d v) :
    let m' := fun k => if k = t then MB.at b sz else m k
    WR Γ L0 w0 m' H' (w.setRow b vs') ∧ Grow (Live L0 m H) w (Live L0 m' H') (w.setRow b vs') ∧ (∀ k, k ≠ t → m' k = m k) ∧ (∀ k, m k ≠ .res → m' k = m k) ∧ m' t = .at b sz := by
  intro m'
  have hm' : ∀ k, k ≠ t → m' k = m k := fun k hk => if_neg hk
  have hmt : m' t = .at b sz := if_pos rfl
  have hmr : ∀ k, m k ≠ .res → m' k = m k := fun k hk => by
    by_cases e : k = t
    · rcases ht with ht | ht
      · rw [e, hmt, ht, hm]
      · rw [e] at hk; exact absurd ht hk
    · exact hm' k e
  have hlive : Live L0 m H b := .inr ⟨g, cells, sz, hg, hm⟩
  have hother : ∀ k, k ≠ b → (w.setRow b vs').heap[k]? = w.heap[k]? := fun k hk => setRow_other w b k vs' hk
  have hsub : ∀ k, Live L0 m' H' k → Live L0 m H k := by
    rintro k (hk | ⟨q, cs, sz', hq, hmq⟩)
    · exact .inl hk
    · by_cases e : q = t
      · subst e; rw [hmt] at hmq; cases hmq; exact hlive
      · by_cases e2 : q = g
        · subst e2; rw [hgone (fun e3 => e e3.symm)] at hq; cases hq
        · rw [hold q e e2] at hq; rw [hm' q e] at hmq; exact .inr ⟨q, cs, sz', hq, hmq⟩
  have hgrow : Grow (Live L0 m H) w (Live L0 m' H') (w.setRow b vs') :=
    ⟨by simp, fun k hk hL => ⟨hother k (fun e => hL (by rw [e]; exact hlive)), fun hl => hL (hsub k hl)⟩⟩
  -- a block of the walk's that lies at b is g's
  have hat : ∀ q rw cs sz', H q = .blk rw cs → m q = .at b sz' → q = g := fun q rw cs sz' hq hmq => (h.heap.inj g q cells rw cs b sz sz' hg hq hm hmq).symm
  have hbase : w0.heap.size ≤ b := by
    rcases h.heap.blk g true cells hg with ⟨k1, _⟩ | ⟨b', sz', vs2, ty2, k1, k2, _⟩
    · rw [k1] at hm; cases hm
    · rw [k1] at hm; cases hm; exact k2
  refine ⟨⟨⟨?_, ?_⟩, ?_, h.l0, h.glob.mono hgrow⟩, hgrow, hm', hmr, hmt⟩
  · intro q rw cs hq
    by_cases e : q = t
    · subst e
      rw [hnew] at hq; cases hq
      refine .inr ⟨b, sz, vs', ty, hmt, hbase, (fun e => by cases e), setRow_heap w b vs vs' ty (0, 0) hb, hsz, hlen, fun i d hd => ?_⟩
      obtain ⟨v, hv, h1c, hvv⟩ := hcell i d hd
      exact ⟨v, hv, h1c, hvv.mono hgrow hmr⟩
    · by_cases e2 : q = g
      · subst e2; rw [hgone (fun e3 => e e3.symm)] at hq; cases hq
      · rw [hold q e e2] at hq
        rcases h.heap.blk q rw cs hq with ⟨k1, k2⟩ | ⟨b2, sz2, vs2, ty2, k1, k2, k3, k4, k5, k6, k7⟩
        · exact .inl ⟨by rw [hm' q e]; exact k1, k2⟩
        · have hne : b2 ≠ b := fun e3 => e2 (hat q rw cs sz2 hq (by rw [k1, e3]))
          refine .inr ⟨b2, sz2, vs2, ty2, by rw [hm' q e]; exact k1, k2, fun hrw hl => k3 hrw (hsub _ hl), by rw [hother b2 hne]; exact k4, k5, k6, fun i d hd => ?_⟩
          obtain ⟨v, hv, h1c, hvv⟩ := k7 i d hd
          exact ⟨v, hv, h1c, hvv.mono hgrow hmr⟩
  · intro q q' cs rw' cs' b1 sz1 sz2 hq hq' hm1 hm2
    -- the number under which a block was held ahead
    have back : ∀ q rw cs sz1, H' q = .blk rw cs → m' q = .at b1 sz1 → ∃ p rwp csp szp, H p = .blk rwp csp ∧ m p = .at b1 szp ∧ (rw = true → rwp = true) ∧ (q = t ∧ p = g ∨ q ≠ t ∧ p = q) := by
      intro q rw cs sz1 hq hm1
      by_cases e : q = t
      · subst e
        rw [hmt] at hm1; cases hm1
        exact ⟨g, true, cells, _, hg, hm, fun _ => rfl, .inl ⟨rfl, rfl⟩⟩
      · by_cases e2 : q = g
        · subst e2; rw [hgone (fun e3 => e e3.symm)] at hq; cases hq
        · rw [hold q e e2] at hq; rw [hm' q e] at hm1
          exact ⟨q, rw, cs, sz1, hq, hm1, id, .inr ⟨e, rfl⟩⟩
    obtain ⟨p, rwp, csp, szp, hp1, hp2, hp3, hp4⟩ := back q true cs sz1 hq hm1
    obtain ⟨p', rwp', csp', szp', hp1', hp2', hp3', hp4'⟩ := back q' rw' cs' sz2 hq' hm2
    have hpt := hp3 rfl
    subst hpt
    have he := h.heap.inj p p' csp rwp' csp' b1 szp szp' hp1 hp1' hp2 hp2'
    rcases hp4 with ⟨e1, e2⟩ | ⟨e1, e2⟩ <;> rcases hp4' with ⟨e3, e4⟩ | ⟨e3, e4⟩
    · rw [e1, e3]
    · exfalso
      have hq'g : q' = g := by rw [← e4, ← he, e2]
      rw [hq'g, hgone (fun e5 => e3 (by rw [hq'g, e5]))] at hq'
      cases hq'
    · exfalso
      have hqg : q = g := by rw [← e2, he, e4]
      rw [hqg, hgone (fun e5 => e1 (by rw [hqg, e5]))] at hq
      cases hq
    · rw [← e2, ← e4, he]
  · exact below_setRow h.below hbase vs'

/-- A block of the call's own that is done with, whatever has become of it. -/
theorem WR.kill (h : WR Γ L0 w0 m H w) {g : Nat} {cells : List D} {b sz : Nat} (hg : H g = .blk true cells) (hm : m g = .at b sz) {w1 : World} (hs : w1.heap.size = w.heap.size) (ho : ∀ k, k ≠ b → w1.heap[k]? = w.heap[k]?) (hb : w1.os = w.os ∧ w1.tape = w.tape ∧ w1.output = w.output)
    {H' : Nat → Blk} (hgone : H' g = .dead) (hold : ∀ k, k ≠ g → H' k = H k) :
    WR Γ L0 w0 m H' w1 ∧ Grow (Live L0 m H) w (Live L0 m H') w1 ∧ ¬ Live L0 m H' b := by
  have hlive : Live L0 m H b := .inr ⟨g, cells, sz, hg, hm⟩
  have hsub : ∀ k, Live L0 m H' k → Live L0 m H k := by
    rintro k (hk | ⟨q, cs, sz', hq, hmq⟩)
    · exact .inl hk
    · by_cases e2 : q = g
      · subst e2; rw [hgone] at hq; cases hq
      · rw [hold q e2] at hq; exact .inr ⟨q, cs, sz', hq, hmq⟩
  have hgrow : Grow (Live L0 m H) w (Live L0 m H') w1 :=
    ⟨by omega, fun k hk hL => ⟨ho k (fun e => hL (by rw [e]; exact hlive)), fun hl => hL (hsub k hl)⟩⟩
  have hat : ∀ q rw cs sz', H q = .blk rw cs → m q = .at b sz' → q = g := fun q rw cs sz' hq hmq => (h.heap.inj g q cells rw cs b sz sz' hg hq hm hmq).symm
  have hbase : w0.heap.size ≤ b := by
    rcases h.heap.blk g true cells hg with ⟨k1, _⟩ | ⟨b', sz', vs2, ty2, k1, k2, _⟩
    · rw [k1] at hm; cases hm
    · rw [k1] at hm; cases hm; exact k2
  refine ⟨⟨⟨?_, ?_⟩, ?_, h.l0, h.glob.mono hgrow⟩, hgrow, ?_⟩
  · intro q rw cs hq
    by_cases e2 : q = g
    · subst e2; rw [hgone] at hq; cases hq
    · rw [hold q e2] at hq
      rcases h.heap.blk q rw cs hq with ⟨k1, k2⟩ | ⟨b2, sz2, vs2, ty2, k1, k2, k3, k4, k5, k6, k7⟩
      · exact .inl ⟨k1, k2⟩
      · have hne : b2 ≠ b := fun e3 => e2 (hat q rw cs sz2 hq (by rw [k1, e3]))
        refine .inr ⟨b2, sz2, vs2, ty2, k1, k2, fun hrw hl => k3 hrw (hsub _ hl), by rw [ho b2 hne]; exact k4, k5, k6, fun i d hd => ?_⟩
        obtain ⟨v, hv, h1c, hvv⟩ := k7 i d hd
        exact ⟨v, hv, h1c, hvv.mono hgrow (fun _ _ => rfl)⟩
  · intro q q' cs rw' cs' b1 sz1 sz2 hq hq' hm1 hm2
    by_cases e : q = g
    · subst e; rw [hgone] at hq; cases hq
    · by_cases e' : q' = g
      · subst e'; rw [hgone] at hq'; cases hq'
      · rw [hold q e] at hq; rw [hold q' e'] at hq'
        exact h.heap.inj q q' cs rw' cs' b1 sz1 sz2 hq hq' hm1 hm2
  · exact h.below.trans ⟨hb.1, hb.2.1, hb.2.2, by omega, fun k hk => ho k (by omega)⟩
  · rintro (hl | ⟨q, cs, sz', hq, hmq⟩)
    · have := h.l0 b hl; omega
    · by_cases e2 : q = g
      · subst e2; rw [hgone] at hq; cases hq
      · rw [hold q e2] at hq
        exact e2 (hat q true cs sz' hq hmq)

/-- A draw. -/
theorem WR.drew (h : WR Γ L0 w0 m H w) : WR Γ L0 w0 m H w.drew :=
  have hg : Grow (Live L0 m H) w (Live L0 m H) w.drew := ⟨Nat.le_refl _, fun b _ hL => ⟨rfl, hL⟩⟩
  ⟨⟨fun g rw cs hgc => by
      rcases h.heap.blk g rw cs hgc with k | ⟨b, sz, vs, ty, k1, k2, k3, k4, k5, k6, k7⟩
      · exact .inl k
      · exact .inr ⟨b, sz, vs, ty, k1, k2, k3, k4, k5, k6, fun i d hd => by obtain ⟨v, hv, h1c, hvv⟩ := k7 i d hd; exact ⟨v, hv, h1c, hvv.mono hg (fun _ _ => rfl)⟩⟩, h.heap.inj⟩, h.below.drew, h.l0, h.glob.mono hg⟩

/-- A call that has written nothing old; some rows may be written no more. -/
theorem WR.called (h : WR Γ L0 w0 m H w) {w' : World} (hb : Below w.heap.size w w') {H' : Nat → Blk} (hold : ∀ g, H' g = H g ∨ ∃ rw cells, H g = .blk rw cells ∧ H' g = .blk false cells) :
    WR Γ L0 w0 m H' w' ∧ Grow (Live L0 m H) w (Live L0 m H') w' := by
  have hsub : ∀ k, Live L0 m H' k → Live L0 m H k := by
    rintro k (hk | ⟨q, cs, sz', hq, hmq⟩)
    · exact .inl hk
    · rcases hold q with e | ⟨rw, cells, _, e⟩
      · rw [e] at hq; exact .inr ⟨q, cs, sz', hq, hmq⟩
      · rw [e] at hq; cases hq
  have hgrow : Grow (Live L0 m H) w (Live L0 m H') w' := ⟨hb.size, fun k hk hL => ⟨hb.block k hk, fun hl => hL (hsub k hl)⟩⟩
  have src : ∀ g rw cs, H' g = .blk rw cs → ∃ rw0, H g = .blk rw0 cs ∧ (rw = true → rw0 = true) := by
    intro g rw cs hg
    rcases hold g with e | ⟨rw0, cells, e1, e⟩
    · rw [e] at hg; exact ⟨rw, hg, id⟩
    · rw [e] at hg; cases hg; exact ⟨rw0, e1, fun e => by cases e⟩
  refine ⟨⟨⟨?_, ?_⟩, ?_, h.l0, h.glob.mono hgrow⟩, hgrow⟩
  · intro g rw cs hg
    obtain ⟨rw0, hg0, hrw⟩ := src g rw cs hg
    rcases h.heap.blk g rw0 cs hg0 with k | ⟨b, sz, vs, ty, k1, k2, k3, k4, k5, k6, k7⟩
    · exact .inl k
    · have hlt := h.lt hg0 k1
      refine .inr ⟨b, sz, vs, ty, k1, k2, fun e hl => ?_, by rw [hb.block b hlt]; exact k4, k5, k6, fun i d hd => ?_⟩
      · -- a row that is written no more is live under no other number
        rcases hl with hl | ⟨q, cq, szq, hq, hmq⟩
        · exact absurd (h.l0 b hl) (by omega)
        · obtain ⟨rwq, hq0, hrwq⟩ := src q true cq hq
          have := hrwq rfl
          subst this
          have hqg := h.heap.inj q g cq rw0 cs b szq sz hq0 hg0 hmq k1
          subst hqg
          rw [hg, e] at hq; cases hq
      · obtain ⟨v, hv, h1c, hvv⟩ := k7 i d hd
        exact ⟨v, hv, h1c, hvv.mono hgrow (fun _ _ => rfl)⟩
  · intro g g' cs rw' cs' b sz sz' hg hg' hm1 hm2
    obtain ⟨rw0, hg0, hrw⟩ := src g true cs hg
    obtain ⟨rw0', hg0', hrw'⟩ := src g' rw' cs' hg'
    have := hrw rfl
    subst this
    exact h.heap.inj g g' cs rw0' cs' b sz sz' hg0 hg0' hm1 hm2
  · exact h.below.trans (hb.mono h.below.size)
end
end Go.Proofs.Ytlfmgellojjndaa
