/- Calls in operations whose order is open that hand back rows of their own, or that write rows of the caller's. -/
import Derived.Test.YtedcnbkhdkchoaaY
namespace Go.Proofs.Ytedcnbkhdkchoaa
open Go.RowKit
set_option linter.unusedVariables false
set_option linter.unusedSimpArgs false

theorem toD_inv {L : Nat → Prop} {w : World} {m : Nat → MB} {x : Data} {v : Value} (h : VV L w m (toD x) v) : VD L w x v := by
  cases x with
  | pc cells => cases h with | cptr _ b off vs hb hL hc hv => exact .pc cells b off vs hb hL hc hv
  | _ => exact h.data_inv

theorem ren_aggL {n : Nat} {ρ : Nat → Option Nat} {H : Nat → Blk} {cs ds : List D} (hl : cs.length = ds.length) (h : RenCells n ρ H cs ds) : Ren n ρ H (.agg cs) (.agg ds) := .agg cs ds hl h.2
@[go_sem] theorem ren_fn {n : Nat} {ρ : Nat → Option Nat} {H : Nat → Blk} (f f' : FuncId) (cs ds : List D) : Ren n ρ H (.fn f cs) (.fn f' ds) ↔ f = f' ∧ cs.length = ds.length ∧ RenCells n ρ H cs ds := by
  constructor
  · intro h; cases h with | fn _ _ _ hl hh => exact ⟨rfl, hl, by omega, hh⟩
  · rintro ⟨rfl, hl, _, hh⟩; exact .fn f cs ds hl hh
@[go_sem] theorem ren_bnd {n : Nat} {ρ : Nat → Option Nat} {H : Nat → Blk} (f f' : FuncId) (c d : D) : Ren n ρ H (.bnd f c) (.bnd f' d) ↔ f = f' ∧ Ren n ρ H c d := by
  constructor
  · intro h; cases h with | bnd _ _ _ h => exact ⟨rfl, h⟩
  · rintro ⟨rfl, h⟩; exact .bnd f c d h
section
variable {P : Program} {Γ : Nat → Option (List Data)} {L0 : Nat → Prop} {w0 : World}

/-- A call that hands back rows of its own. -/
theorem eff_own {f : FuncId} {ds : List D} {H : Nat → Blk} {fr : Nat} {K : D → List Nat → List (Nat × Blk) → Nat → Prop} {xs : List Data} {d : D} {M : List (Nat × Blk)} {k : Nat} (u : List (Nat × Blk)) (hk0 : 0 < k) (h : OC P Γ f xs d M k) (hd : ds = xs.map toD)
    (hu : ∀ H', Hp.upd H' u = ownW fr k H' M) (hk : K (shD fr d) [] u k) : effC P Γ f ds H fr K := by
  subst hd
  obtain ⟨hcall, hoc⟩ := h
  refine ⟨_, _, _, k, hk0, fun H' _ _ => ⟨hcall, fun L0 w0 m w vs hwr hres hbey hl hv => ?_⟩, hk⟩
  refine (hoc (Live L0 m H') w vs hwr.glob (fun b hb => hwr.live_lt hb) (by simpa using hl) (fun i x v hx hvi => toD_inv (hv i (toD x) v (by rw [List.getElem?_map, hx]; rfl) hvi))).mono fun e w' ⟨v, mc, he, hc, hd, hr, _⟩ => ?_
  obtain ⟨j1, j2, j3⟩ := hwr.joinedW (fun g => .inl rfl) hres hc hr
  rw [← hu] at j1 j2 j3
  exact ⟨v, he, _, j1, j3 _ _ hd, j2, fun g hg => if_neg (by omega)⟩

theorem eff_own1 {f : FuncId} {ds : List D} {H : Nat → Blk} {fr : Nat} {K : D → List Nat → List (Nat × Blk) → Nat → Prop} {xs : List Data} {d : D} {B : Blk} (h : OC P Γ f xs d [(0, B)] 1) (hd : ds = xs.map toD)
    (hk : K (shD fr d) [] [(fr, shB fr B)] 1) : effC P Γ f ds H fr K := by
  refine eff_own _ (by omega) h hd (fun H' => ?_) hk
  funext g
  simp only [Hp.upd, Hp.set, ownW]
  by_cases e : g = fr
  · subst e; rw [if_pos rfl, if_pos (by omega), Nat.sub_self]; rfl
  · rw [if_neg e, if_neg (by omega)]

theorem eff_own3 {f : FuncId} {ds : List D} {H : Nat → Blk} {fr : Nat} {K : D → List Nat → List (Nat × Blk) → Nat → Prop} {xs : List Data} {d : D} {B0 B1 B2 : Blk} (h : OC P Γ f xs d [(0, B0), (1, B1), (2, B2)] 3) (hd : ds = xs.map toD)
    (hk : K (shD fr d) [] [(fr, shB fr B0), (fr + 1, shB fr B1), (fr + 2, shB fr B2)] 3) : effC P Γ f ds H fr K := by
  refine eff_own _ (by omega) h hd (fun H' => ?_) hk
  funext g
  have l : Hp.upd H' [(fr, shB fr B0), (fr + 1, shB fr B1), (fr + 2, shB fr B2)] g = if g = fr + 2 then shB fr B2 else if g = fr + 1 then shB fr B1 else if g = fr then shB fr B0 else H' g := rfl
  have r : ownW fr 3 H' [(0, B0), (1, B1), (2, B2)] g = if fr ≤ g ∧ g < fr + 3 then shB fr (if g - fr = 0 then B0 else if g - fr = 1 then B1 else if g - fr = 2 then B2 else .dead) else H' g := rfl
  rw [l, r]
  by_cases e0 : g = fr
  · subst e0; simp
  · by_cases e1 : g = fr + 1
    · subst e1; simp
    · by_cases e2 : g = fr + 2
      · subst e2; simp
      · rw [if_neg e2, if_neg e1, if_neg e0, if_neg (by omega)]

/-- Nothing stands from a number on. -/
def deadFrom (H : Nat → Blk) (n : Nat) : Prop := ∀ g, n ≤ g → H g = .dead
theorem deadFrom_set {H : Nat → Blk} {n g : Nat} {b : Blk} (h : deadFrom H n) (hg : g < n) : deadFrom (Hp.set H g b) n := fun q hq => by
  unfold Hp.set
  rw [if_neg (by omega)]
  exact h q hq
/-- A state under new numbers: where they lie is told. -/
theorem renW_told {m : Nat → MB} {s s2 : St} {a : Act} {w : World} {F : List Nat} {ρ : Nat → Option Nat} (h : Rel Γ L0 w0 m s a w) (hw : WeakR F ρ s s2) : ∃ m2, Rel Γ L0 w0 m2 s2 a w ∧ Grow (Live L0 m s.hp) w (Live L0 m2 s2.hp) w ∧ ∀ g, m2 g = if g < s2.nx then (match ρ g with | some o => m o | none => .nil) else .res := by
  let m2 : Nat → MB := fun g => if g < s2.nx then (match ρ g with | some o => m o | none => .nil) else .res
  have hm2 : ∀ g o, g < s2.nx → ρ g = some o → m2 g = m o := fun g o hg ho => by simp [m2, hg, ho]
  have hm3 : ∀ g, g < s2.nx → ρ g = none → m2 g = .nil := fun g hg ho => by simp [m2, hg, ho]
  have back : ∀ g cells b sz, s2.hp g = .blk true cells → m2 g = .at b sz → ∃ o cells', ρ g = some o ∧ s.hp o = .blk true cells' ∧ o ∉ F ∧ m o = .at b sz := by
    intro g cells b sz hg hm
    obtain ⟨hn, ⟨o, cells', h1, h2, _, _⟩ | ⟨h1, _⟩⟩ := hw.hp g true cells hg
    · obtain ⟨rw0, h3, h4, _⟩ := fzH_blk h2
      obtain ⟨rfl, h5⟩ := h4 rfl
      exact ⟨o, cells', h1, h3, h5, by rw [← hm2 g o hn h1]; exact hm⟩
    · rw [hm3 g hn h1] at hm; cases hm
  have hlive : ∀ b, Live L0 m2 s2.hp b → Live L0 m s.hp b := by
    rintro b (hb | ⟨g, sz, hg, hm⟩)
    · exact .inl hb
    · rcases Blk.rw_inv hg with ⟨cells, hg⟩ | ⟨o2, hg⟩
      · obtain ⟨o, cells', _, h2, _, h4⟩ := back g cells b sz hg hm
        exact .inr ⟨o, sz, by rw [h2]; rfl, h4⟩
      · obtain ⟨hn, o, o1, h1, h2, _⟩ := hw.obj g o2 hg
        rw [hm2 g o hn h1] at hm
        exact .inr ⟨o, sz, by rw [h2]; rfl, hm⟩
  have hgrow : Grow (Live L0 m s.hp) w (Live L0 m2 s2.hp) w := Grow.less w hlive
  -- a row that is written no more isn't live
  have quiet : ∀ o cells b sz, fzH s.hp F o = .blk false cells → m o = .at b sz → ¬ Live L0 m2 s2.hp b := by
    intro o cells b sz ho hm hl
    obtain ⟨rw0, h1, _, h2⟩ := fzH_blk ho
    rcases h.heap.blk o rw0 cells h1 with ⟨k1, _⟩ | ⟨b', sz', vs, ty, k1, k2, k3, _⟩
    · rw [k1] at hm; cases hm
    · rw [k1] at hm; cases hm
      cases rw0 with
      | false => exact k3 rfl (hlive b hl)
      | true =>
        rcases hl with hb | ⟨g, sz2, hg, hm'⟩
        · have := h.l0 b hb; omega
        · rcases Blk.rw_inv hg with ⟨c2, hg⟩ | ⟨o2, hg⟩
          · obtain ⟨o', c3, _, h5, h6, h7⟩ := back g c2 b sz2 hg hm'
            have := h.heap.inj o' o c3 true cells b sz2 sz h5 h1 h7 k1
            subst this
            exact h6 (h2 rfl rfl)
          · obtain ⟨hn, o', o1, q1, q2, _⟩ := hw.obj g o2 hg
            rw [hm2 g o' hn q1] at hm'
            exact h.wr.apart h1 q2 k1 hm'
  have frz : ∀ (d : D) (x : Data) (v : Value), Frz false (fzH s.hp F) d x → VV (Live L0 m s.hp) w m d v → VD (Live L0 m2 s2.hp) w x v := by
    intro d x v hf hv
    refine hf.vd hlive (fun g rw cells b sz hg hrw hm => ?_) (fun g rw cells hg hm => ?_) (fun e => by cases e) hv
    · have e : rw = false := by simpa using hrw
      subst e
      obtain ⟨rw0, h1, _, _⟩ := fzH_blk hg
      rcases h.heap.blk g rw0 cells h1 with ⟨k1, _⟩ | ⟨b', sz', vs, ty, k1, _, _, k4, _, _, k7⟩
      · rw [k1] at hm; cases hm
      · rw [k1] at hm
        cases hm
        exact ⟨(Array.getElem?_eq_some_iff.1 k4).1, quiet g cells b sz hg k1, vs, ty, k4, fun i d hd => by obtain ⟨v, e1, _, e3⟩ := k7 i d hd; exact ⟨v, e1, e3⟩⟩
    · obtain ⟨rw0, h1, _, _⟩ := fzH_blk hg
      rcases h.heap.blk g rw0 cells h1 with ⟨_, k2⟩ | ⟨b', sz', vs, ty, k1, _⟩
      · exact k2
      · rw [k1] at hm; cases hm
  have ren : ∀ (c d : D) (v : Value), Ren s2.nx ρ (fzH s.hp F) c d → VV (Live L0 m s.hp) w m d v → VV (Live L0 m2 s2.hp) w m2 c v := by
    intro c d v hr
    induction hr generalizing v with
    | data x => intro hv; exact .data x v (hv.data_inv.mono hgrow)
    | frz d x hf => intro hv; exact .data x v (frz d x v hf hv)
    | emp es es' => intro hv; cases hv with | emp _ a => exact .emp es a
    | ref g off len es o hg ho =>
      intro hv
      cases hv with
      | ref _ _ _ _ b sz cap o' h1 h2 h3 h4 h5 => exact .ref g off len es b sz cap o' (by rw [hm2 g o hg ho]; exact h1) h2 h3 h4 h5
      | ref0 _ _ a h1 => exact .ref0 g es a (by rw [hm2 g o hg ho]; exact h1)
    | nil g es es' hg ho => intro hv; cases hv with | emp _ a => exact .ref0 g es a (hm3 g hg ho)
    | ptr g off o hg ho => intro hv; cases hv with | ptr _ _ b sz h1 => exact .ptr g off b sz (by rw [hm2 g o hg ho]; exact h1)
    | cut g off len cp es o hg ho => intro hv; cases hv with | cut _ _ _ _ _ b sz cap o' h1 h2 h3 h4 h5 h6 => exact .cut g off len cp es b sz cap o' (by rw [hm2 g o hg ho]; exact h1) h2 h3 h4 h5 h6
    | uncut g off len cp es o hg ho => intro hv; cases hv with | cut _ _ _ _ _ b sz cap o' h1 h2 h3 h4 h5 h6 => exact .ref g off len es b sz cap o' (by rw [hm2 g o hg ho]; exact h1) h2 h3 (by omega) h6
    | recut g off len es o h0 hg ho =>
      intro hv
      cases hv with
      | ref _ _ _ _ b sz cap o' h1 h2 h3 h4 h5 => exact .cut g off len len es b sz cap o' (by rw [hm2 g o hg ho]; exact h1) h2 h3 (Nat.le_refl _) h4 h5
      | ref0 _ _ a h1 => omega
    | mref g o hg ho => intro hv; cases hv with | mref _ b h1 => exact .mref g b (by rw [hm2 g o hg ho]; exact h1)
    | iref g o hg ho => intro hv; cases hv with | iref _ b h1 => exact .iref g b (by rw [hm2 g o hg ho]; exact h1)
    | cptr cells => intro hv; cases hv with | cptr _ b off vs hb hL hc hv => exact .cptr cells b off vs hb (fun hl => hL (hlive b hl)) hc (fun i x hx => (hv i x hx).mono hgrow)
    | agg cs ds hl _ ih =>
      intro hv
      cases hv with
      | agg _ vs hl2 hv =>
        refine .agg cs vs (by omega) fun i x u hx hu => ?_
        have hi : i < ds.length := by rw [← hl]; exact (List.getElem?_eq_some_iff.1 hx).1
        exact ih i x ds[i] hx (List.getElem?_eq_getElem hi) u (hv i _ u (List.getElem?_eq_getElem hi) hu)
    | fn f cs ds hl _ ih =>
      intro hv
      cases hv with
      | fn _ _ vs hl2 hv =>
        refine .fn f cs vs (by omega) fun i x u hx hu => ?_
        have hi : i < ds.length := by rw [← hl]; exact (List.getElem?_eq_some_iff.1 hx).1
        exact ih i x ds[i] hx (List.getElem?_eq_getElem hi) u (hv i _ u (List.getElem?_eq_getElem hi) hu)
    | bnd f c d _ ih =>
      intro hv
      cases hv with
      | bnd _ _ u h => exact .bnd f c u (ih u h)
    | junk d => intro _; exact .junk v
  refine ⟨m2, ⟨h.defers, fun t => ren _ _ _ (hw.env t) (h.vals t), ⟨?_, ?_, fun g o2 hg => by
      obtain ⟨hn, o, o1, q1, q2, q3⟩ := hw.obj g o2 hg
      obtain ⟨b, v, k1, k2, k3, k4⟩ := h.heap.obj o o1 q2
      refine ⟨b, v, by rw [hm2 g o hn q1]; exact k1, k2, k3, ?_⟩
      cases q3 with
      | mp ks cs ds hl hr =>
        cases k4 with
        | mp _ _ es clock a1 a2 a3 a4 a5 a6 =>
          refine .mp ks cs es clock a1 (by omega) (fun i x e p q => (a3 i x e p q).mono hgrow) (fun i x e p q => ?_) a5 a6
          have hi : i < ds.length := by rw [← hl]; exact (List.getElem?_eq_some_iff.1 p).1
          exact ren _ _ _ (hr i x _ p (List.getElem?_eq_getElem hi)) (a4 i _ e (List.getElem?_eq_getElem hi) q)
      | it ks xs left cur =>
        cases k4 with
        | it _ _ _ _ b seen hv a1 a2 => exact .it _ _ _ _ b seen (hv.mono hgrow) a1 a2, fun g g' o o' b sz sz' hg hg' hm hm' => by
      obtain ⟨hn, p, p1, q1, q2, _⟩ := hw.obj g o hg
      obtain ⟨hn', p', p1', q1', q2', _⟩ := hw.obj g' o' hg'
      rw [hm2 g p hn q1] at hm; rw [hm2 g' p' hn' q1'] at hm'
      have := h.heap.injO p p' p1 p1' b sz sz' q2 q2' hm hm'
      subst this
      exact hw.injO g g' p o o' hg hg' q1 q1'⟩, fun g hg => by simp [m2, show ¬ g < s2.nx by omega], fun g hg => ?_, h.below, h.l0, h.glob.mono hgrow, hw.low, by rw [hw.nt]; exact h.slots⟩, hgrow, fun g => rfl⟩
  · intro g rw cells hg
    obtain ⟨hn, ⟨o, cells', h1, h2, h3, h4⟩ | ⟨h1, rfl⟩⟩ := hw.hp g rw cells hg
    · obtain ⟨rw0, h5, h6, h7⟩ := fzH_blk h2
      rcases h.heap.blk o rw0 cells' h5 with ⟨k1, k2⟩ | ⟨b, sz, vs, ty, k1, k2, k3, k4, k5, k6, k7⟩
      · subst k2
        exact .inl ⟨by rw [hm2 g o hn h1]; exact k1, List.eq_nil_of_length_eq_zero (by simpa using h3)⟩
      · refine .inr ⟨b, sz, vs, ty, by rw [hm2 g o hn h1]; exact k1, k2, fun hrw => ?_, k4, k5, by omega, fun i c hc => ?_⟩
        · subst hrw
          exact quiet o cells' b sz h2 k1
        · have hi : i < cells'.length := by have := (List.getElem?_eq_some_iff.1 hc).1; omega
          obtain ⟨v, e1, e2, e3⟩ := k7 i _ (List.getElem?_eq_getElem hi)
          exact ⟨v, e1, e2, ren _ _ _ (h4 i c _ hc (List.getElem?_eq_getElem hi)) e3⟩
    · exact .inl ⟨hm3 g hn h1, rfl⟩
  · intro g g' cells rw' cells' b sz sz' hg hg' hm hm'
    obtain ⟨o, c1, h1, h2, _, h4⟩ := back g cells b sz hg hm
    obtain ⟨hn', ⟨o', c2, h5, h6, _, _⟩ | ⟨h5, _⟩⟩ := hw.hp g' rw' cells' hg'
    · obtain ⟨rw0, h7, _, _⟩ := fzH_blk h6
      have hm'' : m o' = .at b sz' := by rw [← hm2 g' o' hn' h5]; exact hm'
      have := h.heap.inj o o' c1 rw0 c2 b sz sz' h2 h7 h4 hm''
      subst this
      exact hw.inj g g' o cells rw' cells' hg hg' h1 h5
    · rw [hm3 g' hn' h5] at hm'; cases hm'
  · cases hb : s2.hp g with
    | dead => rfl
    | blk rw cells => have := (hw.hp g rw cells hb).1; omega
    | obj o => have := (hw.obj g o hb).1; omega

/-- A call that makes something under the one new number, and may write rows of the caller's: all that the caller has is known. -/
theorem eff_new {f : FuncId} {ds : List D} {H : Nat → Blk} {fr : Nat} {K : D → List Nat → List (Nat × Blk) → Nat → Prop} {d : D} (u M : List (Nat × Blk)) (hM : Hp.upd H u = hpL M) (hH : deadFrom H (fr + 64))
    (h : DC P Γ f ds H (fr + 64) fun d0 H1 nx1 => ∃ F R, (∀ x ∈ R, x.1 = fr) ∧ WeakR F (rhoL R) ⟨envL [(0, d0)], H1, nx1, 0, 1⟩ ⟨envL [(0, d)], hpL M, fr + 64, 0, 1⟩)
    (hk : K d (List.range (fr + 64)) u 1) : effC P Γ f ds H fr K := by
  obtain ⟨hcall, hdc⟩ := h
  refine ⟨_, _, _, 1, Nat.one_pos, fun H' hrd _ => ⟨hcall, fun L0 w0 m w vs hwr hres hbey hl hv => ?_⟩, hk⟩
  have hHH : H' = H := by
    funext g
    by_cases e : g < fr + 64
    · exact hrd g (List.mem_range.2 e)
    · rw [hwr.none (hbey g (by omega)), hH g (by omega)]
  subst hHH
  refine (hdc L0 w0 m w vs hwr hbey hH hl hv).mono fun e w' ⟨v, d0, H1, nx1, m1, he, k1, k2, k3, k4, k5, k6, F, R, hR, hw⟩ => ⟨v, he, ?_⟩
  have hr2 : Rel Γ L0 w0 m1 ⟨envL [(0, d0)], H1, nx1, 0, 1⟩ { tmps := #[v], defers := [] } w' := by
    refine ⟨rfl, fun t => ?_, k1.heap, k5, fun g hg => k1.none (k5 g hg), k1.below, k1.l0, k1.glob, Nat.zero_le _, rfl⟩
    by_cases ht : t = 0
    · subst ht; exact k2
    · simp only [envL, ht, if_false]; exact .junk _
  obtain ⟨m2, r1, r2, r6⟩ := renW_told hr2 hw
  have r3 := r1.wr
  have r4 := r1.vals 0
  have r5 := k3.trans r2
  simp only at r3 r4 r5
  rw [← hM] at r3 r4 r5
  refine ⟨m2, r3, r4, r5, fun g hg => ?_⟩
  have hrho : rhoL R g = some g := by
    have : ∀ R : List (Nat × Option Nat), (∀ x ∈ R, x.1 = fr) → rhoL R g = some g := by
      intro R
      induction R with
      | nil => intro _; rfl
      | cons p R ih =>
        intro h
        obtain ⟨k, o⟩ := p
        have hk := h (k, o) (by simp)
        simp only at hk
        subst hk
        simp only [rhoL, show ¬ g = k by omega, if_false]
        exact ih fun x hx => h x (by simp [hx])
    exact this R hR
  rw [r6 g]
  simp only
  by_cases e : g < fr + 64
  · rw [if_pos e, hrho]; exact k4 g e
  · rw [if_neg e, hbey g (by omega)]
/-- A call that writes rows of the caller's: all that the caller has is known, and nothing new is handed back. -/
theorem eff_dc {f : FuncId} {ds : List D} {H : Nat → Blk} {fr : Nat} {K : D → List Nat → List (Nat × Blk) → Nat → Prop} {d : D} (u M : List (Nat × Blk)) (hM : Hp.upd H u = hpL M) (hH : deadFrom H (fr + 64))
    (h : DC P Γ f ds H (fr + 64) fun d0 H1 nx1 => ∃ F, WeakR F (rhoL []) ⟨envL [(0, d0)], H1, nx1, fr + 64, 1⟩ ⟨envL [(0, d)], hpL M, fr + 64, fr + 64, 1⟩)
    (hk : K d (List.range (fr + 64)) u 1) : effC P Γ f ds H fr K := by
  obtain ⟨hcall, hdc⟩ := h
  refine ⟨_, _, _, 1, Nat.one_pos, fun H' hrd _ => ⟨hcall, fun L0 w0 m w vs hwr hres hbey hl hv => ?_⟩, hk⟩
  have hHH : H' = H := by
    funext g
    by_cases e : g < fr + 64
    · exact hrd g (List.mem_range.2 e)
    · rw [hwr.none (hbey g (by omega)), hH g (by omega)]
  subst hHH
  refine (hdc L0 w0 m w vs hwr hbey hH hl hv).mono fun e w' ⟨v, d0, H1, nx1, m1, he, k1, k2, k3, k4, k5, k6, F, hw⟩ => ⟨v, he, ?_⟩
  have hr2 : Rel Γ L0 w0 m1 ⟨envL [(0, d0)], H1, nx1, fr + 64, 1⟩ { tmps := #[v], defers := [] } w' := by
    refine ⟨rfl, fun t => ?_, k1.heap, k5, fun g hg => k1.none (k5 g hg), k1.below, k1.l0, k1.glob, k6, rfl⟩
    by_cases ht : t = 0
    · subst ht; exact k2
    · simp only [envL, ht, if_false]; exact .junk _
  obtain ⟨m2, r1, r2⟩ := renW_rel hr2 hw
  have r3 := r1.wr
  have r4 := r1.vals 0
  have r5 := k3.trans r2.grow
  simp only at r3 r4 r5
  rw [← hM] at r3 r4 r5
  refine ⟨m2, r3, r4, r5, fun g hg => ?_⟩
  by_cases e : g < fr + 64
  · exact (r2.keep g e).trans (k4 g e)
  · rw [r1.res g (by show fr + 64 ≤ g; omega), hbey g (by omega)]
theorem dc_weak {f : FuncId} {ds : List D} {H : Nat → Blk} {nx : Nat} {K : D → (Nat → Blk) → Nat → Prop} (h : DC P Γ f ds H nx fun d H' nx' => match d with
    | .cut g off len _ es => K (.ref g off len es) H' nx'
    | _ => K d H' nx') : DC P Γ f ds H nx K := by
  obtain ⟨hcall, h⟩ := h
  refine ⟨hcall, fun L0 w0 m w vs a b c d e => (h L0 w0 m w vs a b c d e).mono fun e w' ⟨v, d, H', nx', m', k1, k2, k3, k4, k5, k6, k7, k8⟩ => ?_⟩
  cases d with
  | cut g off len cp es =>
    refine ⟨v, .ref g off len es, H', nx', m', k1, k2, ?_, k4, k5, k6, k7, k8⟩
    cases k3 with
    | cut _ _ _ _ _ b sz cap o h1 h2 h3 h4 h5 h6 => exact .ref g off len es b sz cap o h1 h2 h3 (by omega) h6
  | _ => exact ⟨v, _, H', nx', m', k1, k2, k3, k4, k5, k6, k7, k8⟩
theorem dc_recut {f : FuncId} {g off len es : Nat} {ds : List D} {H : Nat → Blk} {nx : Nat} {K : D → (Nat → Blk) → Nat → Prop} (hl : 0 < len) (h : DC P Γ f (.cut g off len len es :: ds) H nx K) : DC P Γ f (.ref g off len es :: ds) H nx K := by
  obtain ⟨hcall, h⟩ := h
  refine ⟨hcall, fun L0 w0 m w vs a b c d e => h L0 w0 m w vs a b c (by simpa using d) (fun i d v hd hv => ?_)⟩
  match i with
  | 0 =>
    simp only [List.getElem?_cons_zero, Option.some.injEq] at hd
    subst hd
    have hr := e 0 (.ref g off len es) v rfl hv
    cases hr with
    | ref _ _ _ _ b sz cap o h1 h2 h3 h4 h5 => exact .cut g off len len es b sz cap o h1 h2 h3 (Nat.le_refl _) h4 h5
    | ref0 => omega
  | i + 1 => exact e (i + 1) d v (by simpa using hd) hv
theorem hpL_set (L : List (Nat × Blk)) (g : Nat) (b : Blk) : Hp.set (hpL L) g b = hpL ((g, b) :: L) := rfl
theorem hpL_none : (fun _ => Blk.dead) = hpL [] := rfl
end
end Go.Proofs.Ytedcnbkhdkchoaa
