/- Each operation keeps the relation: part nine: calls; all operations. -/
import Derived.Test.YtedcnbkhdkchoaaK
namespace Go.Proofs.Ytedcnbkhdkchoaa
open Go.RowKit
set_option linter.unusedVariables false
set_option linter.unusedSimpArgs false

section
variable {P : Program} {Γ : Nat → Option (List Data)} {L0 : Nat → Prop} {w0 : World} {m : Nat → MB} {H : Nat → Blk} {w : World} {fr : Nat} {L : Nat → Prop}

theorem Bare.vd {L L' : Nat → Prop} {w w' : World} {x : Data} {v : Value} (hb : Bare x) (h : VD L w x v) : VD L' w' x v := by
  induction h with
  | bool b => exact .bool b
  | int k n => exact .int k n
  | str s => exact .str s
  | agg cs vs hl _ ih => cases hb with | agg _ hh => exact .agg cs vs hl fun i x v hx hv => ih i x v hx hv (hh x (List.mem_of_getElem? hx))
  | sl => cases hb
  | tup cs vs hl _ ih => cases hb with | tup _ hh => exact .tup cs vs hl fun i x v hx hv => ih i x v hx hv (hh x (List.mem_of_getElem? hx))
  | fn => cases hb
  | mp => cases hb
  | nilf => exact .nilf
  | ifc => cases hb
  | nili => exact .nili
  | nilp => exact .nilp
  | pc => cases hb

/-- A value whose rows are read out stands as plain data, where its rows aren't live. -/
theorem Frz.vd {ok : Bool} {H : Nat → Blk} {L L' : Nat → Prop} (hless : ∀ b, L' b → L b)
    (hblk : ∀ g rw cells b sz, H g = .blk rw cells → (ok = true ∨ rw = false) → m g = .at b sz → b < w.heap.size ∧ ¬ L' b ∧ ∃ vs ty, w.heap[b]? = some (.cells vs ty (0, 0)) ∧ ∀ (i : Nat) (d : D), cells[i]? = some d → ∃ v, vs[i]? = some v ∧ VV L w m d v)
    (hnil : ∀ g rw cells, H g = .blk rw cells → m g = .nil → cells = [])
    (hobj : ok = true → ∀ g o b, H g = .obj o → m g = .at b 0 → b < w.heap.size ∧ ¬ L' b ∧ ∃ v, w.heap[b]? = some v ∧ ObIs L w m o v)
    {d : D} {x : Data} (h : Frz ok H d x) : ∀ {v : Value}, VV L w m d v → VD L' w x v := by
  have hg : Grow L w L' w := Grow.less w hless
  induction h with
  | data x => intro v hv; exact hv.data_inv.mono hg
  | emp es es' =>
    intro v hv
    cases hv with
    | emp _ a => exact .sl es' [] a 0 0 0 0 (fun _ => undef) rfl (Nat.le_refl _) (Nat.zero_le _) (by simp) (.inr rfl) (fun i x hx => by simp [flat] at hx) (fun i x hx => by simp [flat] at hx)
  | ref g off len es rw cells l ds hgb hrw hl hes hfit hc hvv ih =>
    intro v hv
    cases hv with
    | ref _ _ _ _ b sz cap o j1 j2 j3 j4 j5 =>
      obtain ⟨hb, hL, vs, ty, e1, e2⟩ := hblk g rw cells b sz hgb hrw j1
      subst hl
      have hfl := flat_length hes
      by_cases h0 : l = []
      · subst h0
        exact .sl es [] _ _ cap b o (fun _ => undef) rfl j4 j5 (by simp) (.inr rfl) (fun i x hx => by simp [flat] at hx) (fun i x hx => by simp [flat] at hx)
      · have hpos := List.length_pos_iff.2 h0
        have ho : o = off := by
          rcases j2 with j2 | j2
          · exact j2
          · omega
        subst ho
        refine .sl es l _ _ cap b o (fun i => vs.getD (o + i) undef) rfl j4 j5 hes (.inl ⟨rfl, hb, hL⟩) (fun i x hx => ?_) (fun i x hx => ?_)
        · obtain ⟨v, q1, q2⟩ := e2 _ _ (hc i x hx)
          rw [cell_of e1]
          have hlt := (Array.getElem?_eq_some_iff.1 q1).1
          simp [hlt]
        · obtain ⟨v, q1, q2⟩ := e2 _ _ (hc i x hx)
          have hlt := (Array.getElem?_eq_some_iff.1 q1).1
          have hq := (Array.getElem?_eq_some_iff.1 q1).2
          have : vs.getD (o + i) undef = v := by simp [hlt, hq]
          rw [this]
          exact ih i x hx q2
    | ref0 _ _ a j1 =>
      have : l = [] := List.eq_nil_of_length_eq_zero hl
      subst this
      exact .sl es [] a 0 0 0 0 (fun _ => undef) rfl (Nat.le_refl _) (Nat.zero_le _) (by simp) (.inr rfl) (fun i x hx => by simp [flat] at hx) (fun i x hx => by simp [flat] at hx)
  | agg cs xs hl _ ih =>
    intro v hv
    cases hv with
    | agg _ vs hl2 hh =>
    refine .agg xs vs (by omega) fun i x v hx hv => ?_
    have hi : i < cs.length := by rw [hl]; exact (List.getElem?_eq_some_iff.1 hx).1
    exact ih i _ x (List.getElem?_eq_getElem hi) hx (hh i _ v (List.getElem?_eq_getElem hi) hv)
  | fn f cs xs hl _ ih =>
    intro v hv
    cases hv with
    | fn _ _ vs hl2 hh =>
    refine .fn f xs vs (by omega) fun i x v hx hv => ?_
    have hi : i < cs.length := by rw [hl]; exact (List.getElem?_eq_some_iff.1 hx).1
    exact ih i _ x (List.getElem?_eq_getElem hi) hx (hh i _ v (List.getElem?_eq_getElem hi) hv)
  | mref g ks xs ds hok hgo hl _ ih =>
    intro v hv
    cases hv with
    | mref _ b j1 =>
      obtain ⟨hb, hL, ob, e1, e2⟩ := hobj hok g _ b hgo j1
      cases e2 with
      | mp _ _ es clock hk hx h1 h2 h3 h4 =>
      refine .mp ks xs b es clock hb hL e1 hk (by omega) (fun i x e a c => (h1 i x e a c).mono hg) (fun i x e a c => ?_) h3 h4
      have hi : i < ds.length := by rw [hl]; exact (List.getElem?_eq_some_iff.1 a).1
      exact ih i _ x (List.getElem?_eq_getElem hi) a (h2 i _ e (List.getElem?_eq_getElem hi) c)
  | cptr cells =>
    intro v hv
    cases hv with
    | cptr _ b off vs hb hL hc hvv => exact .pc cells b off vs hb (fun k => hL (hless b k)) hc fun i x hx => (hvv i x hx).mono hg
  | ptr g off rw cells l ds hgb hrw hc hvv ih =>
    intro v hv
    cases hv with
    | ptr _ _ b sz j1 =>
      obtain ⟨hb, hL, vs, ty, e1, e2⟩ := hblk g rw cells b sz hgb hrw j1
      refine .pc l b off (fun i => vs.getD (off + i) undef) hb hL (fun i x hx => ?_) (fun i x hx => ?_)
      · obtain ⟨v, q1, q2⟩ := e2 _ _ (hc i x hx)
        rw [cell_of e1]
        have hlt := (Array.getElem?_eq_some_iff.1 q1).1
        simp [hlt]
      · obtain ⟨v, q1, q2⟩ := e2 _ _ (hc i x hx)
        have hlt := (Array.getElem?_eq_some_iff.1 q1).1
        have hq := (Array.getElem?_eq_some_iff.1 q1).2
        have : vs.getD (off + i) undef = v := by simp [hlt, hq]
        rw [this]
        exact ih i x hx q2

theorem freeze_heap (w : World) (b n k : Nat) : (w.freeze ⟨b, n, none⟩ 1).heap.size = w.heap.size ∧ (k ≠ b → (w.freeze ⟨b, n, none⟩ 1).heap[k]? = w.heap[k]?) ∧ ((w.freeze ⟨b, n, none⟩ 1).os = w.os ∧ (w.freeze ⟨b, n, none⟩ 1).tape = w.tape ∧ (w.freeze ⟨b, n, none⟩ 1).output = w.output) ∧
    ∀ vs ty fz, w.heap[b]? = some (.cells vs ty fz) → ∃ fz', (w.freeze ⟨b, n, none⟩ 1).heap[b]? = some (.cells vs ty fz') := by
  unfold World.freeze
  rw [if_neg (by decide)]
  refine ⟨by simp, fun hk => ?_, ⟨rfl, rfl, rfl⟩, fun vs ty fz hb => ?_⟩
  · simp [Array.getElem?_modify, Ne.symm hk]
  · obtain ⟨lo, hi⟩ := fz
    simp [Array.getElem?_modify, hb]
theorem cell_one {x : Data} (h : x.cell = true) : x.cells = [x] := by cases x <;> first | rfl | cases h
theorem flat_cell : ∀ {l : List Data}, (∀ x ∈ l, x.cell = true) → flat l = l
  | [], _ => rfl
  | x :: l, h => by
    have ih := flat_cell (l := l) fun y hy => h y (by simp [hy])
    unfold flat at ih ⊢
    rw [List.flatMap_cons, cell_one (h x (by simp)), ih]
    rfl
theorem mark_ok {src dst : TypeId} {g off len es : Nat} {v : Value} {K : D → List (Nat × Blk) → Prop} (h : WR Γ L0 w0 m H w) (hv : VV (Live L0 m H) w m (.ref g off len es) v) (hk : markK P src dst g off len es H K) :
    ∃ d u v' w', K d u ∧ (convert src dst v).run P w = .ok v' w' ∧ After Γ L0 w0 fr H m w d u v' w' := by
  unfold markK at hk
  obtain ⟨rfl, rfl, rfl, hlen, hk⟩ := hk
  split at hk
  · rename_i e he
    obtain ⟨hie, hk⟩ := hk
    split at hk
    · rename_i cells hg
      split at hk
      · rename_i l hl
        obtain ⟨hll, hcell, hk⟩ := hk
        have hcs := allData_eq hl
        rw [List.all_eq_true] at hcell
        cases hv with
        | ref0 => omega
        | ref _ _ _ _ b sz cap o j1 j2 j3 j4 j5 =>
          have ho : o = 0 := by rcases j2 with j2 | j2 <;> omega
          subst ho
          obtain ⟨vs, ty, e1, e2, e3, e4, e5⟩ := at_of h hg j1
          obtain ⟨f1, f2, f3, f4⟩ := freeze_heap w b vs.size 0
          have f2' : ∀ k, k ≠ b → (w.freeze ⟨b, vs.size, none⟩ 1).heap[k]? = w.heap[k]? := fun k => (freeze_heap w b vs.size k).2.1
          obtain ⟨fz', f5⟩ := f4 vs ty (0, 0) e1
          obtain ⟨q1, q2, q3⟩ := h.kill hg j1 f1 f2' f3 (H' := Hp.upd H [(g, .dead)]) (by simp [Hp.upd, Hp.set]) (fun k hk => by simp [Hp.upd, Hp.set, hk])
          refine ⟨_, _, .slice (some ⟨b, 0, none⟩) len cap, w.freeze ⟨b, vs.size, none⟩ 1, hk, ?_, m, q1, ?_, q2, fun _ _ => rfl⟩
          · have hsh : w.shape? b = some (ty, vs.size) := by unfold World.shape?; rw [e1]
            simp [convert, run_underlying (und_slice P he), run_underlying (und_int P hie), markStringish, hsh]
          · have hfl := flat_cell hcell
            refine .data _ _ (.sl 1 l _ _ cap b 0 (fun i => vs.getD i undef) hll.symm j4 j5 (fun x hx => by rw [cell_one (hcell x hx)]; rfl) (.inl ⟨rfl, by rw [f1]; exact h.lt hg j1, q3⟩) (fun i x hx => ?_) (fun i x hx => ?_))
            · rw [hfl] at hx
              obtain ⟨v, a1, _, a3⟩ := e5 i (.data x) (by rw [hcs, List.getElem?_map, hx]; rfl)
              rw [cell_of f5]
              have hlt := (Array.getElem?_eq_some_iff.1 a1).1
              simp [hlt]
            · rw [hfl] at hx
              obtain ⟨v, a1, _, a3⟩ := e5 i (.data x) (by rw [hcs, List.getElem?_map, hx]; rfl)
              have hlt := (Array.getElem?_eq_some_iff.1 a1).1
              have hq := (Array.getElem?_eq_some_iff.1 a1).2
              have : vs.getD i undef = v := by simp [hlt, hq]
              rw [this]
              exact a3.data_inv.mono q2
      · exact hk.elim
    · exact hk.elim
  · exact hk.elim

/-- A call of a value. -/
theorem callee_ok {m : Nat → MB} {L : Nat → Prop} {x : D} {v : Value} {f : FuncId} {pre caps : List D} (hx : VV L w m x v) (hf : fnD x = some (f, pre, caps)) :
    ∃ pvs cvs, v = .func (.func f) pvs cvs ∧ pre.length = pvs.size ∧ (∀ (i : Nat) (d : D) (v : Value), pre[i]? = some d → pvs[i]? = some v → VV L w m d v) ∧ caps.length = cvs.size ∧ ∀ (i : Nat) (d : D) (v : Value), caps[i]? = some d → cvs[i]? = some v → VV L w m d v := by
  unfold fnD at hf
  split at hf
  · rename_i f' caps'
    cases hf
    have := hx.data_inv
    cases this with
    | fn _ _ vs hl hh =>
    refine ⟨#[], vs, rfl, rfl, fun i d v hx => by simp at hx, by simpa using hl, fun i d v hx hv => ?_⟩
    rw [List.getElem?_map, Option.map_eq_some_iff] at hx
    obtain ⟨y, hy, rfl⟩ := hx
    exact toD_ok (hh i y v hy hv)
  · rename_i f' caps'
    cases hf
    cases hx with
    | fn _ _ vs hl hh => exact ⟨#[], vs, rfl, rfl, fun i d v hx => by simp at hx, hl, hh⟩
  · rename_i f' r
    cases hf
    cases hx with
    | bnd _ _ u h =>
      refine ⟨#[u], #[], rfl, rfl, fun i d v hx hv => ?_, rfl, fun i d v hx => by simp at hx⟩
      match i with
      | 0 => simp at hx hv; subst hx; subst hv; exact h
      | i + 1 => simp at hx
  · cases hf
/-- What a call hands over: what the value has ahead, the arguments, what it has captured. -/
theorem args_ok {m : Nat → MB} {L : Nat → Prop} {pre caps as : List D} {pvs cvs avs : Array Value} (hp : pre.length = pvs.size) (hpv : ∀ (i : Nat) (d : D) (v : Value), pre[i]? = some d → pvs[i]? = some v → VV L w m d v)
    (ha : as.length = avs.size) (hav : ∀ (i : Nat) (d : D) (v : Value), as[i]? = some d → avs[i]? = some v → VV L w m d v) (hcv : ∀ (i : Nat) (d : D) (v : Value), caps[i]? = some d → cvs[i]? = some v → VV L w m d v) :
    ∀ (i : Nat) (d : D) (v : Value), (pre ++ (as ++ caps))[i]? = some d → (pvs ++ (avs ++ cvs))[i]? = some v → VV L w m d v := fun i d v h1 h2 => by
  rw [Array.getElem?_append] at h2
  rw [List.getElem?_append] at h1
  split at h2
  · rename_i hlt
    rw [if_pos (by omega)] at h1
    exact hpv i d v h1 h2
  · rename_i hlt
    rw [if_neg (by omega)] at h1
    rw [hp, List.getElem?_append] at h1
    rw [Array.getElem?_append] at h2
    split at h2
    · rename_i hlt2
      rw [if_pos (by omega)] at h1
      exact hav _ d v h1 h2
    · rename_i hlt2
      rw [if_neg (by omega), ha] at h1
      exact hcv _ d v h1 h2

theorem upd_fz (H0 : Nat → Blk) : ∀ (F : List Nat) (H : Nat → Blk), (∀ k, H k = H0 k ∨ H k = fz (H0 k)) → ∀ k, Hp.upd H (F.map fun g => (g, fz (H0 g))) k = if k ∈ F then fz (H0 k) else H k
  | [], H, _, k => by simp [Hp.upd]
  | g :: F, H, hH, k => by
    simp only [List.map_cons, Hp.upd]
    rw [upd_fz H0 F (Hp.set H g (fz (H0 g))) (fun j => by
      by_cases e : j = g
      · subst e; exact .inr (by simp [Hp.set])
      · have : Hp.set H g (fz (H0 g)) j = H j := by simp [Hp.set, e]
        rw [this]; exact hH j) k]
    by_cases e : k ∈ F
    · simp [e]
    · by_cases e2 : k = g
      · subst e2; simp [e, Hp.set]
      · simp [e, e2, Hp.set]

theorem call_ok {f : FuncId} {ds : List D} {vs : Array Value} {K : D → List Nat → List (Nat × Blk) → Prop} (h : WR Γ L0 w0 m H w) (hl : ds.length = vs.size) (hv : ∀ (i : Nat) (d : D) (v : Value), ds[i]? = some d → vs[i]? = some v → VV (Live L0 m H) w m d v) (hk : callK P Γ f ds H K) :
    ∃ d rd u, K d rd u ∧ CallOk P f ∧ Calls P f vs w fun e w' => ∃ v, e = .returned v ∧ After Γ L0 w0 fr H m w d u v w' := by
  obtain ⟨F, xs, r, rd, hF, ⟨hcall, hpc⟩, hfrz, hk⟩ := hk
  have hupd := upd_fz H F H (fun k => .inl rfl)
  have hold : ∀ g, Hp.upd H (F.map fun g => (g, fz (H g))) g = H g ∨ ∃ rw cells, H g = .blk rw cells ∧ Hp.upd H (F.map fun g => (g, fz (H g))) g = .blk false cells := fun g => by
    rw [hupd g]
    by_cases e : g ∈ F
    · obtain ⟨rw, cells, hg⟩ := hF g e
      exact .inr ⟨rw, cells, hg, by simp [e, hg, fz]⟩
    · exact .inl (by simp [e])
  obtain ⟨h1, hg1⟩ := h.called (Below.refl _ w) hold
  refine ⟨_, _, _, hk, hcall, ?_⟩
  have blkfact : ∀ (H2 : Nat → Blk) (h2 : WR Γ L0 w0 m H2 w) (hlive : ∀ b, Live L0 m H2 b → Live L0 m H b) (hcells : ∀ g rw cells, H2 g = .blk rw cells → ∃ rw', H g = .blk rw' cells), ∀ g rw cells b sz, H2 g = .blk rw cells → m g = .at b sz →
      b < w.heap.size ∧ (rw = false → ¬ Live L0 m H2 b) ∧ ∃ vs ty, w.heap[b]? = some (.cells vs ty (0, 0)) ∧ ∀ (i : Nat) (d : D), cells[i]? = some d → ∃ v, vs[i]? = some v ∧ VV (Live L0 m H) w m d v := by
    intro H2 h2 hlive hcells g rw cells b sz hg hm
    obtain ⟨rw', hg'⟩ := hcells g rw cells hg
    obtain ⟨vs, ty, e1, e2, e3, e4, e5⟩ := at_of h hg' hm
    obtain ⟨_, _, _, _, _, f4, _⟩ := at_of h2 hg hm
    exact ⟨h.lt hg' hm, f4, vs, ty, e1, fun i d hd => by obtain ⟨v, a1, _, a3⟩ := e5 i d hd; exact ⟨v, a1, a3⟩⟩
  have hnil : ∀ (H2 : Nat → Blk), WR Γ L0 w0 m H2 w → ∀ g rw cells, H2 g = .blk rw cells → m g = .nil → cells = [] := fun H2 h2 g rw cells hg hm => by
    rcases h2.heap.blk g rw cells hg with ⟨_, k⟩ | ⟨b, sz, vs, ty, k1, _⟩
    · exact k
    · rw [hm] at k1; cases k1
  rcases hfrz with ⟨hF0, hbare, hfz⟩ | hfz
  · subst hF0
    obtain ⟨hlx, hfx⟩ := hfz H (fun _ _ => rfl)
    refine (hpc (fun _ => False) w vs (h.glob.mono (Grow.less w fun b hb => hb.elim)) (fun b hb => hb.elim) (by omega) (fun i x v hx hvi => ?_)).mono fun e w' ⟨v, he, hr, hb⟩ => ⟨v, he, ?_⟩
    · have hi : i < ds.length := by rw [hlx]; exact (List.getElem?_eq_some_iff.1 hx).1
      have hd := List.getElem?_eq_getElem hi
      refine (hfx i _ x hd hx).vd (m := m) (L := Live L0 m H) (fun b hb => hb.elim) (fun g rw cells b sz hg _ hm => ?_) (hnil H h) (fun _ g o b hg hm => ?_) (hv i _ v hd hvi)
      rotate_left 1
      · obtain ⟨b2, v2, k1, k2, k3, k4⟩ := h.heap.obj g o hg
        rw [k1] at hm; cases hm
        exact ⟨h.ltO hg k1, fun hb => hb.elim, v2, k3, k4⟩
      obtain ⟨a1, _, a3⟩ := blkfact H h (fun b hb => hb) (fun g rw cells hg => ⟨rw, hg⟩) g rw cells b sz hg hm
      exact ⟨a1, fun hb => hb.elim, a3⟩
    · obtain ⟨h2, hg2⟩ := h.called hb (H' := H) (fun g => .inl rfl)
      exact ⟨m, h2, .data _ _ (hbare.vd hr), hg2, fun _ _ => rfl⟩
  · obtain ⟨hlx, hfx⟩ := hfz H (fun _ _ => rfl)
    refine (hpc (Live L0 m (Hp.upd H (F.map fun g => (g, fz (H g))))) w vs h1.glob (fun b hb => h1.live_lt hb) (by omega) (fun i x v hx hvi => ?_)).mono fun e w' ⟨v, he, hr, hb⟩ => ⟨v, he, ?_⟩
    · have hi : i < ds.length := by rw [hlx]; exact (List.getElem?_eq_some_iff.1 hx).1
      have hd := List.getElem?_eq_getElem hi
      have hlive : ∀ b, Live L0 m (Hp.upd H (F.map fun g => (g, fz (H g)))) b → Live L0 m H b := by
        rintro b (hb | ⟨g, sz, hg, hm⟩)
        · exact .inl hb
        · rcases hold g with e | ⟨rw, cs, e1, e2⟩
          · rw [e] at hg; exact .inr ⟨g, sz, hg, hm⟩
          · rw [e2] at hg; cases hg
      refine (hfx i _ x hd hx).vd (m := m) (L := Live L0 m H) hlive (fun g rw cells b sz hg hrw hm => ?_) (hnil _ h1) (fun e => by cases e) (hv i _ v hd hvi)
      obtain ⟨a1, a2, a3⟩ := blkfact _ h1 hlive (fun g rw cells hg => by
        rcases hold g with e | ⟨rw', cs, e1, e2⟩
        · rw [e] at hg; exact ⟨rw, hg⟩
        · rw [e2] at hg; cases hg; exact ⟨rw', e1⟩) g rw cells b sz hg hm
      refine ⟨a1, a2 ?_, a3⟩
      rcases hrw with e | e
      · cases e
      · exact e
    · obtain ⟨h2, hg2⟩ := h.called hb hold
      exact ⟨m, h2, .data _ _ hr, hg2, fun _ _ => rfl⟩

/-- Every operation. -/
theorem op_sound {o : Oper} {e : Nat → D} {a : Act} {K : D → List Nat → List (Nat × Blk) → Prop} (h : WR Γ L0 w0 m H w) (hfr : m fr = .res) (hd : H fr = .dead) (hv : ∀ t, VV (Live L0 m H) w m (e t) (a.tmps.getD t undef)) (hk : opK P Γ o e H fr K) :
    ∃ d rd u, K d rd u ∧ Runs P o a w (After Γ L0 w0 fr H m w d u) := by
  have hρ : ∀ x, VV (Live L0 m H) w m (evalD Γ e x) (a.eval x) := fun x => eval_ok h.glob hv x
  unfold opK at hk
  obtain ⟨dst, op, type, pos, after, guard⟩ := o
  cases op <;> simp only at hk
  case move x => exact ⟨_, _, _, hk, runs_pure (by simp [execOp]) h (coe_ok P type (hρ x))⟩
  case assign x => exact ⟨_, _, _, hk, runs_pure (by simp [execOp]) h (coe_ok P type (hρ x))⟩
  case pick c x y =>
    split at hk
    · rename_i hc
      have hcv := hρ c
      rw [hc] at hcv
      have := hcv.data_inv
      generalize hce : a.eval c = vc at this
      cases this
      exact ⟨_, _, _, hk, runs_pure (by simp [execOp, hce, asBool]) h (hρ x)⟩
    · rename_i hc
      have hcv := hρ c
      rw [hc] at hcv
      have := hcv.data_inv
      generalize hce : a.eval c = vc at this
      cases this
      exact ⟨_, _, _, hk, runs_pure (by simp [execOp, hce, asBool]) h (hρ y)⟩
    · exact hk.elim
  case alloc t =>
    split at hk
    · rename_i z hz
      obtain ⟨hall, hk⟩ := hk
      obtain ⟨v, w', h1, h2⟩ := alloc_ok h hfr hz hall
      exact ⟨_, _, _, hk, .inl ⟨v, w', by simp [execOp, h1], h2⟩⟩
    · exact hk.elim
  case box t x =>
    obtain ⟨hall, hk⟩ := hk
    obtain ⟨v, w', h1, h2⟩ := box_ok (P := P) (t := t) h hfr (hρ x) hall
    exact ⟨_, _, _, hk, .inl ⟨v, w', by simp [execOp, h1], h2⟩⟩
  case build t parts =>
    obtain ⟨d, v, h1, h2, h3⟩ := build_ok (P := P) (vparts := parts.map fun (i, x) => (i, a.eval x)) (by simp) (fun i p q hp hq => by
      simp only [List.getElem?_map, Option.map_eq_some_iff, Array.getElem?_toList] at hp
      simp only [Array.getElem?_map, Option.map_eq_some_iff] at hq
      obtain ⟨y, hy, rfl⟩ := hp
      obtain ⟨y', hy', rfl⟩ := hq
      rw [hy] at hy'; cases hy'
      exact ⟨rfl, hρ _⟩) hk
    exact ⟨_, _, _, h1, runs_pure (by simp [execOp, h3]) h h2⟩
  case buildSlice t len parts =>
    split at hk
    · rename_i el he
      split at hk
      · rename_i es hs
        obtain ⟨hbig, hk⟩ := hk
        split at hk
        · rename_i h0
          subst h0
          obtain ⟨hp0, hk⟩ := hk
          have hpe : parts = #[] := Array.eq_empty_of_size_eq_zero hp0
          subst hpe
          have hbel : Below w.heap.size w (w.alloc (.cells #[] el)) := (Below.refl _ w).alloc (Nat.le_refl _) _
          obtain ⟨q1, q2⟩ := h.called hbel (H' := H) (fun g => .inl rfl)
          refine ⟨_, _, _, hk, .inl ⟨.slice (some ⟨w.heap.size, 0, none⟩) 0 0, w.alloc (.cells #[] el), ?_, m, q1, .emp _ _, q2, fun _ _ => rfl⟩⟩
          have hr0 : Array.range 0 = #[] := rfl
          simp [execOp, Instr.buildSlice, run_underlying (und_slice P he), run_sz P hs, Instr.fill, newRow, hr0]
        · rename_i h0
          unfold zerosK at hk
          split at hk
          · rename_i z hz
            obtain ⟨hall, hsz, hz0, hk⟩ := hk
            split at hk
            · rename_i cells hf
              obtain ⟨hcell, hk⟩ := hk
              obtain ⟨v, w', h1, h2⟩ := buildSlice_ok (P := P) (vparts := parts.map fun (i, x) => (i, a.eval x)) h hfr he hs hbig h0 hz hall (by rw [hs] at hsz; simpa using hsz) hz0 (by simp) (fun i p q hp hq => by
                simp only [List.getElem?_map, Option.map_eq_some_iff, Array.getElem?_toList] at hp
                simp only [Array.getElem?_map, Option.map_eq_some_iff] at hq
                obtain ⟨y, hy, rfl⟩ := hp
                obtain ⟨y', hy', rfl⟩ := hq
                rw [hy] at hy'; cases hy'
                exact ⟨rfl, hρ _⟩) hf hcell
              exact ⟨_, _, _, hk, .inl ⟨v, w', by simp [execOp, h1], h2⟩⟩
            · exact hk.elim
          · exact hk.elim
      · exact hk.elim
    · exact hk.elim
  case load t x =>
    obtain ⟨d, rd, u, h1, h2, h3⟩ := load_ok h (hρ x) hk
    exact ⟨_, _, _, h1, runs_pure (by simp [execOp, h3]) h h2⟩
  case store t x y =>
    obtain ⟨u, w', h1, h2, h3⟩ := store_ok (fr := fr) h hfr (hρ x) (coe_ok P t (hρ y)) hk
    exact ⟨_, _, _, h1, .inr (.inl ⟨w', by simp [execOp, h2], h3 _ _ fun L' w' m' _ _ => .junk _⟩)⟩
  case binOp op t x y _ =>
    obtain ⟨d, v, h1, h2, h3⟩ := bin_ok x y _ (hρ x) (hρ y) hk
    exact ⟨_, _, _, h1, runs_pure (by simp only [execOp]; rw [Sem.run_bind, h3]; rfl) h h2⟩
  case unOp op t x =>
    obtain ⟨d, v, h1, h2, h3⟩ := un_ok (P := P) (w := w) (hρ x) hk
    exact ⟨_, _, _, h1, runs_pure (by simp [execOp, h3]) h h2⟩
  case convert s d x =>
    split at hk
    · rename_i g off len es hx
      have hxv := hρ x
      rw [hx] at hxv
      obtain ⟨d, u, v', w', h1, h2, h3⟩ := mark_ok (P := P) (fr := fr) h hxv hk
      exact ⟨_, _, _, h1, .inl ⟨v', w', by simp [execOp, h2], h3⟩⟩
    · obtain ⟨hs, hk⟩ := hk
      obtain ⟨d, v, h1, h2, h3⟩ := conv_ok (P := P) (w := w) hs (hρ x) hk
      exact ⟨_, _, _, h1, runs_pure (by simp [execOp, h3]) h h2⟩
  case makeSlice t l c =>
    split at hk
    · rename_i el he
      split at hk
      · rename_i es by_ k1 n k2 n2 hs hb hln hcn
        obtain ⟨h0, h1, h2, h3, hk⟩ := hk
        unfold zerosK at hk
        split at hk
        · rename_i z hz
          obtain ⟨hall, hsz, hz0, hk⟩ := hk
          have el1 := hρ l
          have el2 := hρ c
          rw [hln] at el1
          rw [hcn] at el2
          have el1 := int_inv el1
          have el2 := int_inv el2
          obtain ⟨v, w', q1, q2⟩ := makeSlice_ok (P := P) h hfr he hs hb h0 h1 h2 h3 hz hall (by rw [hs] at hsz; simpa using hsz) hz0
          exact ⟨_, _, _, hk, .inl ⟨v, w', by simp only [execOp, el1, el2]; rw [Sem.run_bind, q1]; rfl, q2⟩⟩
        · exact hk.elim
      · exact hk.elim
    · exact hk.elim
  case slice t x lo hi mx =>
    split at hk
    · obtain ⟨d, rd, u, h1, h2, h3⟩ := sliceArr_ok (P := P) h hρ (hρ x) hk
      exact ⟨_, _, _, h1, runs_pure (by simp [execOp, h3]) h h2⟩
    · obtain ⟨d, rd, u, h1, h2, h3⟩ := sliceArr_ok (P := P) h hρ (hρ x) hk
      exact ⟨_, _, _, h1, runs_pure (by simp [execOp, h3]) h h2⟩
    · rename_i g off len cp es hx
      have hxv := hρ x
      rw [hx] at hxv
      obtain ⟨d, u, h1, h2, h3⟩ := cut_ok (P := P) hρ hxv hk
      exact ⟨_, _, _, h1, runs_pure (by simp [execOp, h3]) h h2⟩
    · obtain ⟨d, u, h1, h2, h3⟩ := slice_ok (P := P) hρ (hρ x) hk
      exact ⟨_, _, _, h1, runs_pure (by simp [execOp, h3]) h h2⟩
  case fieldAddr t x f =>
    obtain ⟨d, u, h1, h2, h3⟩ := field_ok (P := P) (hρ x) hk
    exact ⟨_, _, _, h1, runs_pure (by simp [execOp, h3]) h h2⟩
  case field t x f =>
    obtain ⟨d, u, h1, h2, h3⟩ := fieldV_ok (P := P) (hρ x) hk
    exact ⟨_, _, _, h1, runs_pure (by simp [execOp, h3]) h h2⟩
  case indexAddr t x ix =>
    obtain ⟨d, u, h1, h2, h3⟩ := indexAddr_ok (P := P) (hρ x) (hρ ix) hk
    exact ⟨_, _, _, h1, runs_pure (by simp [execOp, h3]) h h2⟩
  case index t x ix =>
    obtain ⟨d, u, h1, h2, h3⟩ := indexV_ok (P := P) (hρ x) (hρ ix) hk
    exact ⟨_, _, _, h1, runs_pure (by simp [execOp, h3]) h h2⟩
  case extract x i =>
    unfold extractK at hk
    split at hk
    · rename_i vs hx
      obtain ⟨v, hvi, hk⟩ := hk
      have hxv := hρ x
      rw [hx] at hxv
      have := hxv.data_inv
      generalize hce : a.eval x = vx at this
      cases this with
      | tup _ us hl hh =>
      have hi : i < us.size := by rw [← hl]; exact (List.getElem?_eq_some_iff.1 hvi).1
      exact ⟨_, _, _, hk, runs_pure (by simp [execOp, Instr.extract, hce, hi]) h (.data _ _ (hh i v _ hvi (Array.getElem?_eq_getElem hi)))⟩
    · exact hk.elim
  case nilCheck x =>
    obtain ⟨hs, hk⟩ := hk
    have hxv := hρ x
    have hpv : VV (Live L0 m H) w m (ptrD (evalD Γ e x)) (a.eval x) := by
      generalize evalD Γ e x = dx at hxv
      unfold ptrD
      split
      · exact toD_ok hxv.data_inv
      · exact hxv
    refine ⟨_, _, _, hk, runs_pure ?_ h hpv⟩
    generalize hdx : evalD Γ e x = dx at hs hxv
    unfold sureD at hs
    split at hs
    · generalize hce : a.eval x = vx at hxv
      cases hxv
      simp [execOp, hce]
    · generalize hce : a.eval x = vx at hxv
      cases hxv
      simp [execOp, hce]
    · have hxv := hxv.data_inv
      generalize hce : a.eval x = vx at hxv
      cases hxv
      simp [execOp, hce]
    · cases hs
  case makeMap t r =>
    cases r with
    | none =>
      obtain ⟨v, w', h1, h2⟩ := makeMap_ok (P := P) (t := t) h hfr
      exact ⟨_, _, _, hk, .inl ⟨v, w', by simp [execOp, h1], h2⟩⟩
    | some r => exact hk.elim
  case insert t mo k x =>
    obtain ⟨rd, u, w', h1, h2, h3⟩ := insert_ok (P := P) (fr := fr) h (hρ mo) (hρ k) (coe_ok P _ (hρ x)) hk
    exact ⟨_, _, _, h1, .inr (.inl ⟨w', by simp [execOp, h2], h3⟩)⟩
  case mapUpdate t mo k x =>
    obtain ⟨rd, u, w', h1, h2, h3⟩ := insert_ok (P := P) (fr := fr) h (hρ mo) (hρ k) (coe_ok P _ (hρ x)) hk
    exact ⟨_, _, _, h1, .inr (.inl ⟨w', by simp [execOp, h2], h3⟩)⟩
  case lookup t x i ok =>
    obtain ⟨d, rd, u, h1, h2, h3⟩ := lookup_ok (P := P) h (hρ x) (hρ i) hk
    exact ⟨_, _, _, h1, runs_pure (by simp [execOp, h3]) h h2⟩
  case range t x =>
    split at hk
    · rename_i q ks xs hq hx
      have hxv := hρ x
      rw [hx] at hxv
      obtain ⟨v, w', h1, h2⟩ := range_ok (P := P) h hfr hq hxv
      exact ⟨_, _, _, hk, .inl ⟨v, w', by simp [execOp, h1], h2⟩⟩
    · exact hk.elim
  case entry x =>
    obtain ⟨d, rd, u, h1, h2, h3⟩ := entry_ok (P := P) h (hρ x) hk
    exact ⟨_, _, _, h1, runs_pure (by simp [execOp, h3]) h h2⟩
  case makeFunc f first caps =>
    split at hk
    · rename_i f hfi
      have hfe : first = #[] := by apply Array.ext'; simpa using hfi
      subst hfe
      refine ⟨_, _, _, hk, runs_pure (v := .func (.func f) #[] (caps.map a.eval)) (by simp [execOp, Instr.makeFunc]) h (.fn f _ _ (by simp) fun i d v h1 h2 => ?_)⟩
      simp only [List.getElem?_map, Option.map_eq_some_iff, Array.getElem?_toList] at h1
      simp only [Array.getElem?_map, Option.map_eq_some_iff] at h2
      obtain ⟨y, hy, rfl⟩ := h1
      obtain ⟨y', hy', rfl⟩ := h2
      rw [hy] at hy'; cases hy'
      exact hρ _
    · rename_i f r hfi
      obtain ⟨hc0, hk⟩ := hk
      have hfe : first = #[r] := by apply Array.ext'; simpa using hfi
      subst hfe
      have hce : caps = #[] := Array.eq_empty_of_size_eq_zero hc0
      subst hce
      exact ⟨_, _, _, hk, runs_pure (v := .func (.func f) #[a.eval r] #[]) (by simp [execOp, Instr.makeFunc]) h (.bnd f _ _ (hρ r))⟩
    · exact hk.elim
  case call c =>
    obtain ⟨callee, args, argTypes⟩ := c
    have hargs : ∀ (i : Nat) (d : D) (v : Value), (args.toList.map (evalD Γ e))[i]? = some d → (args.map a.eval)[i]? = some v → VV (Live L0 m H) w m d v := fun i d v h1 h2 => by
      simp only [List.getElem?_map, Option.map_eq_some_iff, Array.getElem?_toList] at h1
      simp only [Array.getElem?_map, Option.map_eq_some_iff] at h2
      obtain ⟨y, hy, rfl⟩ := h1
      obtain ⟨y', hy', rfl⟩ := h2
      rw [hy] at hy'; cases hy'
      exact hρ _
    split at hk
    · rename_i x hc
      simp only at hc
      subst hc
      split at hk
      · rename_i f pre caps hf
        obtain ⟨pvs, cvs, hce, hpl, hpv, hcl, hch⟩ := callee_ok (hρ x) hf
        obtain ⟨d, rd, u, h1, h2, h3⟩ := call_ok (P := P) (fr := fr) (vs := pvs ++ (args.map a.eval ++ cvs)) h (by simp [hcl, hpl]) (args_ok hpl hpv (by simp) hargs hch) hk
        refine ⟨_, _, _, h1, .inr (.inr ⟨f, pvs ++ (args.map a.eval ++ cvs), w, ?_, h3⟩)⟩
        simp only [execOp, resolve, Sem.run_bind, hce, Deferred.ofValue, Sem.run_pure, Result.andThen_ok, invoke]
        rw [← Array.append_assoc]
        have h2 := h2 (pvs ++ (args.map a.eval ++ cvs)) w
        rw [← Array.append_assoc] at h2
        exact h2
      · exact hk.elim
    · rename_i hc
      simp only at hc
      subst hc
      split at hk
      · rename_i t x ht hx
        simp only at hx
        have hax : args = #[x] := by apply Array.ext'; simpa using hx
        subst hax
        obtain ⟨d, u, h1, h2, h3⟩ := len_ok (P := P) (w := w) (ty := type) (hρ x) hk
        refine ⟨_, _, _, h1, runs_pure ?_ h h2⟩
        have h4 : (Builtin.len_ argTypes type #[a.eval x]).run P w = .ok u w := by
          have : ∀ vs, Builtin.len_ argTypes type vs = Builtin.len_ #[t] type vs := fun vs => by unfold Builtin.len_; simp [ht]
          rw [this]; exact h3
        simp [execOp, resolve, invoke, builtin, h4]
      · exact hk.elim
    · rename_i hc
      simp only at hc
      subst hc
      split at hk
      · rename_i st xt x y hst hxt hx
        simp only at hx
        have hax : args = #[x, y] := by apply Array.ext'; simpa using hx
        subst hax
        obtain ⟨d, rd, u, v, w', h1, h2, h3⟩ := append_ok (P := P) (ty := type) h hfr hd (hρ x) (hρ y) hk
        refine ⟨_, _, _, h1, .inl ⟨v, w', ?_, h3⟩⟩
        have h4 : (Builtin.append_ argTypes type #[a.eval x, a.eval y]).run P w = .ok v w' := by
          have : ∀ vs, Builtin.append_ argTypes type vs = Builtin.append_ #[st, xt] type vs := fun vs => by unfold Builtin.append_; simp [hst, hxt]
          rw [this]; exact h2
        simp [execOp, resolve, invoke, builtin, h4]
      · exact hk.elim
    · rename_i hc
      simp only at hc
      subst hc
      split at hk
      · rename_i st x y hst hx
        simp only at hx
        have hax : args = #[x, y] := by apply Array.ext'; simpa using hx
        subst hax
        obtain ⟨d, rd, u, v, w', h1, h2, h3⟩ := copy_ok (P := P) (xt := st) (ty := type) (fr := fr) h hfr (hρ x) (hρ y) hk
        refine ⟨_, _, _, h1, .inl ⟨v, w', ?_, h3⟩⟩
        have h4 : (Builtin.copy_ argTypes type #[a.eval x, a.eval y]).run P w = .ok v w' := by
          have : ∀ vs, Builtin.copy_ argTypes type vs = Builtin.copy_ #[st, st] type vs := fun vs => by unfold Builtin.copy_; simp [hst]
          rw [this]; exact h2
        simp [execOp, resolve, invoke, builtin, h4]
      · exact hk.elim
    · rename_i hc
      simp only at hc
      subst hc
      split at hk
      · rename_i t x ht hx
        simp only at hx
        have hax : args = #[x] := by apply Array.ext'; simpa using hx
        subst hax
        obtain ⟨d, rd, u, v, w', h1, h2, h3⟩ := clear_ok (P := P) (ty := type) (fr := fr) h (hρ x) hk
        refine ⟨_, _, _, h1, .inl ⟨v, w', ?_, h3⟩⟩
        have h4 : (Builtin.clear_ argTypes type #[a.eval x]).run P w = .ok v w' := by
          have : ∀ vs, Builtin.clear_ argTypes type vs = Builtin.clear_ #[t] type vs := fun vs => by unfold Builtin.clear_; simp [ht]
          rw [this]; exact h2
        simp [execOp, resolve, invoke, builtin, h4]
      · exact hk.elim
    · rename_i hc
      simp only at hc
      subst hc
      obtain ⟨d, u, h1, h2, h3⟩ := minmax_ok (P := P) (w := w) (ts := argTypes) (ty := type) (vs := args.map a.eval) (by simp) hargs hk
      refine ⟨_, _, _, h1, runs_pure ?_ h h2⟩
      simp only [Bool.false_eq_true, if_false] at h3
      simp [execOp, resolve, invoke, builtin, h3]
    · rename_i hc
      simp only at hc
      subst hc
      obtain ⟨d, u, h1, h2, h3⟩ := minmax_ok (P := P) (w := w) (ts := argTypes) (ty := type) (vs := args.map a.eval) (by simp) hargs hk
      refine ⟨_, _, _, h1, runs_pure ?_ h h2⟩
      simp only [if_true] at h3
      simp [execOp, resolve, invoke, builtin, h3]
    · exact hk.elim
  all_goals exact hk.elim
end
end Go.Proofs.Ytedcnbkhdkchoaa
