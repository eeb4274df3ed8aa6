/- Each operation keeps the relation: rows of which the room is known, rows put to zero, maps. -/
import Derived.Test.YtedcnbkhdkchoaaJ
import Derived.MapKept
namespace Go.Proofs.Ytedcnbkhdkchoaa
open Go.RowKit
set_option linter.unusedVariables false
set_option linter.unusedSimpArgs false

section
variable {P : Program} {Γ : Nat → Option (List Data)} {L0 : Nat → Prop} {w0 : World} {m : Nat → MB} {H : Nat → Blk} {w : World} {fr : Nat} {L : Nat → Prop}

theorem zl_of {e : TypeId} {es : Nat} (h : zlT P e = some es) : ∃ i z, P.info? e = some i ∧ i.zero = some z ∧ z.cells.size = es := by
  unfold zlT at h
  cases hi : P.info? e with
  | none => simp [hi] at h
  | some i =>
    simp only [hi, Option.bind_some, Option.map_eq_some_iff] at h
    obtain ⟨z, hz, hs⟩ := h
    exact ⟨i, z, rfl, hz, hs⟩

theorem Src.cells {es n : Nat} {cs : List D} {v : Value} {news : List Value} (h : Src P L m w es n cs v news) (hall : cs.all D.cell = true) :
    (∀ (i : Nat) (d : D), cs[i]? = some d → ∃ u, news[i]? = some u ∧ u.oneCell' = true ∧ VV L w m d u) ∧ ∀ u ∈ news, u.oneCell' = true := by
  have key : ∀ (i : Nat) (d : D), cs[i]? = some d → ∃ u, news[i]? = some u ∧ u.oneCell' = true ∧ VV L w m d u := fun i d hd => by
    obtain ⟨u, e1, e2⟩ := h.at' i d hd
    rw [List.all_eq_true] at hall
    exact ⟨u, e1, e2.one (hall d (List.mem_of_getElem? hd)), e2⟩
  refine ⟨key, fun u hu => ?_⟩
  obtain ⟨i, hi⟩ := List.getElem?_of_mem hu
  have hlt : i < cs.length := by rw [h.cl, ← h.nl]; exact (List.getElem?_eq_some_iff.1 hi).1
  obtain ⟨u', e1, e2, _⟩ := key i _ (List.getElem?_eq_getElem hlt)
  rw [hi] at e1; cases e1
  exact e2

/-- The zero values that a make lays, as the model lays them behind a row. -/
theorem zeros_put {e : TypeId} {z : List D} (hz : zeT P e = some z) (hall : z.all D.cell = true) (h0 : 0 < z.length) (n : Nat) : ∃ i v, P.info? e = some i ∧ i.zero = some v ∧ v.cells.size = z.length ∧ (List.replicate n z).flatten.length = n * z.length ∧
    (Builtin.zeroCells v.cells n).toList.length = n * z.length ∧
    (∀ (i : Nat) (d : D), (List.replicate n z).flatten[i]? = some d → ∃ u, (Builtin.zeroCells v.cells n).toList[i]? = some u ∧ u.oneCell' = true ∧ VV L w m d u) ∧ ∀ u ∈ (Builtin.zeroCells v.cells n).toList, u.oneCell' = true := by
  obtain ⟨i, v, k1, k2, k3, k4⟩ := zero_cells hz hall
  have hcz := zeros_get (L := L) (w := w) (m := m) (n := n) k3 h0 (k4 _ _ _)
  have hfl : (List.replicate n z).flatten.length = n * z.length := by simp
  have key : ∀ (i : Nat) (d : D), (List.replicate n z).flatten[i]? = some d → ∃ u, (Builtin.zeroCells v.cells n).toList[i]? = some u ∧ u.oneCell' = true ∧ VV L w m d u := fun j d hd => by
    obtain ⟨u, e1, e2, e3⟩ := hcz.2 j d hd
    exact ⟨u, by rw [Array.getElem?_toList]; exact e1, e2, e3⟩
  have hzl : (Builtin.zeroCells v.cells n).toList.length = n * z.length := by rw [Array.length_toList, zeroCells_len, k3]
  refine ⟨i, v, k1, k2, k3.symm, hfl, hzl, key, fun u hu => ?_⟩
  obtain ⟨j, hj⟩ := List.getElem?_of_mem hu
  have hlt : j < (List.replicate n z).flatten.length := by rw [hfl, ← hzl]; exact (List.getElem?_eq_some_iff.1 hj).1
  obtain ⟨u', e1, e2, _⟩ := key j _ (List.getElem?_eq_getElem hlt)
  rw [hj] at e1; cases e1
  exact e2

theorem append_any {st xt ty : TypeId} (vs : Array Value) : Builtin.append_ #[st, xt] ty vs = Builtin.append_ #[st, xt] 0 vs := rfl

theorem append_fits {st xt e : TypeId} {es n : Nat} {cs : List D} {vx : Value} {news : List Value} (he : sliceT P st = some e) (hs : szT P e = some es) (hxs : ((sliceT P xt).isSome || strT P xt) = true)
    (hsrc : Src P L m w es n cs vx news) (base : Option Addr) (sLen sCap : Nat) (hfit : sLen + n ≤ sCap) (w' : World) (hst : match base with | some a => (storeCells (a.add (sLen * es)) news).run P w = .ok () w' | none => w' = w) :
    (Builtin.append_ #[st, xt] 0 #[.slice base sLen sCap, vx]).run P w = .ok (.slice base (sLen + n) sCap) w' := by
  have hu := und_slice P he
  have hfirst := hsrc.first n (Nat.le_refl _)
  rw [← hsrc.nl, List.take_length] at hfirst
  cases base with
  | none =>
    simp only at hst
    subst hst
    rcases und_src hxs with ⟨e2, hd⟩ | hd <;> simp [Builtin.append_, run_underlying hu, run_underlying hd, run_sz P hs, hsrc.len, hfit, hfirst]
  | some a =>
    simp only at hst
    rcases und_src hxs with ⟨e2, hd⟩ | hd <;> simp [Builtin.append_, run_underlying hu, run_underlying hd, run_sz P hs, hsrc.len, hfit, hfirst, hst]

/-- Cells put over others of a row of the call's own. -/
theorem put_row (h : WR Γ L0 w0 m H w) {g b sz off at' : Nat} {cells cs : List D} {news : List Value} (hg : H g = .blk true cells) (j1 : m g = .at b sz) (hl : cs.length = news.length) (hfit : off + cs.length ≤ cells.length)
    (k6 : ∀ (i : Nat) (d : D), cs[i]? = some d → ∃ u, news[i]? = some u ∧ u.oneCell' = true ∧ VV (Live L0 m H) w m d u) (k7 : ∀ u ∈ news, u.oneCell' = true) (hat : at' = off ∨ cs = []) :
    ∃ w', (storeCells ⟨b, at', none⟩ news).run P w = .ok () w' ∧ ∀ d r, (∀ L' w' m', Grow (Live L0 m H) w L' w' → (∀ k, m k ≠ .res → m' k = m k) → VV L' w' m' d r) → After Γ L0 w0 fr H m w d [(g, .blk true (over cells off cs))] r w' := by
  obtain ⟨vs, ty, e1, e2, e3, _, e5⟩ := at_of h hg j1
  have hst : (storeCells ⟨b, at', none⟩ news).run P w = .ok () (w.setRow b (vs.toList.take off ++ news ++ vs.toList.drop (off + news.length)).toArray) := by
    rcases hat with rfl | h0
    · have := run_storeCells_at P b at' ty news 0 vs w e1 (by omega) k7
      simpa using this
    · have hn0 : news = [] := List.eq_nil_of_length_eq_zero (by rw [← hl, h0]; rfl)
      rw [hn0]
      simp only [storeCells, List.append_nil, List.length_nil, Nat.add_zero, List.take_append_drop]
      rw [show vs.toList.toArray = vs by simp, setRow_self w b vs ty (0, 0) e1]; rfl
  obtain ⟨q1, q2, q3, q4, q5⟩ := h.write (t := g) (H' := Hp.set H g (.blk true (over cells off cs))) (cells' := over cells off cs)
    (vs' := (vs.toList.take off ++ news ++ vs.toList.drop (off + news.length)).toArray) hg j1 e1 (.inl rfl) (by simp [Hp.set]) (fun e => absurd rfl e)
    (fun k hk _ => by simp [Hp.set, hk]) (by rw [over_size (by omega)]; exact e2) (by rw [over_length hfit]; exact e3) (over_cells hfit (by omega) hl e5 k6)
  refine ⟨_, hst, fun d r hr => ⟨_, q1, hr _ _ _ q2 q4, q2, fun q hq => ?_⟩⟩
  by_cases e : q = g
  · subst e; simp [j1]
  · exact q3 q e

theorem tup0_ok (L : Nat → Prop) (w : World) (m : Nat → MB) : VV L w m (.data (.tup [])) (.tuple #[]) := .data _ _ (.tup [] #[] rfl (fun i x v hx => by simp at hx))
theorem clear_ok {t ty : TypeId} {x : D} {vx : Value} {K : D → List Nat → List (Nat × Blk) → Prop} (h : WR Γ L0 w0 m H w) (hx : VV (Live L0 m H) w m x vx) (hk : clearK P t x H K) :
    ∃ d rd u v w', K d rd u ∧ (Builtin.clear_ #[t] ty #[vx]).run P w = .ok v w' ∧ After Γ L0 w0 fr H m w d u v w' := by
  unfold clearK at hk
  split at hk
  · rename_i e he
    have hu := und_slice P he
    have row : ∀ (g off len es b sz cap o cap' : Nat) (cells : List D), H g = .blk true cells → m g = .at b sz → (o = off ∨ cap = 0) → len ≤ cap → szT P e = some es → off + len * es ≤ cells.length → vx = .slice (some ⟨b, o, none⟩) len cap' →
        (zerosK P e len fun z => K (.data (.tup [])) [g] [(g, .blk true (over cells off z))]) →
        ∃ d rd u v w', K d rd u ∧ (Builtin.clear_ #[t] ty #[vx]).run P w = .ok v w' ∧ After Γ L0 w0 fr H m w d u v w' := by
      intro g off len es b sz cap o cap' cells hg hm ho hl hs hfit hv hk
      unfold zerosK at hk
      split at hk
      · rename_i z hz
        obtain ⟨hall, hsz, h0, hk⟩ := hk
        rw [hs] at hsz
        have hes : es = z.length := by simpa using hsz
        obtain ⟨i, v, k1, k2, k3, k4, k5, k6, k7⟩ := zeros_put (P := P) (L := Live L0 m H) (w := w) (m := m) hz hall h0 len
        have hlen : (List.replicate len z).flatten.length = len * es := by rw [k4, hes]
        obtain ⟨w', hst, haf⟩ := put_row (P := P) (fr := fr) (at' := o) (off := off) (cs := (List.replicate len z).flatten) (news := (Builtin.zeroCells v.cells len).toList) h hg hm (by rw [k4, k5]) (by omega) k6 k7 (by
          rcases ho with ho | ho
          · exact .inl ho
          · right
            have : len = 0 := by omega
            subst this; rfl)
        refine ⟨_, _, _, .tuple #[], w', hk, ?_, haf _ _ (fun L' w' m' _ _ => tup0_ok L' w' m')⟩
        subst hv
        by_cases hl0 : len = 0
        · subst hl0
          have hz0 : (Builtin.zeroCells v.cells 0).toList = [] := List.eq_nil_of_length_eq_zero (by rw [k5]; simp)
          rw [hz0] at hst
          have hw : w' = w := by simpa [storeCells] using hst.symm
          subst hw
          simp [Builtin.clear_, run_underlying hu]
        · obtain ⟨n, rfl⟩ : ∃ n, len = n + 1 := ⟨len - 1, by omega⟩
          simp [Builtin.clear_, run_underlying hu, zeroValue, typeInfo, k1, k2, hst]
      · exact hk.elim
    split at hk
    · cases hx with
      | emp _ a =>
        refine ⟨_, _, _, .tuple #[], w, hk, ?_, After.pure h (tup0_ok _ _ _)⟩
        cases a <;> simp [Builtin.clear_, run_underlying hu]
    · rename_i g off len es
      split at hk
      · rename_i cells hg
        obtain ⟨hs, hfit, hk⟩ := hk
        cases hx with
        | ref _ _ _ _ b sz cap o j1 j2 j3 j4 j5 => exact row g off len es b sz cap o cap cells hg j1 j2 j4 hs hfit rfl hk
        | ref0 _ _ a j1 =>
          rcases h.heap.blk g true cells hg with ⟨_, hc0⟩ | ⟨b, sz, vs, ty2, p1, _⟩
          · subst hc0
            unfold zerosK at hk
            split at hk
            · obtain ⟨_, _, _, hk⟩ := hk
              have e1 : over ([] : List D) 0 [] = [] := rfl
              simp only [List.replicate_zero, List.flatten_nil, e1] at hk
              have : Hp.upd H [(g, .blk true [])] = H := by
                funext k
                by_cases e : k = g
                · subst e; simp [Hp.upd, Hp.set, hg]
                · simp [Hp.upd, Hp.set, e]
              refine ⟨_, _, _, .tuple #[], w, hk, by cases a <;> simp [Builtin.clear_, run_underlying hu], m, ?_, tup0_ok _ _ _, ?_, fun _ _ => rfl⟩
              · rw [this]; exact h
              · rw [this]; exact Grow.refl _ _
            · exact hk.elim
          · rw [j1] at p1; cases p1
      · exact hk.elim
    · rename_i g off len cp es
      split at hk
      · rename_i cells hg
        obtain ⟨hs, hfit, hk⟩ := hk
        cases hx with
        | cut _ _ _ _ _ b sz cap o j1 j2 j3 j4 j5 j6 => exact row g off len es b sz cap o cap cells hg j1 j2 (by omega) hs hfit rfl hk
      · exact hk.elim
    · exact hk.elim
  · exact hk.elim

/-- A piece of a row of which the room is known. -/
theorem cut_ok {t : TypeId} {g off len cp es : Nat} {v : Value} {lo hi mx : Option Operand} {ρ : Operand → D} {σ : Operand → Value} {K : D → Prop} (hρ : ∀ x, VV L w m (ρ x) (σ x)) (hv : VV L w m (.cut g off len cp es) v) (hk : cutK P t g off len cp es (lo.map ρ) (hi.map ρ) (mx.map ρ) K) :
    ∃ d u, K d ∧ VV L w m d u ∧ (Instr.sliceAt t v (lo.map σ) (hi.map σ) (mx.map σ)).run P w = .ok u w := by
  unfold cutK at hk
  split at hk
  · rename_i e he
    obtain ⟨hs, hk⟩ := hk
    have hu := und_slice P he
    cases hv with
    | cut _ _ _ _ _ b sz cap o k1 k2 k3 k4 k5 k6 =>
    unfold boundsC at hk
    split at hk
    · rename_i l h M hl hh hM
      obtain ⟨h0, h1, h2, h3, hk⟩ := hk
      have hb : ∀ (y : Nat) (k : IntKind) (n : Int) (c : BoundsCode), 0 ≤ n → n ≤ y → (Instr.sliceBound (.int k n) y c).run P w = .ok n.toNat w := fun y k n c hn hy => by
        simp [Instr.sliceBound, asIntOf, hn, hy]
      have hbound : ∃ c, c ≤ cap ∧ M.toNat ≤ c ∧ (Instr.sliceBounds true len cap (lo.map σ) (hi.map σ) (mx.map σ)).run P w = .ok (l.toNat, h.toNat, c) w := by
        have num : ∀ (x : Operand) (n : Int), natD (ρ x) = some n → ∃ k, σ x = .int k n := fun x n hn => natD_inv hn (hρ x)
        cases mx with
        | none =>
          simp only [Option.map_none, Option.some.injEq] at hM
          subst hM
          refine ⟨cap, Nat.le_refl _, by omega, ?_⟩
          cases hi with
          | none =>
            simp only [Option.map_none, Option.some.injEq] at hh
            subst hh
            cases lo with
            | none =>
              simp only [Option.map_none, Option.some.injEq] at hl
              subst hl
              simp [Instr.sliceBounds]
            | some a =>
              obtain ⟨k, e1⟩ := num a l (by simpa using hl)
              simp [Instr.sliceBounds, e1, hb len k l _ h0 (by omega)]
          | some c =>
            obtain ⟨k2, e2⟩ := num c h (by simpa using hh)
            cases lo with
            | none =>
              simp only [Option.map_none, Option.some.injEq] at hl
              subst hl
              simp [Instr.sliceBounds, e2, hb cap k2 h _ (by omega) (by omega)]
            | some a =>
              obtain ⟨k, e1⟩ := num a l (by simpa using hl)
              simp [Instr.sliceBounds, e1, e2, hb cap k2 h _ (by omega) (by omega), hb h.toNat k l _ h0 (by omega)]
        | some q =>
          obtain ⟨k3, e3⟩ := num q M (by simpa using hM)
          refine ⟨M.toNat, by omega, Nat.le_refl _, ?_⟩
          cases hi with
          | none => simp at hh
          | some c =>
            obtain ⟨k2, e2⟩ := num c h (by simpa using hh)
            cases lo with
            | none =>
              simp only [Option.map_none, Option.some.injEq] at hl
              subst hl
              simp [Instr.sliceBounds, e2, e3, hb cap k3 M _ (by omega) (by omega), hb M.toNat k2 h _ (by omega) (by omega)]
            | some a =>
              obtain ⟨k, e1⟩ := num a l (by simpa using hl)
              simp [Instr.sliceBounds, e1, e2, e3, hb cap k3 M _ (by omega) (by omega), hb M.toNat k2 h _ (by omega) (by omega), hb h.toNat k l _ h0 (by omega)]
      obtain ⟨c, c1, c2, hr⟩ := hbound
      refine ⟨_, .slice (if c = l.toNat then some ⟨b, o, none⟩ else some ⟨b, o + l.toNat * es, none⟩) (h.toNat - l.toNat) (c - l.toNat), hk, ?_, ?_⟩
      · have hmul : l.toNat * es + (c - l.toNat) * es = c * es := by rw [← Nat.add_mul]; congr 1; omega
        have hmul2 : c * es ≤ cap * es := Nat.mul_le_mul_right _ c1
        by_cases hci : c = l.toNat
        · rw [if_pos hci]
          exact .cut _ _ _ _ _ b sz _ o k1 (.inr (by omega)) (by omega) (by omega) (by omega) (by omega)
        · rw [if_neg hci]
          refine .cut _ _ _ _ _ b sz _ _ k1 ?_ (by omega) (by omega) (by omega) (by omega)
          rcases k2 with k2 | k2
          · exact .inl (by rw [k2])
          · exact .inr (by omega)
      · simp only [Instr.sliceAt, run_underlying hu, Instr.slice, hr, run_sz P hs, Sem.run_bind, Result.andThen_ok, Sem.run_pure, Option.map_some, add_off]
    · exact hk.elim
  · exact hk.elim

/-- Something else than cells, changed. -/
theorem set_obj (h : WR Γ L0 w0 m H w) {g : Nat} {o o' : Ob} (hg : H g = .obj o) {b : Nat} {v v' : Obj} (hm : m g = .at b 0) (hb : w.heap[b]? = some v) (ho : ObIs (Live L0 m H) w m o' v') :
    ∃ w', w' = { w with heap := w.heap.setIfInBounds b v' } ∧ ∀ d r, (∀ L' w' m', Grow (Live L0 m H) w L' w' → (∀ k, m k ≠ .res → m' k = m k) → VV L' w' m' d r) → After Γ L0 w0 fr H m w d [(g, .obj o')] r w' := by
  refine ⟨_, rfl, fun d r hr => ?_⟩
  have hlt := h.ltO hg hm
  have hold : ∀ k, k ≠ g → Hp.upd H [(g, .obj o')] k = H k := fun k hk => by simp [Hp.upd, Hp.set, hk]
  have hnew : Hp.upd H [(g, .obj o')] g = .obj o' := by simp [Hp.upd, Hp.set]
  have hlive : Live L0 m H b := .inr ⟨g, 0, by rw [hg]; rfl, hm⟩
  have hsub : ∀ k, Live L0 m (Hp.upd H [(g, .obj o')]) k → Live L0 m H k := by
    rintro k (hk | ⟨q, sz, hq, hmq⟩)
    · exact .inl hk
    · by_cases e : q = g
      · subst e; exact .inr ⟨q, sz, by rw [hg]; rfl, hmq⟩
      · rw [hold q e] at hq; exact .inr ⟨q, sz, hq, hmq⟩
  have hother : ∀ k, k ≠ b → (w.heap.setIfInBounds b v')[k]? = w.heap[k]? := fun k hk => by simp [Ne.symm hk]
  have hbase : w0.heap.size ≤ b := by
    obtain ⟨b', v2, k1, k2, _, _⟩ := h.heap.obj g o hg
    rw [k1] at hm; cases hm; exact k2
  have hgrow : Grow (Live L0 m H) w (Live L0 m (Hp.upd H [(g, .obj o')])) { w with heap := w.heap.setIfInBounds b v' } :=
    ⟨by simp, fun k hk hL => ⟨hother k (fun e => hL (by rw [e]; exact hlive)), fun hl => hL (hsub k hl)⟩⟩
  refine ⟨m, ⟨⟨?_, ?_, ?_, ?_⟩, ?_, h.l0, h.glob.mono hgrow⟩, hr _ _ _ hgrow (fun _ _ => rfl), hgrow, fun _ _ => rfl⟩
  · intro q rw cs hq
    by_cases e : q = g
    · subst e; rw [hnew] at hq; cases hq
    · rw [hold q e] at hq
      rcases h.heap.blk q rw cs hq with ⟨k1, k2⟩ | ⟨b2, sz2, vs2, ty2, k1, k2, k3, k4, k5, k6, k7⟩
      · exact .inl ⟨k1, k2⟩
      · have hne : b2 ≠ b := fun e3 => h.apart hq hg k1 (by rw [hm, e3])
        refine .inr ⟨b2, sz2, vs2, ty2, k1, k2, fun hrw hl => k3 hrw (hsub _ hl), by rw [hother b2 hne]; exact k4, k5, k6, fun i d hd => ?_⟩
        obtain ⟨v, hv, h1c, hvv⟩ := k7 i d hd
        exact ⟨v, hv, h1c, hvv.mono hgrow (fun _ _ => rfl)⟩
  · intro q q' cs rw' cs' b1 sz1 sz2 hq hq' hm1 hm2
    have e : q ≠ g := fun e => by subst e; rw [hnew] at hq; cases hq
    have e' : q' ≠ g := fun e => by subst e; rw [hnew] at hq'; cases hq'
    rw [hold q e] at hq; rw [hold q' e'] at hq'
    exact h.heap.inj q q' cs rw' cs' b1 sz1 sz2 hq hq' hm1 hm2
  · intro q o2 hq
    by_cases e : q = g
    · subst e
      rw [hnew] at hq; cases hq
      exact ⟨b, v', hm, hbase, by simp [hlt], ho.mono hgrow (fun _ _ => rfl)⟩
    · rw [hold q e] at hq
      obtain ⟨b2, v2, k1, k2, k3, k4⟩ := h.heap.obj q o2 hq
      have hne : b2 ≠ b := fun e3 => e (h.heap.injO q g o2 o b 0 0 hq hg (by rw [k1, e3]) hm)
      exact ⟨b2, v2, k1, k2, by rw [hother b2 hne]; exact k3, k4.mono hgrow (fun _ _ => rfl)⟩
  · intro q q' o1 o2 b1 s1 s2 hq hq' hm1 hm2
    have old : ∀ q o1, Hp.upd H [(g, .obj o')] q = .obj o1 → ∃ o, H q = .obj o := fun q o1 hq => by
      by_cases e : q = g
      · subst e; exact ⟨o, hg⟩
      · exact ⟨o1, by rw [← hold q e]; exact hq⟩
    obtain ⟨p1, hp1⟩ := old q o1 hq
    obtain ⟨p2, hp2⟩ := old q' o2 hq'
    exact h.heap.injO q q' p1 p2 b1 s1 s2 hp1 hp2 hm1 hm2
  · have hbl := h.below
    refine hbl.trans ⟨rfl, rfl, rfl, by simp, fun k hk => hother k (by omega)⟩

/-- Something else than cells, new. -/
theorem new_obj (h : WR Γ L0 w0 m H w) (hfr : m fr = .res) {o : Ob} {v : Obj} (ho : ObIs (Live L0 m H) w m o v) {d : D} {r : Value} (hd : ∀ L' w' m', m' fr = .at w.heap.size 0 → VV L' w' m' d r) : After Γ L0 w0 fr H m w d [(fr, .obj o)] r (w.alloc v) := by
  obtain ⟨k1, k2, k3, k4⟩ := h.newB (fr := fr) (w1 := w) (ob := v) (sz := 0) (H' := Hp.set H fr (.obj o)) hfr ⟨rfl, rfl, rfl, rfl⟩ (fun g hg => .inl (by simp [Hp.set, hg])) (fun rw cells hg => by simp [Hp.set] at hg) (fun o' hg => by
    simp [Hp.set] at hg; subst hg; exact ⟨rfl, ho⟩)
  exact ⟨_, k1, hd _ _ _ k4, k2, k3⟩

theorem und_map {t kt et : TypeId} (h : mapT P t = some (kt, et)) : P.underlying t = some (.map kt et) := by
  unfold mapT at h
  split at h
  · cases h; assumption
  · cases h
theorem key_is {kt : TypeId} {k : Data} {v : Value} (h : keyT P kt k = true) (hv : VD L w k v) : ∃ d, P.underlying kt = some d ∧ MapKept.IsKey d v := by
  unfold keyT at h
  split at h
  · rename_i hu
    cases hv
    exact ⟨_, hu, by simp only [MapKept.IsKey]; simpa using h⟩
  · rename_i hu
    cases hv
    exact ⟨_, hu, trivial⟩
  · rename_i hu
    cases hv
    exact ⟨_, hu, trivial⟩
  · cases h
theorem keyEq_ok {d : TypeDesc} {k x : Data} {v u : Value} {r : Bool} (hd : MapKept.IsKey d v) (hk : VD L w k v) (hx : VD L w x u) (h : keyEq k x = some r) : Instr.sameNow d v u = some r ∧ (r = true → u = v) := by
  unfold keyEq at h
  split at h
  · cases hk; cases hx
    split at h
    · rename_i e
      subst e
      cases h
      cases d <;> simp_all [MapKept.IsKey, Instr.sameNow]
    · cases h
  · cases hk; cases hx
    cases h
    cases d <;> simp_all [MapKept.IsKey, Instr.sameNow, MapKept.bytes_beq]
  · cases hk; cases hx
    cases h
    cases d <;> simp_all [MapKept.IsKey, Instr.sameNow]
  · cases h
theorem find_ok {d : TypeDesc} {k : Data} {v : Value} (hd : MapKept.IsKey d v) (hk : VD L w k v) : ∀ (ks : List Data) (l : List MapEntry) (i : Nat) (r : Option Nat), ks.length = l.length → (∀ (j : Nat) (x : Data) (e : MapEntry), ks[j]? = some x → l[j]? = some e → VD L w x e.key) → findD k ks i = some r →
    (r = none ∧ Instr.findNow d v l i = some none) ∨ ∃ j e, r = some (i + j) ∧ l[j]? = some e ∧ e.key = v ∧ Instr.findNow d v l i = some (some (i + j, e.val))
  | [], [], i, r, _, _, h => by
    simp only [findD, Option.some.injEq] at h
    exact .inl ⟨h.symm, rfl⟩
  | x :: ks, e :: l, i, r, hl, hv, h => by
    have h0 := hv 0 x e rfl rfl
    unfold findD at h
    split at h
    · rename_i hq
      obtain ⟨h1, h2⟩ := keyEq_ok hd hk h0 hq
      cases h
      exact .inr ⟨0, e, rfl, rfl, h2 rfl, by simp [Instr.findNow, h1]⟩
    · rename_i hq
      obtain ⟨h1, _⟩ := keyEq_ok hd hk h0 hq
      rcases find_ok hd hk ks l (i + 1) r (by simpa using hl) (fun j x e a b => hv (j + 1) x e (by simpa using a) (by simpa using b)) h with ⟨a, b⟩ | ⟨j, e', a, b, c, q⟩
      · exact .inl ⟨a, by simp [Instr.findNow, h1, b]⟩
      · exact .inr ⟨j + 1, e', by rw [a]; congr 1; omega, by simpa using b, c, by
          have : i + (j + 1) = i + 1 + j := by omega
          rw [this]
          simp [Instr.findNow, h1, q]⟩
    · cases h
  | [], _ :: _, _, _, hl, _, _ => by simp at hl
  | _ :: _, [], _, _, hl, _, _ => by simp at hl

theorem zv_ok {t : TypeId} {K : D → Prop} (h : zvK P t K) : ∃ d v, K d ∧ (∀ (L : Nat → Prop) (w : World) (m : Nat → MB), VV L w m d v) ∧ ∀ w, (zeroValue t).run P w = .ok v w := by
  unfold zvK at h
  split at h
  · rename_i d hd
    unfold zvT at hd
    cases hi : P.info? t with
    | none => rw [hi] at hd; cases hd
    | some i =>
      rw [hi, Option.bind_some, Option.map_eq_some_iff] at hd
      obtain ⟨v, hv, rfl⟩ := hd
      refine ⟨_, v, h, fun L w m => ?_, fun w => by simp [zeroValue, typeInfo, hi, hv]⟩
      unfold zvD
      split
      · rename_i vs
        refine VV.mk_agg (by simp) fun i x u hx hu => ?_
        simp only [List.getElem?_map, Option.map_eq_some_iff, Array.getElem?_toList] at hx
        obtain ⟨y, hy, rfl⟩ := hx
        rw [hu] at hy; cases hy
        exact cD_ok _
      · exact cD_ok _
  · exact h.elim

/-- What a map has for a key. -/
theorem look_ok {kt et : TypeId} {d : TypeDesc} {ks : List Data} {xs : List D} {es : Array MapEntry} {k : Data} {v : Value} {ok : Bool} {K : D → Prop} (hu : P.underlying kt = some d) (hd : MapKept.IsKey d v) (hk : VD L w k v) (hkl : ks.length = es.size) (hxl : xs.length = es.size)
    (hkv : ∀ (i : Nat) (x : Data) (e : MapEntry), ks[i]? = some x → es[i]? = some e → VD L w x e.key) (hxv : ∀ (i : Nat) (x : D) (e : MapEntry), xs[i]? = some x → es[i]? = some e → VV L w m x e.val) (h : lookK P et ks xs k ok K) :
    ∃ r u a, K r ∧ VV L w m r u ∧ (Instr.findKey kt v es.toList).run P w = .ok a w ∧ ((∃ p, a = some p ∧ u = if ok then Value.tuple #[p.2, .bool true] else p.2) ∨ (a = none ∧ ∃ z, (zeroValue et).run P w = .ok z w ∧ u = if ok then Value.tuple #[z, .bool false] else z)) := by
  unfold lookK at h
  split at h
  · rename_i i hf
    rcases find_ok hd hk ks es.toList 0 _ (by simpa using hkl) (fun j x e a b => hkv j x e a (by simpa using b)) hf with ⟨a, _⟩ | ⟨j, e, a, b, c, q⟩
    · cases a
    · simp only [Nat.zero_add, Option.some.injEq] at a
      subst a
      have hrun := MapKept.run_findKey (P := P) (w := w) hu q
      split at h
      · rename_i x hx
        have hv := hxv i x e hx (by simpa using b)
        exact ⟨_, e.val, _, h, hv, hrun, .inl ⟨_, rfl, rfl⟩⟩
      · rename_i x hx
        have hv := (hxv i (.data x) e hx (by simpa using b)).data_inv
        refine ⟨_, .tuple #[e.val, .bool true], _, h, .data _ _ (.tup _ _ rfl fun i y u hy hu => ?_), hrun, .inl ⟨_, rfl, rfl⟩⟩
        match i with
        | 0 => simp at hy hu; subst hy; subst hu; exact hv
        | 1 => simp at hy hu; subst hy; subst hu; exact .bool true
        | i + 2 => simp at hy
      · exact h.elim
  · rename_i hf
    rcases find_ok hd hk ks es.toList 0 _ (by simpa using hkl) (fun j x e a b => hkv j x e a (by simpa using b)) hf with ⟨_, q⟩ | ⟨j, e, a, _⟩
    · have hrun := MapKept.run_findKey (P := P) (w := w) hu q
      split at h
      · rename_i hok
        obtain ⟨z, u, h, hv, hz⟩ := zv_ok h
        split at h
        · rename_i x
          have hv := (hv L w m).data_inv
          refine ⟨_, .tuple #[u, .bool false], _, h, .data _ _ (.tup _ _ rfl fun i y u' hy hu => ?_), hrun, .inr ⟨rfl, u, hz w, by rw [if_pos hok]⟩⟩
          match i with
          | 0 => simp at hy hu; subst hy; subst hu; exact hv
          | 1 => simp at hy hu; subst hy; subst hu; exact .bool false
          | i + 2 => simp at hy
        · exact h.elim
      · rename_i hok
        obtain ⟨z, u, h, hv, hz⟩ := zv_ok h
        exact ⟨_, u, _, h, hv L w m, hrun, .inr ⟨rfl, u, hz w, by rw [if_neg hok]⟩⟩
    · cases a
  · exact h.elim

theorem lookup_ok {t : TypeId} {x key : D} {ok : Bool} {vx vk : Value} {K : D → List Nat → Prop} (h : WR Γ L0 w0 m H w) (hx : VV (Live L0 m H) w m x vx) (hkey : VV (Live L0 m H) w m key vk) (hk : lookupK P t x key ok H K) :
    ∃ d rd u, K d rd ∧ VV (Live L0 m H) w m d u ∧ (Instr.lookup t vx vk ok).run P w = .ok u w := by
  unfold lookupK at hk
  split at hk
  · rename_i kt et k hm
    obtain ⟨hkt, hk⟩ := hk
    have hkv := hkey.data_inv
    obtain ⟨d, hu, hd⟩ := key_is hkt hkv
    have hum := und_map hm
    split at hk
    · rename_i ks xs
      have hx := hx.data_inv
      cases hx with
      | mp _ _ b es clock hb hL hh hkl hxl h1 h2 hborn hclock =>
      obtain ⟨r, u, a, q1, q2, q3, q4⟩ := look_ok (m := m) (xs := xs.map .data) hu hd hkv hkl (by simpa using hxl) h1 (fun i x e hx he => by
        rw [List.getElem?_map, Option.map_eq_some_iff] at hx
        obtain ⟨y, hy, rfl⟩ := hx
        exact .data _ _ (h2 i y e hy he)) hk
      refine ⟨r, _, u, q1, q2, ?_⟩
      simp only [Instr.lookup, run_underlying hum, Sem.run_bind, Result.andThen_ok, MapKept.run_getObj_map hh, Sem.run_pure, MapKept.run_checkKey hu hd, q3]
      rcases q4 with ⟨p, rfl, rfl⟩ | ⟨rfl, z, hz, rfl⟩
      · simp
      · simp [hz]
    · rename_i g
      split at hk
      · rename_i ks xs hg
        obtain ⟨b, v, k1, k2, k3, k4⟩ := h.heap.obj g _ hg
        cases hx with
        | mref _ b' hm' =>
        rw [k1] at hm'; cases hm'
        cases k4 with
        | mp _ _ es clock hkl hxl h1 h2 hborn hclock =>
        obtain ⟨r, u, a, q1, q2, q3, q4⟩ := look_ok (m := m) hu hd hkv hkl hxl h1 h2 hk
        refine ⟨r, _, u, q1, q2, ?_⟩
        simp only [Instr.lookup, run_underlying hum, Sem.run_bind, Result.andThen_ok, MapKept.run_getObj_map k3, Sem.run_pure, MapKept.run_checkKey hu hd, q3]
        rcases q4 with ⟨p, rfl, rfl⟩ | ⟨rfl, z, hz, rfl⟩
        · simp
        · simp [hz]
      · exact hk.elim
    · exact hk.elim
  · exact hk.elim

theorem insert_ok {t : TypeId} {x key d : D} {vx vk v : Value} {K : List Nat → List (Nat × Blk) → Prop} (h : WR Γ L0 w0 m H w) (hx : VV (Live L0 m H) w m x vx) (hkey : VV (Live L0 m H) w m key vk) (hv : VV (Live L0 m H) w m d v) (hk : insertK P t x key d H K) :
    ∃ rd u w', K rd u ∧ (Instr.mapUpdate t vx vk v).run P w = .ok () w' ∧ After Γ L0 w0 fr H m w .junk u undef w' := by
  unfold insertK at hk
  split at hk
  · rename_i kt et k g hm
    obtain ⟨hkt, hk⟩ := hk
    have hkv := hkey.data_inv
    obtain ⟨d', hu, hd⟩ := key_is hkt hkv
    have hum := und_map hm
    split at hk
    · rename_i ks xs hg
      obtain ⟨b, ob, k1, k2, k3, k4⟩ := h.heap.obj g _ hg
      cases hx with
      | mref _ b' hm' =>
      rw [k1] at hm'; cases hm'
      cases k4 with
      | mp _ _ es clock hkl hxl h1 h2 hborn hclock =>
      split at hk
      · rename_i i hf
        rcases find_ok hd hkv ks es.toList 0 _ (by simpa using hkl) (fun j x e a b => h1 j x e a (by simpa using b)) hf with ⟨a, _⟩ | ⟨j, e, a, b', c, q⟩
        · cases a
        · simp only [Nat.zero_add, Option.some.injEq] at a
          subst a
          have hei : es[i]? = some e := by simpa using b'
          have hob : ObIs (Live L0 m H) w m (.mp ks (xs.set i d)) (.map (es.modify i fun e => { e with key := vk, val := v }) clock) := by
            refine .mp _ _ _ _ (by simpa using hkl) (by simpa using hxl) (fun j x e' hx he => ?_) (fun j x e' hx he => ?_) (fun j e' he => ?_) (by simpa using hclock)
            · rw [Array.getElem?_modify] at he
              split at he
              · rename_i e1
                subst e1
                rw [hei] at he
                simp only [Option.map_some, Option.some.injEq] at he
                subst he
                have := h1 i x e hx hei
                rw [c] at this
                exact this
              · exact h1 j x e' hx he
            · rw [Array.getElem?_modify] at he
              split at he
              · rename_i e1
                subst e1
                rw [hei] at he
                simp only [Option.map_some, Option.some.injEq] at he
                subst he
                have hlt : i < xs.length := by rw [hxl]; exact (Array.getElem?_eq_some_iff.1 hei).1
                rw [List.getElem?_set_self hlt] at hx
                cases hx
                exact hv
              · rename_i e1
                rw [List.getElem?_set_ne e1] at hx
                exact h2 j x e' hx he
            · rw [Array.getElem?_modify] at he
              split at he
              · rename_i e1
                subst e1
                rw [hei] at he
                simp only [Option.map_some, Option.some.injEq] at he
                subst he
                exact hborn i e hei
              · exact hborn j e' he
          obtain ⟨w', hw', haf⟩ := set_obj (fr := fr) h hg k1 k3 hob
          refine ⟨_, _, w', hk, ?_, haf _ _ (fun _ _ _ _ _ => .junk _)⟩
          rw [hw']
          have hstay : (Instr.keyThatStays e.key vk).run P w = .ok vk w := by rw [c]; exact MapKept.run_keyThatStays hd
          simp [Instr.mapUpdate, run_underlying hum, MapKept.run_getObj_map k3, MapKept.run_checkKey hu hd, MapKept.run_findKey hu q, hei, hstay, MapKept.run_setObj_map _ k3]
      · rename_i hf
        rcases find_ok hd hkv ks es.toList 0 _ (by simpa using hkl) (fun j x e a b => h1 j x e a (by simpa using b)) hf with ⟨_, q⟩ | ⟨j, e, a, _⟩
        · have hob : ObIs (Live L0 m H) w m (.mp (ks ++ [k]) (xs ++ [d])) (.map (es.push { key := vk, val := v, born := clock }) (clock + 1)) := by
            refine .mp _ _ _ _ (by simp [hkl]) (by simp [hxl]) (fun j x e' hx he => ?_) (fun j x e' hx he => ?_) (fun j e' he => ?_) (by simp [hclock])
            · rw [Array.getElem?_push] at he
              split at he
              · rename_i e1
                cases he
                rw [List.getElem?_append_right (by omega)] at hx
                have : j - ks.length = 0 := by omega
                rw [this] at hx
                simp at hx
                subst hx
                exact hkv
              · have hlt : j < es.size := (Array.getElem?_eq_some_iff.1 he).1
                rw [List.getElem?_append_left (by omega)] at hx
                exact h1 j x e' hx he
            · rw [Array.getElem?_push] at he
              split at he
              · rename_i e1
                cases he
                rw [List.getElem?_append_right (by omega)] at hx
                have : j - xs.length = 0 := by omega
                rw [this] at hx
                simp at hx
                subst hx
                exact hv
              · have hlt : j < es.size := (Array.getElem?_eq_some_iff.1 he).1
                rw [List.getElem?_append_left (by omega)] at hx
                exact h2 j x e' hx he
            · rw [Array.getElem?_push] at he
              split at he
              · rename_i e1
                cases he
                simp [hclock, e1]
              · exact hborn j e' he
          obtain ⟨w', hw', haf⟩ := set_obj (fr := fr) h hg k1 k3 hob
          refine ⟨_, _, w', hk, ?_, haf _ _ (fun _ _ _ _ _ => .junk _)⟩
          rw [hw']
          simp [Instr.mapUpdate, run_underlying hum, MapKept.run_getObj_map k3, MapKept.run_checkKey hu hd, MapKept.run_findKey hu q, MapKept.run_setObj_map _ k3]
        · cases a
      · exact hk.elim
    · exact hk.elim
  · exact hk.elim

theorem makeMap_ok {t : TypeId} (h : WR Γ L0 w0 m H w) (hfr : m fr = .res) : ∃ v w', (Instr.makeMap t none).run P w = .ok v w' ∧ After Γ L0 w0 fr H m w (.mref fr) [(fr, .obj (.mp [] []))] v w' := by
  refine ⟨.map (some w.heap.size), w.alloc (.map #[] 0), by simp [Instr.makeMap], new_obj h hfr (.mp [] [] #[] 0 rfl rfl (fun i x e hx => by simp at hx) (fun i x e hx => by simp at hx) (fun i e he => by simp at he) rfl) fun L' w' m' hm => .mref fr _ hm⟩

theorem range_ok {t : TypeId} {q : TypeId × TypeId} {ks xs : List Data} {vx : Value} (h : WR Γ L0 w0 m H w) (hfr : m fr = .res) (hq : mapT P t = some q) (hx : VV (Live L0 m H) w m (.data (.mp ks xs)) vx) :
    ∃ v w', (Instr.range t vx).run P w = .ok v w' ∧ After Γ L0 w0 fr H m w (.iref fr) [(fr, .obj (.it ks xs (List.range ks.length) none))] v w' := by
  obtain ⟨kt, et⟩ := q
  have hx0 := hx.data_inv
  have hx := hx0
  cases hx with
  | mp _ _ b es clock hb hL hh hkl hxl h1 h2 hborn hclock =>
  refine ⟨.pointer (some ⟨w.heap.size, 0, none⟩), w.alloc (.mapIter (some b) ks.length #[] ks.length), ?_, new_obj h hfr (.it ks xs _ none b #[] hx0 (fun i => by simp) (fun i hi => by cases hi)) fun L' w' m' hm => .iref fr _ hm⟩
  simp [Instr.range, run_underlying (und_map hq), MapKept.run_getObj_map hh, hclock, ← hkl]

theorem run_getObj_any {r : Nat} {o : Obj} (hb : w.heap[r]? = some o) (hn : ∀ vs ty fz, o ≠ .cells vs ty fz) : (getObj r).run P w = .ok o w := by
  cases o <;> simp_all [getObj, Sem.run]

theorem entry_ok {x : D} {vx : Value} {K : D → List Nat → Prop} (h : WR Γ L0 w0 m H w) (hx : VV (Live L0 m H) w m x vx) (hk : entryK x H K) :
    ∃ d rd u, K d rd ∧ VV (Live L0 m H) w m d u ∧ (Instr.entry vx).run P w = .ok u w := by
  unfold entryK at hk
  split at hk
  · rename_i g
    split at hk
    · rename_i ks xs left i hg
      obtain ⟨k, x, hki, hxi, hk⟩ := hk
      obtain ⟨b, ob, k1, k2, k3, k4⟩ := h.heap.obj g _ hg
      cases hx with
      | iref _ b' hm' =>
      rw [k1] at hm'; cases hm'
      cases k4 with
      | it _ _ _ _ bm seen hv hleft hcur =>
      obtain ⟨e1, e2⟩ := hcur i rfl
      cases hv with
      | mp _ _ _ es clock hb hL hh hkl hxl h1 h2 hborn hclock =>
      have hlt : i < es.size := by omega
      have hei : es[i]? = some es[i] := Array.getElem?_eq_getElem hlt
      have hfind : es.find? (·.born == i) = some es[i] := by
        rw [Array.find?_eq_some_iff_getElem]
        refine ⟨by simp [hborn i _ hei], i, hlt, rfl, fun j hj => ?_⟩
        have := hborn j es[j] (Array.getElem?_eq_getElem (by omega))
        simp [this]; omega
      refine ⟨_, _, .tuple #[es[i].key, es[i].val], hk, .data _ _ (.tup _ _ rfl fun j y u hy hu => ?_), ?_⟩
      · match j with
        | 0 => simp at hy hu; subst hy; subst hu; exact h1 i k _ hki hei
        | 1 => simp at hy hu; subst hy; subst hu; exact h2 i x _ hxi hei
        | j + 2 => simp at hy
      · have hg1 := run_getObj_any (P := P) k3 (fun vs ty fz e => by cases e)
        simp [Instr.entry, hg1, e1, MapKept.run_getObj_map hh, hclock, hkl, hfind]
    · exact hk.elim
  · exact hk.elim
end
end Go.Proofs.Ytedcnbkhdkchoaa
