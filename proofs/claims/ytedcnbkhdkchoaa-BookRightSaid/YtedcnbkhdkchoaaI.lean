/- Each operation keeps the relation: part six: values put together; the rest of the operations. -/
import Derived.Test.YtedcnbkhdkchoaaH
import Derived.Great.BuildSlice
namespace Go.Proofs.Ytedcnbkhdkchoaa
open Go.RowKit
set_option linter.unusedVariables false
set_option linter.unusedSimpArgs false

theorem foldl_set (off : Nat) : ∀ (xs : List Value) (k : Nat) (cells : Array Value), off + k + xs.length ≤ cells.size →
    ((xs.zipIdx k).foldl (fun cs x => cs.setIfInBounds (off + x.2) x.1) cells).size = cells.size ∧
      ∀ i, ((xs.zipIdx k).foldl (fun cs x => cs.setIfInBounds (off + x.2) x.1) cells)[i]? = if off + k ≤ i ∧ i < off + k + xs.length then xs[i - (off + k)]? else cells[i]?
  | [], k, cells, h => by
    refine ⟨rfl, fun i => ?_⟩
    rw [if_neg (by simp)]; rfl
  | x :: xs, k, cells, h => by
    simp only [List.zipIdx_cons, List.foldl_cons]
    obtain ⟨h1, h2⟩ := foldl_set off xs (k + 1) (cells.setIfInBounds (off + k) x) (by simp at h ⊢; omega)
    refine ⟨by rw [h1]; simp, fun i => ?_⟩
    rw [h2 i]
    simp only [List.length_cons] at h ⊢
    by_cases e : i = off + k
    · subst e
      rw [if_neg (by omega), if_pos (by omega)]
      simp only [Nat.sub_self, List.getElem?_cons_zero]
      rw [Array.getElem?_setIfInBounds_self_of_lt (by omega)]
    · by_cases e2 : off + (k + 1) ≤ i ∧ i < off + (k + 1) + xs.length
      · rw [if_pos e2, if_pos (by omega), show i - (off + k) = i - (off + (k + 1)) + 1 by omega, List.getElem?_cons_succ]
      · rw [if_neg e2, if_neg (by omega), Array.getElem?_setIfInBounds_ne (fun e3 => e e3.symm)]

section
variable {P : Program} {Γ : Nat → Option (List Data)} {L0 : Nat → Prop} {w0 : World} {m : Nat → MB} {H : Nat → Blk} {w : World} {fr : Nat} {L : Nat → Prop}

/-- Cells of the walk's stand to the model's. -/
def CellsV (L : Nat → Prop) (w : World) (m : Nat → MB) (cells : List D) (vs : Array Value) : Prop :=
  cells.length = vs.size ∧ ∀ (i : Nat) (d : D), cells[i]? = some d → ∃ v, vs[i]? = some v ∧ v.oneCell' = true ∧ VV L w m d v
/-- The same, of cells of which some may be anything. -/
def CellsJ (L : Nat → Prop) (w : World) (m : Nat → MB) (cells : List D) (vs : Array Value) : Prop :=
  cells.length = vs.size ∧ ∀ (i : Nat) (d : D) (v : Value), cells[i]? = some d → vs[i]? = some v → VV L w m d v

theorem fill_ok (place : Nat → Option (Nat × Nat)) : ∀ (parts : List (Nat × D)) (vparts : List (Nat × Value)) (cells cells' : List D) (vs : Array Value), parts.length = vparts.length →
    (∀ (i : Nat) (p : Nat × D) (q : Nat × Value), parts[i]? = some p → vparts[i]? = some q → p.1 = q.1 ∧ VV L w m p.2 q.2) → CellsJ L w m cells vs → fillD place cells parts = some cells' →
    ∃ vs', Instr.fill place vs vparts = some vs' ∧ CellsJ L w m cells' vs'
  | [], vparts, cells, cells', vs, hl, hp, hc, hf => by
    have : vparts = [] := List.eq_nil_of_length_eq_zero (by simpa using hl.symm)
    subst this
    simp only [fillD, Option.some.injEq] at hf
    subst hf
    exact ⟨vs, rfl, hc⟩
  | (i, d) :: parts, vparts, cells, cells', vs, hl, hp, hc, hf => by
    cases vparts with
    | nil => simp at hl
    | cons q vparts =>
      obtain ⟨j, v⟩ := q
      obtain ⟨hij, hv⟩ := hp 0 (i, d) (j, v) rfl rfl
      simp only at hij hv
      subst hij
      simp only [fillD] at hf
      cases hpl : place i with
      | none => simp [hpl] at hf
      | some os =>
        obtain ⟨off, size⟩ := os
        simp only [hpl] at hf
        split at hf
        · rename_i hcond
          obtain ⟨hsz, hfit, hall⟩ := hcond
          obtain ⟨hc1, hc2⟩ := hv.cells hall
          obtain ⟨hcl, hch⟩ := hc
          have hvs : v.cells.size = size := by omega
          obtain ⟨k1, k2⟩ := foldl_set off v.cells.toList 0 vs (by simp; omega)
          have hfold : v.cells.zipIdx.foldl (fun cs x => cs.setIfInBounds (off + x.2) x.1) vs = (v.cells.toList.zipIdx 0).foldl (fun cs x => cs.setIfInBounds (off + x.2) x.1) vs := by
            rw [← Array.foldl_toList]; simp
          have hj : CellsJ L w m (over cells off d.cells) (v.cells.zipIdx.foldl (fun cs x => cs.setIfInBounds (off + x.2) x.1) vs) := by
            refine ⟨by rw [over_length (by omega), hfold, k1]; exact hcl, fun k x y hx hy => ?_⟩
            rw [over_get (by omega)] at hx
            rw [hfold, k2 k] at hy
            simp only [Nat.add_zero, Array.length_toList] at hy
            split at hx
            · rename_i hin
              rw [if_pos (by omega)] at hy
              exact (hc2 _ x y hx (by simpa using hy)).1
            · rename_i hin
              rw [if_neg (by omega)] at hy
              exact hch k x y hx hy
          obtain ⟨vs', e1, e2⟩ := fill_ok place parts vparts (over cells off d.cells) cells' (v.cells.zipIdx.foldl (fun cs x => cs.setIfInBounds (off + x.2) x.1) vs) (by simpa using hl)
            (fun k p q h1 h2 => hp (k + 1) p q (by simpa using h1) (by simpa using h2)) hj hf
          refine ⟨vs', ?_, e2⟩
          have h3 : ¬ (off + size > vs.size) := by omega
          simp only [Instr.fill, hpl, hvs]
          simp only [ne_eq, not_true_eq_false, decide_false, Bool.false_or, h3, Bool.false_eq_true, if_false]
          exact e1
        · cases hf

theorem zero_cellsJ {t : TypeId} {z : List D} (hz : zeT P t = some z) : ∃ i v, P.info? t = some i ∧ i.zero = some v ∧ ∀ (L : Nat → Prop) (w : World) (m : Nat → MB), CellsJ L w m z v.cells := by
  obtain ⟨i, v, h1, h2, h3⟩ := zero_of P hz
  subst h3
  refine ⟨i, v, h1, h2, fun L w m => ⟨by simp, fun j d u hd hu => ?_⟩⟩
  simp only [List.getElem?_map, Option.map_eq_some_iff, Array.getElem?_toList] at hd
  obtain ⟨u', hu', rfl⟩ := hd
  rw [hu] at hu'
  cases hu'
  exact cD_ok u

theorem build_ok {t : TypeId} {parts : List (Nat × D)} {vparts : Array (Nat × Value)} {K : D → Prop} (hl : parts.length = vparts.size) (hp : ∀ (i : Nat) (p : Nat × D) (q : Nat × Value), parts[i]? = some p → vparts[i]? = some q → p.1 = q.1 ∧ VV L w m p.2 q.2)
    (hk : buildK P t parts K) : ∃ d v, K d ∧ VV L w m d v ∧ (Instr.build t vparts).run P w = .ok v w := by
  unfold buildK at hk
  split at hk
  · rename_i z hz
    obtain ⟨i, v, h1, h2, h3⟩ := zero_cellsJ hz
    have hl' : parts.length = vparts.toList.length := by simpa using hl
    have hp' : ∀ (i : Nat) (p : Nat × D) (q : Nat × Value), parts[i]? = some p → vparts.toList[i]? = some q → p.1 = q.1 ∧ VV L w m p.2 q.2 := fun i p q e1 e2 => hp i p q e1 (by simpa using e2)
    split at hk
    · rename_i n e he
      split at hk
      · rename_i es hs
        split at hk
        · rename_i cells hf
          obtain ⟨ie, hie, hse⟩ := info_of_sz P hs
          obtain ⟨vs', e1, e2, e3⟩ := fill_ok _ _ _ _ _ _ hl' hp' (h3 L w m) hf
          refine ⟨_, .agg vs', hk, VV.mk_agg e2 e3, run_build w t vparts vs' ?_⟩
          simp only [Program.built, h1, und_arr P he, h2, hie, hse]
          exact e1
        · exact hk.elim
      · exact hk.elim
    · split at hk
      · rename_i places hpl
        split at hk
        · rename_i cells hf
          obtain ⟨vs', e1, e2, e3⟩ := fill_ok _ _ _ _ _ _ hl' hp' (h3 L w m) hf
          refine ⟨_, .agg vs', hk, VV.mk_agg e2 e3, run_build w t vparts vs' ?_⟩
          unfold plT at hpl
          split at hpl
          · rename_i fs hu
            simp only [Program.built, h1, hu, h2, hpl, List.getElem?_toArray]
            exact e1
          · cases hpl
        · exact hk.elim
      · exact hk.elim
  · exact hk.elim

/-- Zero values one behind the other. -/
theorem zeros_get {z : List D} {v : Array Value} (hl : z.length = v.size) (h0 : 0 < z.length) (n : Nat) (hat : ∀ (i : Nat) (d : D), z[i]? = some d → ∃ u, v[i]? = some u ∧ u.oneCell' = true ∧ VV L w m d u) :
    CellsV L w m (List.replicate n z).flatten ((Array.range (n * v.size)).map (v[· % v.size]!)) := by
  have hfl : ∀ n, (List.replicate n z).flatten.length = n * z.length := fun n => by simp
  have hget : ∀ n i, i < n * z.length → (List.replicate n z).flatten[i]? = z[i % z.length]? := by
    intro n
    induction n with
    | zero => intro i hi; omega
    | succ n ih =>
      intro i hi
      rw [List.replicate_succ, List.flatten_cons]
      by_cases h1 : i < z.length
      · rw [List.getElem?_append_left h1, Nat.mod_eq_of_lt h1]
      · rw [List.getElem?_append_right (by omega), ih _ (by rw [Nat.succ_mul] at hi; omega)]
        congr 1
        rw [← Nat.mod_eq_sub_mod (by omega)]
  refine ⟨by rw [hfl, hl]; simp, fun i d hd => ?_⟩
  have hi := (List.getElem?_eq_some_iff.1 hd).1
  rw [hfl] at hi
  rw [hget n i hi] at hd
  obtain ⟨u, e1, e2, e3⟩ := hat _ d hd
  refine ⟨u, ?_, e2, e3⟩
  have hi2 : i < n * v.size := by rw [← hl]; exact hi
  have hm : i % z.length < v.size := by rw [← hl]; exact Nat.mod_lt _ h0
  rw [hl] at e1
  simp only [Array.getElem?_map, Array.getElem?_range, hi2, if_true, Option.map_some]
  simp [getElem!_def, e1]

theorem makeSlice_ok {t : TypeId} {e : TypeId} {es by_ : Nat} {n c : Int} {kn kc : IntKind} {z : List D} (h : WR Γ L0 w0 m H w) (hfr : m fr = .res) (he : sliceT P t = some e) (hs : szT P e = some es) (hb : byT P e = some by_)
    (h0 : 0 ≤ n) (h1 : n ≤ c) (h2 : c * by_ ≤ 140737488355328) (h3 : c ≤ 9223372036854775807) (hz : zeT P e = some z) (hall : z.all D.cell = true) (hzl : es = z.length) (hz0 : 0 < z.length) :
    ∃ v w', (Instr.makeSlice t (.int kn n) (.int kc c)).run P w = .ok v w' ∧ After Γ L0 w0 fr H m w (.ref fr 0 n.toNat es) [(fr, .blk true (List.replicate n.toNat z).flatten)] v w' := by
  obtain ⟨i, v, k1, k2, k3, k4⟩ := zero_cells hz hall
  have hu := und_slice P he
  obtain ⟨i', hi', his⟩ := info_of_sz P hs
  have hib : i.bytes = by_ := by unfold byT at hb; rw [k1] at hb; simpa using hb
  rw [k1] at hi'; cases hi'
  have hw1 : IntKind.i64.wrap n = n := by rw [IntKind.wrap_i64]; omega
  have hw2 : IntKind.i64.wrap c = c := by rw [IntKind.wrap_i64]; omega
  have hc0 : ¬ (c < 0) := by omega
  have hn0 : ¬ (n < 0) := by omega
  have hcn : ¬ (n > c) := by omega
  have hcb : ¬ (281474976710656 < (i.bytes : Int) * c) := by rw [hib, Int.mul_comm]; omega
  have hr0 : Array.range 0 = #[] := rfl
  have hcz := zeros_get (L := Live L0 m H) (w := w) (m := m) (n := c.toNat) k3 hz0 (k4 _ _ _)
  have hvs : v.cells.size = es := by omega
  have hsub : ∀ (j : Nat) (d : D), (List.replicate n.toNat z).flatten[j]? = some d → (List.replicate c.toNat z).flatten[j]? = some d := by
    intro j d hd
    obtain ⟨q, hq⟩ : ∃ q, c.toNat = n.toNat + q := ⟨c.toNat - n.toNat, by omega⟩
    rw [hq, ← List.replicate_append_replicate, List.flatten_append, List.getElem?_append_left (List.getElem?_eq_some_iff.1 hd).1]
    exact hd
  have hlen : (List.replicate n.toNat z).flatten.length ≤ ((Array.range (c.toNat * v.cells.size)).map (v.cells[· % v.cells.size]!)).size := by
    have : n.toNat * z.length ≤ c.toNat * v.cells.size := by rw [k3]; exact Nat.mul_le_mul_right _ (by omega)
    simp
    exact this
  obtain ⟨q1, q2, q3, q4⟩ := h.new (fr := fr) (w1 := w) (vs := (Array.range (c.toNat * v.cells.size)).map (v.cells[· % v.cells.size]!)) (ty := e) (fz := (0, 0)) (H' := Hp.set H fr (.blk true (List.replicate n.toNat z).flatten)) (cells := (List.replicate n.toNat z).flatten)
    hfr ⟨rfl, rfl, rfl, rfl⟩ (by simp [Hp.set]) (fun g hg => .inl (by simp [Hp.set, hg])) rfl hlen (fun j d hd => hcz.2 j d (hsub j d hd))
  refine ⟨.slice (some ⟨w.heap.size, 0, none⟩) n.toNat c.toNat, w.alloc (.cells ((Array.range (c.toNat * v.cells.size)).map (v.cells[· % v.cells.size]!)) e), ?_, _, q1, .ref fr 0 n.toNat es _ _ _ 0 q4 (.inl rfl) (by simp [hvs]) (by omega) (by unfold maxLen; omega), q2, q3⟩
  by_cases hc : c.toNat * es = 0
  · have hr : (Array.range (c.toNat * v.cells.size)).map (v.cells[· % v.cells.size]!) = #[] := by rw [hvs, hc]; simp
    rw [hr]
    simp [Instr.makeSlice, run_underlying hu, asInt, asIntOf, typeInfo, sizeOf, k1, his, hw1, hw2, hc0, hn0, hcn, hcb, hc, newRow, hr0]
  · simp [Instr.makeSlice, run_underlying hu, asInt, asIntOf, typeInfo, sizeOf, zeroValue, k1, k2, his, hw1, hw2, hc0, hn0, hcn, hcb, hc, newRow, hvs]

theorem buildSlice_ok {t e : TypeId} {len es : Nat} {z cells : List D} {parts : List (Nat × D)} {vparts : Array (Nat × Value)} (h : WR Γ L0 w0 m H w) (hfr : m fr = .res) (he : sliceT P t = some e) (hs : szT P e = some es) (hbig : len * es ≤ 16777216) (hpos : len ≠ 0)
    (hz : zeT P e = some z) (hall : z.all D.cell = true) (hzl : es = z.length) (hz0 : 0 < z.length)
    (hl : parts.length = vparts.size) (hp : ∀ (i : Nat) (p : Nat × D) (q : Nat × Value), parts[i]? = some p → vparts[i]? = some q → p.1 = q.1 ∧ VV (Live L0 m H) w m p.2 q.2)
    (hf : fillD (fun i => some (i * es, es)) (List.replicate len z).flatten parts = some cells) (hcell : cells.all D.cell = true) :
    ∃ v w', (Instr.buildSlice t len vparts).run P w = .ok v w' ∧ After Γ L0 w0 fr H m w (.ref fr 0 len es) [(fr, .blk true cells)] v w' := by
  obtain ⟨i, v, k1, k2, k3, k4⟩ := zero_cells hz hall
  have hu := und_slice P he
  obtain ⟨i', hi', his⟩ := info_of_sz P hs
  rw [k1] at hi'; cases hi'
  have hvs : v.cells.size = es := by omega
  have hcz := zeros_get (L := Live L0 m H) (w := w) (m := m) (n := len) k3 hz0 (k4 _ _ _)
  have hj : CellsJ (Live L0 m H) w m (List.replicate len z).flatten ((Array.range (len * es)).map (v.cells[· % v.cells.size]!)) := by
    rw [← hvs]
    refine ⟨hcz.1, fun j d u hd hu => ?_⟩
    obtain ⟨u', e1, _, e3⟩ := hcz.2 j d hd
    rw [hu] at e1; cases e1
    exact e3
  obtain ⟨vs', e1, e2, e3⟩ := fill_ok (fun i => some (i * es, es)) _ vparts.toList _ _ _ (by simpa using hl) (fun i p q a1 a2 => hp i p q a1 (by simpa using a2)) hj hf
  have hlencells : vs'.size = len * es := by
    have : ∀ (parts : List (Nat × D)) (cs cs' : List D), fillD (fun i => some (i * es, es)) cs parts = some cs' → cs'.length = cs.length := by
      intro parts
      induction parts with
      | nil => intro cs cs' h; simp [fillD] at h; rw [h]
      | cons p parts ih =>
        intro cs cs' h
        obtain ⟨q, d⟩ := p
        simp only [fillD] at h
        split at h
        · rename_i hc
          rw [ih _ _ h, over_length (by omega)]
        · cases h
    have := this _ _ _ hf
    rw [← e2, this]
    simp [← hzl]
  have hpos2 : ¬ (len * es = 0) := by
    have := Nat.mul_pos (Nat.pos_of_ne_zero hpos) (by omega : 0 < es)
    omega
  obtain ⟨q1, q2, q3, q4⟩ := h.new (fr := fr) (w1 := w) (vs := vs') (ty := e) (fz := (0, 0)) (H' := Hp.set H fr (.blk true cells)) (cells := cells)
    hfr ⟨rfl, rfl, rfl, rfl⟩ (by simp [Hp.set]) (fun g hg => .inl (by simp [Hp.set, hg])) rfl (by omega) (fun j d hd => by
      have hj := (List.getElem?_eq_some_iff.1 hd).1
      have hq := Array.getElem?_eq_getElem (xs := vs') (i := j) (by omega)
      have hvv := e3 j d _ hd hq
      rw [List.all_eq_true] at hcell
      exact ⟨_, hq, hvv.one (hcell d (List.mem_of_getElem? hd)), hvv⟩)
  have hmaxl : len ≤ maxLen := by
    have : len ≤ len * es := Nat.le_mul_of_pos_right _ (by omega)
    unfold maxLen; omega
  refine ⟨.slice (some ⟨w.heap.size, 0, none⟩) len len, w.alloc (.cells vs' e), ?_, _, q1, .ref fr 0 len es _ _ _ 0 q4 (.inl rfl) (by omega) (Nat.le_refl _) hmaxl, q2, q3⟩
  exact run_buildSlice w t e len vparts vs' i v hu k1 k2 (by rw [his]; omega) (by rw [his]; exact hpos2) (by rw [his]; exact e1)
end
end Go.Proofs.Ytedcnbkhdkchoaa
