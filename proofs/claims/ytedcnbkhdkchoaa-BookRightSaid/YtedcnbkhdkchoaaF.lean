/- Each operation keeps the relation: part three: places in rows, parts, slices, lengths, conversions. -/
import Derived.Test.YtedcnbkhdkchoaaE
namespace Go.Proofs.Ytedcnbkhdkchoaa
open Go.RowKit
set_option linter.unusedVariables false
set_option linter.unusedSimpArgs false

theorem flat_at {es : Nat} : ∀ {l : List Data}, (∀ x ∈ l, x.cells.length = es) → ∀ {i : Nat} {y : Data}, l[i]? = some y → ∀ {j : Nat} {c : Data}, y.cells[j]? = some c → (flat l)[i * es + j]? = some c
  | [], _, i, y, hy, _, _, _ => by simp at hy
  | x :: l, h, 0, y, hy, j, c, hc => by
    simp at hy
    subst hy
    have hj := (List.getElem?_eq_some_iff.1 hc).1
    simp only [flat, List.flatMap_cons, Nat.zero_mul, Nat.zero_add]
    rw [List.getElem?_append_left hj]
    exact hc
  | x :: l, h, i + 1, y, hy, j, c, hc => by
    have hx : x.cells.length = es := h x (by simp)
    have ih := flat_at (l := l) (fun z hz => h z (by simp [hz])) (i := i) (y := y) (by simpa using hy) hc
    simp only [flat, List.flatMap_cons]
    rw [List.getElem?_append_right (by rw [hx, Nat.succ_mul]; omega), hx, show (i + 1) * es + j - es = i * es + j by rw [Nat.succ_mul]; omega]
    exact ih
theorem flat_length {es : Nat} : ∀ {l : List Data}, (∀ x ∈ l, x.cells.length = es) → (flat l).length = l.length * es
  | [], _ => by simp [flat]
  | x :: l, h => by
    have := flat_length (l := l) (fun z hz => h z (by simp [hz]))
    have hx : x.cells.length = es := h x (by simp)
    simp only [flat, List.flatMap_cons, List.length_append, List.length_cons] at *
    rw [this, hx, Nat.succ_mul]; omega
theorem flat_append (l m : List Data) : flat (l ++ m) = flat l ++ flat m := by simp [flat]
theorem flat_drop {es : Nat} {l : List Data} (h : ∀ x ∈ l, x.cells.length = es) (k : Nat) (hk : k ≤ l.length) : flat (l.drop k) = (flat l).drop (k * es) := by
  have e : flat l = flat (l.take k) ++ flat (l.drop k) := by rw [← flat_append, List.take_append_drop]
  have hl : (flat (l.take k)).length = k * es := by
    rw [flat_length (es := es) (fun x hx => h x (List.mem_of_mem_take hx))]
    simp [Nat.min_eq_left hk]
  rw [e, List.drop_left' hl]
theorem flat_take {es : Nat} {l : List Data} (h : ∀ x ∈ l, x.cells.length = es) (k : Nat) (hk : k ≤ l.length) : flat (l.take k) = (flat l).take (k * es) := by
  have e : flat l = flat (l.take k) ++ flat (l.drop k) := by rw [← flat_append, List.take_append_drop]
  have hl : (flat (l.take k)).length = k * es := by
    rw [flat_length (es := es) (fun x hx => h x (List.mem_of_mem_take hx))]
    simp [Nat.min_eq_left hk]
  rw [e, List.take_left' hl]

section
variable {P : Program} {w : World} {m : Nat → MB} {L : Nat → Prop}

theorem int_inv {k : IntKind} {n : Int} {v : Value} (h : VV L w m (.data (.int k n)) v) : v = .int k n := by
  have := h.data_inv
  cases this; rfl

theorem indexAddr_ok {t : TypeId} {x ix : D} {v vi : Value} {K : D → Prop} (hv : VV L w m x v) (hi : VV L w m ix vi) (hk : indexAddrK P t x ix K) :
    ∃ d u, K d ∧ VV L w m d u ∧ (Instr.indexAt t v vi).run P w = .ok u w := by
  unfold indexAddrK at hk
  split at hk
  · rename_i k i
    obtain rfl := int_inv hi
    split at hk
    · rename_i es l
      split at hk
      · rename_i e he
        obtain ⟨hs, h0, y, hy, hk⟩ := hk
        have hu := und_slice P he
        have hv := hv.data_inv
        cases hv with
        | sl _ _ a n cap b off vs hn hle hm hes ha hc hvv =>
        subst hn
        have hlt : i.toNat < l.length := (List.getElem?_eq_some_iff.1 hy).1
        rcases ha with ⟨rfl, hb, hL⟩ | h1
        · refine ⟨_, .pointer (some ⟨b, off + i.toNat * es, none⟩), hk, .cptr _ b (off + i.toNat * es) (fun j => vs (i.toNat * es + j)) hb hL (fun j c hj => ?_) (fun j c hj => ?_), ?_⟩
          · rw [Nat.add_assoc]; exact hc _ c (flat_at hes hy hj)
          · exact hvv _ c (flat_at hes hy hj)
          · have hr : (0 : Int) ≤ i ∧ i < (l.length : Int) := ⟨h0, by omega⟩
            simp [Instr.indexAt, asIntOf, run_underlying hu, hr, run_sz P hs, add_off]
        · subst h1; simp at hlt
      · exact hk.elim
    · rename_i g off len es
      split at hk
      · rename_i e he
        obtain ⟨hs, h0, hlt, hk⟩ := hk
        have hu := und_slice P he
        have hr : (0 : Int) ≤ i ∧ i < (len : Int) := ⟨h0, hlt⟩
        cases hv with
        | ref _ _ _ _ b sz cap o h1 h2 h3 h4 h5 =>
          have ho : o = off := by
            rcases h2 with h2 | h2
            · exact h2
            · omega
          subst ho
          refine ⟨_, _, hk, .ptr _ _ b sz h1, ?_⟩
          simp [Instr.indexAt, asIntOf, run_underlying hu, hr, run_sz P hs, add_off]
        | ref0 _ _ a h1 => omega
      · exact hk.elim
    · rename_i g off
      split at hk
      · rename_i n e he
        obtain ⟨h0, hlt, hk⟩ := hk
        split at hk
        · rename_i es hs
          have hu := und_arr P he
          have hr : (0 : Int) ≤ i ∧ i < (n : Int) := ⟨h0, hlt⟩
          cases hv with
          | ptr _ _ b sz h1 =>
          refine ⟨_, _, hk, .ptr _ _ b sz h1, ?_⟩
          simp [Instr.indexAt, asIntOf, run_underlying hu, hr, run_sz P hs, add_off, Instr.sureAddr]
        · exact hk.elim
      · exact hk.elim
    · rename_i cells
      split at hk
      · rename_i n e he
        obtain ⟨h0, hlt, hk⟩ := hk
        split at hk
        · rename_i es hs
          have hu := und_arr P he
          have hr : (0 : Int) ≤ i ∧ i < (n : Int) := ⟨h0, hlt⟩
          cases hv with
          | cptr _ b off vs hb hL hc hvv =>
          refine ⟨_, .pointer (some ⟨b, off + i.toNat * es, none⟩), hk, .cptr _ b (off + i.toNat * es) (fun j => vs (i.toNat * es + j)) hb hL (fun j c hj => ?_) (fun j c hj => ?_), ?_⟩
          · rw [List.getElem?_drop] at hj
            rw [Nat.add_assoc]; exact hc _ c hj
          · rw [List.getElem?_drop] at hj
            exact hvv _ c hj
          · simp [Instr.indexAt, asIntOf, run_underlying hu, hr, run_sz P hs, add_off, Instr.sureAddr]
        · exact hk.elim
      · exact hk.elim
    · exact hk.elim
  · exact hk.elim

theorem aggD_inv {x : D} {cs : List D} {v : Value} (h : aggD x = some cs) (hv : VV L w m x v) : ∃ vs, v = .agg vs ∧ cs.length = vs.size ∧ ∀ (i : Nat) (d : D) (u : Value), cs[i]? = some d → vs[i]? = some u → VV L w m d u := by
  unfold aggD at h
  split at h
  · rename_i xs
    cases h
    have hv := hv.data_inv
    cases hv with
    | agg _ vs hl hh =>
    refine ⟨vs, rfl, by simpa using hl, fun i d u hd hu => ?_⟩
    simp only [List.getElem?_map, Option.map_eq_some_iff] at hd
    obtain ⟨y, hy, rfl⟩ := hd
    exact .data _ _ (hh i y u hy hu)
  · cases h
    cases hv with
    | agg _ vs hl hh => exact ⟨vs, rfl, hl, hh⟩
  · cases h

theorem part_ok {t : TypeId} {cs : List D} {off : Nat} {vs : Array Value} {K : D → Prop} (hl : cs.length = vs.size) (hh : ∀ (i : Nat) (d : D) (u : Value), cs[i]? = some d → vs[i]? = some u → VV L w m d u) (hk : partK P t cs off K) :
    ∃ d u, K d ∧ VV L w m d u ∧ (part t vs off).run P w = .ok u w := by
  unfold partK at hk
  split at hk
  · rename_i n ha hs
    obtain ⟨hfit, hk⟩ := hk
    refine ⟨_, .agg (vs.extract off (off + n)), hk, VV.mk_agg (by simp; omega) fun i x v hx hv => ?_, ?_⟩
    · rw [List.getElem?_take] at hx
      split at hx
      · rename_i hi
        rw [List.getElem?_drop] at hx
        refine hh (off + i) x v hx ?_
        rw [Array.getElem?_extract] at hv
        split at hv
        · exact hv
        · cases hv
      · cases hx
    · simp [part, run_isAggT P ha, run_sz P hs]
  · rename_i ha
    obtain ⟨d, hd, hk⟩ := hk
    have hi : off < vs.size := by rw [← hl]; exact (List.getElem?_eq_some_iff.1 hd).1
    refine ⟨_, _, hk, hh off d _ hd (Array.getElem?_eq_getElem hi), ?_⟩
    simp [part, run_isAggT P ha, hi]
  · exact hk.elim

theorem fieldV_ok {t : TypeId} {x : D} {v : Value} {f : Nat} {K : D → Prop} (hv : VV L w m x v) (hk : fieldK P t x f K) :
    ∃ d u, K d ∧ VV L w m d u ∧ (Instr.field t v f).run P w = .ok u w := by
  unfold fieldK at hk
  split at hk
  · rename_i o ft cs hf ha
    obtain ⟨fs, fd, hu, hfd, rfl, rfl⟩ := field_of P hf
    obtain ⟨vs, rfl, hl, hh⟩ := aggD_inv ha hv
    obtain ⟨d, u, h1, h2, h3⟩ := part_ok hl hh hk
    refine ⟨d, u, h1, h2, ?_⟩
    simp [Instr.field, run_underlying hu, hfd, asAgg, h3]
  · exact hk.elim

theorem indexV_ok {t : TypeId} {x ix : D} {v vi : Value} {K : D → Prop} (hv : VV L w m x v) (hi : VV L w m ix vi) (hk : indexK P t x ix K) :
    ∃ d u, K d ∧ VV L w m d u ∧ (Instr.index t v vi).run P w = .ok u w := by
  unfold indexK at hk
  split at hk
  · rename_i k i
    obtain rfl := int_inv hi
    split at hk
    · rename_i s
      obtain ⟨ht, h0, b, hb, hk⟩ := hk
      have hu := und_str P ht
      have hv := hv.data_inv
      cases hv
      refine ⟨_, _, hk, .data _ _ (.int _ _), ?_⟩
      simp [Instr.index, asIntOf, run_underlying hu, h0, hb]
    · split at hk
      · rename_i n e cs he ha
        obtain ⟨h0, hlt, hk⟩ := hk
        split at hk
        · rename_i es hs
          have hu := und_arr P he
          obtain ⟨vs, rfl, hl, hh⟩ := aggD_inv ha hv
          obtain ⟨d, u, h1, h2, h3⟩ := part_ok hl hh hk
          refine ⟨d, u, h1, h2, ?_⟩
          have hr : (0 : Int) ≤ i ∧ i < (n : Int) := ⟨h0, hlt⟩
          simp [Instr.index, asIntOf, run_underlying hu, hr, run_sz P hs, h3]
        · exact hk.elim
      · exact hk.elim
  · exact hk.elim

theorem natD_inv {d : D} {v : Value} {n : Int} (h : natD d = some n) (hv : VV L w m d v) : ∃ k, v = .int k n := by
  unfold natD at h
  split at h
  · cases h
    exact ⟨_, int_inv hv⟩
  · cases h

/-- The model's own bounds. -/
theorem bounds_ok {isSlice : Bool} {len cap : Nat} {lo hi : Option D} {vlo vhi : Option Value} {K : Nat → Nat → Prop} (hc : len ≤ cap)
    (hlo : ∀ d, lo = some d → ∃ v, vlo = some v ∧ VV L w m d v) (hlo0 : lo = none → vlo = none) (hhi : ∀ d, hi = some d → ∃ v, vhi = some v ∧ VV L w m d v) (hhi0 : hi = none → vhi = none) (hk : boundsK len lo hi K) :
    ∃ a b, K a b ∧ a ≤ b ∧ b ≤ len ∧ (Instr.sliceBounds isSlice len cap vlo vhi none).run P w = .ok (a, b, cap) w := by
  unfold boundsK at hk
  split at hk
  · rename_i l h hl hh
    obtain ⟨h0, h1, h2, hk⟩ := hk
    refine ⟨l.toNat, h.toNat, hk, by omega, by omega, ?_⟩
    have hb : ∀ (y : Nat) (k : IntKind) (n : Int) (c : BoundsCode), 0 ≤ n → n ≤ y → (Instr.sliceBound (.int k n) y c).run P w = .ok n.toNat w := fun y k n c hn hy => by
      simp [Instr.sliceBound, asIntOf, hn, hy]
    cases hi with
    | none =>
      simp only [Option.some.injEq] at hh
      subst hh
      rw [hhi0 rfl]
      cases lo with
      | none =>
        simp only [Option.some.injEq] at hl
        subst hl
        rw [hlo0 rfl]
        simp [Instr.sliceBounds]
      | some d =>
        obtain ⟨v, e1, e2⟩ := hlo d rfl
        obtain ⟨k, rfl⟩ := natD_inv hl e2
        rw [e1]
        simp [Instr.sliceBounds, hb len k l _ h0 (by omega)]
    | some dh =>
      obtain ⟨v2, e3, e4⟩ := hhi dh rfl
      obtain ⟨k2, rfl⟩ := natD_inv hh e4
      rw [e3]
      cases lo with
      | none =>
        simp only [Option.some.injEq] at hl
        subst hl
        rw [hlo0 rfl]
        simp [Instr.sliceBounds, hb cap k2 h _ (by omega) (by omega)]
      | some d =>
        obtain ⟨v, e1, e2⟩ := hlo d rfl
        obtain ⟨k, rfl⟩ := natD_inv hl e2
        rw [e1]
        simp [Instr.sliceBounds, hb cap k2 h _ (by omega) (by omega), hb h.toNat k l _ h0 (by omega)]
  · exact hk.elim

theorem map_some {a : Option Operand} {ρ : Operand → D} {σ : Operand → Value} (h : ∀ x, VV L w m (ρ x) (σ x)) : (∀ d, a.map ρ = some d → ∃ v, a.map σ = some v ∧ VV L w m d v) ∧ (a.map ρ = none → a.map σ = none) := by
  cases a with
  | none => exact ⟨fun d hd => (by cases hd), fun _ => rfl⟩
  | some x => exact ⟨fun d hd => by cases hd; exact ⟨_, rfl, h x⟩, fun hd => by cases hd⟩

theorem slice_ok {t : TypeId} {x : D} {v : Value} {lo hi mx : Option Operand} {ρ : Operand → D} {σ : Operand → Value} {K : D → Prop} (hρ : ∀ x, VV L w m (ρ x) (σ x)) (hv : VV L w m x v) (hk : sliceK P t x (lo.map ρ) (hi.map ρ) (mx.map ρ) K) :
    ∃ d u, K d ∧ VV L w m d u ∧ (Instr.sliceAt t v (lo.map σ) (hi.map σ) (mx.map σ)).run P w = .ok u w := by
  obtain ⟨l1, l2⟩ := map_some (a := lo) hρ
  obtain ⟨h1, h2⟩ := map_some (a := hi) hρ
  unfold sliceK at hk
  split at hk
  · exact hk.elim
  · rename_i hmx
    have hmx : mx = none := by cases mx with | none => rfl | some _ => cases hmx
    subst hmx
    simp only [Option.map_none]
    split at hk
    · rename_i s
      obtain ⟨ht, hk⟩ := hk
      have hu := und_str P ht
      have hv := hv.data_inv
      cases hv
      obtain ⟨a, b, hk, hab, hbl, hr⟩ := bounds_ok (P := P) (isSlice := false) (cap := s.size) (Nat.le_refl _) l1 l2 h1 h2 hk
      refine ⟨_, _, hk, .data _ _ (.str _), ?_⟩
      simp [Instr.sliceAt, run_underlying hu, Instr.slice, hr]
    · rename_i es l
      split at hk
      · rename_i e he
        obtain ⟨hs, hk⟩ := hk
        have hu := und_slice P he
        have hv := hv.data_inv
        cases hv with
        | sl _ _ a n cap b off vs hn hle hm hes ha hc hvv =>
        subst hn
        obtain ⟨i, j, hk, hab, hbl, hr⟩ := bounds_ok (P := P) (isSlice := true) (cap := cap) hle l1 l2 h1 h2 hk
        have hes' : ∀ x ∈ (l.take j).drop i, x.cells.length = es := fun x hx => hes x (List.mem_of_mem_take (List.mem_of_mem_drop hx))
        have hlen : j - i = ((l.take j).drop i).length := by simp; omega
        have hfl : flat ((l.take j).drop i) = ((flat l).take (j * es)).drop (i * es) := by
          rw [flat_drop (fun x hx => hes x (List.mem_of_mem_take hx)) i (by simp; omega), flat_take hes j hbl]
        refine ⟨_, .slice (if cap = i then a else a.map (·.add (i * es))) (j - i) (cap - i), hk, .data _ _ ?_, ?_⟩
        · by_cases hij : i = j
          · refine .sl es _ _ _ _ b off vs hlen (by omega) (by omega) hes' (.inr (by simp; omega)) (fun q c hq => ?_) (fun q c hq => ?_)
            all_goals
              rw [hfl] at hq
              have := (List.getElem?_eq_some_iff.1 hq).1
              simp [hij] at this
          · rcases ha with ⟨rfl, hb, hL⟩ | h0
            · rw [if_neg (by omega)]
              refine .sl es _ _ _ _ b (off + i * es) (fun q => vs (i * es + q)) hlen (by omega) (by omega) hes' (.inl ⟨by simp [add_off], hb, hL⟩) (fun q c hq => ?_) (fun q c hq => ?_)
              all_goals
                rw [hfl, List.getElem?_drop, List.getElem?_take] at hq
                split at hq
                · first
                  | exact hvv _ c hq
                  | (rw [Nat.add_assoc]; exact hc _ c hq)
                · cases hq
            · subst h0; simp at hbl; omega
        · simp [Instr.sliceAt, run_underlying hu, Instr.slice, hr, run_sz P hs]
      · exact hk.elim
    · rename_i g off len es
      split at hk
      · rename_i e he
        obtain ⟨hs, hk⟩ := hk
        have hu := und_slice P he
        cases hv with
        | ref _ _ _ _ b sz cap o k1 k2 k3 k4 k5 =>
          obtain ⟨i, j, hk, hab, hbl, hr⟩ := bounds_ok (P := P) (isSlice := true) (cap := cap) k4 l1 l2 h1 h2 hk
          refine ⟨_, .slice (if cap = i then some ⟨b, o, none⟩ else some ⟨b, o + i * es, none⟩) (j - i) (cap - i), hk, ?_, ?_⟩
          · have hmul : i * es + (cap - i) * es = cap * es := by rw [← Nat.add_mul]; congr 1; omega
            by_cases hci : cap = i
            · rw [if_pos hci]
              exact .ref _ _ _ _ b sz _ o k1 (.inr (by omega)) (by omega) (by omega) (by omega)
            · rw [if_neg hci]
              refine .ref _ _ _ _ b sz _ _ k1 ?_ (by omega) (by omega) (by omega)
              rcases k2 with k2 | k2
              · exact .inl (by rw [k2])
              · exact .inr (by omega)
          · simp only [Instr.sliceAt, run_underlying hu, Instr.slice, hr, run_sz P hs, Sem.run_bind, Result.andThen_ok, Sem.run_pure, Option.map_some, add_off]
        | ref0 _ _ a k1 =>
          obtain ⟨i, j, hk, hab, hbl, hr⟩ := bounds_ok (P := P) (isSlice := true) (cap := 0) (Nat.le_refl _) l1 l2 h1 h2 hk
          have hj : j = 0 := by omega
          have hi0 : i = 0 := by omega
          subst hj; subst hi0
          refine ⟨_, .slice a 0 0, hk, ?_, ?_⟩
          · simp only [Nat.zero_mul, Nat.add_zero, Nat.sub_zero]
            exact .ref0 _ _ a k1
          · simp [Instr.sliceAt, run_underlying hu, Instr.slice, hr, run_sz P hs]
      · exact hk.elim
    · rename_i es
      split at hk
      · rename_i e he
        obtain ⟨hs, hk⟩ := hk
        have hu := und_slice P he
        cases hv with
        | emp _ a =>
        obtain ⟨i, j, hk, hab, hbl, hr⟩ := bounds_ok (P := P) (isSlice := true) (cap := 0) (Nat.le_refl _) l1 l2 h1 h2 hk
        have hj : j = 0 := by omega
        have hi0 : i = 0 := by omega
        subst hj; subst hi0
        refine ⟨_, .slice a 0 0, hk, .emp es a, ?_⟩
        simp [Instr.sliceAt, run_underlying hu, Instr.slice, hr, run_sz P hs]
      · exact hk.elim
    · exact hk.elim
end
end Go.Proofs.Ytedcnbkhdkchoaa
