/- Each operation keeps the relation: part three: places in rows, parts, slices, lengths, conversions. Each operation keeps the relation: part four: rows that are made, filled, appended to. Each operation keeps the relation: part five: append. Each operation keeps the relation: part six: values put together; the rest of the operations. Each operation keeps the relation: part seven: the rest, and all of them. Each operation keeps the relation: rows of which the room is known, rows put to zero, maps. -/
import Derived.Test.YtdodhnkbdechaaaPk1
import Derived.Great.BuildSlice
import Derived.Laws.IdiomStrings
import Derived.Lib.BufferRead
import Derived.MapKept
namespace Go.Proofs.Ytdodhnkbdechaaa
open Go.RowKit
set_option linter.unusedVariables false
set_option linter.unusedSimpArgs false

theorem flat_at {es : Nat} : ∀ {l : List Data}, (∀ x ∈ l, x.cells.length = es) → ∀ {i : Nat} {y : Data}, l[i]? = some y → ∀ {j : Nat} {c : Data}, y.cells[j]? = some c → (flat l)[i * es + j]? = some c
  | [], _, i, y, hy, _, _, _ => by simp at hy
  | x :: l, h, 0, y, hy, j, c, hc => by
    simp at hy
    subst hy
    have hj := (List.getElem?_eq_some_iff.1 hc).1
    simp only [flat, List.flatMap_cons, Nat.zero_mul, Nat.zero_add]
    rw [List.getElem?_append_left hj]
    exact hc
  | x :: l, h, i + 1, y, hy, j, c, hc => by
    have hx : x.cells.length = es := h x (by simp)
    have ih := flat_at (l := l) (fun z hz => h z (by simp [hz])) (i := i) (y := y) (by simpa using hy) hc
    simp only [flat, List.flatMap_cons]
    rw [List.getElem?_append_right (by rw [hx, Nat.succ_mul]; omega), hx, show (i + 1) * es + j - es = i * es + j by rw [Nat.succ_mul]; omega]
    exact ih
theorem flat_length {es : Nat} : ∀ {l : List Data}, (∀ x ∈ l, x.cells.length = es) → (flat l).length = l.length * es
  | [], _ => by simp [flat]
  | x :: l, h => by
    have := flat_length (l := l) (fun z hz => h z (by simp [hz]))
    have hx : x.cells.length = es := h x (by simp)
    simp only [flat, List.flatMap_cons, List.length_append, List.length_cons] at *
    rw [this, hx, Nat.succ_mul]; omega
theorem flat_append (l m : List Data) : flat (l ++ m) = flat l ++ flat m := by simp [flat]
theorem flat_drop {es : Nat} {l : List Data} (h : ∀ x ∈ l, x.cells.length = es) (k : Nat) (hk : k ≤ l.length) : flat (l.drop k) = (flat l).drop (k * es) := by
  have e : flat l = flat (l.take k) ++ flat (l.drop k) := by rw [← flat_append, List.take_append_drop]
  have hl : (flat (l.take k)).length = k * es := by
    rw [flat_length (es := es) (fun x hx => h x (List.mem_of_mem_take hx))]
    simp [Nat.min_eq_left hk]
  rw [e, List.drop_left' hl]
theorem flat_take {es : Nat} {l : List Data} (h : ∀ x ∈ l, x.cells.length = es) (k : Nat) (hk : k ≤ l.length) : flat (l.take k) = (flat l).take (k * es) := by
  have e : flat l = flat (l.take k) ++ flat (l.drop k) := by rw [← flat_append, List.take_append_drop]
  have hl : (flat (l.take k)).length = k * es := by
    rw [flat_length (es := es) (fun x hx => h x (List.mem_of_mem_take hx))]
    simp [Nat.min_eq_left hk]
  rw [e, List.take_left' hl]

section
variable {P : Program} {w : World} {m : Nat → MB} {L : Nat → Prop}

theorem int_inv {k : IntKind} {n : Int} {v : Value} (h : VV L w m (.data (.int k n)) v) : v = .int k n := by
  have := h.data_inv
  cases this; rfl

theorem indexAddr_ok {t : TypeId} {x ix : D} {v vi : Value} {K : D → Prop} (hv : VV L w m x v) (hi : VV L w m ix vi) (hk : indexAddrK P t x ix K) :
    ∃ d u, K d ∧ VV L w m d u ∧ (Instr.indexAt t v vi).run P w = .ok u w := by
  unfold indexAddrK at hk
  split at hk
  · rename_i k i
    obtain rfl := int_inv hi
    split at hk
    · rename_i es l
      split at hk
      · rename_i e he
        obtain ⟨hs, h0, y, hy, hk⟩ := hk
        have hu := und_slice P he
        have hv := hv.data_inv
        cases hv with
        | sl _ _ a n cap b off vs hn hle hm hes ha hc hvv =>
        subst hn
        have hlt : i.toNat < l.length := (List.getElem?_eq_some_iff.1 hy).1
        rcases ha with ⟨rfl, hb, hL⟩ | h1
        · refine ⟨_, .pointer (some ⟨b, off + i.toNat * es, none⟩), hk, .cptr _ b (off + i.toNat * es) (fun j => vs (i.toNat * es + j)) hb hL (fun j c hj => ?_) (fun j c hj => ?_), ?_⟩
          · rw [Nat.add_assoc]; exact hc _ c (flat_at hes hy hj)
          · exact hvv _ c (flat_at hes hy hj)
          · have hr : (0 : Int) ≤ i ∧ i < (l.length : Int) := ⟨h0, by omega⟩
            simp [Instr.indexAt, asIntOf, run_underlying hu, hr, run_sz P hs, add_off]
        · subst h1; simp at hlt
      · exact hk.elim
    · rename_i g off len es
      split at hk
      · rename_i e he
        obtain ⟨hs, h0, hlt, hk⟩ := hk
        have hu := und_slice P he
        have hr : (0 : Int) ≤ i ∧ i < (len : Int) := ⟨h0, hlt⟩
        cases hv with
        | ref _ _ _ _ b sz cap o h1 h2 h3 h4 h5 =>
          have ho : o = off := by
            rcases h2 with h2 | h2
            · exact h2
            · omega
          subst ho
          refine ⟨_, _, hk, .ptr _ _ b sz h1, ?_⟩
          simp [Instr.indexAt, asIntOf, run_underlying hu, hr, run_sz P hs, add_off]
        | ref0 _ _ a h1 => omega
      · exact hk.elim
    · rename_i g off
      split at hk
      · rename_i n e he
        obtain ⟨h0, hlt, hk⟩ := hk
        split at hk
        · rename_i es hs
          have hu := und_arr P he
          have hr : (0 : Int) ≤ i ∧ i < (n : Int) := ⟨h0, hlt⟩
          cases hv with
          | ptr _ _ b sz h1 =>
          refine ⟨_, _, hk, .ptr _ _ b sz h1, ?_⟩
          simp [Instr.indexAt, asIntOf, run_underlying hu, hr, run_sz P hs, add_off, Instr.sureAddr]
        · exact hk.elim
      · exact hk.elim
    · rename_i cells
      split at hk
      · rename_i n e he
        obtain ⟨h0, hlt, hk⟩ := hk
        split at hk
        · rename_i es hs
          have hu := und_arr P he
          have hr : (0 : Int) ≤ i ∧ i < (n : Int) := ⟨h0, hlt⟩
          cases hv with
          | cptr _ b off vs hb hL hc hvv =>
          refine ⟨_, .pointer (some ⟨b, off + i.toNat * es, none⟩), hk, .cptr _ b (off + i.toNat * es) (fun j => vs (i.toNat * es + j)) hb hL (fun j c hj => ?_) (fun j c hj => ?_), ?_⟩
          · rw [List.getElem?_drop] at hj
            rw [Nat.add_assoc]; exact hc _ c hj
          · rw [List.getElem?_drop] at hj
            exact hvv _ c hj
          · simp [Instr.indexAt, asIntOf, run_underlying hu, hr, run_sz P hs, add_off, Instr.sureAddr]
        · exact hk.elim
      · exact hk.elim
    · exact hk.elim
  · exact hk.elim

theorem aggD_inv {x : D} {cs : List D} {v : Value} (h : aggD x = some cs) (hv : VV L w m x v) : ∃ vs, v = .agg vs ∧ cs.length = vs.size ∧ ∀ (i : Nat) (d : D) (u : Value), cs[i]? = some d → vs[i]? = some u → VV L w m d u := by
  unfold aggD at h
  split at h
  · rename_i xs
    cases h
    have hv := hv.data_inv
    cases hv with
    | agg _ vs hl hh =>
    refine ⟨vs, rfl, by simpa using hl, fun i d u hd hu => ?_⟩
    simp only [List.getElem?_map, Option.map_eq_some_iff] at hd
    obtain ⟨y, hy, rfl⟩ := hd
    exact .data _ _ (hh i y u hy hu)
  · cases h
    cases hv with
    | agg _ vs hl hh => exact ⟨vs, rfl, hl, hh⟩
  · cases h

theorem part_ok {t : TypeId} {cs : List D} {off : Nat} {vs : Array Value} {K : D → Prop} (hl : cs.length = vs.size) (hh : ∀ (i : Nat) (d : D) (u : Value), cs[i]? = some d → vs[i]? = some u → VV L w m d u) (hk : partK P t cs off K) :
    ∃ d u, K d ∧ VV L w m d u ∧ (part t vs off).run P w = .ok u w := by
  unfold partK at hk
  split at hk
  · rename_i n ha hs
    obtain ⟨hfit, hk⟩ := hk
    refine ⟨_, .agg (vs.extract off (off + n)), hk, VV.mk_agg (by simp; omega) fun i x v hx hv => ?_, ?_⟩
    · rw [List.getElem?_take] at hx
      split at hx
      · rename_i hi
        rw [List.getElem?_drop] at hx
        refine hh (off + i) x v hx ?_
        rw [Array.getElem?_extract] at hv
        split at hv
        · exact hv
        · cases hv
      · cases hx
    · simp [part, run_isAggT P ha, run_sz P hs]
  · rename_i ha
    obtain ⟨d, hd, hk⟩ := hk
    have hi : off < vs.size := by rw [← hl]; exact (List.getElem?_eq_some_iff.1 hd).1
    refine ⟨_, _, hk, hh off d _ hd (Array.getElem?_eq_getElem hi), ?_⟩
    simp [part, run_isAggT P ha, hi]
  · exact hk.elim

theorem fieldV_ok {t : TypeId} {x : D} {v : Value} {f : Nat} {K : D → Prop} (hv : VV L w m x v) (hk : fieldK P t x f K) :
    ∃ d u, K d ∧ VV L w m d u ∧ (Instr.field t v f).run P w = .ok u w := by
  unfold fieldK at hk
  split at hk
  · rename_i o ft cs hf ha
    obtain ⟨fs, fd, hu, hfd, rfl, rfl⟩ := field_of P hf
    obtain ⟨vs, rfl, hl, hh⟩ := aggD_inv ha hv
    obtain ⟨d, u, h1, h2, h3⟩ := part_ok hl hh hk
    refine ⟨d, u, h1, h2, ?_⟩
    simp [Instr.field, run_underlying hu, hfd, asAgg, h3]
  · exact hk.elim

theorem indexV_ok {t : TypeId} {x ix : D} {v vi : Value} {K : D → Prop} (hv : VV L w m x v) (hi : VV L w m ix vi) (hk : indexK P t x ix K) :
    ∃ d u, K d ∧ VV L w m d u ∧ (Instr.index t v vi).run P w = .ok u w := by
  unfold indexK at hk
  split at hk
  · rename_i k i
    obtain rfl := int_inv hi
    split at hk
    · rename_i s
      obtain ⟨ht, h0, b, hb, hk⟩ := hk
      have hu := und_str P ht
      have hv := hv.data_inv
      cases hv
      refine ⟨_, _, hk, .data _ _ (.int _ _), ?_⟩
      simp [Instr.index, asIntOf, run_underlying hu, h0, hb]
    · split at hk
      · rename_i n e cs he ha
        obtain ⟨h0, hlt, hk⟩ := hk
        split at hk
        · rename_i es hs
          have hu := und_arr P he
          obtain ⟨vs, rfl, hl, hh⟩ := aggD_inv ha hv
          obtain ⟨d, u, h1, h2, h3⟩ := part_ok hl hh hk
          refine ⟨d, u, h1, h2, ?_⟩
          have hr : (0 : Int) ≤ i ∧ i < (n : Int) := ⟨h0, hlt⟩
          simp [Instr.index, asIntOf, run_underlying hu, hr, run_sz P hs, h3]
        · exact hk.elim
      · exact hk.elim
  · exact hk.elim

theorem natD_inv {d : D} {v : Value} {n : Int} (h : natD d = some n) (hv : VV L w m d v) : ∃ k, v = .int k n := by
  unfold natD at h
  split at h
  · cases h
    exact ⟨_, int_inv hv⟩
  · cases h

/-- The model's own bounds. -/
theorem bounds_ok {isSlice : Bool} {len cap : Nat} {lo hi : Option D} {vlo vhi : Option Value} {K : Nat → Nat → Prop} (hc : len ≤ cap)
    (hlo : ∀ d, lo = some d → ∃ v, vlo = some v ∧ VV L w m d v) (hlo0 : lo = none → vlo = none) (hhi : ∀ d, hi = some d → ∃ v, vhi = some v ∧ VV L w m d v) (hhi0 : hi = none → vhi = none) (hk : boundsK len lo hi K) :
    ∃ a b, K a b ∧ a ≤ b ∧ b ≤ len ∧ (Instr.sliceBounds isSlice len cap vlo vhi none).run P w = .ok (a, b, cap) w := by
  unfold boundsK at hk
  split at hk
  · rename_i l h hl hh
    obtain ⟨h0, h1, h2, hk⟩ := hk
    refine ⟨l.toNat, h.toNat, hk, by omega, by omega, ?_⟩
    have hb : ∀ (y : Nat) (k : IntKind) (n : Int) (c : BoundsCode), 0 ≤ n → n ≤ y → (Instr.sliceBound (.int k n) y c).run P w = .ok n.toNat w := fun y k n c hn hy => by
      simp [Instr.sliceBound, asIntOf, hn, hy]
    cases hi with
    | none =>
      simp only [Option.some.injEq] at hh
      subst hh
      rw [hhi0 rfl]
      cases lo with
      | none =>
        simp only [Option.some.injEq] at hl
        subst hl
        rw [hlo0 rfl]
        simp [Instr.sliceBounds]
      | some d =>
        obtain ⟨v, e1, e2⟩ := hlo d rfl
        obtain ⟨k, rfl⟩ := natD_inv hl e2
        rw [e1]
        simp [Instr.sliceBounds, hb len k l _ h0 (by omega)]
    | some dh =>
      obtain ⟨v2, e3, e4⟩ := hhi dh rfl
      obtain ⟨k2, rfl⟩ := natD_inv hh e4
      rw [e3]
      cases lo with
      | none =>
        simp only [Option.some.injEq] at hl
        subst hl
        rw [hlo0 rfl]
        simp [Instr.sliceBounds, hb cap k2 h _ (by omega) (by omega)]
      | some d =>
        obtain ⟨v, e1, e2⟩ := hlo d rfl
        obtain ⟨k, rfl⟩ := natD_inv hl e2
        rw [e1]
        simp [Instr.sliceBounds, hb cap k2 h _ (by omega) (by omega), hb h.toNat k l _ h0 (by omega)]
  · exact hk.elim

theorem map_some {a : Option Operand} {ρ : Operand → D} {σ : Operand → Value} (h : ∀ x, VV L w m (ρ x) (σ x)) : (∀ d, a.map ρ = some d → ∃ v, a.map σ = some v ∧ VV L w m d v) ∧ (a.map ρ = none → a.map σ = none) := by
  cases a with
  | none => exact ⟨fun d hd => (by cases hd), fun _ => rfl⟩
  | some x => exact ⟨fun d hd => by cases hd; exact ⟨_, rfl, h x⟩, fun hd => by cases hd⟩

/-- A piece of a row that nobody writes, so much room behind its beginning. -/
theorem sub_sl {es n cap i j c : Nat} {l : List Data} {a : Option Addr} (hv : VD L w (.sl es l) (.slice a n cap)) (hij : i ≤ j) (hjl : j ≤ l.length) (hjc : j ≤ c) (hcc : c ≤ cap) :
    VD L w (.sl es ((l.take j).drop i)) (.slice (if c = i then a else a.map (·.add (i * es))) (j - i) (c - i)) := by
  cases hv with
  | sl _ _ _ _ _ b off vs hn hle hm hes ha hc hvv =>
  subst hn
  have hes' : ∀ x ∈ (l.take j).drop i, x.cells.length = es := fun x hx => hes x (List.mem_of_mem_take (List.mem_of_mem_drop hx))
  have hlen : j - i = ((l.take j).drop i).length := by simp; omega
  have hfl : flat ((l.take j).drop i) = ((flat l).take (j * es)).drop (i * es) := by
    rw [flat_drop (fun x hx => hes x (List.mem_of_mem_take hx)) i (by simp; omega), flat_take hes j hjl]
  by_cases hij : i = j
  · refine .sl es _ _ _ _ b off vs hlen (by omega) (by omega) hes' (.inr (by simp; omega)) (fun q c hq => ?_) (fun q c hq => ?_)
    all_goals
      rw [hfl] at hq
      have := (List.getElem?_eq_some_iff.1 hq).1
      simp [hij] at this
  · rcases ha with ⟨rfl, hb, hL⟩ | h0
    · rw [if_neg (by omega)]
      refine .sl es _ _ _ _ b (off + i * es) (fun q => vs (i * es + q)) hlen (by omega) (by omega) hes' (.inl ⟨by simp [add_off], hb, hL⟩) (fun q c hq => ?_) (fun q c hq => ?_)
      all_goals
        rw [hfl, List.getElem?_drop, List.getElem?_take] at hq
        split at hq
        · first
          | exact hvv _ c hq
          | (rw [Nat.add_assoc]; exact hc _ c hq)
        · cases hq
    · subst h0; simp at hjl; omega
theorem natD_is {x : D} {n : Int} (h : natD x = some n) {v : Value} (hv : VV L w m x v) : ∃ k, v = .int k n := by
  unfold natD at h
  split at h
  · cases h
    exact ⟨_, int_inv hv⟩
  · cases h
/-- Three bounds. -/
theorem bounds3_ok {len cp cap : Nat} {lo hi : Option Operand} {mo : Operand} {ρ : Operand → D} {σ : Operand → Value} (hρ : ∀ x, VV L w m (ρ x) (σ x)) (hle : len ≤ cp) (hc : cp ≤ cap) {K : Nat → Nat → Nat → Prop} (h : boundsC len cp (lo.map ρ) (hi.map ρ) (some (ρ mo)) K) :
    ∃ a b c, K a b c ∧ a ≤ b ∧ b ≤ c ∧ c ≤ cp ∧ (Instr.sliceBounds true len cap (lo.map σ) (hi.map σ) (some (σ mo))).run P w = .ok (a, b, c) w := by
  unfold boundsC at h
  split at h
  · rename_i l h' M hl hh hM
    obtain ⟨h0, h1, h2, h3, hk⟩ := h
    have hb : ∀ (y : Nat) (k : IntKind) (n : Int) (c : BoundsCode), 0 ≤ n → n ≤ y → (Instr.sliceBound (.int k n) y c).run P w = .ok n.toNat w := fun y k n c hn hy => by
      simp [Instr.sliceBound, asIntOf, hn, hy]
    have num : ∀ (x : Operand) (n : Int), natD (ρ x) = some n → ∃ k, σ x = .int k n := fun x n hn => natD_is hn (hρ x)
    refine ⟨l.toNat, h'.toNat, M.toNat, hk, by omega, by omega, by omega, ?_⟩
    obtain ⟨k3, e3⟩ := num mo M (by simpa using hM)
    cases hi with
    | none => simp at hh
    | some c =>
      obtain ⟨k2, e2⟩ := num c h' (by simpa using hh)
      cases lo with
      | none =>
        simp only [Option.map_none, Option.some.injEq] at hl
        subst hl
        simp [Instr.sliceBounds, e2, e3, hb cap k3 M _ (by omega) (by omega), hb M.toNat k2 h' _ (by omega) (by omega)]
      | some a =>
        obtain ⟨k, e1⟩ := num a l (by simpa using hl)
        simp [Instr.sliceBounds, e1, e2, e3, hb cap k3 M _ (by omega) (by omega), hb M.toNat k2 h' _ (by omega) (by omega), hb h'.toNat k l _ h0 (by omega)]
  · exact h.elim

theorem slice_ok {t : TypeId} {x : D} {v : Value} {lo hi mx : Option Operand} {ρ : Operand → D} {σ : Operand → Value} {K : D → Prop} (hρ : ∀ x, VV L w m (ρ x) (σ x)) (hv : VV L w m x v) (hk : sliceK P t x (lo.map ρ) (hi.map ρ) (mx.map ρ) K) :
    ∃ d u, K d ∧ VV L w m d u ∧ (Instr.sliceAt t v (lo.map σ) (hi.map σ) (mx.map σ)).run P w = .ok u w := by
  obtain ⟨l1, l2⟩ := map_some (a := lo) hρ
  obtain ⟨h1, h2⟩ := map_some (a := hi) hρ
  unfold sliceK at hk
  split at hk
  · rename_i md hmx
    obtain ⟨mo, rfl, rfl⟩ : ∃ mo, mx = some mo ∧ ρ mo = md := by
      cases mx with
      | none => cases hmx
      | some mo => exact ⟨mo, rfl, by simpa using hmx⟩
    split at hk
    · rename_i es l
      split at hk
      · rename_i e he
        obtain ⟨hs, hk⟩ := hk
        have hu := und_slice P he
        have hv := hv.data_inv
        cases hv with
        | sl _ _ a n cap b off vs hn hle hm hes ha hc hvv =>
        subst hn
        obtain ⟨i, j, c, ⟨hjc, hk⟩, q1, q2, q3, hr⟩ := bounds3_ok (P := P) (cap := cap) hρ (Nat.le_refl _) hle hk
        subst hjc
        refine ⟨_, _, hk, .ful _ _ (if j = i then a else a.map (·.add (i * es))) (j - i) (sub_sl (.sl es l a _ cap b off vs rfl hle hm hes ha hc hvv) q1 q3 (Nat.le_refl _) (by omega)), ?_⟩
        simp only [Option.map_some, Instr.sliceAt, run_underlying hu, Instr.slice, hr, run_sz P hs, Sem.run_bind, Result.andThen_ok, Sem.run_pure]
        try rfl
      · exact hk.elim
    · exact hk.elim
  · rename_i hmx
    have hmx : mx = none := by cases mx with | none => rfl | some _ => cases hmx
    subst hmx
    simp only [Option.map_none]
    split at hk
    · rename_i s
      obtain ⟨ht, hk⟩ := hk
      have hu := und_str P ht
      have hv := hv.data_inv
      cases hv
      obtain ⟨a, b, hk, hab, hbl, hr⟩ := bounds_ok (P := P) (isSlice := false) (cap := s.size) (Nat.le_refl _) l1 l2 h1 h2 hk
      refine ⟨_, _, hk, .data _ _ (.str _), ?_⟩
      simp [Instr.sliceAt, run_underlying hu, Instr.slice, hr]
    · rename_i es l
      split at hk
      · rename_i e he
        obtain ⟨hs, hk⟩ := hk
        have hu := und_slice P he
        have hv := hv.data_inv
        cases hv with
        | sl _ _ a n cap b off vs hn hle hm hes ha hc hvv =>
        subst hn
        obtain ⟨i, j, hk, hab, hbl, hr⟩ := bounds_ok (P := P) (isSlice := true) (cap := cap) hle l1 l2 h1 h2 hk
        have hes' : ∀ x ∈ (l.take j).drop i, x.cells.length = es := fun x hx => hes x (List.mem_of_mem_take (List.mem_of_mem_drop hx))
        have hlen : j - i = ((l.take j).drop i).length := by simp; omega
        have hfl : flat ((l.take j).drop i) = ((flat l).take (j * es)).drop (i * es) := by
          rw [flat_drop (fun x hx => hes x (List.mem_of_mem_take hx)) i (by simp; omega), flat_take hes j hbl]
        refine ⟨_, .slice (if cap = i then a else a.map (·.add (i * es))) (j - i) (cap - i), hk, .data _ _ ?_, ?_⟩
        · by_cases hij : i = j
          · refine .sl es _ _ _ _ b off vs hlen (by omega) (by omega) hes' (.inr (by simp; omega)) (fun q c hq => ?_) (fun q c hq => ?_)
            all_goals
              rw [hfl] at hq
              have := (List.getElem?_eq_some_iff.1 hq).1
              simp [hij] at this
          · rcases ha with ⟨rfl, hb, hL⟩ | h0
            · rw [if_neg (by omega)]
              refine .sl es _ _ _ _ b (off + i * es) (fun q => vs (i * es + q)) hlen (by omega) (by omega) hes' (.inl ⟨by simp [add_off], hb, hL⟩) (fun q c hq => ?_) (fun q c hq => ?_)
              all_goals
                rw [hfl, List.getElem?_drop, List.getElem?_take] at hq
                split at hq
                · first
                  | exact hvv _ c hq
                  | (rw [Nat.add_assoc]; exact hc _ c hq)
                · cases hq
            · subst h0; simp at hbl; omega
        · simp [Instr.sliceAt, run_underlying hu, Instr.slice, hr, run_sz P hs]
      · exact hk.elim
    · rename_i g off len es
      split at hk
      · rename_i e he
        obtain ⟨hs, hk⟩ := hk
        have hu := und_slice P he
        cases hv with
        | ref _ _ _ _ b sz cap o k1 k2 k3 k4 k5 =>
          obtain ⟨i, j, hk, hab, hbl, hr⟩ := bounds_ok (P := P) (isSlice := true) (cap := cap) k4 l1 l2 h1 h2 hk
          refine ⟨_, .slice (if cap = i then some ⟨b, o, none⟩ else some ⟨b, o + i * es, none⟩) (j - i) (cap - i), hk, ?_, ?_⟩
          · have hmul : i * es + (cap - i) * es = cap * es := by rw [← Nat.add_mul]; congr 1; omega
            by_cases hci : cap = i
            · rw [if_pos hci]
              exact .ref _ _ _ _ b sz _ o k1 (.inr (by omega)) (by omega) (by omega) (by omega)
            · rw [if_neg hci]
              refine .ref _ _ _ _ b sz _ _ k1 ?_ (by omega) (by omega) (by omega)
              rcases k2 with k2 | k2
              · exact .inl (by rw [k2])
              · exact .inr (by omega)
          · simp only [Instr.sliceAt, run_underlying hu, Instr.slice, hr, run_sz P hs, Sem.run_bind, Result.andThen_ok, Sem.run_pure, Option.map_some, add_off]
        | ref0 _ _ a k1 =>
          obtain ⟨i, j, hk, hab, hbl, hr⟩ := bounds_ok (P := P) (isSlice := true) (cap := 0) (Nat.le_refl _) l1 l2 h1 h2 hk
          have hj : j = 0 := by omega
          have hi0 : i = 0 := by omega
          subst hj; subst hi0
          refine ⟨_, .slice a 0 0, hk, ?_, ?_⟩
          · simp only [Nat.zero_mul, Nat.add_zero, Nat.sub_zero]
            exact .ref0 _ _ a k1
          · simp [Instr.sliceAt, run_underlying hu, Instr.slice, hr, run_sz P hs]
      · exact hk.elim
    · rename_i es
      split at hk
      · rename_i e he
        obtain ⟨hs, hk⟩ := hk
        have hu := und_slice P he
        cases hv with
        | emp _ a =>
        obtain ⟨i, j, hk, hab, hbl, hr⟩ := bounds_ok (P := P) (isSlice := true) (cap := 0) (Nat.le_refl _) l1 l2 h1 h2 hk
        have hj : j = 0 := by omega
        have hi0 : i = 0 := by omega
        subst hj; subst hi0
        refine ⟨_, .slice a 0 0, hk, .emp es a, ?_⟩
        simp [Instr.sliceAt, run_underlying hu, Instr.slice, hr, run_sz P hs]
      · exact hk.elim
    · exact hk.elim
end
end Go.Proofs.Ytdodhnkbdechaaa
namespace Go.Proofs.Ytdodhnkbdechaaa
open Go.RowKit
set_option linter.unusedVariables false
set_option linter.unusedSimpArgs false

section
variable {P : Program} {Γ : Nat → Option (List Data)} {L0 : Nat → Prop} {w0 : W0} {m : Nat → MB} {H : Nat → Blk} {w : World} {fr : Nat} {L : Nat → Prop}

theorem und_not_int {t : TypeId} (h1 : (intT P t).isSome = false) (h2 : ((sliceT P t).isSome || strT P t) = true) : ∃ d, P.underlying t = some d ∧ (match d with | .int _ => true | _ => false) = false := by
  rcases Bool.or_eq_true_iff.1 h2 with h | h
  · obtain ⟨e, he⟩ := Option.isSome_iff_exists.1 h
    exact ⟨_, und_slice P he, rfl⟩
  · exact ⟨_, und_str P h, rfl⟩

/-- What stands behind a slice or a string, in the model's own cells. -/
structure Src (P : Program) (L : Nat → Prop) (m : Nat → MB) (w : World) (es n : Nat) (cs : List D) (v : Value) (news : List Value) : Prop where
  len : (Builtin.lenOf v).run P w = .ok n w
  len' : (Builtin.lenOf v).run P w.drew = .ok n w.drew
  first : ∀ k, k ≤ n → (Builtin.firstCells es k v).run P w = .ok (news.take (k * es)).toArray w
  first' : (Builtin.firstCells es n v).run P w.drew = .ok news.toArray w.drew
  cl : cs.length = n * es
  nl : news.length = n * es
  at' : ∀ (i : Nat) (d : D), cs[i]? = some d → ∃ u, news[i]? = some u ∧ VV L w m d u

theorem Src.mk' {es n : Nat} {cs : List D} {v : Value} {news : List Value} {b off len cap : Nat} (hv : v = .slice (some ⟨b, off, none⟩) len cap) (hn : len = n)
    (hcell : ∀ j u, news[j]? = some u → w.cell? ⟨b, off + j, none⟩ = some u) (cl : cs.length = n * es) (nl : news.length = n * es) (hat : ∀ (i : Nat) (d : D), cs[i]? = some d → ∃ u, news[i]? = some u ∧ VV L w m d u) : Src P L m w es n cs v news := by
  subst hv; subst hn
  refine ⟨by simp [Builtin.lenOf], by simp [Builtin.lenOf], fun k hk => ?_, ?_, cl, nl, hat⟩
  · have hk' : k * es ≤ len * es := Nat.mul_le_mul_right _ hk
    refine run_firstCells_some (P := P) w es k ⟨b, off, none⟩ len cap (news.take (k * es)) (by simp; omega) fun j u hu => ?_
    rw [add_off]
    rw [List.getElem?_take] at hu
    split at hu
    · exact hcell j u hu
    · cases hu
  · exact run_firstCells_some (P := P) w.drew es len ⟨b, off, none⟩ len cap news nl fun j u hu => by rw [add_off]; exact hcell j u hu

theorem Src.none' {es : Nat} {v : Value} {a : Option Addr} {cap : Nat} (hv : v = .slice a 0 cap) : Src P L m w es 0 [] v [] := by
  subst hv
  refine ⟨by simp [Builtin.lenOf], by simp [Builtin.lenOf], fun k hk => ?_, ?_, by simp, by simp, fun i d hd => by simp at hd⟩
  · obtain rfl : k = 0 := by omega
    cases a <;> simp [Builtin.firstCells, loadCells, loadCellsFrom]
  · cases a <;> simp [Builtin.firstCells, loadCells, loadCellsFrom]

theorem src_ok {y : D} {vy : Value} {es : Nat} {K : Nat → List D → List Nat → Prop} (h : WR Γ L0 w0 m H w) (hy : VV (Live L0 m H) w m y vy) (hk : srcK y es H K) :
    ∃ n cs rd news, K n cs rd ∧ Src P (Live L0 m H) m w es n cs vy news := by
  unfold srcK at hk
  split at hk
  · cases hy with
    | emp _ a => exact ⟨_, _, _, _, hk, Src.none' rfl⟩
  · rename_i es' l
    obtain ⟨rfl, hk⟩ := hk
    have hy := hy.data_inv
    cases hy with
    | sl _ _ a n cap b off vs hn hle hm hes ha hc hvv =>
    subst hn
    rcases ha with ⟨rfl, hb, hL⟩ | h0
    · have hfl := flat_length hes
      refine ⟨_, _, _, (List.range (l.length * es')).map vs, hk, Src.mk' (b := b) (off := off) (cap := cap) rfl rfl (fun j u hu => ?_) (by simp [hfl]) (by simp) (fun i d hd => ?_)⟩
      · rw [List.getElem?_map, Option.map_eq_some_iff] at hu
        obtain ⟨q, hq, rfl⟩ := hu
        have hlt := (List.getElem?_eq_some_iff.1 hq).1
        simp at hlt
        rw [List.getElem?_range hlt] at hq
        cases hq
        exact hc j _ (List.getElem?_eq_getElem (by omega))
      · rw [List.getElem?_map, Option.map_eq_some_iff] at hd
        obtain ⟨x, hx, rfl⟩ := hd
        have hlt := (List.getElem?_eq_some_iff.1 hx).1
        exact ⟨vs i, by rw [List.getElem?_map, List.getElem?_range (by omega)]; rfl, .data _ _ (hvv i x hx)⟩
    · subst h0
      exact ⟨_, _, _, _, hk, by simpa [flat] using Src.none' (P := P) (L := Live L0 m H) (m := m) (w := w) (es := es') (v := .slice a ([] : List Data).length cap) rfl⟩
  · rename_i g off len es'
    obtain ⟨rfl, hk⟩ := hk
    split at hk
    · rename_i rw cells hg
      obtain ⟨hfit, hk⟩ := hk
      cases hy with
      | ref _ _ _ _ b sz cap o k1 k2 k3 k4 k5 =>
        obtain ⟨vs, ty, h1, h2, h3, _, h5⟩ := at_of h hg k1
        by_cases hl : len = 0
        · subst hl
          refine ⟨_, _, _, [], hk, ?_⟩
          have : (cells.drop off).take (0 * es') = [] := by simp
          rw [this]
          exact Src.none' rfl
        · have ho : o = off := by
            rcases k2 with k2 | k2
            · exact k2
            · omega
          subst ho
          have hcl : ((cells.drop o).take (len * es')).length = len * es' := by simp; omega
          refine ⟨_, _, _, (vs.toList.drop o).take (len * es'), hk, Src.mk' (b := b) (off := o) (cap := cap) rfl rfl (fun j u hu => ?_) hcl (by simp; omega) (fun i d hd => ?_)⟩
          · rw [List.getElem?_take] at hu
            split at hu
            · rw [List.getElem?_drop] at hu
              rw [cell_of h1]; simpa using hu
            · cases hu
          · rw [List.getElem?_take] at hd
            split at hd
            · rename_i hi
              rw [List.getElem?_drop] at hd
              obtain ⟨v, e1, e2, e3⟩ := h5 _ d hd
              exact ⟨v, by rw [List.getElem?_take, if_pos hi, List.getElem?_drop]; simpa using e1, e3⟩
            · cases hd
      | ref0 _ _ a k1 =>
        refine ⟨_, _, _, [], hk, ?_⟩
        have : (cells.drop 0).take (0 * es') = [] := by simp
        rw [this]
        exact Src.none' rfl
    · exact hk.elim
  · rename_i g off len cp es'
    obtain ⟨rfl, hk⟩ := hk
    split at hk
    · rename_i rw cells hg
      obtain ⟨hfit, hk⟩ := hk
      cases hy with
      | cut _ _ _ _ _ b sz cap o k1 k2 k3 k4 k5 k6 =>
        obtain ⟨vs, ty, h1, h2, h3, _, h5⟩ := at_of h hg k1
        by_cases hl : len = 0
        · subst hl
          refine ⟨_, _, _, [], hk, ?_⟩
          have : (cells.drop off).take (0 * es') = [] := by simp
          rw [this]
          exact Src.none' rfl
        · have ho : o = off := by
            rcases k2 with k2 | k2
            · exact k2
            · omega
          subst ho
          have hcl : ((cells.drop o).take (len * es')).length = len * es' := by simp; omega
          refine ⟨_, _, _, (vs.toList.drop o).take (len * es'), hk, Src.mk' (b := b) (off := o) (cap := cap) rfl rfl (fun j u hu => ?_) hcl (by simp; omega) (fun i d hd => ?_)⟩
          · rw [List.getElem?_take] at hu
            split at hu
            · rw [List.getElem?_drop] at hu
              rw [cell_of h1]; simpa using hu
            · cases hu
          · rw [List.getElem?_take] at hd
            split at hd
            · rename_i hi
              rw [List.getElem?_drop] at hd
              obtain ⟨v, e1, e2, e3⟩ := h5 _ d hd
              exact ⟨v, by rw [List.getElem?_take, if_pos hi, List.getElem?_drop]; simpa using e1, e3⟩
            · cases hd
    · exact hk.elim
  · rename_i s
    obtain ⟨rfl, hk⟩ := hk
    have hy := hy.data_inv
    cases hy
    have hsz : s.toList.length = s.size := by rw [ByteArray.toList_eq, Array.length_toList]; rfl
    have hfull : s.extract 0 s.size = s := by simp
    refine ⟨_, _, _, s.toList.map fun b => .int .u8 b.toNat, hk, ⟨by simp [Builtin.lenOf], by simp [Builtin.lenOf], fun k hk => ?_, ?_, by simp [hsz], by simp [hsz], fun i d hd => ?_⟩⟩
    · simp only [Builtin.firstCells, Sem.run_pure]
      congr 1
      apply Array.ext'
      simp only [Array.toList_map, Nat.mul_one, List.map_take, ByteArray.toList_eq, List.toList_toArray]
      simp
    · simp only [Builtin.firstCells, Sem.run_pure, hfull]
      congr 1
      apply Array.ext'
      simp [ByteArray.toList_eq]
    · rw [List.getElem?_map, Option.map_eq_some_iff] at hd
      obtain ⟨x, hx, rfl⟩ := hd
      exact ⟨_, by rw [List.getElem?_map, hx]; rfl, .data _ _ (.int _ _)⟩
  · exact hk.elim
end
end Go.Proofs.Ytdodhnkbdechaaa
namespace Go.Proofs.Ytdodhnkbdechaaa
open Go.RowKit
set_option linter.unusedVariables false
set_option linter.unusedSimpArgs false

section
variable {P : Program} {Γ : Nat → Option (List Data)} {L0 : Nat → Prop} {w0 : W0} {m : Nat → MB} {H : Nat → Blk} {w : World} {fr : Nat} {L : Nat → Prop}

/-- What is put behind a row: cells that stand somewhere, or as many zero values. -/
structure Put (P : Program) (w : World) (st xt : TypeId) (es by_ n : Nat) (news : List Value) (vx : Value) (base : Option Addr) (sLen sCap : Nat) : Prop where
  fits : sLen + n ≤ sCap → ∀ w', (match base with | some a => (storeCells (a.add (sLen * es)) news).run P w = .ok () w' | none => w' = w) → (Builtin.append_ #[st, xt] 0 #[.slice base sLen sCap, vx]).run P w = .ok (.slice base (sLen + n) sCap) w'
  grows : sCap < sLen + n → ∀ e z olds, P.underlying st = some (.slice e) → (P.info? e).bind (·.zero) = some z → (Builtin.firstCells es sLen (.slice base sLen sCap)).run P w.drew = .ok olds w.drew →
    (Builtin.append_ #[st, xt] 0 #[.slice base sLen sCap, vx]).run P w = .ok (.slice (some ⟨w.heap.size, 0, none⟩) (sLen + n) (grownCap w (sLen + n) sCap e)) (w.drew.alloc (.cells (olds ++ news.toArray ++ Builtin.zeroCells z.cells (grownCap w (sLen + n) sCap e - (sLen + n))) e))

theorem und_src {xt : TypeId} (hxs : ((sliceT P xt).isSome || strT P xt) = true) : (∃ e, P.underlying xt = some (.slice e)) ∨ P.underlying xt = some .string := by
  rcases Bool.or_eq_true_iff.1 hxs with h | h
  · obtain ⟨e, he⟩ := Option.isSome_iff_exists.1 h
    exact .inl ⟨_, und_slice P he⟩
  · exact .inr (und_str P h)

theorem put_src {st xt e : TypeId} {es by_ n : Nat} {cs : List D} {vx : Value} {news : List Value} (he : sliceT P st = some e) (hs : szT P e = some es) (hb : byT P e = some by_) (hxs : ((sliceT P xt).isSome || strT P xt) = true)
    (hsrc : Src P L m w es n cs vx news) (base : Option Addr) (sLen sCap : Nat) (h63 : sLen + n ≤ 140737488355328) (h48 : (sLen + n) * by_ ≤ 140737488355328) : Put P w st xt es by_ n news vx base sLen sCap := by
  have hu := und_slice P he
  obtain ⟨i, hi, his⟩ := info_of_sz P hs
  have hib : i.bytes = by_ := by unfold byT at hb; rw [hi] at hb; simpa using hb
  have hfirst := hsrc.first n (Nat.le_refl _)
  rw [← hsrc.nl, List.take_length] at hfirst
  refine ⟨fun hfit w' hst => ?_, fun hgrow e' z olds hu' hz' holds => ?_⟩
  · cases base with
    | none =>
      simp only at hst
      subst hst
      rcases und_src hxs with ⟨e2, hd⟩ | hd <;> simp [Builtin.append_, run_underlying hu, run_underlying hd, run_sz P hs, hsrc.len, hfit, hfirst]
    | some a =>
      simp only at hst
      rcases und_src hxs with ⟨e2, hd⟩ | hd <;> simp [Builtin.append_, run_underlying hu, run_underlying hd, run_sz P hs, hsrc.len, hfit, hfirst, hst]
  · rw [hu] at hu'; cases hu'
    rw [hi, Option.bind_some] at hz'
    have hnf : ¬ (sLen + n ≤ sCap) := by omega
    have h63' : ¬ (9223372036854775807 < ((sLen : Int) + (n : Int))) := by omega
    have h48' : ¬ (281474976710656 < Builtin.nextslicecap (sLen + n) sCap * i.bytes) := by
      have := growslice_fits (need := sLen + n) (old := sCap) (bytes := by_) (by omega) h48
      rw [hib]; omega
    have hf' := hsrc.first'
    rcases und_src hxs with ⟨e2, hd⟩ | hd
    · simp [Builtin.append_, run_underlying hu, run_underlying hd, sizeOf, typeInfo, zeroValue, hi, hz', his, hsrc.len, hnf, h63', h48', Question.forced, hf', holds, newRow, grownCap]
    · simp [Builtin.append_, run_underlying hu, run_underlying hd, sizeOf, typeInfo, zeroValue, hi, hz', his, hsrc.len, hnf, h63', h48', Question.forced, hf', holds, newRow, grownCap]

theorem put_zeros {st xt e : TypeId} {es by_ n : Nat} {k : IntKind} {z : Value} (he : sliceT P st = some e) (hs : szT P e = some es) (hes : 0 < es) (hb : byT P e = some by_) (hxi : (intT P xt).isSome = true) (hz : (P.info? e).bind (·.zero) = some z)
    (hzs : z.cells.size = es) (base : Option Addr) (sLen sCap : Nat) (h63 : sLen + n ≤ 140737488355328) (h48 : (sLen + n) * by_ ≤ 140737488355328) : Put P w st xt es by_ n (Builtin.zeroCells z.cells n).toList (.int k (n : Nat)) base sLen sCap := by
  have hu := und_slice P he
  obtain ⟨kx, hkx⟩ := Option.isSome_iff_exists.1 hxi
  have hd := und_int P hkx
  obtain ⟨i, hi, his⟩ := info_of_sz P hs
  have hib : i.bytes = by_ := by unfold byT at hb; rw [hi] at hb; simpa using hb
  rw [hi, Option.bind_some] at hz
  have hw : IntKind.i64.wrap (n : Int) = n := by rw [IntKind.wrap_i64]; omega
  have hneg : ¬ ((n : Int) < 0) := by omega
  have hmul : n * by_ ≤ 140737488355328 := Nat.le_trans (Nat.mul_le_mul_right _ (by omega)) h48
  have h48i : ¬ (281474976710656 < (n : Int) * (i.bytes : Nat)) := by
    have hm2 : ((n * by_ : Nat) : Int) ≤ 281474976710656 := Int.le_trans (Int.ofNat_le.2 hmul) (by decide)
    rw [Int.natCast_mul] at hm2
    rw [hib]
    exact Int.not_lt.2 hm2
  refine ⟨fun hfit w' hst => ?_, fun hgrow e' z' olds hu' hz' holds => ?_⟩
  · by_cases hn0 : n = 0
    · subst hn0
      have hzero : (Builtin.zeroCells z.cells 0).toList = [] := by simp [Builtin.zeroCells]
      rw [hzero] at hst
      simp only [Nat.add_zero] at hfit
      cases base with
      | none =>
        simp only at hst
        subst hst
        simp [Builtin.append_, run_underlying hu, run_underlying hd, sizeOf, typeInfo, hi, his, asInt, asIntOf, IntKind.wrap_i64, hfit]
      | some a =>
        simp only at hst
        simp [Builtin.append_, run_underlying hu, run_underlying hd, sizeOf, typeInfo, hi, his, asInt, asIntOf, IntKind.wrap_i64, hfit, hst]
    · have hne : ¬ (n * es = 0) := by have := Nat.mul_pos (by omega : 0 < n) hes; omega
      cases base with
      | none =>
        simp only at hst
        subst hst
        simp [Builtin.append_, run_underlying hu, run_underlying hd, sizeOf, typeInfo, zeroValue, hi, his, hz, asInt, asIntOf, hw, hneg, h48i, hfit, hne]
      | some a =>
        simp only at hst
        simp [Builtin.append_, run_underlying hu, run_underlying hd, sizeOf, typeInfo, zeroValue, hi, his, hz, asInt, asIntOf, hw, hneg, h48i, hfit, hne, hst]
  · rw [hu] at hu'; cases hu'
    rw [hi, Option.bind_some, hz] at hz'
    cases hz'
    have hnf : ¬ (sLen + n ≤ sCap) := by omega
    have h63' : ¬ (9223372036854775807 < ((sLen : Int) + (n : Int))) := by omega
    have h48' : ¬ (281474976710656 < Builtin.nextslicecap (sLen + n) sCap * i.bytes) := by
      have := growslice_fits (need := sLen + n) (old := sCap) (bytes := by_) (by omega) h48
      rw [hib]; omega
    by_cases hn0 : n = 0
    · subst hn0
      have hzero : (Builtin.zeroCells z.cells 0) = #[] := by simp [Builtin.zeroCells]
      simp only [Nat.add_zero] at hnf h63' h48'
      have h63'' : ¬ (9223372036854775807 < (sLen : Int)) := by omega
      simp [Builtin.append_, run_underlying hu, run_underlying hd, sizeOf, typeInfo, zeroValue, hi, his, hz, asInt, asIntOf, IntKind.wrap_i64, hnf, h63'', h48', Question.forced, holds, newRow, grownCap, hzero]
    · have hne : ¬ (n * es = 0) := by have := Nat.mul_pos (by omega : 0 < n) hes; omega
      simp [Builtin.append_, run_underlying hu, run_underlying hd, sizeOf, typeInfo, zeroValue, hi, his, hz, asInt, asIntOf, hw, hneg, h48i, hnf, h63', h48', Question.forced, holds, newRow, grownCap, hne]

/-- A row that was never made. -/
theorem WR.newnil (h : WR Γ L0 w0 m H w) {fr : Nat} (hfr : m fr = .res) {H' : Nat → Blk} (hnew : H' fr = .blk true []) (hold : ∀ g, g ≠ fr → H' g = H g ∨ H' g = .dead) :
    let m' := fun g => if g = fr then MB.nil else m g
    WR Γ L0 w0 m' H' w ∧ Grow (Live L0 m H) w (Live L0 m' H') w ∧ (∀ g, g ≠ fr → m' g = m g) ∧ m' fr = .nil := by
  intro m'
  have hm' : ∀ g, g ≠ fr → m' g = m g := fun g hg => if_neg hg
  have hmr : ∀ g, m g ≠ .res → m' g = m g := fun g hg => hm' g (fun e => hg (by rw [e]; exact hfr))
  have hmf : m' fr = .nil := if_pos rfl
  have back : ∀ g rw cs, g ≠ fr → H' g = .blk rw cs → H g = .blk rw cs := fun g rw cs e hg => by
    rcases hold g e with h5 | h5
    · rw [h5] at hg; exact hg
    · rw [h5] at hg; cases hg
  have hgrow : Grow (Live L0 m H) w (Live L0 m' H') w := by
    refine Grow.less w fun b hb => ?_
    rcases hb with k | ⟨g, sz, hg, hm⟩
    · exact .inl k
    · by_cases e : g = fr
      · subst e; rw [hmf] at hm; cases hm
      · rw [hm' g e] at hm; exact .inr ⟨g, sz, (by
          rcases hold g e with h5 | h5
          · rw [h5] at hg; exact hg
          · rw [h5] at hg; cases hg), hm⟩
  have oback : ∀ g o, H' g = .obj o → g ≠ fr ∧ H g = .obj o := fun g o hg => by
    have e : g ≠ fr := fun e => by rw [e, hnew] at hg; cases hg
    rcases hold g e with h5 | h5
    · rw [h5] at hg; exact ⟨e, hg⟩
    · rw [h5] at hg; cases hg
  refine ⟨⟨⟨?_, ?_, fun g o hg => ?_, fun g g' o o' b s1 s2 hg hg' hm1 hm2 => ?_⟩, h.below, (fun b hb => ⟨Nat.lt_of_lt_of_le (h.l0 b hb).1 hgrow.size, (h.l0 b hb).2⟩), h.glob.mono hgrow⟩, hgrow, hm', hmf⟩
  rotate_left 2
  · obtain ⟨e, hg⟩ := oback g o hg
    obtain ⟨b, v, k1, k2, k3, k4⟩ := h.heap.obj g o hg
    exact ⟨b, v, by rw [hm' g e]; exact k1, k2, k3, k4.mono hgrow hmr⟩
  · obtain ⟨e, hg⟩ := oback g o hg
    obtain ⟨e', hg'⟩ := oback g' o' hg'
    rw [hm' g e] at hm1; rw [hm' g' e'] at hm2
    exact h.heap.injO g g' o o' b s1 s2 hg hg' hm1 hm2
  · intro g rw cs hg
    by_cases e : g = fr
    · subst e
      rw [hnew] at hg; cases hg
      exact .inl ⟨hmf, rfl⟩
    · rcases h.heap.blk g rw cs (back g _ _ e hg) with ⟨k1, k2⟩ | ⟨b, sz, vs', ty', k1, k2, k3, k4, k5, k6, k7⟩
      · exact .inl ⟨by rw [hm' g e]; exact k1, k2⟩
      · have hb := h.lt (back g _ _ e hg) k1
        refine .inr ⟨b, sz, vs', ty', by rw [hm' g e]; exact k1, k2, fun hrw => (hgrow.keep b hb (k3 hrw)).2, k4, k5, k6, fun i d hd => ?_⟩
        obtain ⟨v, hv, h1c, hvv⟩ := k7 i d hd
        exact ⟨v, hv, h1c, hvv.mono hgrow hmr⟩
  · intro g g' cs rw' cs' b sz sz' hg hg' hm1 hm2
    by_cases e : g = fr
    · rw [e, hmf] at hm1; cases hm1
    · by_cases e' : g' = fr
      · rw [e', hmf] at hm2; cases hm2
      · rw [hm' g e] at hm1; rw [hm' g' e'] at hm2
        exact h.heap.inj g g' cs rw' cs' b sz sz' (back g _ _ e hg) (back g' _ _ e' hg') hm1 hm2

theorem zeroCells_len (z : Array Value) (n : Nat) : (Builtin.zeroCells z n).size = n * z.size := by simp [Builtin.zeroCells]

/-- A row with something put behind it: u is what it takes for the numbered blocks. -/
theorem append_core (h : WR Γ L0 w0 m H w) (hfr : m fr = .res) {st xt e : TypeId} {es by_ n len sCap : Nat} {cs old : List D} {news olds : List Value} {vx z : Value} {base : Option Addr} (hes : 0 < es) (he : sliceT P st = some e) (hz : (P.info? e).bind (·.zero) = some z) (hzs : z.cells.size = es)
    (hput : Put P w st xt es by_ n news vx base len sCap) (hcl : cs.length = n * es) (hnl : news.length = n * es) (hcap : sCap ≤ maxLen) (h63 : len + n ≤ 140737488355328)
    (hcs : ∀ (i : Nat) (d : D), cs[i]? = some d → ∃ u, news[i]? = some u ∧ u.oneCell' = true ∧ VV (Live L0 m H) w m d u)
    (hone : ∀ u ∈ news, u.oneCell' = true)
    {H' : Nat → Blk} (hnew : H' fr = .blk true (old ++ cs))
    (htarget : (len = 0 ∧ sCap = 0 ∧ old = [] ∧ olds = [] ∧ (∀ g, g ≠ fr → H' g = H g ∨ H' g = .dead)) ∨ (sCap = len ∧ 0 < n ∧ (∀ g, g ≠ fr → H' g = H g ∨ H' g = .dead) ∧ ∃ l : List Data, old = (flat l).map D.data ∧ ((flat l).map D.data).all D.cell = true ∧ VD (Live L0 m H) w (.sl es l) (.slice base len len)) ∨
      ∃ g b sz o, fr ≠ g ∧ H g = .blk true old ∧ H' g = .dead ∧ (∀ k, k ≠ fr → k ≠ g → H' k = H k) ∧ m g = .at b sz ∧ base = some ⟨b, o, none⟩ ∧ (o = 0 ∨ sCap = 0) ∧ sCap * es ≤ sz ∧ len ≤ sCap ∧ old.length = len * es) :
    ∃ v w' m', (Builtin.append_ #[st, xt] 0 #[.slice base len sCap, vx]).run P w = .ok v w' ∧ WR Γ L0 w0 m' H' w' ∧ VV (Live L0 m' H') w' m' (.ref fr 0 (len + n) es) v ∧ Grow (Live L0 m H) w (Live L0 m' H') w' ∧ ∀ g, g ≠ fr → m' g = m g := by
  have hu := und_slice P he
  by_cases hfit : len + n ≤ sCap
  · rcases htarget with ⟨h0, h1, h2, _, hold⟩ | ⟨h0, h1, _⟩ | ⟨g, b, sz, o, hfg, hg, hgone, hold, hm, hbase, ho, hsz, hls, hol⟩
    rotate_left
    · omega
    rotate_left
    · -- nothing behind nothing
      subst h0; subst h1
      obtain rfl : n = 0 := by omega
      have hc0 : cs = [] := List.eq_nil_of_length_eq_zero (by omega)
      have hn0 : news = [] := List.eq_nil_of_length_eq_zero (by omega)
      subst hc0; subst hn0; subst h2
      obtain ⟨k1, k2, k3, k4⟩ := h.newnil hfr (H' := H') (by simpa using hnew) hold
      refine ⟨.slice base 0 0, w, _, ?_, k1, .ref0 fr es base k4, k2, k3⟩
      refine hput.fits hfit w ?_
      cases base <;> simp [storeCells]
    · obtain ⟨vs, ty, e1, e2, e3, _, e5⟩ := at_of h hg hm
      subst hbase
      have hmul : (len + n) * es ≤ sCap * es := Nat.mul_le_mul_right _ hfit
      rw [Nat.add_mul] at hmul
      have hoff : o = 0 ∨ (len = 0 ∧ n = 0) := by omega
      -- where the new cells come to lie
      have hfit2 : len * es + news.length ≤ vs.size := by omega
      have hst : (storeCells ((⟨b, o, none⟩ : Addr).add (len * es)) news).run P w = .ok () (w.setRow b (vs.toList.take (len * es) ++ news ++ vs.toList.drop (len * es + news.length)).toArray) := by
        rcases hoff with rfl | ⟨rfl, rfl⟩
        · have := run_storeCells_at P b (len * es) ty news 0 vs w e1 (by omega) hone
          simp only [Nat.add_zero] at this
          rw [add_off, Nat.zero_add]; exact this
        · have hn0 : news = [] := List.eq_nil_of_length_eq_zero (by omega)
          subst hn0
          simp only [storeCells, Nat.zero_mul, List.take_zero, List.nil_append, List.length_nil, Nat.add_zero, List.drop_zero]
          rw [show vs.toList.toArray = vs by simp, setRow_self w b vs ty (0, 0) e1]; rfl
      have hcell : ∀ (i : Nat) (d : D), (old ++ cs)[i]? = some d → ∃ v, (vs.toList.take (len * es) ++ news ++ vs.toList.drop (len * es + news.length)).toArray[i]? = some v ∧ v.oneCell' = true ∧ VV (Live L0 m H) w m d v := by
        intro i d hd
        have ht : (vs.toList.take (len * es)).length = len * es := by rw [List.length_take]; simp; omega
        rw [List.getElem?_toArray, List.append_assoc]
        by_cases hi : i < old.length
        · rw [List.getElem?_append_left hi] at hd
          obtain ⟨v, q1, q2, q3⟩ := e5 i d hd
          refine ⟨v, ?_, q2, q3⟩
          rw [List.getElem?_append_left (by omega), List.getElem?_take_of_lt (by omega)]
          simpa using q1
        · rw [List.getElem?_append_right (by omega)] at hd
          have hlt := (List.getElem?_eq_some_iff.1 hd).1
          obtain ⟨v, q1, q2, q3⟩ := hcs _ d hd
          refine ⟨v, ?_, q2, q3⟩
          rw [List.getElem?_append_right (by omega), ht, ← hol, List.getElem?_append_left (by omega)]
          exact q1
      obtain ⟨k1, k2, k3, k4, k5⟩ := h.write (t := fr) (H' := H') (cells' := old ++ cs) (vs' := (vs.toList.take (len * es) ++ news ++ vs.toList.drop (len * es + news.length)).toArray) hg hm e1 (.inr hfr) hnew (fun _ => hgone) hold
        (by rw [over_size hfit2]; exact e2) (by simp; omega) hcell
      refine ⟨_, _, _, hput.fits hfit _ hst, k1, ?_, k2, k3⟩
      refine .ref fr 0 (len + n) es b sz sCap o k5 ?_ (by omega) hfit hcap
      rcases ho with ho | ho
      · exact .inl ho
      · exact .inr ho
  · -- a new block
    have hgrow : sCap < len + n := by omega
    have hge := grownCap_ge w (len + n) sCap e
    have hmax := grownCap_le_maxLen w (len + n) sCap e (by unfold maxLen; omega)
    have key : ∀ (olds : List Value) (hol : old.length = len * es) (hl : olds.length = len * es) (hfc : (Builtin.firstCells es len (.slice base len sCap)).run P w.drew = .ok olds.toArray w.drew)
        (hoc : ∀ (i : Nat) (d : D), old[i]? = some d → ∃ u, olds[i]? = some u ∧ u.oneCell' = true ∧ VV (Live L0 m H) w m d u) (hold : ∀ g, g ≠ fr → H' g = H g ∨ H' g = .dead),
        ∃ v w' m', (Builtin.append_ #[st, xt] 0 #[.slice base len sCap, vx]).run P w = .ok v w' ∧ WR Γ L0 w0 m' H' w' ∧ VV (Live L0 m' H') w' m' (.ref fr 0 (len + n) es) v ∧ Grow (Live L0 m H) w (Live L0 m' H') w' ∧ ∀ g, g ≠ fr → m' g = m g := by
      intro olds hol hl hfc hoc hold
      have hr := hput.grows hgrow e z olds.toArray hu hz hfc
      have hsz : (olds.toArray ++ news.toArray ++ Builtin.zeroCells z.cells (grownCap w (len + n) sCap e - (len + n))).size = grownCap w (len + n) sCap e * es := by
        simp only [Array.size_append, List.size_toArray, zeroCells_len, hzs, hl, hnl]
        rw [← Nat.add_mul, ← Nat.add_mul]
        congr 1
        omega
      have hle : (len + n) * es ≤ grownCap w (len + n) sCap e * es := Nat.mul_le_mul_right _ hge
      rw [Nat.add_mul] at hle
      obtain ⟨k1, k2, k3, k4⟩ := h.new (fr := fr) (w1 := w.drew) (vs := olds.toArray ++ news.toArray ++ Builtin.zeroCells z.cells (grownCap w (len + n) sCap e - (len + n))) (ty := e) (fz := (0, 0)) (H' := H') (cells := old ++ cs) hfr ⟨rfl, rfl, rfl, rfl⟩ hnew hold rfl
        (by rw [hsz]; simp; omega) (fun i d hd => by
          by_cases hi : i < old.length
          · rw [List.getElem?_append_left hi] at hd
            obtain ⟨v, q1, q2, q3⟩ := hoc i d hd
            refine ⟨v, ?_, q2, q3⟩
            rw [← Array.getElem?_toList]
            simp only [Array.toList_append, List.append_assoc]
            rw [List.getElem?_append_left (by omega)]
            exact q1
          · rw [List.getElem?_append_right (by omega)] at hd
            have hlt := (List.getElem?_eq_some_iff.1 hd).1
            obtain ⟨v, q1, q2, q3⟩ := hcs _ d hd
            refine ⟨v, ?_, q2, q3⟩
            rw [← Array.getElem?_toList]
            simp only [Array.toList_append, List.append_assoc]
            rw [List.getElem?_append_right (by omega), List.getElem?_append_left (by omega), show i - olds.length = i - old.length by omega]
            exact q1)
      refine ⟨_, _, _, hr, k1, ?_, k2, k3⟩
      exact .ref fr 0 (len + n) es _ _ _ 0 k4 (.inl rfl) (by rw [hsz]; omega) hge hmax
    rcases htarget with ⟨h0, h1, h2, h3, hold⟩ | ⟨h0, h1, hold, l, rfl, hall, hvd⟩ | ⟨g, b, sz, o, hfg, hg, hgone, hold, hm, hbase, ho, hsz, hls, hol⟩
    rotate_left
    · subst h0
      cases hvd with
      | sl _ _ _ _ _ b off vs hn hle hm hes' ha hc hvv =>
      have hfl : (flat l).length = sCap * es := by rw [flat_length hes', hn]
      refine key ((List.range (sCap * es)).map vs) (by simpa using hfl) (by simp) ?_ (fun i d hd => ?_) hold
      · rcases ha with ⟨rfl, hb, hL⟩ | rfl
        · refine run_firstCells_some (P := P) w.drew es sCap ⟨b, off, none⟩ sCap sCap _ (by simp) fun j u hu => ?_
          rw [List.getElem?_map, Option.map_eq_some_iff] at hu
          obtain ⟨q, hq, rfl⟩ := hu
          obtain ⟨hlt, rfl⟩ := List.getElem?_eq_some_iff.1 hq
          simp only [List.length_range] at hlt
          rw [add_off, World.cell?_drew, List.getElem_range]
          exact hc j _ (List.getElem?_eq_getElem (by omega))
        · obtain rfl : sCap = 0 := by simpa using hn
          cases base <;> simp [Builtin.firstCells, loadCells, loadCellsFrom]
      · rw [List.getElem?_map, Option.map_eq_some_iff] at hd
        obtain ⟨x, hx, rfl⟩ := hd
        have hi := (List.getElem?_eq_some_iff.1 hx).1
        have hcx : D.cell (.data x) = true := List.all_eq_true.1 hall _ (List.mem_map.2 ⟨x, List.mem_of_getElem? hx, rfl⟩)
        have hv := VV.data (m := m) x _ (hvv i x hx)
        exact ⟨vs i, by rw [List.getElem?_map, List.getElem?_range (by omega)]; rfl, hv.one hcx, hv⟩
    rotate_left
    · subst h0; subst h1; subst h2
      refine key [] (by simp) (by simp) ?_ (fun i d hd => by simp at hd) hold
      cases base <;> simp [Builtin.firstCells, loadCells, loadCellsFrom]
    · obtain ⟨vs, ty, e1, e2, e3, _, e5⟩ := at_of h hg hm
      subst hbase
      have hlo : o = 0 ∨ len = 0 := by omega
      refine key (vs.toList.take (len * es)) hol (by simp; omega) ?_ (fun i d hd => ?_) (fun k hk => ?_)
      · refine run_firstCells_some (P := P) w.drew es len ⟨b, o, none⟩ len sCap _ (by simp; omega) fun j u hu => ?_
        rw [List.getElem?_take] at hu
        split at hu
        · rename_i hj
          rw [add_off]
          have ho0 : o = 0 := by
            rcases hlo with e | e
            · exact e
            · subst e; omega
          rw [ho0, Nat.zero_add, World.cell?_drew, cell_of e1]
          simpa using hu
        · cases hu
      · obtain ⟨v, q1, q2, q3⟩ := e5 i d hd
        have hi := (List.getElem?_eq_some_iff.1 hd).1
        exact ⟨v, by rw [List.getElem?_take_of_lt (by omega)]; simpa using q1, q2, q3⟩
      · by_cases e : k = g
        · subst e; exact .inr hgone
        · exact .inl (hold k hk e)
end
end Go.Proofs.Ytdodhnkbdechaaa
namespace Go.Proofs.Ytdodhnkbdechaaa
open Go.RowKit
set_option linter.unusedVariables false
set_option linter.unusedSimpArgs false

theorem foldl_set (off : Nat) : ∀ (xs : List Value) (k : Nat) (cells : Array Value), off + k + xs.length ≤ cells.size →
    ((xs.zipIdx k).foldl (fun cs x => cs.setIfInBounds (off + x.2) x.1) cells).size = cells.size ∧
      ∀ i, ((xs.zipIdx k).foldl (fun cs x => cs.setIfInBounds (off + x.2) x.1) cells)[i]? = if off + k ≤ i ∧ i < off + k + xs.length then xs[i - (off + k)]? else cells[i]?
  | [], k, cells, h => by
    refine ⟨rfl, fun i => ?_⟩
    rw [if_neg (by simp)]; rfl
  | x :: xs, k, cells, h => by
    simp only [List.zipIdx_cons, List.foldl_cons]
    obtain ⟨h1, h2⟩ := foldl_set off xs (k + 1) (cells.setIfInBounds (off + k) x) (by simp at h ⊢; omega)
    refine ⟨by rw [h1]; simp, fun i => ?_⟩
    rw [h2 i]
    simp only [List.length_cons] at h ⊢
    by_cases e : i = off + k
    · subst e
      rw [if_neg (by omega), if_pos (by omega)]
      simp only [Nat.sub_self, List.getElem?_cons_zero]
      rw [Array.getElem?_setIfInBounds_self_of_lt (by omega)]
    · by_cases e2 : off + (k + 1) ≤ i ∧ i < off + (k + 1) + xs.length
      · rw [if_pos e2, if_pos (by omega), show i - (off + k) = i - (off + (k + 1)) + 1 by omega, List.getElem?_cons_succ]
      · rw [if_neg e2, if_neg (by omega), Array.getElem?_setIfInBounds_ne (fun e3 => e e3.symm)]

section
variable {P : Program} {Γ : Nat → Option (List Data)} {L0 : Nat → Prop} {w0 : W0} {m : Nat → MB} {H : Nat → Blk} {w : World} {fr : Nat} {L : Nat → Prop}

/-- Cells of the walk's stand to the model's. -/
def CellsV (L : Nat → Prop) (w : World) (m : Nat → MB) (cells : List D) (vs : Array Value) : Prop :=
  cells.length = vs.size ∧ ∀ (i : Nat) (d : D), cells[i]? = some d → ∃ v, vs[i]? = some v ∧ v.oneCell' = true ∧ VV L w m d v
/-- The same, of cells of which some may be anything. -/
def CellsJ (L : Nat → Prop) (w : World) (m : Nat → MB) (cells : List D) (vs : Array Value) : Prop :=
  cells.length = vs.size ∧ ∀ (i : Nat) (d : D) (v : Value), cells[i]? = some d → vs[i]? = some v → VV L w m d v

theorem fill_ok (place : Nat → Option (Nat × Nat)) : ∀ (parts : List (Nat × D)) (vparts : List (Nat × Value)) (cells cells' : List D) (vs : Array Value), parts.length = vparts.length →
    (∀ (i : Nat) (p : Nat × D) (q : Nat × Value), parts[i]? = some p → vparts[i]? = some q → p.1 = q.1 ∧ VV L w m p.2 q.2) → CellsJ L w m cells vs → fillD place cells parts = some cells' →
    ∃ vs', Instr.fill place vs vparts = some vs' ∧ CellsJ L w m cells' vs'
  | [], vparts, cells, cells', vs, hl, hp, hc, hf => by
    have : vparts = [] := List.eq_nil_of_length_eq_zero (by simpa using hl.symm)
    subst this
    simp only [fillD, Option.some.injEq] at hf
    subst hf
    exact ⟨vs, rfl, hc⟩
  | (i, d) :: parts, vparts, cells, cells', vs, hl, hp, hc, hf => by
    cases vparts with
    | nil => simp at hl
    | cons q vparts =>
      obtain ⟨j, v⟩ := q
      obtain ⟨hij, hv⟩ := hp 0 (i, d) (j, v) rfl rfl
      simp only at hij hv
      subst hij
      simp only [fillD] at hf
      cases hpl : place i with
      | none => simp [hpl] at hf
      | some os =>
        obtain ⟨off, size⟩ := os
        simp only [hpl] at hf
        split at hf
        · rename_i hcond
          obtain ⟨hsz, hfit, hall⟩ := hcond
          obtain ⟨hc1, hc2⟩ := hv.cells hall
          obtain ⟨hcl, hch⟩ := hc
          have hvs : v.cells.size = size := by omega
          obtain ⟨k1, k2⟩ := foldl_set off v.cells.toList 0 vs (by simp; omega)
          have hfold : v.cells.zipIdx.foldl (fun cs x => cs.setIfInBounds (off + x.2) x.1) vs = (v.cells.toList.zipIdx 0).foldl (fun cs x => cs.setIfInBounds (off + x.2) x.1) vs := by
            rw [← Array.foldl_toList]; simp
          have hj : CellsJ L w m (over cells off d.cells) (v.cells.zipIdx.foldl (fun cs x => cs.setIfInBounds (off + x.2) x.1) vs) := by
            refine ⟨by rw [over_length (by omega), hfold, k1]; exact hcl, fun k x y hx hy => ?_⟩
            rw [over_get (by omega)] at hx
            rw [hfold, k2 k] at hy
            simp only [Nat.add_zero, Array.length_toList] at hy
            split at hx
            · rename_i hin
              rw [if_pos (by omega)] at hy
              exact (hc2 _ x y hx (by simpa using hy)).1
            · rename_i hin
              rw [if_neg (by omega)] at hy
              exact hch k x y hx hy
          obtain ⟨vs', e1, e2⟩ := fill_ok place parts vparts (over cells off d.cells) cells' (v.cells.zipIdx.foldl (fun cs x => cs.setIfInBounds (off + x.2) x.1) vs) (by simpa using hl)
            (fun k p q h1 h2 => hp (k + 1) p q (by simpa using h1) (by simpa using h2)) hj hf
          refine ⟨vs', ?_, e2⟩
          have h3 : ¬ (off + size > vs.size) := by omega
          simp only [Instr.fill, hpl, hvs]
          simp only [ne_eq, not_true_eq_false, decide_false, Bool.false_or, h3, Bool.false_eq_true, if_false]
          exact e1
        · cases hf

theorem zero_cellsJ {t : TypeId} {z : List D} (hz : zeT P t = some z) : ∃ i v, P.info? t = some i ∧ i.zero = some v ∧ ∀ (L : Nat → Prop) (w : World) (m : Nat → MB), CellsJ L w m z v.cells := by
  obtain ⟨i, v, h1, h2, h3⟩ := zero_of P hz
  subst h3
  refine ⟨i, v, h1, h2, fun L w m => ⟨by simp, fun j d u hd hu => ?_⟩⟩
  simp only [List.getElem?_map, Option.map_eq_some_iff, Array.getElem?_toList] at hd
  obtain ⟨u', hu', rfl⟩ := hd
  rw [hu] at hu'
  cases hu'
  exact cD_ok u

theorem build_ok {t : TypeId} {parts : List (Nat × D)} {vparts : Array (Nat × Value)} {K : D → Prop} (hl : parts.length = vparts.size) (hp : ∀ (i : Nat) (p : Nat × D) (q : Nat × Value), parts[i]? = some p → vparts[i]? = some q → p.1 = q.1 ∧ VV L w m p.2 q.2)
    (hk : buildK P t parts K) : ∃ d v, K d ∧ VV L w m d v ∧ (Instr.build t vparts).run P w = .ok v w := by
  unfold buildK at hk
  split at hk
  · rename_i z hz
    obtain ⟨i, v, h1, h2, h3⟩ := zero_cellsJ hz
    have hl' : parts.length = vparts.toList.length := by simpa using hl
    have hp' : ∀ (i : Nat) (p : Nat × D) (q : Nat × Value), parts[i]? = some p → vparts.toList[i]? = some q → p.1 = q.1 ∧ VV L w m p.2 q.2 := fun i p q e1 e2 => hp i p q e1 (by simpa using e2)
    split at hk
    · rename_i n e he
      split at hk
      · rename_i es hs
        split at hk
        · rename_i cells hf
          obtain ⟨ie, hie, hse⟩ := info_of_sz P hs
          obtain ⟨vs', e1, e2, e3⟩ := fill_ok _ _ _ _ _ _ hl' hp' (h3 L w m) hf
          refine ⟨_, .agg vs', hk, VV.mk_agg e2 e3, run_build w t vparts vs' ?_⟩
          simp only [Program.built, h1, und_arr P he, h2, hie, hse]
          exact e1
        · exact hk.elim
      · exact hk.elim
    · split at hk
      · rename_i places hpl
        split at hk
        · rename_i cells hf
          obtain ⟨vs', e1, e2, e3⟩ := fill_ok _ _ _ _ _ _ hl' hp' (h3 L w m) hf
          refine ⟨_, .agg vs', hk, VV.mk_agg e2 e3, run_build w t vparts vs' ?_⟩
          unfold plT at hpl
          split at hpl
          · rename_i fs hu
            simp only [Program.built, h1, hu, h2, hpl, List.getElem?_toArray]
            exact e1
          · cases hpl
        · exact hk.elim
      · exact hk.elim
  · exact hk.elim

/-- Zero values one behind the other. -/
theorem zeros_get {z : List D} {v : Array Value} (hl : z.length = v.size) (h0 : 0 < z.length) (n : Nat) (hat : ∀ (i : Nat) (d : D), z[i]? = some d → ∃ u, v[i]? = some u ∧ u.oneCell' = true ∧ VV L w m d u) :
    CellsV L w m (List.replicate n z).flatten ((Array.range (n * v.size)).map (v[· % v.size]!)) := by
  have hfl : ∀ n, (List.replicate n z).flatten.length = n * z.length := fun n => by simp
  have hget : ∀ n i, i < n * z.length → (List.replicate n z).flatten[i]? = z[i % z.length]? := by
    intro n
    induction n with
    | zero => intro i hi; omega
    | succ n ih =>
      intro i hi
      rw [List.replicate_succ, List.flatten_cons]
      by_cases h1 : i < z.length
      · rw [List.getElem?_append_left h1, Nat.mod_eq_of_lt h1]
      · rw [List.getElem?_append_right (by omega), ih _ (by rw [Nat.succ_mul] at hi; omega)]
        congr 1
        rw [← Nat.mod_eq_sub_mod (by omega)]
  refine ⟨by rw [hfl, hl]; simp, fun i d hd => ?_⟩
  have hi := (List.getElem?_eq_some_iff.1 hd).1
  rw [hfl] at hi
  rw [hget n i hi] at hd
  obtain ⟨u, e1, e2, e3⟩ := hat _ d hd
  refine ⟨u, ?_, e2, e3⟩
  have hi2 : i < n * v.size := by rw [← hl]; exact hi
  have hm : i % z.length < v.size := by rw [← hl]; exact Nat.mod_lt _ h0
  rw [hl] at e1
  simp only [Array.getElem?_map, Array.getElem?_range, hi2, if_true, Option.map_some]
  simp [getElem!_def, e1]

theorem makeSlice_ok {t : TypeId} {e : TypeId} {es by_ : Nat} {n c : Int} {kn kc : IntKind} {z : List D} (h : WR Γ L0 w0 m H w) (hfr : m fr = .res) (he : sliceT P t = some e) (hs : szT P e = some es) (hb : byT P e = some by_)
    (h0 : 0 ≤ n) (h1 : n ≤ c) (h2 : c * by_ ≤ 140737488355328) (h3 : c ≤ 9223372036854775807) (hz : zeT P e = some z) (hall : z.all D.cell = true) (hzl : es = z.length) (hz0 : 0 < z.length) :
    ∃ v w', (Instr.makeSlice t (.int kn n) (.int kc c)).run P w = .ok v w' ∧ After Γ L0 w0 fr H m w (.ref fr 0 n.toNat es) [(fr, .blk true (List.replicate n.toNat z).flatten)] v w' := by
  obtain ⟨i, v, k1, k2, k3, k4⟩ := zero_cells hz hall
  have hu := und_slice P he
  obtain ⟨i', hi', his⟩ := info_of_sz P hs
  have hib : i.bytes = by_ := by unfold byT at hb; rw [k1] at hb; simpa using hb
  rw [k1] at hi'; cases hi'
  have hw1 : IntKind.i64.wrap n = n := by rw [IntKind.wrap_i64]; omega
  have hw2 : IntKind.i64.wrap c = c := by rw [IntKind.wrap_i64]; omega
  have hc0 : ¬ (c < 0) := by omega
  have hn0 : ¬ (n < 0) := by omega
  have hcn : ¬ (n > c) := by omega
  have hcb : ¬ (281474976710656 < (i.bytes : Int) * c) := by rw [hib, Int.mul_comm]; omega
  have hr0 : Array.range 0 = #[] := rfl
  have hcz := zeros_get (L := Live L0 m H) (w := w) (m := m) (n := c.toNat) k3 hz0 (k4 _ _ _)
  have hvs : v.cells.size = es := by omega
  have hsub : ∀ (j : Nat) (d : D), (List.replicate n.toNat z).flatten[j]? = some d → (List.replicate c.toNat z).flatten[j]? = some d := by
    intro j d hd
    obtain ⟨q, hq⟩ : ∃ q, c.toNat = n.toNat + q := ⟨c.toNat - n.toNat, by omega⟩
    rw [hq, ← List.replicate_append_replicate, List.flatten_append, List.getElem?_append_left (List.getElem?_eq_some_iff.1 hd).1]
    exact hd
  have hlen : (List.replicate n.toNat z).flatten.length ≤ ((Array.range (c.toNat * v.cells.size)).map (v.cells[· % v.cells.size]!)).size := by
    have : n.toNat * z.length ≤ c.toNat * v.cells.size := by rw [k3]; exact Nat.mul_le_mul_right _ (by omega)
    simp
    exact this
  obtain ⟨q1, q2, q3, q4⟩ := h.new (fr := fr) (w1 := w) (vs := (Array.range (c.toNat * v.cells.size)).map (v.cells[· % v.cells.size]!)) (ty := e) (fz := (0, 0)) (H' := Hp.set H fr (.blk true (List.replicate n.toNat z).flatten)) (cells := (List.replicate n.toNat z).flatten)
    hfr ⟨rfl, rfl, rfl, rfl⟩ (by simp [Hp.set]) (fun g hg => .inl (by simp [Hp.set, hg])) rfl hlen (fun j d hd => hcz.2 j d (hsub j d hd))
  refine ⟨.slice (some ⟨w.heap.size, 0, none⟩) n.toNat c.toNat, w.alloc (.cells ((Array.range (c.toNat * v.cells.size)).map (v.cells[· % v.cells.size]!)) e), ?_, _, q1, .ref fr 0 n.toNat es _ _ _ 0 q4 (.inl rfl) (by simp [hvs]) (by omega) (by unfold maxLen; omega), q2, q3⟩
  by_cases hc : c.toNat * es = 0
  · have hr : (Array.range (c.toNat * v.cells.size)).map (v.cells[· % v.cells.size]!) = #[] := by rw [hvs, hc]; simp
    rw [hr]
    simp [Instr.makeSlice, run_underlying hu, asInt, asIntOf, typeInfo, sizeOf, k1, his, hw1, hw2, hc0, hn0, hcn, hcb, hc, newRow, hr0]
  · simp [Instr.makeSlice, run_underlying hu, asInt, asIntOf, typeInfo, sizeOf, zeroValue, k1, k2, his, hw1, hw2, hc0, hn0, hcn, hcb, hc, newRow, hvs]

theorem buildSlice_ok {t e : TypeId} {len es : Nat} {z cells : List D} {parts : List (Nat × D)} {vparts : Array (Nat × Value)} (h : WR Γ L0 w0 m H w) (hfr : m fr = .res) (he : sliceT P t = some e) (hs : szT P e = some es) (hbig : len * es ≤ 16777216) (hpos : len ≠ 0)
    (hz : zeT P e = some z) (hall : z.all D.cell = true) (hzl : es = z.length) (hz0 : 0 < z.length)
    (hl : parts.length = vparts.size) (hp : ∀ (i : Nat) (p : Nat × D) (q : Nat × Value), parts[i]? = some p → vparts[i]? = some q → p.1 = q.1 ∧ VV (Live L0 m H) w m p.2 q.2)
    (hf : fillD (fun i => some (i * es, es)) (List.replicate len z).flatten parts = some cells) (hcell : cells.all D.cell = true) :
    ∃ v w', (Instr.buildSlice t len vparts).run P w = .ok v w' ∧ After Γ L0 w0 fr H m w (.ref fr 0 len es) [(fr, .blk true cells)] v w' := by
  obtain ⟨i, v, k1, k2, k3, k4⟩ := zero_cells hz hall
  have hu := und_slice P he
  obtain ⟨i', hi', his⟩ := info_of_sz P hs
  rw [k1] at hi'; cases hi'
  have hvs : v.cells.size = es := by omega
  have hcz := zeros_get (L := Live L0 m H) (w := w) (m := m) (n := len) k3 hz0 (k4 _ _ _)
  have hj : CellsJ (Live L0 m H) w m (List.replicate len z).flatten ((Array.range (len * es)).map (v.cells[· % v.cells.size]!)) := by
    rw [← hvs]
    refine ⟨hcz.1, fun j d u hd hu => ?_⟩
    obtain ⟨u', e1, _, e3⟩ := hcz.2 j d hd
    rw [hu] at e1; cases e1
    exact e3
  obtain ⟨vs', e1, e2, e3⟩ := fill_ok (fun i => some (i * es, es)) _ vparts.toList _ _ _ (by simpa using hl) (fun i p q a1 a2 => hp i p q a1 (by simpa using a2)) hj hf
  have hlencells : vs'.size = len * es := by
    have : ∀ (parts : List (Nat × D)) (cs cs' : List D), fillD (fun i => some (i * es, es)) cs parts = some cs' → cs'.length = cs.length := by
      intro parts
      induction parts with
      | nil => intro cs cs' h; simp [fillD] at h; rw [h]
      | cons p parts ih =>
        intro cs cs' h
        obtain ⟨q, d⟩ := p
        simp only [fillD] at h
        split at h
        · rename_i hc
          rw [ih _ _ h, over_length (by omega)]
        · cases h
    have := this _ _ _ hf
    rw [← e2, this]
    simp [← hzl]
  have hpos2 : ¬ (len * es = 0) := by
    have := Nat.mul_pos (Nat.pos_of_ne_zero hpos) (by omega : 0 < es)
    omega
  obtain ⟨q1, q2, q3, q4⟩ := h.new (fr := fr) (w1 := w) (vs := vs') (ty := e) (fz := (0, 0)) (H' := Hp.set H fr (.blk true cells)) (cells := cells)
    hfr ⟨rfl, rfl, rfl, rfl⟩ (by simp [Hp.set]) (fun g hg => .inl (by simp [Hp.set, hg])) rfl (by omega) (fun j d hd => by
      have hj := (List.getElem?_eq_some_iff.1 hd).1
      have hq := Array.getElem?_eq_getElem (xs := vs') (i := j) (by omega)
      have hvv := e3 j d _ hd hq
      rw [List.all_eq_true] at hcell
      exact ⟨_, hq, hvv.one (hcell d (List.mem_of_getElem? hd)), hvv⟩)
  have hmaxl : len ≤ maxLen := by
    have : len ≤ len * es := Nat.le_mul_of_pos_right _ (by omega)
    unfold maxLen; omega
  refine ⟨.slice (some ⟨w.heap.size, 0, none⟩) len len, w.alloc (.cells vs' e), ?_, _, q1, .ref fr 0 len es _ _ _ 0 q4 (.inl rfl) (by omega) (Nat.le_refl _) hmaxl, q2, q3⟩
  exact run_buildSlice w t e len vparts vs' i v hu k1 k2 (by rw [his]; omega) (by rw [his]; exact hpos2) (by rw [his]; exact e1)
end
end Go.Proofs.Ytdodhnkbdechaaa
namespace Go.Proofs.Ytdodhnkbdechaaa
open Go.RowKit
set_option linter.unusedVariables false
set_option linter.unusedSimpArgs false

section
variable {P : Program} {Γ : Nat → Option (List Data)} {L0 : Nat → Prop} {w0 : W0} {m : Nat → MB} {H : Nat → Blk} {w : World} {fr : Nat} {L : Nat → Prop}

theorem len_ok {t ty : TypeId} {x : D} {v : Value} {K : D → Prop} (hv : VV L w m x v) (hk : lenK P t x K) : ∃ d u, K d ∧ VV L w m d u ∧ (Builtin.len_ #[t] ty #[v]).run P w = .ok u w := by
  have nd : ∀ k n, VV L w m (intD k n) (.int k n) := fun k n => .data _ _ (.int k n)
  unfold lenK at hk
  split at hk
  · obtain ⟨ht, hk⟩ := hk
    have hv := hv.data_inv
    cases hv
    exact ⟨_, _, hk, nd _ _, by simp [Builtin.len_, run_underlying (und_str P ht), goInt]⟩
  · obtain ⟨ht, hk⟩ := hk
    obtain ⟨e, he⟩ := Option.isSome_iff_exists.1 ht
    have hv := hv.data_inv
    cases hv with
    | sl _ _ a n cap b off vs hn =>
    subst hn
    exact ⟨_, _, hk, nd _ _, by simp [Builtin.len_, run_underlying (und_slice P he), goInt]⟩
  · obtain ⟨ht, hk⟩ := hk
    obtain ⟨e, he⟩ := Option.isSome_iff_exists.1 ht
    cases hv with
    | ref _ _ _ _ b sz cap o => exact ⟨_, _, hk, nd _ _, by simp [Builtin.len_, run_underlying (und_slice P he), goInt]⟩
    | ref0 _ _ a => exact ⟨_, _, hk, nd _ _, by simp [Builtin.len_, run_underlying (und_slice P he), goInt]⟩
  · obtain ⟨ht, hk⟩ := hk
    obtain ⟨e, he⟩ := Option.isSome_iff_exists.1 ht
    cases hv with
    | cut _ _ _ _ _ b sz cap o => exact ⟨_, _, hk, nd _ _, by simp [Builtin.len_, run_underlying (und_slice P he), goInt]⟩
  · obtain ⟨ht, hk⟩ := hk
    obtain ⟨e, he⟩ := Option.isSome_iff_exists.1 ht
    cases hv with
    | emp _ a => exact ⟨_, _, hk, nd _ _, by simp [Builtin.len_, run_underlying (und_slice P he), goInt]⟩
  · obtain ⟨ht, hk⟩ := hk
    obtain ⟨e, he⟩ := Option.isSome_iff_exists.1 ht
    cases hv with
    | ful _ _ a n hd =>
    cases hd with
    | sl _ _ _ _ cap b off vs hn =>
    subst hn
    exact ⟨_, _, hk, nd _ _, by simp [Builtin.len_, run_underlying (und_slice P he), goInt]⟩
  · split at hk
    · rename_i n e he
      exact ⟨_, _, hk, nd _ _, by simp [Builtin.len_, run_underlying (und_arr P he), goInt]⟩
    · exact hk.elim

theorem cap_ok {t ty : TypeId} {x : D} {v : Value} {K : D → Prop} (hv : VV L w m x v) (hk : capK P t x K) : ∃ d u, K d ∧ VV L w m d u ∧ (Builtin.cap_ #[t] ty #[v]).run P w = .ok u w := by
  unfold capK at hk
  split at hk
  · obtain ⟨ht, hk⟩ := hk
    obtain ⟨e, he⟩ := Option.isSome_iff_exists.1 ht
    cases hv with
    | emp _ a => exact ⟨_, _, hk, .data _ _ (.int _ _), by simp [Builtin.cap_, run_underlying (und_slice P he), goInt]⟩
  · exact hk.elim

theorem conv_ok {src dst : TypeId} {x : D} {v : Value} {K : D → Prop} (hsrc : (P.underlying src).isSome = true) (hv : VV L w m x v) (hk : convK P src dst x K) : ∃ d u, K d ∧ VV L w m d u ∧ (convert src dst v).run P w = .ok u w := by
  obtain ⟨ds, hds⟩ := Option.isSome_iff_exists.1 hsrc
  unfold convK at hk
  split at hk
  · obtain rfl := int_inv hv
    split at hk
    · rename_i k hkd
      refine ⟨_, _, hk, .data _ _ (.int _ _), ?_⟩
      simp only [convert, Sem.run_bind, run_underlying hds, run_underlying (und_int P hkd), Result.andThen_ok]
      cases ds <;> simp [Conv.intToInt]
    · exact hk.elim
  · obtain ⟨ht, hk⟩ := hk
    have hv := hv.data_inv
    cases hv
    refine ⟨_, _, hk, .data _ _ (.str _), ?_⟩
    simp only [convert, Sem.run_bind, run_underlying hds, run_underlying (und_str P ht), Result.andThen_ok]
    cases ds <;> simp
  · obtain ⟨rfl, ht, hk2, bs, rfl, hk⟩ := hk
    split at hk2
    · rename_i e he
      have hq0 := hv.data_inv
      cases hq0 with
      | sl _ _ a n cap b off vs hn hle hm hes ha hc hvv =>
        refine ⟨_, _, hk, .data _ _ (.str _), ?_⟩
        have hfl : ∀ l : List UInt8, flat (l.map fun b => Data.int .u8 (b.toNat : Int)) = l.map fun b => Data.int .u8 (b.toNat : Int) := fun l => by
          induction l with
          | nil => rfl
          | cons y l ih => simp only [flat, List.map_cons, List.flatMap_cons] at ih ⊢; rw [ih]; rfl
        have hn2 : n = bs.length := by simpa using hn
        subst hn2
        rcases ha with ⟨rfl, _, _⟩ | h0
        · refine run_convert_bytes_back w _ _ e ⟨b, off, none⟩ cap bs (und_slice P he) (und_int P hk2) (und_str P ht) fun j hj => ?_
          have hx : (flat (bs.map fun b => Data.int .u8 (b.toNat : Int)))[j]? = some (.int .u8 (bs[j].toNat : Int)) := by rw [hfl]; simp [hj]
          have h1 := hc j _ hx
          have h2 := hvv j _ hx
          generalize vs j = q at h1 h2
          cases h2
          by_cases hj0 : j = 0
          · subst hj0; simpa [Addr.add] using h1
          · simpa [Addr.add, hj0] using h1
        · have : bs = [] := by simpa using h0
          subst this
          cases a with
          | none => exact Lib.run_convert_nil_bytes w _ _ e cap (und_slice P he) (und_int P hk2) (und_str P ht)
          | some ad => exact run_convert_bytes_back w _ _ e ad cap [] (und_slice P he) (und_int P hk2) (und_str P ht) fun j hj => by simp at hj
    · exact hk2.elim
  · exact hk.elim

theorem un_ok {op : UnOp} {x : D} {v : Value} {K : D → Prop} (hv : VV L w m x v) (hk : unK op x K) : ∃ d u, K d ∧ VV L w m d u ∧ (Op.unary op v).run P w = .ok u w := by
  unfold unK at hk
  split at hk
  · obtain rfl := int_inv hv
    exact ⟨_, _, hk, .data _ _ (.int _ _), by simp [Op.unary, Op.intArith]⟩
  · obtain rfl := int_inv hv
    exact ⟨_, _, hk, .data _ _ (.int _ _), by simp [Op.unary, Op.intBits]⟩
  · have hv := hv.data_inv
    cases hv
    exact ⟨_, _, hk, .data _ _ (.bool _), by simp [Op.unary]⟩
  · exact hk.elim

theorem minmax_ok {big : Bool} {ds : List D} {vs : Array Value} {ts : Array TypeId} {ty : TypeId} {K : D → Prop} (hl : ds.length = vs.size) (hv : ∀ (i : Nat) (d : D) (v : Value), ds[i]? = some d → vs[i]? = some v → VV L w m d v) (hk : minmaxK big ds K) :
    ∃ d u, K d ∧ VV L w m d u ∧ (if big then Builtin.max_ ts ty vs else Builtin.min_ ts ty vs).run P w = .ok u w := by
  unfold minmaxK at hk
  split at hk
  · rename_i k a k' b
    obtain ⟨rfl, hk⟩ := hk
    have h0 : 0 < vs.size := by simp at hl; omega
    have h1 : 1 < vs.size := by simp at hl; omega
    have e0 := int_inv (hv 0 _ _ rfl (Array.getElem?_eq_getElem h0))
    have e1 := int_inv (hv 1 _ _ rfl (Array.getElem?_eq_getElem h1))
    have hvs : vs.toList = [.int k a, .int k b] := by
      apply List.ext_getElem
      · simp at hl ⊢; omega
      · intro i h2 h3
        simp at h3
        match i with
        | 0 => simpa using e0
        | 1 => simpa using e1
    refine ⟨_, _, hk, .data _ _ (.int _ _), ?_⟩
    cases big <;> simp [Builtin.max_, Builtin.min_, hvs, Builtin.max2, Builtin.min2]
  · exact hk.elim

theorem sliceArr_ok {t : TypeId} {x : D} {v : Value} {lo hi mx : Option Operand} {ρ : Operand → D} {σ : Operand → Value} {K : D → List Nat → Prop} (h : WR Γ L0 w0 m H w) (hρ : ∀ x, VV (Live L0 m H) w m (ρ x) (σ x)) (hv : VV (Live L0 m H) w m x v)
    (hk : sliceArrK P t x (lo.map ρ) (hi.map ρ) (mx.map ρ) H K) : ∃ d rd u, K d rd ∧ VV (Live L0 m H) w m d u ∧ (Instr.sliceAt t v (lo.map σ) (hi.map σ) (mx.map σ)).run P w = .ok u w := by
  obtain ⟨l1, l2⟩ := map_some (a := lo) hρ
  obtain ⟨h1, h2⟩ := map_some (a := hi) hρ
  unfold sliceArrK at hk
  split at hk
  · exact hk.elim
  · rename_i hmx
    have hmx : mx = none := by cases mx with | none => rfl | some _ => cases hmx
    subst hmx
    simp only [Option.map_none]
    split at hk
    · rename_i g off n e he
      split at hk
      · rename_i es rw cells hs hg
        obtain ⟨hmax, hfit, hk⟩ := hk
        have hu := und_arr P he
        have hml : n ≤ maxLen := by unfold maxLen; omega
        cases hv with
        | ptr _ _ b sz k1 =>
        obtain ⟨vs, ty, e1, e2, e3, _⟩ := at_of h hg k1
        obtain ⟨i, j, hk, hab, hbl, hr⟩ := bounds_ok (P := P) (isSlice := false) (cap := n) (Nat.le_refl _) l1 l2 h1 h2 hk
        have hmul : i * es + (n - i) * es = n * es := by rw [← Nat.add_mul]; congr 1; omega
        refine ⟨_, _, .slice (some (if n = i then ⟨b, off, none⟩ else ⟨b, off + i * es, none⟩)) (j - i) (n - i), hk, ?_, ?_⟩
        · by_cases hni : n = i
          · rw [if_pos hni]
            exact .ref _ _ _ _ b sz _ off k1 (.inr (by omega)) (by omega) (by omega) (by omega)
          · rw [if_neg hni]
            exact .ref _ _ _ _ b sz _ _ k1 (.inl rfl) (by omega) (by omega) (by omega)
        · simp only [Instr.sliceAt, run_underlying hu, Instr.sureAddr, hr, run_sz P hs, Sem.run_bind, Result.andThen_ok, Sem.run_pure, add_off]
      · exact hk.elim
    · rename_i cells n e he
      obtain ⟨hs, hmax, hfit, hcell, hk⟩ := hk
      have hu := und_arr P he
      have hml : n ≤ maxLen := by unfold maxLen; omega
      cases hv with
      | cptr _ b off vs hb hL hc hvv =>
      obtain ⟨i, j, hk, hab, hbl, hr⟩ := bounds_ok (P := P) (isSlice := false) (cap := n) (Nat.le_refl _) l1 l2 h1 h2 hk
      refine ⟨_, _, .slice (some (if n = i then ⟨b, off, none⟩ else ⟨b, off + i * 1, none⟩)) (j - i) (n - i), hk, .data _ _ ?_, ?_⟩
      · have hone : ∀ x ∈ ((cells.take n).take j).drop i, x.cells = [x] := fun x hx => by
          have hx := hcell x (List.mem_of_mem_take (List.mem_of_mem_drop hx))
          cases x <;> simp_all [Data.cell, Data.cells]
        have hfl : ∀ l : List Data, (∀ x ∈ l, x.cells = [x]) → flat l = l := fun l hl => by
          induction l with
          | nil => rfl
          | cons x l ih =>
            simp only [flat, List.flatMap_cons] at ih ⊢
            rw [hl x (by simp), ih (fun y hy => hl y (by simp [hy]))]; rfl
        have hf := hfl _ hone
        have hlen : j - i = (((cells.take n).take j).drop i).length := by simp; omega
        by_cases hij : i = j
        · refine .sl 1 _ _ _ _ b off vs hlen (by omega) (by omega) (fun x hx => by rw [hone x hx]; rfl) (.inr (List.eq_nil_of_length_eq_zero (by omega))) (fun q c hq => ?_) (fun q c hq => ?_)
          all_goals
            rw [hf] at hq
            have := (List.getElem?_eq_some_iff.1 hq).1
            omega
        · rw [if_neg (by omega)]
          refine .sl 1 _ _ _ _ b (off + i * 1) (fun q => vs (i * 1 + q)) hlen (by omega) (by omega) (fun x hx => by rw [hone x hx]; rfl) (.inl ⟨rfl, hb, hL⟩) (fun q c hq => ?_) (fun q c hq => ?_)
          all_goals
            rw [hf, List.getElem?_drop, List.getElem?_take] at hq
            split at hq
            · rw [List.getElem?_take] at hq
              split at hq
              · first
                | (rw [Nat.mul_one]; exact hvv _ c hq)
                | (rw [Nat.mul_one, Nat.add_assoc]; exact hc _ c hq)
              · cases hq
            · cases hq
      · simp only [Instr.sliceAt, run_underlying hu, Instr.sureAddr, hr, run_sz P hs, Sem.run_bind, Result.andThen_ok, Sem.run_pure, add_off]
    · exact hk.elim
end
end Go.Proofs.Ytdodhnkbdechaaa
namespace Go.Proofs.Ytdodhnkbdechaaa
open Go.RowKit
set_option linter.unusedVariables false
set_option linter.unusedSimpArgs false

section
variable {P : Program} {Γ : Nat → Option (List Data)} {L0 : Nat → Prop} {w0 : W0} {m : Nat → MB} {H : Nat → Blk} {w : World} {fr : Nat} {L : Nat → Prop}

theorem zl_of {e : TypeId} {es : Nat} (h : zlT P e = some es) : ∃ i z, P.info? e = some i ∧ i.zero = some z ∧ z.cells.size = es := by
  unfold zlT at h
  cases hi : P.info? e with
  | none => simp [hi] at h
  | some i =>
    simp only [hi, Option.bind_some, Option.map_eq_some_iff] at h
    obtain ⟨z, hz, hs⟩ := h
    exact ⟨i, z, rfl, hz, hs⟩

theorem Src.cells {es n : Nat} {cs : List D} {v : Value} {news : List Value} (h : Src P L m w es n cs v news) (hall : cs.all D.cell = true) :
    (∀ (i : Nat) (d : D), cs[i]? = some d → ∃ u, news[i]? = some u ∧ u.oneCell' = true ∧ VV L w m d u) ∧ ∀ u ∈ news, u.oneCell' = true := by
  have key : ∀ (i : Nat) (d : D), cs[i]? = some d → ∃ u, news[i]? = some u ∧ u.oneCell' = true ∧ VV L w m d u := fun i d hd => by
    obtain ⟨u, e1, e2⟩ := h.at' i d hd
    rw [List.all_eq_true] at hall
    exact ⟨u, e1, e2.one (hall d (List.mem_of_getElem? hd)), e2⟩
  refine ⟨key, fun u hu => ?_⟩
  obtain ⟨i, hi⟩ := List.getElem?_of_mem hu
  have hlt : i < cs.length := by rw [h.cl, ← h.nl]; exact (List.getElem?_eq_some_iff.1 hi).1
  obtain ⟨u', e1, e2, _⟩ := key i _ (List.getElem?_eq_getElem hlt)
  rw [hi] at e1; cases e1
  exact e2

/-- The zero values that a make lays, as the model lays them behind a row. -/
theorem zeros_put {e : TypeId} {z : List D} (hz : zeT P e = some z) (hall : z.all D.cell = true) (h0 : 0 < z.length) (n : Nat) : ∃ i v, P.info? e = some i ∧ i.zero = some v ∧ v.cells.size = z.length ∧ (List.replicate n z).flatten.length = n * z.length ∧
    (Builtin.zeroCells v.cells n).toList.length = n * z.length ∧
    (∀ (i : Nat) (d : D), (List.replicate n z).flatten[i]? = some d → ∃ u, (Builtin.zeroCells v.cells n).toList[i]? = some u ∧ u.oneCell' = true ∧ VV L w m d u) ∧ ∀ u ∈ (Builtin.zeroCells v.cells n).toList, u.oneCell' = true := by
  obtain ⟨i, v, k1, k2, k3, k4⟩ := zero_cells hz hall
  have hcz := zeros_get (L := L) (w := w) (m := m) (n := n) k3 h0 (k4 _ _ _)
  have hfl : (List.replicate n z).flatten.length = n * z.length := by simp
  have key : ∀ (i : Nat) (d : D), (List.replicate n z).flatten[i]? = some d → ∃ u, (Builtin.zeroCells v.cells n).toList[i]? = some u ∧ u.oneCell' = true ∧ VV L w m d u := fun j d hd => by
    obtain ⟨u, e1, e2, e3⟩ := hcz.2 j d hd
    exact ⟨u, by rw [Array.getElem?_toList]; exact e1, e2, e3⟩
  have hzl : (Builtin.zeroCells v.cells n).toList.length = n * z.length := by rw [Array.length_toList, zeroCells_len, k3]
  refine ⟨i, v, k1, k2, k3.symm, hfl, hzl, key, fun u hu => ?_⟩
  obtain ⟨j, hj⟩ := List.getElem?_of_mem hu
  have hlt : j < (List.replicate n z).flatten.length := by rw [hfl, ← hzl]; exact (List.getElem?_eq_some_iff.1 hj).1
  obtain ⟨u', e1, e2, _⟩ := key j _ (List.getElem?_eq_getElem hlt)
  rw [hj] at e1; cases e1
  exact e2

theorem append_any {st xt ty : TypeId} (vs : Array Value) : Builtin.append_ #[st, xt] ty vs = Builtin.append_ #[st, xt] 0 vs := rfl

theorem append_fits {st xt e : TypeId} {es n : Nat} {cs : List D} {vx : Value} {news : List Value} (he : sliceT P st = some e) (hs : szT P e = some es) (hxs : ((sliceT P xt).isSome || strT P xt) = true)
    (hsrc : Src P L m w es n cs vx news) (base : Option Addr) (sLen sCap : Nat) (hfit : sLen + n ≤ sCap) (w' : World) (hst : match base with | some a => (storeCells (a.add (sLen * es)) news).run P w = .ok () w' | none => w' = w) :
    (Builtin.append_ #[st, xt] 0 #[.slice base sLen sCap, vx]).run P w = .ok (.slice base (sLen + n) sCap) w' := by
  have hu := und_slice P he
  have hfirst := hsrc.first n (Nat.le_refl _)
  rw [← hsrc.nl, List.take_length] at hfirst
  cases base with
  | none =>
    simp only at hst
    subst hst
    rcases und_src hxs with ⟨e2, hd⟩ | hd <;> simp [Builtin.append_, run_underlying hu, run_underlying hd, run_sz P hs, hsrc.len, hfit, hfirst]
  | some a =>
    simp only at hst
    rcases und_src hxs with ⟨e2, hd⟩ | hd <;> simp [Builtin.append_, run_underlying hu, run_underlying hd, run_sz P hs, hsrc.len, hfit, hfirst, hst]

/-- Cells put over others of a row of the call's own. -/
theorem put_row (h : WR Γ L0 w0 m H w) {g b sz off at' : Nat} {cells cs : List D} {news : List Value} (hg : H g = .blk true cells) (j1 : m g = .at b sz) (hl : cs.length = news.length) (hfit : off + cs.length ≤ cells.length)
    (k6 : ∀ (i : Nat) (d : D), cs[i]? = some d → ∃ u, news[i]? = some u ∧ u.oneCell' = true ∧ VV (Live L0 m H) w m d u) (k7 : ∀ u ∈ news, u.oneCell' = true) (hat : at' = off ∨ cs = []) :
    ∃ w', (storeCells ⟨b, at', none⟩ news).run P w = .ok () w' ∧ ∀ d r, (∀ L' w' m', Grow (Live L0 m H) w L' w' → (∀ k, m k ≠ .res → m' k = m k) → VV L' w' m' d r) → After Γ L0 w0 fr H m w d [(g, .blk true (over cells off cs))] r w' := by
  obtain ⟨vs, ty, e1, e2, e3, _, e5⟩ := at_of h hg j1
  have hst : (storeCells ⟨b, at', none⟩ news).run P w = .ok () (w.setRow b (vs.toList.take off ++ news ++ vs.toList.drop (off + news.length)).toArray) := by
    rcases hat with rfl | h0
    · have := run_storeCells_at P b at' ty news 0 vs w e1 (by omega) k7
      simpa using this
    · have hn0 : news = [] := List.eq_nil_of_length_eq_zero (by rw [← hl, h0]; rfl)
      rw [hn0]
      simp only [storeCells, List.append_nil, List.length_nil, Nat.add_zero, List.take_append_drop]
      rw [show vs.toList.toArray = vs by simp, setRow_self w b vs ty (0, 0) e1]; rfl
  obtain ⟨q1, q2, q3, q4, q5⟩ := h.write (t := g) (H' := Hp.set H g (.blk true (over cells off cs))) (cells' := over cells off cs)
    (vs' := (vs.toList.take off ++ news ++ vs.toList.drop (off + news.length)).toArray) hg j1 e1 (.inl rfl) (by simp [Hp.set]) (fun e => absurd rfl e)
    (fun k hk _ => by simp [Hp.set, hk]) (by rw [over_size (by omega)]; exact e2) (by rw [over_length hfit]; exact e3) (over_cells hfit (by omega) hl e5 k6)
  refine ⟨_, hst, fun d r hr => ⟨_, q1, hr _ _ _ q2 q4, q2, fun q hq => ?_⟩⟩
  by_cases e : q = g
  · subst e; simp [j1]
  · exact q3 q e

theorem tup0_ok (L : Nat → Prop) (w : World) (m : Nat → MB) : VV L w m (.data (.tup [])) (.tuple #[]) := .data _ _ (.tup [] #[] rfl (fun i x v hx => by simp at hx))
theorem clear_ok {t ty : TypeId} {x : D} {vx : Value} {K : D → List Nat → List (Nat × Blk) → Prop} (h : WR Γ L0 w0 m H w) (hx : VV (Live L0 m H) w m x vx) (hk : clearK P t x H K) :
    ∃ d rd u v w', K d rd u ∧ (Builtin.clear_ #[t] ty #[vx]).run P w = .ok v w' ∧ After Γ L0 w0 fr H m w d u v w' := by
  unfold clearK at hk
  split at hk
  · rename_i e he
    have hu := und_slice P he
    have row : ∀ (g off len es b sz cap o cap' : Nat) (cells : List D), H g = .blk true cells → m g = .at b sz → (o = off ∨ cap = 0) → len ≤ cap → szT P e = some es → off + len * es ≤ cells.length → vx = .slice (some ⟨b, o, none⟩) len cap' →
        (zerosK P e len fun z => K (.data (.tup [])) [g] [(g, .blk true (over cells off z))]) →
        ∃ d rd u v w', K d rd u ∧ (Builtin.clear_ #[t] ty #[vx]).run P w = .ok v w' ∧ After Γ L0 w0 fr H m w d u v w' := by
      intro g off len es b sz cap o cap' cells hg hm ho hl hs hfit hv hk
      unfold zerosK at hk
      split at hk
      · rename_i z hz
        obtain ⟨hall, hsz, h0, hk⟩ := hk
        rw [hs] at hsz
        have hes : es = z.length := by simpa using hsz
        obtain ⟨i, v, k1, k2, k3, k4, k5, k6, k7⟩ := zeros_put (P := P) (L := Live L0 m H) (w := w) (m := m) hz hall h0 len
        have hlen : (List.replicate len z).flatten.length = len * es := by rw [k4, hes]
        obtain ⟨w', hst, haf⟩ := put_row (P := P) (fr := fr) (at' := o) (off := off) (cs := (List.replicate len z).flatten) (news := (Builtin.zeroCells v.cells len).toList) h hg hm (by rw [k4, k5]) (by omega) k6 k7 (by
          rcases ho with ho | ho
          · exact .inl ho
          · right
            have : len = 0 := by omega
            subst this; rfl)
        refine ⟨_, _, _, .tuple #[], w', hk, ?_, haf _ _ (fun L' w' m' _ _ => tup0_ok L' w' m')⟩
        subst hv
        by_cases hl0 : len = 0
        · subst hl0
          have hz0 : (Builtin.zeroCells v.cells 0).toList = [] := List.eq_nil_of_length_eq_zero (by rw [k5]; simp)
          rw [hz0] at hst
          have hw : w' = w := by simpa [storeCells] using hst.symm
          subst hw
          simp [Builtin.clear_, run_underlying hu]
        · obtain ⟨n, rfl⟩ : ∃ n, len = n + 1 := ⟨len - 1, by omega⟩
          simp [Builtin.clear_, run_underlying hu, zeroValue, typeInfo, k1, k2, hst]
      · exact hk.elim
    split at hk
    · cases hx with
      | emp _ a =>
        refine ⟨_, _, _, .tuple #[], w, hk, ?_, After.pure h (tup0_ok _ _ _)⟩
        cases a <;> simp [Builtin.clear_, run_underlying hu]
    · rename_i g off len es
      split at hk
      · rename_i cells hg
        obtain ⟨hs, hfit, hk⟩ := hk
        cases hx with
        | ref _ _ _ _ b sz cap o j1 j2 j3 j4 j5 => exact row g off len es b sz cap o cap cells hg j1 j2 j4 hs hfit rfl hk
        | ref0 _ _ a j1 =>
          rcases h.heap.blk g true cells hg with ⟨_, hc0⟩ | ⟨b, sz, vs, ty2, p1, _⟩
          · subst hc0
            unfold zerosK at hk
            split at hk
            · obtain ⟨_, _, _, hk⟩ := hk
              have e1 : over ([] : List D) 0 [] = [] := rfl
              simp only [List.replicate_zero, List.flatten_nil, e1] at hk
              have : Hp.upd H [(g, .blk true [])] = H := by
                funext k
                by_cases e : k = g
                · subst e; simp [Hp.upd, Hp.set, hg]
                · simp [Hp.upd, Hp.set, e]
              refine ⟨_, _, _, .tuple #[], w, hk, by cases a <;> simp [Builtin.clear_, run_underlying hu], m, ?_, tup0_ok _ _ _, ?_, fun _ _ => rfl⟩
              · rw [this]; exact h
              · rw [this]; exact Grow.refl _ _
            · exact hk.elim
          · rw [j1] at p1; cases p1
      · exact hk.elim
    · rename_i g off len cp es
      split at hk
      · rename_i cells hg
        obtain ⟨hs, hfit, hk⟩ := hk
        cases hx with
        | cut _ _ _ _ _ b sz cap o j1 j2 j3 j4 j5 j6 => exact row g off len es b sz cap o cap cells hg j1 j2 (by omega) hs hfit rfl hk
      · exact hk.elim
    · exact hk.elim
  · exact hk.elim

/-- A piece of a row of which the room is known. -/
theorem cut_ok {t : TypeId} {g off len cp es : Nat} {v : Value} {lo hi mx : Option Operand} {ρ : Operand → D} {σ : Operand → Value} {K : D → Prop} (hρ : ∀ x, VV L w m (ρ x) (σ x)) (hv : VV L w m (.cut g off len cp es) v) (hk : cutK P t g off len cp es (lo.map ρ) (hi.map ρ) (mx.map ρ) K) :
    ∃ d u, K d ∧ VV L w m d u ∧ (Instr.sliceAt t v (lo.map σ) (hi.map σ) (mx.map σ)).run P w = .ok u w := by
  unfold cutK at hk
  split at hk
  · rename_i e he
    obtain ⟨hs, hk⟩ := hk
    have hu := und_slice P he
    cases hv with
    | cut _ _ _ _ _ b sz cap o k1 k2 k3 k4 k5 k6 =>
    unfold boundsC at hk
    split at hk
    · rename_i l h M hl hh hM
      obtain ⟨h0, h1, h2, h3, hk⟩ := hk
      have hb : ∀ (y : Nat) (k : IntKind) (n : Int) (c : BoundsCode), 0 ≤ n → n ≤ y → (Instr.sliceBound (.int k n) y c).run P w = .ok n.toNat w := fun y k n c hn hy => by
        simp [Instr.sliceBound, asIntOf, hn, hy]
      have hbound : ∃ c, c ≤ cap ∧ M.toNat ≤ c ∧ (Instr.sliceBounds true len cap (lo.map σ) (hi.map σ) (mx.map σ)).run P w = .ok (l.toNat, h.toNat, c) w := by
        have num : ∀ (x : Operand) (n : Int), natD (ρ x) = some n → ∃ k, σ x = .int k n := fun x n hn => natD_inv hn (hρ x)
        cases mx with
        | none =>
          simp only [Option.map_none, Option.some.injEq] at hM
          subst hM
          refine ⟨cap, Nat.le_refl _, by omega, ?_⟩
          cases hi with
          | none =>
            simp only [Option.map_none, Option.some.injEq] at hh
            subst hh
            cases lo with
            | none =>
              simp only [Option.map_none, Option.some.injEq] at hl
              subst hl
              simp [Instr.sliceBounds]
            | some a =>
              obtain ⟨k, e1⟩ := num a l (by simpa using hl)
              simp [Instr.sliceBounds, e1, hb len k l _ h0 (by omega)]
          | some c =>
            obtain ⟨k2, e2⟩ := num c h (by simpa using hh)
            cases lo with
            | none =>
              simp only [Option.map_none, Option.some.injEq] at hl
              subst hl
              simp [Instr.sliceBounds, e2, hb cap k2 h _ (by omega) (by omega)]
            | some a =>
              obtain ⟨k, e1⟩ := num a l (by simpa using hl)
              simp [Instr.sliceBounds, e1, e2, hb cap k2 h _ (by omega) (by omega), hb h.toNat k l _ h0 (by omega)]
        | some q =>
          obtain ⟨k3, e3⟩ := num q M (by simpa using hM)
          refine ⟨M.toNat, by omega, Nat.le_refl _, ?_⟩
          cases hi with
          | none => simp at hh
          | some c =>
            obtain ⟨k2, e2⟩ := num c h (by simpa using hh)
            cases lo with
            | none =>
              simp only [Option.map_none, Option.some.injEq] at hl
              subst hl
              simp [Instr.sliceBounds, e2, e3, hb cap k3 M _ (by omega) (by omega), hb M.toNat k2 h _ (by omega) (by omega)]
            | some a =>
              obtain ⟨k, e1⟩ := num a l (by simpa using hl)
              simp [Instr.sliceBounds, e1, e2, e3, hb cap k3 M _ (by omega) (by omega), hb M.toNat k2 h _ (by omega) (by omega), hb h.toNat k l _ h0 (by omega)]
      obtain ⟨c, c1, c2, hr⟩ := hbound
      refine ⟨_, .slice (if c = l.toNat then some ⟨b, o, none⟩ else some ⟨b, o + l.toNat * es, none⟩) (h.toNat - l.toNat) (c - l.toNat), hk, ?_, ?_⟩
      · have hmul : l.toNat * es + (c - l.toNat) * es = c * es := by rw [← Nat.add_mul]; congr 1; omega
        have hmul2 : c * es ≤ cap * es := Nat.mul_le_mul_right _ c1
        by_cases hci : c = l.toNat
        · rw [if_pos hci]
          exact .cut _ _ _ _ _ b sz _ o k1 (.inr (by omega)) (by omega) (by omega) (by omega) (by omega)
        · rw [if_neg hci]
          refine .cut _ _ _ _ _ b sz _ _ k1 ?_ (by omega) (by omega) (by omega) (by omega)
          rcases k2 with k2 | k2
          · exact .inl (by rw [k2])
          · exact .inr (by omega)
      · simp only [Instr.sliceAt, run_underlying hu, Instr.slice, hr, run_sz P hs, Sem.run_bind, Result.andThen_ok, Sem.run_pure, Option.map_some, add_off]
    · exact hk.elim
  · exact hk.elim

/-- Something else than cells, changed. -/
theorem set_obj (h : WR Γ L0 w0 m H w) {g : Nat} {o o' : Ob} (hg : H g = .obj o) {b : Nat} {v v' : Obj} (hm : m g = .at b 0) (hb : w.heap[b]? = some v) (ho : ObIs (Live L0 m H) w m o' v') :
    ∃ w', w' = { w with heap := w.heap.setIfInBounds b v' } ∧ ∀ d r, (∀ L' w' m', Grow (Live L0 m H) w L' w' → (∀ k, m k ≠ .res → m' k = m k) → VV L' w' m' d r) → After Γ L0 w0 fr H m w d [(g, .obj o')] r w' := by
  refine ⟨_, rfl, fun d r hr => ?_⟩
  have hlt := h.ltO hg hm
  have hold : ∀ k, k ≠ g → Hp.upd H [(g, .obj o')] k = H k := fun k hk => by simp [Hp.upd, Hp.set, hk]
  have hnew : Hp.upd H [(g, .obj o')] g = .obj o' := by simp [Hp.upd, Hp.set]
  have hlive : Live L0 m H b := .inr ⟨g, 0, by rw [hg]; rfl, hm⟩
  have hsub : ∀ k, Live L0 m (Hp.upd H [(g, .obj o')]) k → Live L0 m H k := by
    rintro k (hk | ⟨q, sz, hq, hmq⟩)
    · exact .inl hk
    · by_cases e : q = g
      · subst e; exact .inr ⟨q, sz, by rw [hg]; rfl, hmq⟩
      · rw [hold q e] at hq; exact .inr ⟨q, sz, hq, hmq⟩
  have hother : ∀ k, k ≠ b → (w.heap.setIfInBounds b v')[k]? = w.heap[k]? := fun k hk => by simp [Ne.symm hk]
  have hbase : Own L0 w0.base b := by
    obtain ⟨b', v2, k1, k2, _, _⟩ := h.heap.obj g o hg
    rw [k1] at hm; cases hm; exact k2
  have hbase1 := hbase.1
  have hgrow : Grow (Live L0 m H) w (Live L0 m (Hp.upd H [(g, .obj o')])) { w with heap := w.heap.setIfInBounds b v' } :=
    ⟨by simp, fun k hk hL => ⟨hother k (fun e => hL (by rw [e]; exact hlive)), fun hl => hL (hsub k hl)⟩⟩
  refine ⟨m, ⟨⟨?_, ?_, ?_, ?_⟩, ?_, (fun k hk => ⟨Nat.lt_of_lt_of_le (h.l0 k hk).1 hgrow.size, (hother k (fun e => hbase.2 (e ▸ hk))).trans (h.l0 k hk).2⟩), h.glob.mono hgrow⟩, hr _ _ _ hgrow (fun _ _ => rfl), hgrow, fun _ _ => rfl⟩
  · intro q rw cs hq
    by_cases e : q = g
    · subst e; rw [hnew] at hq; cases hq
    · rw [hold q e] at hq
      rcases h.heap.blk q rw cs hq with ⟨k1, k2⟩ | ⟨b2, sz2, vs2, ty2, k1, k2, k3, k4, k5, k6, k7⟩
      · exact .inl ⟨k1, k2⟩
      · have hne : b2 ≠ b := fun e3 => h.apart hq hg k1 (by rw [hm, e3])
        refine .inr ⟨b2, sz2, vs2, ty2, k1, k2, fun hrw hl => k3 hrw (hsub _ hl), by rw [hother b2 hne]; exact k4, k5, k6, fun i d hd => ?_⟩
        obtain ⟨v, hv, h1c, hvv⟩ := k7 i d hd
        exact ⟨v, hv, h1c, hvv.mono hgrow (fun _ _ => rfl)⟩
  · intro q q' cs rw' cs' b1 sz1 sz2 hq hq' hm1 hm2
    have e : q ≠ g := fun e => by subst e; rw [hnew] at hq; cases hq
    have e' : q' ≠ g := fun e => by subst e; rw [hnew] at hq'; cases hq'
    rw [hold q e] at hq; rw [hold q' e'] at hq'
    exact h.heap.inj q q' cs rw' cs' b1 sz1 sz2 hq hq' hm1 hm2
  · intro q o2 hq
    by_cases e : q = g
    · subst e
      rw [hnew] at hq; cases hq
      exact ⟨b, v', hm, hbase, by simp [hlt], ho.mono hgrow (fun _ _ => rfl)⟩
    · rw [hold q e] at hq
      obtain ⟨b2, v2, k1, k2, k3, k4⟩ := h.heap.obj q o2 hq
      have hne : b2 ≠ b := fun e3 => e (h.heap.injO q g o2 o b 0 0 hq hg (by rw [k1, e3]) hm)
      exact ⟨b2, v2, k1, k2, by rw [hother b2 hne]; exact k3, k4.mono hgrow (fun _ _ => rfl)⟩
  · intro q q' o1 o2 b1 s1 s2 hq hq' hm1 hm2
    have old : ∀ q o1, Hp.upd H [(g, .obj o')] q = .obj o1 → ∃ o, H q = .obj o := fun q o1 hq => by
      by_cases e : q = g
      · subst e; exact ⟨o, hg⟩
      · exact ⟨o1, by rw [← hold q e]; exact hq⟩
    obtain ⟨p1, hp1⟩ := old q o1 hq
    obtain ⟨p2, hp2⟩ := old q' o2 hq'
    exact h.heap.injO q q' p1 p2 b1 s1 s2 hp1 hp2 hm1 hm2
  · have hbl := h.below
    refine hbl.trans ⟨rfl, rfl, rfl, by simp, fun k hk => hother k (by omega)⟩

/-- Something else than cells, new. -/
theorem new_obj (h : WR Γ L0 w0 m H w) (hfr : m fr = .res) {o : Ob} {v : Obj} (ho : ObIs (Live L0 m H) w m o v) {d : D} {r : Value} (hd : ∀ L' w' m', m' fr = .at w.heap.size 0 → VV L' w' m' d r) : After Γ L0 w0 fr H m w d [(fr, .obj o)] r (w.alloc v) := by
  obtain ⟨k1, k2, k3, k4⟩ := h.newB (fr := fr) (w1 := w) (ob := v) (sz := 0) (H' := Hp.set H fr (.obj o)) hfr ⟨rfl, rfl, rfl, rfl⟩ (fun g hg => .inl (by simp [Hp.set, hg])) (fun rw cells hg => by simp [Hp.set] at hg) (fun o' hg => by
    simp [Hp.set] at hg; subst hg; exact ⟨rfl, ho⟩)
  exact ⟨_, k1, hd _ _ _ k4, k2, k3⟩

theorem und_map {t kt et : TypeId} (h : mapT P t = some (kt, et)) : P.underlying t = some (.map kt et) := by
  unfold mapT at h
  split at h
  · cases h; assumption
  · cases h
theorem key_is {kt : TypeId} {k : Data} {v : Value} (h : keyT P kt k = true) (hv : VD L w k v) : ∃ d, P.underlying kt = some d ∧ MapKept.IsKey d v := by
  unfold keyT at h
  split at h
  · rename_i hu
    cases hv
    exact ⟨_, hu, by simp only [MapKept.IsKey]; simpa using h⟩
  · rename_i hu
    cases hv
    exact ⟨_, hu, trivial⟩
  · rename_i hu
    cases hv
    exact ⟨_, hu, trivial⟩
  · cases h
theorem keyEq_ok {d : TypeDesc} {k x : Data} {v u : Value} {r : Bool} (hd : MapKept.IsKey d v) (hk : VD L w k v) (hx : VD L w x u) (h : keyEq k x = some r) : Instr.sameNow d v u = some r ∧ (r = true → u = v) := by
  unfold keyEq at h
  split at h
  · cases hk; cases hx
    split at h
    · rename_i e
      subst e
      cases h
      cases d <;> simp_all [MapKept.IsKey, Instr.sameNow]
    · cases h
  · cases hk; cases hx
    cases h
    cases d <;> simp_all [MapKept.IsKey, Instr.sameNow, MapKept.bytes_beq]
  · cases hk; cases hx
    cases h
    cases d <;> simp_all [MapKept.IsKey, Instr.sameNow]
  · cases h
theorem find_ok {d : TypeDesc} {k : Data} {v : Value} (hd : MapKept.IsKey d v) (hk : VD L w k v) : ∀ (ks : List Data) (l : List MapEntry) (i : Nat) (r : Option Nat), ks.length = l.length → (∀ (j : Nat) (x : Data) (e : MapEntry), ks[j]? = some x → l[j]? = some e → VD L w x e.key) → findD k ks i = some r →
    (r = none ∧ Instr.findNow d v l i = some none) ∨ ∃ j e, r = some (i + j) ∧ l[j]? = some e ∧ e.key = v ∧ Instr.findNow d v l i = some (some (i + j, e.val))
  | [], [], i, r, _, _, h => by
    simp only [findD, Option.some.injEq] at h
    exact .inl ⟨h.symm, rfl⟩
  | x :: ks, e :: l, i, r, hl, hv, h => by
    have h0 := hv 0 x e rfl rfl
    unfold findD at h
    split at h
    · rename_i hq
      obtain ⟨h1, h2⟩ := keyEq_ok hd hk h0 hq
      cases h
      exact .inr ⟨0, e, rfl, rfl, h2 rfl, by simp [Instr.findNow, h1]⟩
    · rename_i hq
      obtain ⟨h1, _⟩ := keyEq_ok hd hk h0 hq
      rcases find_ok hd hk ks l (i + 1) r (by simpa using hl) (fun j x e a b => hv (j + 1) x e (by simpa using a) (by simpa using b)) h with ⟨a, b⟩ | ⟨j, e', a, b, c, q⟩
      · exact .inl ⟨a, by simp [Instr.findNow, h1, b]⟩
      · exact .inr ⟨j + 1, e', by rw [a]; congr 1; omega, by simpa using b, c, by
          have : i + (j + 1) = i + 1 + j := by omega
          rw [this]
          simp [Instr.findNow, h1, q]⟩
    · cases h
  | [], _ :: _, _, _, hl, _, _ => by simp at hl
  | _ :: _, [], _, _, hl, _, _ => by simp at hl

theorem zv_ok {t : TypeId} {K : D → Prop} (h : zvK P t K) : ∃ d v, K d ∧ (∀ (L : Nat → Prop) (w : World) (m : Nat → MB), VV L w m d v) ∧ ∀ w, (zeroValue t).run P w = .ok v w := by
  unfold zvK at h
  split at h
  · rename_i d hd
    unfold zvT at hd
    cases hi : P.info? t with
    | none => rw [hi] at hd; cases hd
    | some i =>
      rw [hi, Option.bind_some, Option.map_eq_some_iff] at hd
      obtain ⟨v, hv, rfl⟩ := hd
      refine ⟨_, v, h, fun L w m => ?_, fun w => by simp [zeroValue, typeInfo, hi, hv]⟩
      unfold zvD
      split
      · rename_i vs
        refine VV.mk_agg (by simp) fun i x u hx hu => ?_
        simp only [List.getElem?_map, Option.map_eq_some_iff, Array.getElem?_toList] at hx
        obtain ⟨y, hy, rfl⟩ := hx
        rw [hu] at hy; cases hy
        exact cD_ok _
      · exact cD_ok _
  · exact h.elim

/-- What a map has for a key. -/
theorem look_ok {kt et : TypeId} {d : TypeDesc} {ks : List Data} {xs : List D} {es : Array MapEntry} {k : Data} {v : Value} {ok : Bool} {K : D → Prop} (hu : P.underlying kt = some d) (hd : MapKept.IsKey d v) (hk : VD L w k v) (hkl : ks.length = es.size) (hxl : xs.length = es.size)
    (hkv : ∀ (i : Nat) (x : Data) (e : MapEntry), ks[i]? = some x → es[i]? = some e → VD L w x e.key) (hxv : ∀ (i : Nat) (x : D) (e : MapEntry), xs[i]? = some x → es[i]? = some e → VV L w m x e.val) (h : lookK P et ks xs k ok K) :
    ∃ r u a, K r ∧ VV L w m r u ∧ (Instr.findKey kt v es.toList).run P w = .ok a w ∧ ((∃ p, a = some p ∧ u = if ok then Value.tuple #[p.2, .bool true] else p.2) ∨ (a = none ∧ ∃ z, (zeroValue et).run P w = .ok z w ∧ u = if ok then Value.tuple #[z, .bool false] else z)) := by
  unfold lookK at h
  split at h
  · rename_i i hf
    rcases find_ok hd hk ks es.toList 0 _ (by simpa using hkl) (fun j x e a b => hkv j x e a (by simpa using b)) hf with ⟨a, _⟩ | ⟨j, e, a, b, c, q⟩
    · cases a
    · simp only [Nat.zero_add, Option.some.injEq] at a
      subst a
      have hrun := MapKept.run_findKey (P := P) (w := w) hu q
      split at h
      · rename_i x hx
        have hv := hxv i x e hx (by simpa using b)
        exact ⟨_, e.val, _, h, hv, hrun, .inl ⟨_, rfl, rfl⟩⟩
      · rename_i x hx
        have hv := (hxv i (.data x) e hx (by simpa using b)).data_inv
        refine ⟨_, .tuple #[e.val, .bool true], _, h, .data _ _ (.tup _ _ rfl fun i y u hy hu => ?_), hrun, .inl ⟨_, rfl, rfl⟩⟩
        match i with
        | 0 => simp at hy hu; subst hy; subst hu; exact hv
        | 1 => simp at hy hu; subst hy; subst hu; exact .bool true
        | i + 2 => simp at hy
      · exact h.elim
  · rename_i hf
    rcases find_ok hd hk ks es.toList 0 _ (by simpa using hkl) (fun j x e a b => hkv j x e a (by simpa using b)) hf with ⟨_, q⟩ | ⟨j, e, a, _⟩
    · have hrun := MapKept.run_findKey (P := P) (w := w) hu q
      split at h
      · rename_i hok
        obtain ⟨z, u, h, hv, hz⟩ := zv_ok h
        split at h
        · rename_i x
          have hv := (hv L w m).data_inv
          refine ⟨_, .tuple #[u, .bool false], _, h, .data _ _ (.tup _ _ rfl fun i y u' hy hu => ?_), hrun, .inr ⟨rfl, u, hz w, by rw [if_pos hok]⟩⟩
          match i with
          | 0 => simp at hy hu; subst hy; subst hu; exact hv
          | 1 => simp at hy hu; subst hy; subst hu; exact .bool false
          | i + 2 => simp at hy
        · exact h.elim
      · rename_i hok
        obtain ⟨z, u, h, hv, hz⟩ := zv_ok h
        exact ⟨_, u, _, h, hv L w m, hrun, .inr ⟨rfl, u, hz w, by rw [if_neg hok]⟩⟩
    · cases a
  · exact h.elim

theorem lookup_ok {t : TypeId} {x key : D} {ok : Bool} {vx vk : Value} {K : D → List Nat → Prop} (h : WR Γ L0 w0 m H w) (hx : VV (Live L0 m H) w m x vx) (hkey : VV (Live L0 m H) w m key vk) (hk : lookupK P t x key ok H K) :
    ∃ d rd u, K d rd ∧ VV (Live L0 m H) w m d u ∧ (Instr.lookup t vx vk ok).run P w = .ok u w := by
  unfold lookupK at hk
  split at hk
  · rename_i kt et k hm
    obtain ⟨hkt, hk⟩ := hk
    have hkv := hkey.data_inv
    obtain ⟨d, hu, hd⟩ := key_is hkt hkv
    have hum := und_map hm
    split at hk
    · rename_i ks xs
      have hx := hx.data_inv
      cases hx with
      | mp _ _ b es clock hb hL hh hkl hxl h1 h2 hborn hclock =>
      obtain ⟨r, u, a, q1, q2, q3, q4⟩ := look_ok (m := m) (xs := xs.map .data) hu hd hkv hkl (by simpa using hxl) h1 (fun i x e hx he => by
        rw [List.getElem?_map, Option.map_eq_some_iff] at hx
        obtain ⟨y, hy, rfl⟩ := hx
        exact .data _ _ (h2 i y e hy he)) hk
      refine ⟨r, _, u, q1, q2, ?_⟩
      simp only [Instr.lookup, run_underlying hum, Sem.run_bind, Result.andThen_ok, MapKept.run_getObj_map hh, Sem.run_pure, MapKept.run_checkKey hu hd, q3]
      rcases q4 with ⟨p, rfl, rfl⟩ | ⟨rfl, z, hz, rfl⟩
      · simp
      · simp [hz]
    · rename_i g
      split at hk
      · rename_i ks xs hg
        obtain ⟨b, v, k1, k2, k3, k4⟩ := h.heap.obj g _ hg
        cases hx with
        | mref _ b' hm' =>
        rw [k1] at hm'; cases hm'
        cases k4 with
        | mp _ _ es clock hkl hxl h1 h2 hborn hclock =>
        obtain ⟨r, u, a, q1, q2, q3, q4⟩ := look_ok (m := m) hu hd hkv hkl hxl h1 h2 hk
        refine ⟨r, _, u, q1, q2, ?_⟩
        simp only [Instr.lookup, run_underlying hum, Sem.run_bind, Result.andThen_ok, MapKept.run_getObj_map k3, Sem.run_pure, MapKept.run_checkKey hu hd, q3]
        rcases q4 with ⟨p, rfl, rfl⟩ | ⟨rfl, z, hz, rfl⟩
        · simp
        · simp [hz]
      · exact hk.elim
    · exact hk.elim
  · exact hk.elim

theorem insert_ok {t : TypeId} {x key d : D} {vx vk v : Value} {K : List Nat → List (Nat × Blk) → Prop} (h : WR Γ L0 w0 m H w) (hx : VV (Live L0 m H) w m x vx) (hkey : VV (Live L0 m H) w m key vk) (hv : VV (Live L0 m H) w m d v) (hk : insertK P t x key d H K) :
    ∃ rd u w', K rd u ∧ (Instr.mapUpdate t vx vk v).run P w = .ok () w' ∧ After Γ L0 w0 fr H m w .junk u undef w' := by
  unfold insertK at hk
  split at hk
  · rename_i kt et k g hm
    obtain ⟨hkt, hk⟩ := hk
    have hkv := hkey.data_inv
    obtain ⟨d', hu, hd⟩ := key_is hkt hkv
    have hum := und_map hm
    split at hk
    · rename_i ks xs hg
      obtain ⟨b, ob, k1, k2, k3, k4⟩ := h.heap.obj g _ hg
      cases hx with
      | mref _ b' hm' =>
      rw [k1] at hm'; cases hm'
      cases k4 with
      | mp _ _ es clock hkl hxl h1 h2 hborn hclock =>
      split at hk
      · rename_i i hf
        rcases find_ok hd hkv ks es.toList 0 _ (by simpa using hkl) (fun j x e a b => h1 j x e a (by simpa using b)) hf with ⟨a, _⟩ | ⟨j, e, a, b', c, q⟩
        · cases a
        · simp only [Nat.zero_add, Option.some.injEq] at a
          subst a
          have hei : es[i]? = some e := by simpa using b'
          have hob : ObIs (Live L0 m H) w m (.mp ks (xs.set i d)) (.map (es.modify i fun e => { e with key := vk, val := v }) clock) := by
            refine .mp _ _ _ _ (by simpa using hkl) (by simpa using hxl) (fun j x e' hx he => ?_) (fun j x e' hx he => ?_) (fun j e' he => ?_) (by simpa using hclock)
            · rw [Array.getElem?_modify] at he
              split at he
              · rename_i e1
                subst e1
                rw [hei] at he
                simp only [Option.map_some, Option.some.injEq] at he
                subst he
                have := h1 i x e hx hei
                rw [c] at this
                exact this
              · exact h1 j x e' hx he
            · rw [Array.getElem?_modify] at he
              split at he
              · rename_i e1
                subst e1
                rw [hei] at he
                simp only [Option.map_some, Option.some.injEq] at he
                subst he
                have hlt : i < xs.length := by rw [hxl]; exact (Array.getElem?_eq_some_iff.1 hei).1
                rw [List.getElem?_set_self hlt] at hx
                cases hx
                exact hv
              · rename_i e1
                rw [List.getElem?_set_ne e1] at hx
                exact h2 j x e' hx he
            · rw [Array.getElem?_modify] at he
              split at he
              · rename_i e1
                subst e1
                rw [hei] at he
                simp only [Option.map_some, Option.some.injEq] at he
                subst he
                exact hborn i e hei
              · exact hborn j e' he
          obtain ⟨w', hw', haf⟩ := set_obj (fr := fr) h hg k1 k3 hob
          refine ⟨_, _, w', hk, ?_, haf _ _ (fun _ _ _ _ _ => .junk _)⟩
          rw [hw']
          have hstay : (Instr.keyThatStays e.key vk).run P w = .ok vk w := by rw [c]; exact MapKept.run_keyThatStays hd
          simp [Instr.mapUpdate, run_underlying hum, MapKept.run_getObj_map k3, MapKept.run_checkKey hu hd, MapKept.run_findKey hu q, hei, hstay, MapKept.run_setObj_map _ k3]
      · rename_i hf
        rcases find_ok hd hkv ks es.toList 0 _ (by simpa using hkl) (fun j x e a b => h1 j x e a (by simpa using b)) hf with ⟨_, q⟩ | ⟨j, e, a, _⟩
        · have hob : ObIs (Live L0 m H) w m (.mp (ks ++ [k]) (xs ++ [d])) (.map (es.push { key := vk, val := v, born := clock }) (clock + 1)) := by
            refine .mp _ _ _ _ (by simp [hkl]) (by simp [hxl]) (fun j x e' hx he => ?_) (fun j x e' hx he => ?_) (fun j e' he => ?_) (by simp [hclock])
            · rw [Array.getElem?_push] at he
              split at he
              · rename_i e1
                cases he
                rw [List.getElem?_append_right (by omega)] at hx
                have : j - ks.length = 0 := by omega
                rw [this] at hx
                simp at hx
                subst hx
                exact hkv
              · have hlt : j < es.size := (Array.getElem?_eq_some_iff.1 he).1
                rw [List.getElem?_append_left (by omega)] at hx
                exact h1 j x e' hx he
            · rw [Array.getElem?_push] at he
              split at he
              · rename_i e1
                cases he
                rw [List.getElem?_append_right (by omega)] at hx
                have : j - xs.length = 0 := by omega
                rw [this] at hx
                simp at hx
                subst hx
                exact hv
              · have hlt : j < es.size := (Array.getElem?_eq_some_iff.1 he).1
                rw [List.getElem?_append_left (by omega)] at hx
                exact h2 j x e' hx he
            · rw [Array.getElem?_push] at he
              split at he
              · rename_i e1
                cases he
                simp [hclock, e1]
              · exact hborn j e' he
          obtain ⟨w', hw', haf⟩ := set_obj (fr := fr) h hg k1 k3 hob
          refine ⟨_, _, w', hk, ?_, haf _ _ (fun _ _ _ _ _ => .junk _)⟩
          rw [hw']
          simp [Instr.mapUpdate, run_underlying hum, MapKept.run_getObj_map k3, MapKept.run_checkKey hu hd, MapKept.run_findKey hu q, MapKept.run_setObj_map _ k3]
        · cases a
      · exact hk.elim
    · exact hk.elim
  · exact hk.elim

theorem makeMap_ok {t : TypeId} (h : WR Γ L0 w0 m H w) (hfr : m fr = .res) : ∃ v w', (Instr.makeMap t none).run P w = .ok v w' ∧ After Γ L0 w0 fr H m w (.mref fr) [(fr, .obj (.mp [] []))] v w' := by
  refine ⟨.map (some w.heap.size), w.alloc (.map #[] 0), by simp [Instr.makeMap], new_obj h hfr (.mp [] [] #[] 0 rfl rfl (fun i x e hx => by simp at hx) (fun i x e hx => by simp at hx) (fun i e he => by simp at he) rfl) fun L' w' m' hm => .mref fr _ hm⟩

theorem range_ok {t : TypeId} {q : TypeId × TypeId} {ks xs : List Data} {vx : Value} (h : WR Γ L0 w0 m H w) (hfr : m fr = .res) (hq : mapT P t = some q) (hx : VV (Live L0 m H) w m (.data (.mp ks xs)) vx) :
    ∃ v w', (Instr.range t vx).run P w = .ok v w' ∧ After Γ L0 w0 fr H m w (.iref fr) [(fr, .obj (.it ks xs (List.range ks.length) none))] v w' := by
  obtain ⟨kt, et⟩ := q
  have hx0 := hx.data_inv
  have hx := hx0
  cases hx with
  | mp _ _ b es clock hb hL hh hkl hxl h1 h2 hborn hclock =>
  refine ⟨.pointer (some ⟨w.heap.size, 0, none⟩), w.alloc (.mapIter (some b) ks.length #[] ks.length), ?_, new_obj h hfr (.it ks xs _ none b #[] hx0 (fun i => by simp) (fun i hi => by cases hi)) fun L' w' m' hm => .iref fr _ hm⟩
  simp [Instr.range, run_underlying (und_map hq), MapKept.run_getObj_map hh, hclock, ← hkl]

theorem run_getObj_any {r : Nat} {o : Obj} (hb : w.heap[r]? = some o) (hn : ∀ vs ty fz, o ≠ .cells vs ty fz) : (getObj r).run P w = .ok o w := by
  cases o <;> simp_all [getObj, Sem.run]

theorem entry_ok {x : D} {vx : Value} {K : D → List Nat → Prop} (h : WR Γ L0 w0 m H w) (hx : VV (Live L0 m H) w m x vx) (hk : entryK x H K) :
    ∃ d rd u, K d rd ∧ VV (Live L0 m H) w m d u ∧ (Instr.entry vx).run P w = .ok u w := by
  unfold entryK at hk
  split at hk
  · rename_i g
    split at hk
    · rename_i ks xs left i hg
      obtain ⟨k, x, hki, hxi, hk⟩ := hk
      obtain ⟨b, ob, k1, k2, k3, k4⟩ := h.heap.obj g _ hg
      cases hx with
      | iref _ b' hm' =>
      rw [k1] at hm'; cases hm'
      cases k4 with
      | it _ _ _ _ bm seen hv hleft hcur =>
      obtain ⟨e1, e2⟩ := hcur i rfl
      cases hv with
      | mp _ _ _ es clock hb hL hh hkl hxl h1 h2 hborn hclock =>
      have hlt : i < es.size := by omega
      have hei : es[i]? = some es[i] := Array.getElem?_eq_getElem hlt
      have hfind : es.find? (·.born == i) = some es[i] := by
        rw [Array.find?_eq_some_iff_getElem]
        refine ⟨by simp [hborn i _ hei], i, hlt, rfl, fun j hj => ?_⟩
        have := hborn j es[j] (Array.getElem?_eq_getElem (by omega))
        simp [this]; omega
      refine ⟨_, _, .tuple #[es[i].key, es[i].val], hk, .data _ _ (.tup _ _ rfl fun j y u hy hu => ?_), ?_⟩
      · match j with
        | 0 => simp at hy hu; subst hy; subst hu; exact h1 i k _ hki hei
        | 1 => simp at hy hu; subst hy; subst hu; exact h2 i x _ hxi hei
        | j + 2 => simp at hy
      · have hg1 := run_getObj_any (P := P) k3 (fun vs ty fz e => by cases e)
        simp [Instr.entry, hg1, e1, MapKept.run_getObj_map hh, hclock, hkl, hfind]
    · exact hk.elim
  · exact hk.elim
end
end Go.Proofs.Ytdodhnkbdechaaa
