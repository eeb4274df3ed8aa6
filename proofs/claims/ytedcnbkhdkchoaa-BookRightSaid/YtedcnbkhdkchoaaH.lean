/- Each operation keeps the relation: part five: append. -/
import Derived.Test.YtedcnbkhdkchoaaG
namespace Go.Proofs.Ytedcnbkhdkchoaa
open Go.RowKit
set_option linter.unusedVariables false
set_option linter.unusedSimpArgs false

section
variable {P : Program} {Γ : Nat → Option (List Data)} {L0 : Nat → Prop} {w0 : World} {m : Nat → MB} {H : Nat → Blk} {w : World} {fr : Nat} {L : Nat → Prop}

/-- What is put behind a row: cells that stand somewhere, or as many zero values. -/
structure Put (P : Program) (w : World) (st xt : TypeId) (es by_ n : Nat) (news : List Value) (vx : Value) (base : Option Addr) (sLen sCap : Nat) : Prop where
  fits : sLen + n ≤ sCap → ∀ w', (match base with | some a => (storeCells (a.add (sLen * es)) news).run P w = .ok () w' | none => w' = w) → (Builtin.append_ #[st, xt] 0 #[.slice base sLen sCap, vx]).run P w = .ok (.slice base (sLen + n) sCap) w'
  grows : sCap < sLen + n → ∀ e z olds, P.underlying st = some (.slice e) → (P.info? e).bind (·.zero) = some z → (Builtin.firstCells es sLen (.slice base sLen sCap)).run P w.drew = .ok olds w.drew →
    (Builtin.append_ #[st, xt] 0 #[.slice base sLen sCap, vx]).run P w = .ok (.slice (some ⟨w.heap.size, 0, none⟩) (sLen + n) (grownCap w (sLen + n) sCap e)) (w.drew.alloc (.cells (olds ++ news.toArray ++ Builtin.zeroCells z.cells (grownCap w (sLen + n) sCap e - (sLen + n))) e))

theorem und_src {xt : TypeId} (hxs : ((sliceT P xt).isSome || strT P xt) = true) : (∃ e, P.underlying xt = some (.slice e)) ∨ P.underlying xt = some .string := by
  rcases Bool.or_eq_true_iff.1 hxs with h | h
  · obtain ⟨e, he⟩ := Option.isSome_iff_exists.1 h
    exact .inl ⟨_, und_slice P he⟩
  · exact .inr (und_str P h)

theorem put_src {st xt e : TypeId} {es by_ n : Nat} {cs : List D} {vx : Value} {news : List Value} (he : sliceT P st = some e) (hs : szT P e = some es) (hb : byT P e = some by_) (hxs : ((sliceT P xt).isSome || strT P xt) = true)
    (hsrc : Src P L m w es n cs vx news) (base : Option Addr) (sLen sCap : Nat) (h63 : sLen + n ≤ 140737488355328) (h48 : (sLen + n) * by_ ≤ 140737488355328) : Put P w st xt es by_ n news vx base sLen sCap := by
  have hu := und_slice P he
  obtain ⟨i, hi, his⟩ := info_of_sz P hs
  have hib : i.bytes = by_ := by unfold byT at hb; rw [hi] at hb; simpa using hb
  have hfirst := hsrc.first n (Nat.le_refl _)
  rw [← hsrc.nl, List.take_length] at hfirst
  refine ⟨fun hfit w' hst => ?_, fun hgrow e' z olds hu' hz' holds => ?_⟩
  · cases base with
    | none =>
      simp only at hst
      subst hst
      rcases und_src hxs with ⟨e2, hd⟩ | hd <;> simp [Builtin.append_, run_underlying hu, run_underlying hd, run_sz P hs, hsrc.len, hfit, hfirst]
    | some a =>
      simp only at hst
      rcases und_src hxs with ⟨e2, hd⟩ | hd <;> simp [Builtin.append_, run_underlying hu, run_underlying hd, run_sz P hs, hsrc.len, hfit, hfirst, hst]
  · rw [hu] at hu'; cases hu'
    rw [hi, Option.bind_some] at hz'
    have hnf : ¬ (sLen + n ≤ sCap) := by omega
    have h63' : ¬ (9223372036854775807 < ((sLen : Int) + (n : Int))) := by omega
    have h48' : ¬ (281474976710656 < Builtin.nextslicecap (sLen + n) sCap * i.bytes) := by
      have := growslice_fits (need := sLen + n) (old := sCap) (bytes := by_) (by omega) h48
      rw [hib]; omega
    have hf' := hsrc.first'
    rcases und_src hxs with ⟨e2, hd⟩ | hd
    · simp [Builtin.append_, run_underlying hu, run_underlying hd, sizeOf, typeInfo, zeroValue, hi, hz', his, hsrc.len, hnf, h63', h48', Question.forced, hf', holds, newRow, grownCap]
    · simp [Builtin.append_, run_underlying hu, run_underlying hd, sizeOf, typeInfo, zeroValue, hi, hz', his, hsrc.len, hnf, h63', h48', Question.forced, hf', holds, newRow, grownCap]

theorem put_zeros {st xt e : TypeId} {es by_ n : Nat} {k : IntKind} {z : Value} (he : sliceT P st = some e) (hs : szT P e = some es) (hes : 0 < es) (hb : byT P e = some by_) (hxi : (intT P xt).isSome = true) (hz : (P.info? e).bind (·.zero) = some z)
    (hzs : z.cells.size = es) (base : Option Addr) (sLen sCap : Nat) (h63 : sLen + n ≤ 140737488355328) (h48 : (sLen + n) * by_ ≤ 140737488355328) : Put P w st xt es by_ n (Builtin.zeroCells z.cells n).toList (.int k (n : Nat)) base sLen sCap := by
  have hu := und_slice P he
  obtain ⟨kx, hkx⟩ := Option.isSome_iff_exists.1 hxi
  have hd := und_int P hkx
  obtain ⟨i, hi, his⟩ := info_of_sz P hs
  have hib : i.bytes = by_ := by unfold byT at hb; rw [hi] at hb; simpa using hb
  rw [hi, Option.bind_some] at hz
  have hw : IntKind.i64.wrap (n : Int) = n := by rw [IntKind.wrap_i64]; omega
  have hneg : ¬ ((n : Int) < 0) := by omega
  have hmul : n * by_ ≤ 140737488355328 := Nat.le_trans (Nat.mul_le_mul_right _ (by omega)) h48
  have h48i : ¬ (281474976710656 < (n : Int) * (i.bytes : Nat)) := by
    have hm2 : ((n * by_ : Nat) : Int) ≤ 281474976710656 := Int.le_trans (Int.ofNat_le.2 hmul) (by decide)
    rw [Int.natCast_mul] at hm2
    rw [hib]
    exact Int.not_lt.2 hm2
  refine ⟨fun hfit w' hst => ?_, fun hgrow e' z' olds hu' hz' holds => ?_⟩
  · by_cases hn0 : n = 0
    · subst hn0
      have hzero : (Builtin.zeroCells z.cells 0).toList = [] := by simp [Builtin.zeroCells]
      rw [hzero] at hst
      simp only [Nat.add_zero] at hfit
      cases base with
      | none =>
        simp only at hst
        subst hst
        simp [Builtin.append_, run_underlying hu, run_underlying hd, sizeOf, typeInfo, hi, his, asInt, asIntOf, IntKind.wrap_i64, hfit]
      | some a =>
        simp only at hst
        simp [Builtin.append_, run_underlying hu, run_underlying hd, sizeOf, typeInfo, hi, his, asInt, asIntOf, IntKind.wrap_i64, hfit, hst]
    · have hne : ¬ (n * es = 0) := by have := Nat.mul_pos (by omega : 0 < n) hes; omega
      cases base with
      | none =>
        simp only at hst
        subst hst
        simp [Builtin.append_, run_underlying hu, run_underlying hd, sizeOf, typeInfo, zeroValue, hi, his, hz, asInt, asIntOf, hw, hneg, h48i, hfit, hne]
      | some a =>
        simp only at hst
        simp [Builtin.append_, run_underlying hu, run_underlying hd, sizeOf, typeInfo, zeroValue, hi, his, hz, asInt, asIntOf, hw, hneg, h48i, hfit, hne, hst]
  · rw [hu] at hu'; cases hu'
    rw [hi, Option.bind_some, hz] at hz'
    cases hz'
    have hnf : ¬ (sLen + n ≤ sCap) := by omega
    have h63' : ¬ (9223372036854775807 < ((sLen : Int) + (n : Int))) := by omega
    have h48' : ¬ (281474976710656 < Builtin.nextslicecap (sLen + n) sCap * i.bytes) := by
      have := growslice_fits (need := sLen + n) (old := sCap) (bytes := by_) (by omega) h48
      rw [hib]; omega
    by_cases hn0 : n = 0
    · subst hn0
      have hzero : (Builtin.zeroCells z.cells 0) = #[] := by simp [Builtin.zeroCells]
      simp only [Nat.add_zero] at hnf h63' h48'
      have h63'' : ¬ (9223372036854775807 < (sLen : Int)) := by omega
      simp [Builtin.append_, run_underlying hu, run_underlying hd, sizeOf, typeInfo, zeroValue, hi, his, hz, asInt, asIntOf, IntKind.wrap_i64, hnf, h63'', h48', Question.forced, holds, newRow, grownCap, hzero]
    · have hne : ¬ (n * es = 0) := by have := Nat.mul_pos (by omega : 0 < n) hes; omega
      simp [Builtin.append_, run_underlying hu, run_underlying hd, sizeOf, typeInfo, zeroValue, hi, his, hz, asInt, asIntOf, hw, hneg, h48i, hnf, h63', h48', Question.forced, holds, newRow, grownCap, hne]

/-- A row that was never made. -/
theorem WR.newnil (h : WR Γ L0 w0 m H w) {fr : Nat} (hfr : m fr = .res) {H' : Nat → Blk} (hnew : H' fr = .blk true []) (hold : ∀ g, g ≠ fr → H' g = H g ∨ H' g = .dead) :
    let m' := fun g => if g = fr then MB.nil else m g
    WR Γ L0 w0 m' H' w ∧ Grow (Live L0 m H) w (Live L0 m' H') w ∧ (∀ g, g ≠ fr → m' g = m g) ∧ m' fr = .nil := by
  intro m'
  have hm' : ∀ g, g ≠ fr → m' g = m g := fun g hg => if_neg hg
  have hmr : ∀ g, m g ≠ .res → m' g = m g := fun g hg => hm' g (fun e => hg (by rw [e]; exact hfr))
  have hmf : m' fr = .nil := if_pos rfl
  have back : ∀ g rw cs, g ≠ fr → H' g = .blk rw cs → H g = .blk rw cs := fun g rw cs e hg => by
    rcases hold g e with h5 | h5
    · rw [h5] at hg; exact hg
    · rw [h5] at hg; cases hg
  have hgrow : Grow (Live L0 m H) w (Live L0 m' H') w := by
    refine Grow.less w fun b hb => ?_
    rcases hb with k | ⟨g, sz, hg, hm⟩
    · exact .inl k
    · by_cases e : g = fr
      · subst e; rw [hmf] at hm; cases hm
      · rw [hm' g e] at hm; exact .inr ⟨g, sz, (by
          rcases hold g e with h5 | h5
          · rw [h5] at hg; exact hg
          · rw [h5] at hg; cases hg), hm⟩
  have oback : ∀ g o, H' g = .obj o → g ≠ fr ∧ H g = .obj o := fun g o hg => by
    have e : g ≠ fr := fun e => by rw [e, hnew] at hg; cases hg
    rcases hold g e with h5 | h5
    · rw [h5] at hg; exact ⟨e, hg⟩
    · rw [h5] at hg; cases hg
  refine ⟨⟨⟨?_, ?_, fun g o hg => ?_, fun g g' o o' b s1 s2 hg hg' hm1 hm2 => ?_⟩, h.below, h.l0, h.glob.mono hgrow⟩, hgrow, hm', hmf⟩
  rotate_left 2
  · obtain ⟨e, hg⟩ := oback g o hg
    obtain ⟨b, v, k1, k2, k3, k4⟩ := h.heap.obj g o hg
    exact ⟨b, v, by rw [hm' g e]; exact k1, k2, k3, k4.mono hgrow hmr⟩
  · obtain ⟨e, hg⟩ := oback g o hg
    obtain ⟨e', hg'⟩ := oback g' o' hg'
    rw [hm' g e] at hm1; rw [hm' g' e'] at hm2
    exact h.heap.injO g g' o o' b s1 s2 hg hg' hm1 hm2
  · intro g rw cs hg
    by_cases e : g = fr
    · subst e
      rw [hnew] at hg; cases hg
      exact .inl ⟨hmf, rfl⟩
    · rcases h.heap.blk g rw cs (back g _ _ e hg) with ⟨k1, k2⟩ | ⟨b, sz, vs', ty', k1, k2, k3, k4, k5, k6, k7⟩
      · exact .inl ⟨by rw [hm' g e]; exact k1, k2⟩
      · have hb := h.lt (back g _ _ e hg) k1
        refine .inr ⟨b, sz, vs', ty', by rw [hm' g e]; exact k1, k2, fun hrw => (hgrow.keep b hb (k3 hrw)).2, k4, k5, k6, fun i d hd => ?_⟩
        obtain ⟨v, hv, h1c, hvv⟩ := k7 i d hd
        exact ⟨v, hv, h1c, hvv.mono hgrow hmr⟩
  · intro g g' cs rw' cs' b sz sz' hg hg' hm1 hm2
    by_cases e : g = fr
    · rw [e, hmf] at hm1; cases hm1
    · by_cases e' : g' = fr
      · rw [e', hmf] at hm2; cases hm2
      · rw [hm' g e] at hm1; rw [hm' g' e'] at hm2
        exact h.heap.inj g g' cs rw' cs' b sz sz' (back g _ _ e hg) (back g' _ _ e' hg') hm1 hm2

theorem zeroCells_len (z : Array Value) (n : Nat) : (Builtin.zeroCells z n).size = n * z.size := by simp [Builtin.zeroCells]

/-- A row with something put behind it: u is what it takes for the numbered blocks. -/
theorem append_core (h : WR Γ L0 w0 m H w) (hfr : m fr = .res) {st xt e : TypeId} {es by_ n len sCap : Nat} {cs old : List D} {news olds : List Value} {vx z : Value} {base : Option Addr} (hes : 0 < es) (he : sliceT P st = some e) (hz : (P.info? e).bind (·.zero) = some z) (hzs : z.cells.size = es)
    (hput : Put P w st xt es by_ n news vx base len sCap) (hcl : cs.length = n * es) (hnl : news.length = n * es) (hcap : sCap ≤ maxLen) (h63 : len + n ≤ 140737488355328)
    (hcs : ∀ (i : Nat) (d : D), cs[i]? = some d → ∃ u, news[i]? = some u ∧ u.oneCell' = true ∧ VV (Live L0 m H) w m d u)
    (hone : ∀ u ∈ news, u.oneCell' = true)
    {H' : Nat → Blk} (hnew : H' fr = .blk true (old ++ cs))
    (htarget : (len = 0 ∧ sCap = 0 ∧ old = [] ∧ olds = [] ∧ (∀ g, g ≠ fr → H' g = H g ∨ H' g = .dead)) ∨
      ∃ g b sz o, fr ≠ g ∧ H g = .blk true old ∧ H' g = .dead ∧ (∀ k, k ≠ fr → k ≠ g → H' k = H k) ∧ m g = .at b sz ∧ base = some ⟨b, o, none⟩ ∧ (o = 0 ∨ sCap = 0) ∧ sCap * es ≤ sz ∧ len ≤ sCap ∧ old.length = len * es) :
    ∃ v w' m', (Builtin.append_ #[st, xt] 0 #[.slice base len sCap, vx]).run P w = .ok v w' ∧ WR Γ L0 w0 m' H' w' ∧ VV (Live L0 m' H') w' m' (.ref fr 0 (len + n) es) v ∧ Grow (Live L0 m H) w (Live L0 m' H') w' ∧ ∀ g, g ≠ fr → m' g = m g := by
  have hu := und_slice P he
  by_cases hfit : len + n ≤ sCap
  · rcases htarget with ⟨h0, h1, h2, _, hold⟩ | ⟨g, b, sz, o, hfg, hg, hgone, hold, hm, hbase, ho, hsz, hls, hol⟩
    · -- nothing behind nothing
      subst h0; subst h1
      obtain rfl : n = 0 := by omega
      have hc0 : cs = [] := List.eq_nil_of_length_eq_zero (by omega)
      have hn0 : news = [] := List.eq_nil_of_length_eq_zero (by omega)
      subst hc0; subst hn0; subst h2
      obtain ⟨k1, k2, k3, k4⟩ := h.newnil hfr (H' := H') (by simpa using hnew) hold
      refine ⟨.slice base 0 0, w, _, ?_, k1, .ref0 fr es base k4, k2, k3⟩
      refine hput.fits hfit w ?_
      cases base <;> simp [storeCells]
    · obtain ⟨vs, ty, e1, e2, e3, _, e5⟩ := at_of h hg hm
      subst hbase
      have hmul : (len + n) * es ≤ sCap * es := Nat.mul_le_mul_right _ hfit
      rw [Nat.add_mul] at hmul
      have hoff : o = 0 ∨ (len = 0 ∧ n = 0) := by omega
      -- where the new cells come to lie
      have hfit2 : len * es + news.length ≤ vs.size := by omega
      have hst : (storeCells ((⟨b, o, none⟩ : Addr).add (len * es)) news).run P w = .ok () (w.setRow b (vs.toList.take (len * es) ++ news ++ vs.toList.drop (len * es + news.length)).toArray) := by
        rcases hoff with rfl | ⟨rfl, rfl⟩
        · have := run_storeCells_at P b (len * es) ty news 0 vs w e1 (by omega) hone
          simp only [Nat.add_zero] at this
          rw [add_off, Nat.zero_add]; exact this
        · have hn0 : news = [] := List.eq_nil_of_length_eq_zero (by omega)
          subst hn0
          simp only [storeCells, Nat.zero_mul, List.take_zero, List.nil_append, List.length_nil, Nat.add_zero, List.drop_zero]
          rw [show vs.toList.toArray = vs by simp, setRow_self w b vs ty (0, 0) e1]; rfl
      have hcell : ∀ (i : Nat) (d : D), (old ++ cs)[i]? = some d → ∃ v, (vs.toList.take (len * es) ++ news ++ vs.toList.drop (len * es + news.length)).toArray[i]? = some v ∧ v.oneCell' = true ∧ VV (Live L0 m H) w m d v := by
        intro i d hd
        have ht : (vs.toList.take (len * es)).length = len * es := by rw [List.length_take]; simp; omega
        rw [List.getElem?_toArray, List.append_assoc]
        by_cases hi : i < old.length
        · rw [List.getElem?_append_left hi] at hd
          obtain ⟨v, q1, q2, q3⟩ := e5 i d hd
          refine ⟨v, ?_, q2, q3⟩
          rw [List.getElem?_append_left (by omega), List.getElem?_take_of_lt (by omega)]
          simpa using q1
        · rw [List.getElem?_append_right (by omega)] at hd
          have hlt := (List.getElem?_eq_some_iff.1 hd).1
          obtain ⟨v, q1, q2, q3⟩ := hcs _ d hd
          refine ⟨v, ?_, q2, q3⟩
          rw [List.getElem?_append_right (by omega), ht, ← hol, List.getElem?_append_left (by omega)]
          exact q1
      obtain ⟨k1, k2, k3, k4, k5⟩ := h.write (t := fr) (H' := H') (cells' := old ++ cs) (vs' := (vs.toList.take (len * es) ++ news ++ vs.toList.drop (len * es + news.length)).toArray) hg hm e1 (.inr hfr) hnew (fun _ => hgone) hold
        (by rw [over_size hfit2]; exact e2) (by simp; omega) hcell
      refine ⟨_, _, _, hput.fits hfit _ hst, k1, ?_, k2, k3⟩
      refine .ref fr 0 (len + n) es b sz sCap o k5 ?_ (by omega) hfit hcap
      rcases ho with ho | ho
      · exact .inl ho
      · exact .inr ho
  · -- a new block
    have hgrow : sCap < len + n := by omega
    have hge := grownCap_ge w (len + n) sCap e
    have hmax := grownCap_le_maxLen w (len + n) sCap e (by unfold maxLen; omega)
    have key : ∀ (olds : List Value) (hol : old.length = len * es) (hl : olds.length = len * es) (hfc : (Builtin.firstCells es len (.slice base len sCap)).run P w.drew = .ok olds.toArray w.drew)
        (hoc : ∀ (i : Nat) (d : D), old[i]? = some d → ∃ u, olds[i]? = some u ∧ u.oneCell' = true ∧ VV (Live L0 m H) w m d u) (hold : ∀ g, g ≠ fr → H' g = H g ∨ H' g = .dead),
        ∃ v w' m', (Builtin.append_ #[st, xt] 0 #[.slice base len sCap, vx]).run P w = .ok v w' ∧ WR Γ L0 w0 m' H' w' ∧ VV (Live L0 m' H') w' m' (.ref fr 0 (len + n) es) v ∧ Grow (Live L0 m H) w (Live L0 m' H') w' ∧ ∀ g, g ≠ fr → m' g = m g := by
      intro olds hol hl hfc hoc hold
      have hr := hput.grows hgrow e z olds.toArray hu hz hfc
      have hsz : (olds.toArray ++ news.toArray ++ Builtin.zeroCells z.cells (grownCap w (len + n) sCap e - (len + n))).size = grownCap w (len + n) sCap e * es := by
        simp only [Array.size_append, List.size_toArray, zeroCells_len, hzs, hl, hnl]
        rw [← Nat.add_mul, ← Nat.add_mul]
        congr 1
        omega
      have hle : (len + n) * es ≤ grownCap w (len + n) sCap e * es := Nat.mul_le_mul_right _ hge
      rw [Nat.add_mul] at hle
      obtain ⟨k1, k2, k3, k4⟩ := h.new (fr := fr) (w1 := w.drew) (vs := olds.toArray ++ news.toArray ++ Builtin.zeroCells z.cells (grownCap w (len + n) sCap e - (len + n))) (ty := e) (fz := (0, 0)) (H' := H') (cells := old ++ cs) hfr ⟨rfl, rfl, rfl, rfl⟩ hnew hold rfl
        (by rw [hsz]; simp; omega) (fun i d hd => by
          by_cases hi : i < old.length
          · rw [List.getElem?_append_left hi] at hd
            obtain ⟨v, q1, q2, q3⟩ := hoc i d hd
            refine ⟨v, ?_, q2, q3⟩
            rw [← Array.getElem?_toList]
            simp only [Array.toList_append, List.append_assoc]
            rw [List.getElem?_append_left (by omega)]
            exact q1
          · rw [List.getElem?_append_right (by omega)] at hd
            have hlt := (List.getElem?_eq_some_iff.1 hd).1
            obtain ⟨v, q1, q2, q3⟩ := hcs _ d hd
            refine ⟨v, ?_, q2, q3⟩
            rw [← Array.getElem?_toList]
            simp only [Array.toList_append, List.append_assoc]
            rw [List.getElem?_append_right (by omega), List.getElem?_append_left (by omega), show i - olds.length = i - old.length by omega]
            exact q1)
      refine ⟨_, _, _, hr, k1, ?_, k2, k3⟩
      exact .ref fr 0 (len + n) es _ _ _ 0 k4 (.inl rfl) (by rw [hsz]; omega) hge hmax
    rcases htarget with ⟨h0, h1, h2, h3, hold⟩ | ⟨g, b, sz, o, hfg, hg, hgone, hold, hm, hbase, ho, hsz, hls, hol⟩
    · subst h0; subst h1; subst h2
      refine key [] (by simp) (by simp) ?_ (fun i d hd => by simp at hd) hold
      cases base <;> simp [Builtin.firstCells, loadCells, loadCellsFrom]
    · obtain ⟨vs, ty, e1, e2, e3, _, e5⟩ := at_of h hg hm
      subst hbase
      have hlo : o = 0 ∨ len = 0 := by omega
      refine key (vs.toList.take (len * es)) hol (by simp; omega) ?_ (fun i d hd => ?_) (fun k hk => ?_)
      · refine run_firstCells_some (P := P) w.drew es len ⟨b, o, none⟩ len sCap _ (by simp; omega) fun j u hu => ?_
        rw [List.getElem?_take] at hu
        split at hu
        · rename_i hj
          rw [add_off]
          have ho0 : o = 0 := by
            rcases hlo with e | e
            · exact e
            · subst e; omega
          rw [ho0, Nat.zero_add, World.cell?_drew, cell_of e1]
          simpa using hu
        · cases hu
      · obtain ⟨v, q1, q2, q3⟩ := e5 i d hd
        have hi := (List.getElem?_eq_some_iff.1 hd).1
        exact ⟨v, by rw [List.getElem?_take_of_lt (by omega)]; simpa using q1, q2, q3⟩
      · by_cases e : k = g
        · subst e; exact .inr hgone
        · exact .inl (hold k hk e)
end
end Go.Proofs.Ytedcnbkhdkchoaa
