/- Each operation keeps the relation: part seven: the rest, and all of them. -/
import Derived.Laws.IdiomStrings
import Derived.Lib.BufferRead
import Derived.Test.YtedcnbkhdkchoaaI
namespace Go.Proofs.Ytedcnbkhdkchoaa
open Go.RowKit
set_option linter.unusedVariables false
set_option linter.unusedSimpArgs false

section
variable {P : Program} {Γ : Nat → Option (List Data)} {L0 : Nat → Prop} {w0 : World} {m : Nat → MB} {H : Nat → Blk} {w : World} {fr : Nat} {L : Nat → Prop}

theorem len_ok {t ty : TypeId} {x : D} {v : Value} {K : D → Prop} (hv : VV L w m x v) (hk : lenK P t x K) : ∃ d u, K d ∧ VV L w m d u ∧ (Builtin.len_ #[t] ty #[v]).run P w = .ok u w := by
  have nd : ∀ k n, VV L w m (intD k n) (.int k n) := fun k n => .data _ _ (.int k n)
  unfold lenK at hk
  split at hk
  · obtain ⟨ht, hk⟩ := hk
    have hv := hv.data_inv
    cases hv
    exact ⟨_, _, hk, nd _ _, by simp [Builtin.len_, run_underlying (und_str P ht), goInt]⟩
  · obtain ⟨ht, hk⟩ := hk
    obtain ⟨e, he⟩ := Option.isSome_iff_exists.1 ht
    have hv := hv.data_inv
    cases hv with
    | sl _ _ a n cap b off vs hn =>
    subst hn
    exact ⟨_, _, hk, nd _ _, by simp [Builtin.len_, run_underlying (und_slice P he), goInt]⟩
  · obtain ⟨ht, hk⟩ := hk
    obtain ⟨e, he⟩ := Option.isSome_iff_exists.1 ht
    cases hv with
    | ref _ _ _ _ b sz cap o => exact ⟨_, _, hk, nd _ _, by simp [Builtin.len_, run_underlying (und_slice P he), goInt]⟩
    | ref0 _ _ a => exact ⟨_, _, hk, nd _ _, by simp [Builtin.len_, run_underlying (und_slice P he), goInt]⟩
  · obtain ⟨ht, hk⟩ := hk
    obtain ⟨e, he⟩ := Option.isSome_iff_exists.1 ht
    cases hv with
    | cut _ _ _ _ _ b sz cap o => exact ⟨_, _, hk, nd _ _, by simp [Builtin.len_, run_underlying (und_slice P he), goInt]⟩
  · obtain ⟨ht, hk⟩ := hk
    obtain ⟨e, he⟩ := Option.isSome_iff_exists.1 ht
    cases hv with
    | emp _ a => exact ⟨_, _, hk, nd _ _, by simp [Builtin.len_, run_underlying (und_slice P he), goInt]⟩
  · split at hk
    · rename_i n e he
      exact ⟨_, _, hk, nd _ _, by simp [Builtin.len_, run_underlying (und_arr P he), goInt]⟩
    · exact hk.elim

theorem conv_ok {src dst : TypeId} {x : D} {v : Value} {K : D → Prop} (hsrc : (P.underlying src).isSome = true) (hv : VV L w m x v) (hk : convK P src dst x K) : ∃ d u, K d ∧ VV L w m d u ∧ (convert src dst v).run P w = .ok u w := by
  obtain ⟨ds, hds⟩ := Option.isSome_iff_exists.1 hsrc
  unfold convK at hk
  split at hk
  · obtain rfl := int_inv hv
    split at hk
    · rename_i k hkd
      refine ⟨_, _, hk, .data _ _ (.int _ _), ?_⟩
      simp only [convert, Sem.run_bind, run_underlying hds, run_underlying (und_int P hkd), Result.andThen_ok]
      cases ds <;> simp [Conv.intToInt]
    · exact hk.elim
  · obtain ⟨ht, hk⟩ := hk
    have hv := hv.data_inv
    cases hv
    refine ⟨_, _, hk, .data _ _ (.str _), ?_⟩
    simp only [convert, Sem.run_bind, run_underlying hds, run_underlying (und_str P ht), Result.andThen_ok]
    cases ds <;> simp
  · obtain ⟨rfl, ht, hk2, bs, rfl, hk⟩ := hk
    split at hk2
    · rename_i e he
      have hq0 := hv.data_inv
      cases hq0 with
      | sl _ _ a n cap b off vs hn hle hm hes ha hc hvv =>
        refine ⟨_, _, hk, .data _ _ (.str _), ?_⟩
        have hfl : ∀ l : List UInt8, flat (l.map fun b => Data.int .u8 (b.toNat : Int)) = l.map fun b => Data.int .u8 (b.toNat : Int) := fun l => by
          induction l with
          | nil => rfl
          | cons y l ih => simp only [flat, List.map_cons, List.flatMap_cons] at ih ⊢; rw [ih]; rfl
        have hn2 : n = bs.length := by simpa using hn
        subst hn2
        rcases ha with ⟨rfl, _, _⟩ | h0
        · refine run_convert_bytes_back w _ _ e ⟨b, off, none⟩ cap bs (und_slice P he) (und_int P hk2) (und_str P ht) fun j hj => ?_
          have hx : (flat (bs.map fun b => Data.int .u8 (b.toNat : Int)))[j]? = some (.int .u8 (bs[j].toNat : Int)) := by rw [hfl]; simp [hj]
          have h1 := hc j _ hx
          have h2 := hvv j _ hx
          generalize vs j = q at h1 h2
          cases h2
          by_cases hj0 : j = 0
          · subst hj0; simpa [Addr.add] using h1
          · simpa [Addr.add, hj0] using h1
        · have : bs = [] := by simpa using h0
          subst this
          cases a with
          | none => exact Lib.run_convert_nil_bytes w _ _ e cap (und_slice P he) (und_int P hk2) (und_str P ht)
          | some ad => exact run_convert_bytes_back w _ _ e ad cap [] (und_slice P he) (und_int P hk2) (und_str P ht) fun j hj => by simp at hj
    · exact hk2.elim
  · exact hk.elim

theorem un_ok {op : UnOp} {x : D} {v : Value} {K : D → Prop} (hv : VV L w m x v) (hk : unK op x K) : ∃ d u, K d ∧ VV L w m d u ∧ (Op.unary op v).run P w = .ok u w := by
  unfold unK at hk
  split at hk
  · obtain rfl := int_inv hv
    exact ⟨_, _, hk, .data _ _ (.int _ _), by simp [Op.unary, Op.intArith]⟩
  · obtain rfl := int_inv hv
    exact ⟨_, _, hk, .data _ _ (.int _ _), by simp [Op.unary, Op.intBits]⟩
  · have hv := hv.data_inv
    cases hv
    exact ⟨_, _, hk, .data _ _ (.bool _), by simp [Op.unary]⟩
  · exact hk.elim

theorem minmax_ok {big : Bool} {ds : List D} {vs : Array Value} {ts : Array TypeId} {ty : TypeId} {K : D → Prop} (hl : ds.length = vs.size) (hv : ∀ (i : Nat) (d : D) (v : Value), ds[i]? = some d → vs[i]? = some v → VV L w m d v) (hk : minmaxK big ds K) :
    ∃ d u, K d ∧ VV L w m d u ∧ (if big then Builtin.max_ ts ty vs else Builtin.min_ ts ty vs).run P w = .ok u w := by
  unfold minmaxK at hk
  split at hk
  · rename_i k a k' b
    obtain ⟨rfl, hk⟩ := hk
    have h0 : 0 < vs.size := by simp at hl; omega
    have h1 : 1 < vs.size := by simp at hl; omega
    have e0 := int_inv (hv 0 _ _ rfl (Array.getElem?_eq_getElem h0))
    have e1 := int_inv (hv 1 _ _ rfl (Array.getElem?_eq_getElem h1))
    have hvs : vs.toList = [.int k a, .int k b] := by
      apply List.ext_getElem
      · simp at hl ⊢; omega
      · intro i h2 h3
        simp at h3
        match i with
        | 0 => simpa using e0
        | 1 => simpa using e1
    refine ⟨_, _, hk, .data _ _ (.int _ _), ?_⟩
    cases big <;> simp [Builtin.max_, Builtin.min_, hvs, Builtin.max2, Builtin.min2]
  · exact hk.elim

theorem sliceArr_ok {t : TypeId} {x : D} {v : Value} {lo hi mx : Option Operand} {ρ : Operand → D} {σ : Operand → Value} {K : D → List Nat → Prop} (h : WR Γ L0 w0 m H w) (hρ : ∀ x, VV (Live L0 m H) w m (ρ x) (σ x)) (hv : VV (Live L0 m H) w m x v)
    (hk : sliceArrK P t x (lo.map ρ) (hi.map ρ) (mx.map ρ) H K) : ∃ d rd u, K d rd ∧ VV (Live L0 m H) w m d u ∧ (Instr.sliceAt t v (lo.map σ) (hi.map σ) (mx.map σ)).run P w = .ok u w := by
  obtain ⟨l1, l2⟩ := map_some (a := lo) hρ
  obtain ⟨h1, h2⟩ := map_some (a := hi) hρ
  unfold sliceArrK at hk
  split at hk
  · exact hk.elim
  · rename_i hmx
    have hmx : mx = none := by cases mx with | none => rfl | some _ => cases hmx
    subst hmx
    simp only [Option.map_none]
    split at hk
    · rename_i g off n e he
      split at hk
      · rename_i es rw cells hs hg
        obtain ⟨hmax, hfit, hk⟩ := hk
        have hu := und_arr P he
        have hml : n ≤ maxLen := by unfold maxLen; omega
        cases hv with
        | ptr _ _ b sz k1 =>
        obtain ⟨vs, ty, e1, e2, e3, _⟩ := at_of h hg k1
        obtain ⟨i, j, hk, hab, hbl, hr⟩ := bounds_ok (P := P) (isSlice := false) (cap := n) (Nat.le_refl _) l1 l2 h1 h2 hk
        have hmul : i * es + (n - i) * es = n * es := by rw [← Nat.add_mul]; congr 1; omega
        refine ⟨_, _, .slice (some (if n = i then ⟨b, off, none⟩ else ⟨b, off + i * es, none⟩)) (j - i) (n - i), hk, ?_, ?_⟩
        · by_cases hni : n = i
          · rw [if_pos hni]
            exact .ref _ _ _ _ b sz _ off k1 (.inr (by omega)) (by omega) (by omega) (by omega)
          · rw [if_neg hni]
            exact .ref _ _ _ _ b sz _ _ k1 (.inl rfl) (by omega) (by omega) (by omega)
        · simp only [Instr.sliceAt, run_underlying hu, Instr.sureAddr, hr, run_sz P hs, Sem.run_bind, Result.andThen_ok, Sem.run_pure, add_off]
      · exact hk.elim
    · rename_i cells n e he
      obtain ⟨hs, hmax, hfit, hcell, hk⟩ := hk
      have hu := und_arr P he
      have hml : n ≤ maxLen := by unfold maxLen; omega
      cases hv with
      | cptr _ b off vs hb hL hc hvv =>
      obtain ⟨i, j, hk, hab, hbl, hr⟩ := bounds_ok (P := P) (isSlice := false) (cap := n) (Nat.le_refl _) l1 l2 h1 h2 hk
      refine ⟨_, _, .slice (some (if n = i then ⟨b, off, none⟩ else ⟨b, off + i * 1, none⟩)) (j - i) (n - i), hk, .data _ _ ?_, ?_⟩
      · have hone : ∀ x ∈ ((cells.take n).take j).drop i, x.cells = [x] := fun x hx => by
          have hx := hcell x (List.mem_of_mem_take (List.mem_of_mem_drop hx))
          cases x <;> simp_all [Data.cell, Data.cells]
        have hfl : ∀ l : List Data, (∀ x ∈ l, x.cells = [x]) → flat l = l := fun l hl => by
          induction l with
          | nil => rfl
          | cons x l ih =>
            simp only [flat, List.flatMap_cons] at ih ⊢
            rw [hl x (by simp), ih (fun y hy => hl y (by simp [hy]))]; rfl
        have hf := hfl _ hone
        have hlen : j - i = (((cells.take n).take j).drop i).length := by simp; omega
        by_cases hij : i = j
        · refine .sl 1 _ _ _ _ b off vs hlen (by omega) (by omega) (fun x hx => by rw [hone x hx]; rfl) (.inr (List.eq_nil_of_length_eq_zero (by omega))) (fun q c hq => ?_) (fun q c hq => ?_)
          all_goals
            rw [hf] at hq
            have := (List.getElem?_eq_some_iff.1 hq).1
            omega
        · rw [if_neg (by omega)]
          refine .sl 1 _ _ _ _ b (off + i * 1) (fun q => vs (i * 1 + q)) hlen (by omega) (by omega) (fun x hx => by rw [hone x hx]; rfl) (.inl ⟨rfl, hb, hL⟩) (fun q c hq => ?_) (fun q c hq => ?_)
          all_goals
            rw [hf, List.getElem?_drop, List.getElem?_take] at hq
            split at hq
            · rw [List.getElem?_take] at hq
              split at hq
              · first
                | (rw [Nat.mul_one]; exact hvv _ c hq)
                | (rw [Nat.mul_one, Nat.add_assoc]; exact hc _ c hq)
              · cases hq
            · cases hq
      · simp only [Instr.sliceAt, run_underlying hu, Instr.sureAddr, hr, run_sz P hs, Sem.run_bind, Result.andThen_ok, Sem.run_pure, add_off]
    · exact hk.elim
end
end Go.Proofs.Ytedcnbkhdkchoaa
