/- Each operation keeps the relation: part four: rows that are made, filled, appended to. -/
import Derived.Test.YtedcnbkhdkchoaaF
namespace Go.Proofs.Ytedcnbkhdkchoaa
open Go.RowKit
set_option linter.unusedVariables false
set_option linter.unusedSimpArgs false

section
variable {P : Program} {Γ : Nat → Option (List Data)} {L0 : Nat → Prop} {w0 : World} {m : Nat → MB} {H : Nat → Blk} {w : World} {fr : Nat} {L : Nat → Prop}

theorem und_not_int {t : TypeId} (h1 : (intT P t).isSome = false) (h2 : ((sliceT P t).isSome || strT P t) = true) : ∃ d, P.underlying t = some d ∧ (match d with | .int _ => true | _ => false) = false := by
  rcases Bool.or_eq_true_iff.1 h2 with h | h
  · obtain ⟨e, he⟩ := Option.isSome_iff_exists.1 h
    exact ⟨_, und_slice P he, rfl⟩
  · exact ⟨_, und_str P h, rfl⟩

/-- What stands behind a slice or a string, in the model's own cells. -/
structure Src (P : Program) (L : Nat → Prop) (m : Nat → MB) (w : World) (es n : Nat) (cs : List D) (v : Value) (news : List Value) : Prop where
  len : (Builtin.lenOf v).run P w = .ok n w
  len' : (Builtin.lenOf v).run P w.drew = .ok n w.drew
  first : ∀ k, k ≤ n → (Builtin.firstCells es k v).run P w = .ok (news.take (k * es)).toArray w
  first' : (Builtin.firstCells es n v).run P w.drew = .ok news.toArray w.drew
  cl : cs.length = n * es
  nl : news.length = n * es
  at' : ∀ (i : Nat) (d : D), cs[i]? = some d → ∃ u, news[i]? = some u ∧ VV L w m d u

theorem Src.mk' {es n : Nat} {cs : List D} {v : Value} {news : List Value} {b off len cap : Nat} (hv : v = .slice (some ⟨b, off, none⟩) len cap) (hn : len = n)
    (hcell : ∀ j u, news[j]? = some u → w.cell? ⟨b, off + j, none⟩ = some u) (cl : cs.length = n * es) (nl : news.length = n * es) (hat : ∀ (i : Nat) (d : D), cs[i]? = some d → ∃ u, news[i]? = some u ∧ VV L w m d u) : Src P L m w es n cs v news := by
  subst hv; subst hn
  refine ⟨by simp [Builtin.lenOf], by simp [Builtin.lenOf], fun k hk => ?_, ?_, cl, nl, hat⟩
  · have hk' : k * es ≤ len * es := Nat.mul_le_mul_right _ hk
    refine run_firstCells_some (P := P) w es k ⟨b, off, none⟩ len cap (news.take (k * es)) (by simp; omega) fun j u hu => ?_
    rw [add_off]
    rw [List.getElem?_take] at hu
    split at hu
    · exact hcell j u hu
    · cases hu
  · exact run_firstCells_some (P := P) w.drew es len ⟨b, off, none⟩ len cap news nl fun j u hu => by rw [add_off]; exact hcell j u hu

theorem Src.none' {es : Nat} {v : Value} {a : Option Addr} {cap : Nat} (hv : v = .slice a 0 cap) : Src P L m w es 0 [] v [] := by
  subst hv
  refine ⟨by simp [Builtin.lenOf], by simp [Builtin.lenOf], fun k hk => ?_, ?_, by simp, by simp, fun i d hd => by simp at hd⟩
  · obtain rfl : k = 0 := by omega
    cases a <;> simp [Builtin.firstCells, loadCells, loadCellsFrom]
  · cases a <;> simp [Builtin.firstCells, loadCells, loadCellsFrom]

theorem src_ok {y : D} {vy : Value} {es : Nat} {K : Nat → List D → List Nat → Prop} (h : WR Γ L0 w0 m H w) (hy : VV (Live L0 m H) w m y vy) (hk : srcK y es H K) :
    ∃ n cs rd news, K n cs rd ∧ Src P (Live L0 m H) m w es n cs vy news := by
  unfold srcK at hk
  split at hk
  · cases hy with
    | emp _ a => exact ⟨_, _, _, _, hk, Src.none' rfl⟩
  · rename_i es' l
    obtain ⟨rfl, hk⟩ := hk
    have hy := hy.data_inv
    cases hy with
    | sl _ _ a n cap b off vs hn hle hm hes ha hc hvv =>
    subst hn
    rcases ha with ⟨rfl, hb, hL⟩ | h0
    · have hfl := flat_length hes
      refine ⟨_, _, _, (List.range (l.length * es')).map vs, hk, Src.mk' (b := b) (off := off) (cap := cap) rfl rfl (fun j u hu => ?_) (by simp [hfl]) (by simp) (fun i d hd => ?_)⟩
      · rw [List.getElem?_map, Option.map_eq_some_iff] at hu
        obtain ⟨q, hq, rfl⟩ := hu
        have hlt := (List.getElem?_eq_some_iff.1 hq).1
        simp at hlt
        rw [List.getElem?_range hlt] at hq
        cases hq
        exact hc j _ (List.getElem?_eq_getElem (by omega))
      · rw [List.getElem?_map, Option.map_eq_some_iff] at hd
        obtain ⟨x, hx, rfl⟩ := hd
        have hlt := (List.getElem?_eq_some_iff.1 hx).1
        exact ⟨vs i, by rw [List.getElem?_map, List.getElem?_range (by omega)]; rfl, .data _ _ (hvv i x hx)⟩
    · subst h0
      exact ⟨_, _, _, _, hk, by simpa [flat] using Src.none' (P := P) (L := Live L0 m H) (m := m) (w := w) (es := es') (v := .slice a ([] : List Data).length cap) rfl⟩
  · rename_i g off len es'
    obtain ⟨rfl, hk⟩ := hk
    split at hk
    · rename_i rw cells hg
      obtain ⟨hfit, hk⟩ := hk
      cases hy with
      | ref _ _ _ _ b sz cap o k1 k2 k3 k4 k5 =>
        obtain ⟨vs, ty, h1, h2, h3, _, h5⟩ := at_of h hg k1
        by_cases hl : len = 0
        · subst hl
          refine ⟨_, _, _, [], hk, ?_⟩
          have : (cells.drop off).take (0 * es') = [] := by simp
          rw [this]
          exact Src.none' rfl
        · have ho : o = off := by
            rcases k2 with k2 | k2
            · exact k2
            · omega
          subst ho
          have hcl : ((cells.drop o).take (len * es')).length = len * es' := by simp; omega
          refine ⟨_, _, _, (vs.toList.drop o).take (len * es'), hk, Src.mk' (b := b) (off := o) (cap := cap) rfl rfl (fun j u hu => ?_) hcl (by simp; omega) (fun i d hd => ?_)⟩
          · rw [List.getElem?_take] at hu
            split at hu
            · rw [List.getElem?_drop] at hu
              rw [cell_of h1]; simpa using hu
            · cases hu
          · rw [List.getElem?_take] at hd
            split at hd
            · rename_i hi
              rw [List.getElem?_drop] at hd
              obtain ⟨v, e1, e2, e3⟩ := h5 _ d hd
              exact ⟨v, by rw [List.getElem?_take, if_pos hi, List.getElem?_drop]; simpa using e1, e3⟩
            · cases hd
      | ref0 _ _ a k1 =>
        refine ⟨_, _, _, [], hk, ?_⟩
        have : (cells.drop 0).take (0 * es') = [] := by simp
        rw [this]
        exact Src.none' rfl
    · exact hk.elim
  · rename_i g off len cp es'
    obtain ⟨rfl, hk⟩ := hk
    split at hk
    · rename_i rw cells hg
      obtain ⟨hfit, hk⟩ := hk
      cases hy with
      | cut _ _ _ _ _ b sz cap o k1 k2 k3 k4 k5 k6 =>
        obtain ⟨vs, ty, h1, h2, h3, _, h5⟩ := at_of h hg k1
        by_cases hl : len = 0
        · subst hl
          refine ⟨_, _, _, [], hk, ?_⟩
          have : (cells.drop off).take (0 * es') = [] := by simp
          rw [this]
          exact Src.none' rfl
        · have ho : o = off := by
            rcases k2 with k2 | k2
            · exact k2
            · omega
          subst ho
          have hcl : ((cells.drop o).take (len * es')).length = len * es' := by simp; omega
          refine ⟨_, _, _, (vs.toList.drop o).take (len * es'), hk, Src.mk' (b := b) (off := o) (cap := cap) rfl rfl (fun j u hu => ?_) hcl (by simp; omega) (fun i d hd => ?_)⟩
          · rw [List.getElem?_take] at hu
            split at hu
            · rw [List.getElem?_drop] at hu
              rw [cell_of h1]; simpa using hu
            · cases hu
          · rw [List.getElem?_take] at hd
            split at hd
            · rename_i hi
              rw [List.getElem?_drop] at hd
              obtain ⟨v, e1, e2, e3⟩ := h5 _ d hd
              exact ⟨v, by rw [List.getElem?_take, if_pos hi, List.getElem?_drop]; simpa using e1, e3⟩
            · cases hd
    · exact hk.elim
  · rename_i s
    obtain ⟨rfl, hk⟩ := hk
    have hy := hy.data_inv
    cases hy
    have hsz : s.toList.length = s.size := by rw [ByteArray.toList_eq, Array.length_toList]; rfl
    have hfull : s.extract 0 s.size = s := by simp
    refine ⟨_, _, _, s.toList.map fun b => .int .u8 b.toNat, hk, ⟨by simp [Builtin.lenOf], by simp [Builtin.lenOf], fun k hk => ?_, ?_, by simp [hsz], by simp [hsz], fun i d hd => ?_⟩⟩
    · simp only [Builtin.firstCells, Sem.run_pure]
      congr 1
      apply Array.ext'
      simp only [Array.toList_map, Nat.mul_one, List.map_take, ByteArray.toList_eq, List.toList_toArray]
      simp
    · simp only [Builtin.firstCells, Sem.run_pure, hfull]
      congr 1
      apply Array.ext'
      simp [ByteArray.toList_eq]
    · rw [List.getElem?_map, Option.map_eq_some_iff] at hd
      obtain ⟨x, hx, rfl⟩ := hd
      exact ⟨_, by rw [List.getElem?_map, hx]; rfl, .data _ _ (.int _ _)⟩
  · exact hk.elim
end
end Go.Proofs.Ytedcnbkhdkchoaa
