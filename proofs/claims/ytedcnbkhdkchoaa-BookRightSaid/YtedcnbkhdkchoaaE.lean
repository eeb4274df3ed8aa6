/- Each operation keeps the relation: part two: looks, writes, new variables, addresses. -/
import Derived.Test.YtedcnbkhdkchoaaD
namespace Go.Proofs.Ytedcnbkhdkchoaa
open Go.RowKit
set_option linter.unusedVariables false
set_option linter.unusedSimpArgs false

theorem add_off (b o n : Nat) : (⟨b, o, none⟩ : Addr).add n = ⟨b, o + n, none⟩ := by unfold Addr.add; split <;> simp_all

section
variable {P : Program} {Γ : Nat → Option (List Data)} {L0 : Nat → Prop} {w0 : World} {m : Nat → MB} {H : Nat → Blk} {w : World} {fr : Nat} {L : Nat → Prop}

theorem cell_of {b : Nat} {vs : Array Value} {ty : TypeId} {fz : Nat × Nat} (h : w.heap[b]? = some (.cells vs ty fz)) (i : Nat) : w.cell? ⟨b, i, none⟩ = vs[i]? := by simp [World.cell?, h]

/-- Some cells, one behind the other. -/
theorem run_loadN {b off n : Nat} {f : Nat → Value} (h : ∀ j, j < n → w.cell? ⟨b, off + j, none⟩ = some (f j)) : (loadCells ⟨b, off, none⟩ n).run P w = .ok ((List.range n).map f).toArray w :=
  run_loadCells w ⟨b, off, none⟩ n f fun j hj => by rw [add_off]; exact h j hj

theorem at_of (h : WR Γ L0 w0 m H w) {g : Nat} {rw : Bool} {cells : List D} {b sz : Nat} (hg : H g = .blk rw cells) (hm : m g = .at b sz) :
    ∃ vs ty, w.heap[b]? = some (.cells vs ty (0, 0)) ∧ vs.size = sz ∧ cells.length ≤ sz ∧ (rw = false → ¬ Live L0 m H b) ∧ ∀ (i : Nat) (d : D), cells[i]? = some d → ∃ v, vs[i]? = some v ∧ v.oneCell' = true ∧ VV (Live L0 m H) w m d v := by
  rcases h.heap.blk g rw cells hg with ⟨k, _⟩ | ⟨b', sz', vs, ty, k1, k2, k3, k4, k5, k6, k7⟩
  · rw [k] at hm; cases hm
  · rw [k1] at hm; cases hm
    exact ⟨vs, ty, k4, k5, k6, k3, k7⟩

theorem load_ok {t : TypeId} {x : D} {v : Value} {K : D → List Nat → Prop} (h : WR Γ L0 w0 m H w) (hv : VV (Live L0 m H) w m x v) (hk : loadK P t x H K) :
    ∃ d rd u, K d rd ∧ VV (Live L0 m H) w m d u ∧ (Instr.loadAt t v).run P w = .ok u w := by
  unfold loadK at hk
  split at hk
  · rename_i g off
    cases hv with
    | ptr _ _ b sz hm =>
    split at hk
    · rename_i rw cells hg
      obtain ⟨vs, ty, h1, h2, h3, _, h5⟩ := at_of h hg hm
      split at hk
      · rename_i n ha hs
        obtain ⟨hfit, hk⟩ := hk
        have hcell : ∀ j, j < n → w.cell? ⟨b, off + j, none⟩ = some (vs.getD (off + j) undef) := fun j hj => by
          rw [cell_of h1]
          have hlt : off + j < vs.size := by omega
          simp [hlt]
        refine ⟨_, _, .agg ((List.range n).map fun j => vs.getD (off + j) undef).toArray, hk, VV.mk_agg (by simp; omega) fun i x v hx hv => ?_, ?_⟩
        · rw [List.getElem?_take] at hx
          split at hx
          · rename_i hi
            rw [List.getElem?_drop] at hx
            obtain ⟨v', hv', _, hvv⟩ := h5 _ x hx
            simp only [List.getElem?_toArray, List.getElem?_map, List.getElem?_range, hi, Option.map_some, Option.some.injEq] at hv
            have hgd : vs.getD (off + i) undef = v' := by
              have hlt := (Array.getElem?_eq_some_iff.1 hv').1
              have hq := (Array.getElem?_eq_some_iff.1 hv').2
              simp [hlt, hq]
            rw [← hv, hgd]
            exact hvv
          · cases hx
        · simp only [Instr.loadAt, Instr.sureAddr, Sem.run_bind, Sem.run_pure, Result.andThen_ok, loadVar, run_isAggT P ha, run_sz P hs, run_loadN hcell, if_true]
      · rename_i ha
        obtain ⟨d, hd, hk⟩ := hk
        obtain ⟨v', hv', _, hvv⟩ := h5 _ d hd
        refine ⟨_, _, v', hk, hvv, ?_⟩
        simp [Instr.loadAt, Instr.sureAddr, loadVar, run_isAggT P ha, cell_of h1, hv']
      · exact hk.elim
    · exact hk.elim
  · rename_i cells
    cases hv with
    | cptr _ b off vs hb hL hc hvv =>
    split at hk
    · rename_i n ha hs
      obtain ⟨hfit, hk⟩ := hk
      have hcell : ∀ j, j < n → w.cell? ⟨b, off + j, none⟩ = some (vs j) := fun j hj => by
        have hlt : j < cells.length := by omega
        exact hc j _ (List.getElem?_eq_getElem hlt)
      refine ⟨_, _, .agg ((List.range n).map vs).toArray, hk, .data _ _ (.agg _ _ (by simp; omega) fun i x v hx hv => ?_), ?_⟩
      · rw [List.getElem?_take] at hx
        split at hx
        · rename_i hi
          simp only [List.getElem?_toArray, List.getElem?_map, List.getElem?_range, hi, Option.map_some, Option.some.injEq] at hv
          rw [← hv]
          exact hvv i x hx
        · cases hx
      · simp only [Instr.loadAt, Instr.sureAddr, Sem.run_bind, Sem.run_pure, Result.andThen_ok, loadVar, run_isAggT P ha, run_sz P hs, run_loadN hcell, if_true]
    · rename_i ha
      obtain ⟨d, hd, hk⟩ := hk
      refine ⟨_, _, vs 0, hk, .data _ _ (hvv 0 d hd), ?_⟩
      have := hc 0 d hd
      simp only [Nat.add_zero] at this
      simp [Instr.loadAt, Instr.sureAddr, loadVar, run_isAggT P ha, this]
    · exact hk.elim
  · exact hk.elim

/-- Values laid over others in a block: what the walk's cells become. -/
theorem over_cells {vs : Array Value} {cells new : List D} {nv : List Value} {off : Nat} (hfit : off + new.length ≤ cells.length) (hsz : cells.length ≤ vs.size) (hn : new.length = nv.length)
    (hold : ∀ (i : Nat) (d : D), cells[i]? = some d → ∃ v, vs[i]? = some v ∧ v.oneCell' = true ∧ VV L w m d v) (hnew : ∀ (i : Nat) (d : D), new[i]? = some d → ∃ v, nv[i]? = some v ∧ v.oneCell' = true ∧ VV L w m d v) :
    ∀ (i : Nat) (d : D), (over cells off new)[i]? = some d → ∃ v, (vs.toList.take off ++ nv ++ vs.toList.drop (off + nv.length)).toArray[i]? = some v ∧ v.oneCell' = true ∧ VV L w m d v := by
  intro i d hd
  rw [over_get hfit] at hd
  have ht : (vs.toList.take off).length = off := by rw [List.length_take]; simp; omega
  have key : (vs.toList.take off ++ nv ++ vs.toList.drop (off + nv.length)).toArray[i]? = if off ≤ i ∧ i < off + new.length then nv[i - off]? else vs[i]? := by
    rw [List.getElem?_toArray]
    by_cases h1 : i < off
    · rw [if_neg (by omega), List.append_assoc, List.getElem?_append_left (by omega), List.getElem?_take_of_lt h1]
      simp
    · rw [List.append_assoc, List.getElem?_append_right (by omega), ht]
      by_cases h2 : i - off < nv.length
      · rw [if_pos ⟨by omega, by omega⟩, List.getElem?_append_left h2]
      · rw [if_neg (by omega), List.getElem?_append_right (by omega), List.getElem?_drop, show off + nv.length + (i - off - nv.length) = i by omega]
        simp
  rw [key]
  split at hd
  · rename_i hi
    rw [if_pos hi]
    exact hnew _ d hd
  · rename_i hi
    rw [if_neg hi]
    exact hold i d hd

theorem over_size {vs : Array Value} {nv : List Value} {off : Nat} (h : off + nv.length ≤ vs.size) : (vs.toList.take off ++ nv ++ vs.toList.drop (off + nv.length)).toArray.size = vs.size := by
  simp only [List.size_toArray, List.length_append, List.length_take, List.length_drop, Array.length_toList]
  omega

theorem store_ok {t : TypeId} {x y : D} {v vy : Value} {K : List (Nat × Blk) → Prop} (h : WR Γ L0 w0 m H w) (hfr : m fr = .res) (hv : VV (Live L0 m H) w m x v) (hy : VV (Live L0 m H) w m y vy) (hk : storeK P t x y H K) :
    ∃ u w', K u ∧ (Instr.storeAt t v vy).run P w = .ok () w' ∧ ∀ d r, (∀ L' w' m', Grow (Live L0 m H) w L' w' → (∀ k, m k ≠ .res → m' k = m k) → VV L' w' m' d r) → After Γ L0 w0 fr H m w d u r w' := by
  unfold storeK at hk
  split at hk
  · rename_i g off
    cases hv with
    | ptr _ _ b sz hm =>
    split at hk
    · rename_i cells hg
      obtain ⟨hs, hall, hfit, hk⟩ := hk
      obtain ⟨vs, ty, h1, h2, h3, _, h5⟩ := at_of h hg hm
      obtain ⟨hc1, hc2⟩ := hy.cells hall
      have hlen : vy.cells.toList.length = y.cells.length := by simp [hc1]
      have hnew : ∀ (i : Nat) (d : D), y.cells[i]? = some d → ∃ v, vy.cells.toList[i]? = some v ∧ v.oneCell' = true ∧ VV (Live L0 m H) w m d v := fun i d hd => by
        obtain ⟨v, e1, e2, e3⟩ := hy.cell_at hall hd
        exact ⟨v, by simpa using e1, e2, e3⟩
      have hone : ∀ v ∈ vy.cells.toList, v.oneCell' = true := fun v hv => by
        obtain ⟨i, hi⟩ := List.getElem?_of_mem hv
        have hlt : i < y.cells.length := by rw [← hlen]; exact (List.getElem?_eq_some_iff.1 hi).1
        exact (hc2 i _ v (List.getElem?_eq_getElem hlt) (by simpa using hi)).2
      have hst := run_storeCells_at P b off ty vy.cells.toList 0 vs w h1 (by simp at hlen ⊢; omega) hone
      simp only [Nat.add_zero] at hst
      obtain ⟨k1, k2, k3, k4, k5⟩ := h.write (t := g) (H' := Hp.set H g (.blk true (over cells off y.cells))) (cells' := over cells off y.cells) (vs' := (vs.toList.take off ++ vy.cells.toList ++ vs.toList.drop (off + vy.cells.toList.length)).toArray) hg hm h1 (.inl rfl) (by simp [Hp.set]) (fun e => absurd rfl e)
        (fun k hk _ => by simp [Hp.set, hk]) (by rw [over_size (by omega)]; exact h2) (by rw [over_length hfit]; exact h3) (over_cells hfit (by omega) hlen.symm h5 hnew)
      refine ⟨_, _, hk, ?_, fun d r hr => ⟨_, k1, hr _ _ _ k2 k4, k2, fun q hq => ?_⟩⟩
      · obtain ⟨ti, hti, hsz⟩ := info_of_sz P hs
        have hne : ¬ (¬ vy.cells.size = ti.size) := by omega
        simp only [Instr.storeAt, Instr.sureAddr, Sem.run_bind, Sem.run_pure, Result.andThen_ok, storeVar, run_sz P hs, ne_eq, ← hc1]
        simp only [not_true_eq_false, if_false]
        exact hst
      · by_cases e : q = g
        · subst e; simp [hm]
        · exact k3 q e
    · exact hk.elim
  · exact hk.elim

/-- A new variable, of cells that are known. -/
theorem new_ok (h : WR Γ L0 w0 m H w) (hfr : m fr = .res) {vs : Array Value} {ty : TypeId} {cells : List D} (hlen : cells.length ≤ vs.size)
    (hcell : ∀ (i : Nat) (d : D), cells[i]? = some d → ∃ v, vs[i]? = some v ∧ v.oneCell' = true ∧ VV (Live L0 m H) w m d v) :
    After Γ L0 w0 fr H m w (.ptr fr 0) [(fr, .blk true cells)] (.pointer (some ⟨w.heap.size, 0, none⟩)) (w.alloc (.cells vs ty)) := by
  obtain ⟨k1, k2, k3, k4⟩ := h.new (fr := fr) (w1 := w) (vs := vs) (ty := ty) (fz := (0, 0)) (H' := Hp.set H fr (.blk true cells)) (cells := cells) hfr ⟨rfl, rfl, rfl, rfl⟩ (by simp [Hp.set]) (fun g hg => .inl (by simp [Hp.set, hg])) rfl hlen hcell
  exact ⟨_, k1, .ptr fr 0 _ _ k4, k2, k3⟩

theorem zero_cells {t : TypeId} {z : List D} (hz : zeT P t = some z) (hall : z.all D.cell = true) : ∃ i v, P.info? t = some i ∧ i.zero = some v ∧ z.length = v.cells.size ∧
    ∀ (L : Nat → Prop) (w : World) (m : Nat → MB) (i : Nat) (d : D), z[i]? = some d → ∃ u, v.cells[i]? = some u ∧ u.oneCell' = true ∧ VV L w m d u := by
  obtain ⟨i, v, h1, h2, h3⟩ := zero_of P hz
  subst h3
  refine ⟨i, v, h1, h2, by simp, fun L w m j d hd => ?_⟩
  simp only [List.getElem?_map, Option.map_eq_some_iff, Array.getElem?_toList] at hd
  obtain ⟨u, hu, rfl⟩ := hd
  have hc : (cD u).cell = true := by
    rw [List.all_eq_true] at hall
    exact hall _ (List.mem_map.2 ⟨u, List.mem_of_getElem? (i := j) (by simpa using hu), rfl⟩)
  exact ⟨u, hu, (cD_ok (L := L) (w := w) (m := m) u).one hc, cD_ok u⟩

theorem alloc_ok {t : TypeId} {z : List D} (h : WR Γ L0 w0 m H w) (hfr : m fr = .res) (hz : zeT P t = some z) (hall : z.all D.cell = true) :
    ∃ v w', (Instr.alloc t true (.tuple #[])).run P w = .ok v w' ∧ After Γ L0 w0 fr H m w (.ptr fr 0) [(fr, .blk true z)] v w' := by
  obtain ⟨i, v, h1, h2, h3, h4⟩ := zero_cells hz hall
  refine ⟨_, w.alloc (.cells v.cells t), ?_, new_ok h hfr (by omega) (h4 _ _ _)⟩
  simp [Instr.alloc, zeroValue, typeInfo, h1, h2, newVar, newRow]

theorem box_ok {t : TypeId} {x : D} {v : Value} (h : WR Γ L0 w0 m H w) (hfr : m fr = .res) (hv : VV (Live L0 m H) w m x v) (hall : x.cells.all D.cell = true) :
    ∃ r w', (Instr.box t v).run P w = .ok r w' ∧ After Γ L0 w0 fr H m w (.ptr fr 0) [(fr, .blk true x.cells)] r w' := by
  obtain ⟨hc1, hc2⟩ := hv.cells hall
  refine ⟨_, w.alloc (.cells v.cells t), ?_, new_ok h hfr (by omega) fun i d hd => hv.cell_at hall hd⟩
  simp [Instr.box, newVar, newRow]

theorem field_ok {t : TypeId} {x : D} {v : Value} {f : Nat} {K : D → Prop} (hv : VV L w m x v) (hk : fieldAddrK P t x f K) :
    ∃ d u, K d ∧ VV L w m d u ∧ (Instr.fieldAt t v f).run P w = .ok u w := by
  unfold fieldAddrK at hk
  split at hk
  · rename_i o ft hf
    obtain ⟨fs, fd, hu, hfd, rfl, rfl⟩ := field_of P hf
    split at hk
    · rename_i n hs
      have hpl : ∀ b off, (fieldPlace ⟨b, off, none⟩ fd).run P w = .ok ⟨b, off + fd.offset, none⟩ w := fun b off => by
        simp [fieldPlace, run_sz P hs, add_off]
      split at hk
      · rename_i g off
        cases hv with
        | ptr _ _ b sz hm =>
        refine ⟨_, _, hk, .ptr _ _ b sz hm, ?_⟩
        simp [Instr.fieldAt, run_underlying hu, hfd, Instr.sureAddr, hpl]
      · rename_i cells
        cases hv with
        | cptr _ b off vs hb hL hc hvv =>
        refine ⟨_, _, hk, .cptr _ b (off + fd.offset) (fun i => vs (fd.offset + i)) hb hL (fun i x hx => ?_) (fun i x hx => ?_), ?_⟩
        · rw [List.getElem?_drop] at hx
          rw [Nat.add_assoc]; exact hc _ x hx
        · rw [List.getElem?_drop] at hx
          exact hvv _ x hx
        · simp [Instr.fieldAt, run_underlying hu, hfd, Instr.sureAddr, hpl]
      · exact hk.elim
    · exact hk.elim
  · exact hk.elim
end
end Go.Proofs.Ytedcnbkhdkchoaa
