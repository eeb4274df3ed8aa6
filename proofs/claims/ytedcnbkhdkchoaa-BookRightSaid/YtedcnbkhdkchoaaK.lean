/- Each operation keeps the relation: part eight: append, copy, calls; all of them together. -/
import Derived.Test.YtedcnbkhdkchoaaKA
namespace Go.Proofs.Ytedcnbkhdkchoaa
open Go.RowKit
set_option linter.unusedVariables false
set_option linter.unusedSimpArgs false

section
variable {P : Program} {Γ : Nat → Option (List Data)} {L0 : Nat → Prop} {w0 : World} {m : Nat → MB} {H : Nat → Blk} {w : World} {fr : Nat} {L : Nat → Prop}

theorem append_ok {st xt ty : TypeId} {x y : D} {vx vy : Value} {K : D → List Nat → List (Nat × Blk) → Prop} (h : WR Γ L0 w0 m H w) (hfr : m fr = .res) (hd : H fr = .dead) (hx : VV (Live L0 m H) w m x vx) (hy : VV (Live L0 m H) w m y vy) (hk : appendK P st xt x y H fr K) :
    ∃ d rd u v w', K d rd u ∧ (Builtin.append_ #[st, xt] ty #[vx, vy]).run P w = .ok v w' ∧ After Γ L0 w0 fr H m w d u v w' := by
  rw [append_any]
  unfold appendK at hk
  split at hk
  · rename_i e he
    split at hk
    · rename_i es by_ hs hb
      obtain ⟨hes, hzl, hk⟩ := hk
      obtain ⟨ie, ze, hie, hze, hzs⟩ := zl_of hzl
      have hbind : (P.info? e).bind (·.zero) = some ze := by rw [hie]; exact hze
      split at hk
      · -- nothing, or an empty row
        cases hx with
        | emp _ a =>
        split at hk
        · rename_i hxi
          split at hk
          · rename_i k n
            obtain ⟨h0, hb1, hb2, hk⟩ := hk
            obtain rfl := int_inv hy
            unfold zerosK at hk
            split at hk
            · rename_i z hz
              obtain ⟨hall, hsz, hz0, hk⟩ := hk
              have hzz : es = z.length := by rw [hs] at hsz; simpa using hsz
              obtain ⟨i, v, k1, k2, k3, k4, k5, k6, k7⟩ := zeros_put (L := Live L0 m H) (w := w) (m := m) hz hall hz0 n.toNat
              rw [hie] at k1; cases k1
              rw [hze] at k2; cases k2
              have hput := put_zeros (P := P) (w := w) (k := k) (n := n.toNat) he hs hes hb hxi hbind hzs a 0 0 (by omega) (by
                rw [Nat.zero_add]
                have : ((n.toNat * by_ : Nat) : Int) ≤ ((140737488355328 : Nat) : Int) := by rw [Int.natCast_mul, Int.toNat_of_nonneg h0]; exact hb1
                exact Int.ofNat_le.1 this)
              rw [Int.toNat_of_nonneg h0] at hput
              obtain ⟨v', w', m', q1, q2, q3, q4, q5⟩ := append_core h hfr (olds := []) (old := []) (cs := (List.replicate n.toNat z).flatten) (H' := Hp.set H fr (.blk true (List.replicate n.toNat z).flatten)) hes he hbind hzs hput (by rw [k4, hzz]) (by rw [k5, hzz]) (Nat.zero_le _) (by omega) k6 k7
                (by simp [Hp.set]) (.inl ⟨rfl, rfl, rfl, rfl, fun g hg => .inl (by simp [Hp.set, hg])⟩)
              rw [Nat.zero_add] at q3
              exact ⟨_, _, _, v', w', hk, q1, m', q2, q3, q4, q5⟩
            · exact hk.elim
          · exact hk.elim
        · rename_i hxi
          obtain ⟨hxs, hk⟩ := hk
          obtain ⟨n, cs, rd, news, hk, hsrc⟩ := src_ok (P := P) h hy hk
          obtain ⟨hall, hb1, hb2, hk⟩ := hk
          obtain ⟨k6, k7⟩ := hsrc.cells hall
          have hput := put_src (st := st) he hs hb hxs hsrc a 0 0 (by omega) (by rw [Nat.zero_add]; exact hb1)
          obtain ⟨v', w', m', q1, q2, q3, q4, q5⟩ := append_core h hfr (olds := []) (old := []) (cs := cs) (H' := Hp.set H fr (.blk true cs)) hes he hbind hzs hput hsrc.cl hsrc.nl (Nat.zero_le _) (by omega) k6 k7
            (by simp [Hp.set]) (.inl ⟨rfl, rfl, rfl, rfl, fun g hg => .inl (by simp [Hp.set, hg])⟩)
          rw [Nat.zero_add] at q3
          exact ⟨_, _, _, v', w', hk, q1, m', q2, q3, q4, q5⟩
      · -- a row of the call's own
        rename_i g len es'
        obtain ⟨rfl, hk⟩ := hk
        split at hk
        · rename_i cells hg
          obtain ⟨hcl, hk⟩ := hk
          have hfg : fr ≠ g := fun e => by subst e; rw [hd] at hg; cases hg
          -- the two ways in which it may stand
          have finish : ∀ (n : Nat) (cs : List D) (news : List Value) (rd : List Nat), K (.ref fr 0 (len + n) es') rd [(g, .dead), (fr, .blk true (cells ++ cs))] → (∀ base sCap, Put P w st xt es' by_ n news vy base len sCap) → cs.length = n * es' → news.length = n * es' → len + n ≤ 140737488355328 →
              (∀ (i : Nat) (d : D), cs[i]? = some d → ∃ u, news[i]? = some u ∧ u.oneCell' = true ∧ VV (Live L0 m H) w m d u) → (∀ u ∈ news, u.oneCell' = true) →
              ∃ d rd u v w', K d rd u ∧ (Builtin.append_ #[st, xt] 0 #[vx, vy]).run P w = .ok v w' ∧ After Γ L0 w0 fr H m w d u v w' := by
            intro n cs news rd hk hput hc1 hc2 hb2 k6 k7
            have hnew : Hp.upd H [(g, .dead), (fr, .blk true (cells ++ cs))] fr = .blk true (cells ++ cs) := by simp [Hp.upd, Hp.set]
            have hgone : Hp.upd H [(g, .dead), (fr, .blk true (cells ++ cs))] g = .dead := by simp [Hp.upd, Hp.set, hfg.symm]
            have hold : ∀ k, k ≠ fr → k ≠ g → Hp.upd H [(g, .dead), (fr, .blk true (cells ++ cs))] k = H k := fun k h1 h2 => by simp [Hp.upd, Hp.set, h1, h2]
            cases hx with
            | ref _ _ _ _ b sz cap o j1 j2 j3 j4 j5 =>
              obtain ⟨v', w', m', q1, q2, q3, q4, q5⟩ := append_core h hfr (olds := []) (old := cells) (cs := cs) (H' := Hp.upd H [(g, .dead), (fr, .blk true (cells ++ cs))]) hes he hbind hzs (hput (some ⟨b, o, none⟩) cap) hc1 hc2 j5 hb2 k6 k7 hnew
                (.inr ⟨g, b, sz, o, hfg, hg, hgone, hold, j1, rfl, j2, by omega, j4, hcl⟩)
              exact ⟨_, _, _, v', w', hk, q1, m', q2, q3, q4, q5⟩
            | ref0 _ _ a j1 =>
              have hc0 : cells = [] := List.eq_nil_of_length_eq_zero (by omega)
              subst hc0
              obtain ⟨v', w', m', q1, q2, q3, q4, q5⟩ := append_core h hfr (olds := []) (old := []) (cs := cs) (H' := Hp.upd H [(g, .dead), (fr, .blk true ([] ++ cs))]) hes he hbind hzs (hput a 0) hc1 hc2 (Nat.zero_le _) hb2 k6 k7 hnew
                (.inl ⟨rfl, rfl, rfl, rfl, fun k hk => by
                  by_cases e : k = g
                  · subst e; exact .inr hgone
                  · exact .inl (hold k hk e)⟩)
              exact ⟨_, _, _, v', w', hk, q1, m', q2, q3, q4, q5⟩
          split at hk
          · rename_i hxi
            split at hk
            · rename_i k n
              obtain ⟨h0, hb1, hb2, hk⟩ := hk
              obtain rfl := int_inv hy
              unfold zerosK at hk
              split at hk
              · rename_i z hz
                obtain ⟨hall, hsz, hz0, hk⟩ := hk
                have hzz : es' = z.length := by rw [hs] at hsz; simpa using hsz
                obtain ⟨i, v, k1, k2, k3, k4, k5, k6, k7⟩ := zeros_put (L := Live L0 m H) (w := w) (m := m) hz hall hz0 n.toNat
                rw [hie] at k1; cases k1
                rw [hze] at k2; cases k2
                refine finish n.toNat _ _ _ hk (fun base sCap => ?_) (by rw [k4, hzz]) (by rw [k5, hzz]) (by omega) k6 k7
                have hput := put_zeros (P := P) (w := w) (k := k) (n := n.toNat) he hs hes hb hxi hbind hzs base len sCap (by omega) (by
                  have : (((len + n.toNat) * by_ : Nat) : Int) ≤ ((140737488355328 : Nat) : Int) := by rw [Int.natCast_mul, Int.natCast_add, Int.toNat_of_nonneg h0]; exact hb1
                  exact Int.ofNat_le.1 this)
                rw [Int.toNat_of_nonneg h0] at hput
                exact hput
              · exact hk.elim
            · exact hk.elim
          · obtain ⟨hxs, hk⟩ := hk
            obtain ⟨n, cs, rd, news, hk, hsrc⟩ := src_ok (P := P) h hy hk
            obtain ⟨hall, hb1, hb2, hk⟩ := hk
            obtain ⟨k6, k7⟩ := hsrc.cells hall
            exact finish n cs news _ hk (fun base sCap => put_src (st := st) he hs hb hxs hsrc base len sCap (by omega) hb1) hsrc.cl hsrc.nl (by omega) k6 k7
        · exact hk.elim
      · rename_i g off len cp es'
        obtain ⟨rfl, hk⟩ := hk
        split at hk
        · rename_i cells hg
          obtain ⟨_, hxs, hfit, hk⟩ := hk
          obtain ⟨n, cs, rd, news, hk, hsrc⟩ := src_ok (P := P) h hy hk
          obtain ⟨hall, hcp, hk⟩ := hk
          obtain ⟨k6, k7⟩ := hsrc.cells hall
          cases hx with
          | cut _ _ _ _ _ b sz cap o j1 j2 j3 j4 j5 j6 =>
            have hmul : (len + n) * es' ≤ cp * es' := Nat.mul_le_mul_right _ hcp
            rw [Nat.add_mul] at hmul
            have hcl := hsrc.cl
            have hnl := hsrc.nl
            obtain ⟨w', hst, haf⟩ := put_row (P := P) (fr := fr) (at' := o + len * es') (off := off + len * es') (cs := cs) (news := news) h hg j1 (by omega) (by omega) k6 k7 (by
              rcases j2 with j2 | j2
              · exact .inl (by omega)
              · right
                have hn0 : n = 0 := by omega
                subst hn0
                exact List.eq_nil_of_length_eq_zero (by omega))
            refine ⟨_, _, _, .slice (some ⟨b, o, none⟩) (len + n) cap, w', hk, append_fits he hs hxs hsrc (some ⟨b, o, none⟩) len cap (by omega) w' (by simpa [add_off] using hst), haf _ _ (fun L' w' m' _ hmr => .cut _ _ _ _ _ b sz cap o (by rw [hmr g (by rw [j1]; intro e; cases e)]; exact j1) j2 j3 (by omega) j5 j6)⟩
        · exact hk.elim
      · exact hk.elim
    · exact hk.elim
  · exact hk.elim

theorem copy_ok {st xt ty : TypeId} {x y : D} {vx vy : Value} {K : D → List Nat → List (Nat × Blk) → Prop} (h : WR Γ L0 w0 m H w) (hfr : m fr = .res) (hx : VV (Live L0 m H) w m x vx) (hy : VV (Live L0 m H) w m y vy) (hk : copyK P st x y H K) :
    ∃ d rd u v w', K d rd u ∧ (Builtin.copy_ #[st, xt] ty #[vx, vy]).run P w = .ok v w' ∧ After Γ L0 w0 fr H m w d u v w' := by
  unfold copyK at hk
  split at hk
  · rename_i e he
    split at hk
    · rename_i es hs
      have hu := und_slice P he
      split at hk
      · rename_i g off len es'
        obtain ⟨rfl, hk⟩ := hk
        split at hk
        · rename_i cells hg
          obtain ⟨hfit, hk⟩ := hk
          obtain ⟨n, cs, rd, news, hk, hsrc⟩ := src_ok (P := P) h hy hk
          obtain ⟨hall, hk⟩ := hk
          obtain ⟨k6, k7⟩ := hsrc.cells hall
          have hmin : Nat.min n len = min n len := rfl
          have hfirst := hsrc.first (min n len) (Nat.min_le_left _ _)
          have hm1 : min n len * es' ≤ n * es' := Nat.mul_le_mul_right _ (Nat.min_le_left _ _)
          have hm2 : min n len * es' ≤ len * es' := Nat.mul_le_mul_right _ (Nat.min_le_right _ _)
          have hcl := hsrc.cl
          have hnl := hsrc.nl
          cases hx with
          | ref _ _ _ _ b sz cap o j1 j2 j3 j4 j5 =>
            obtain ⟨vs, ty', e1, e2, e3, _, e5⟩ := at_of h hg j1
            have hlc : (cs.take (min n len * es')).length = min n len * es' := by rw [List.length_take]; omega
            have hln : (news.take (min n len * es')).length = min n len * es' := by rw [List.length_take]; omega
            have hoff : o = off ∨ min n len * es' = 0 := by
              rcases j2 with j2 | j2
              · exact .inl j2
              · right
                have : len = 0 := by omega
                subst this
                simp
            have hst : (storeCells ⟨b, o, none⟩ (news.take (min n len * es'))).run P w = .ok () (w.setRow b (vs.toList.take off ++ news.take (min n len * es') ++ vs.toList.drop (off + (news.take (min n len * es')).length)).toArray) := by
              rcases hoff with rfl | h0
              · have := run_storeCells_at P b o ty' (news.take (min n len * es')) 0 vs w e1 (by omega) (fun u hu => k7 u (List.mem_of_mem_take hu))
                simpa using this
              · have hn0 : news.take (min n len * es') = [] := by rw [h0]; rfl
                rw [hn0]
                simp only [storeCells, List.append_nil, List.length_nil, Nat.add_zero, List.take_append_drop]
                rw [show vs.toList.toArray = vs by simp, setRow_self w b vs ty' (0, 0) e1]; rfl
            obtain ⟨q1, q2, q3, q4, q5⟩ := h.write (t := g) (H' := Hp.set H g (.blk true (over cells off (cs.take (min n len * es'))))) (cells' := over cells off (cs.take (min n len * es')))
              (vs' := (vs.toList.take off ++ news.take (min n len * es') ++ vs.toList.drop (off + (news.take (min n len * es')).length)).toArray) hg j1 e1 (.inl rfl) (by simp [Hp.set]) (fun e => absurd rfl e)
              (fun k hk _ => by simp [Hp.set, hk]) (by rw [over_size (by omega)]; exact e2) (by rw [over_length (by omega)]; exact e3)
              (over_cells (by omega) (by omega) (by omega) e5 (fun i d hd => by
                have hi := (List.getElem?_eq_some_iff.1 hd).1
                rw [List.getElem?_take_of_lt (by omega)] at hd
                obtain ⟨u, a1, a2, a3⟩ := k6 i d hd
                exact ⟨u, by rw [List.getElem?_take_of_lt (by omega)]; exact a1, a2, a3⟩))
            refine ⟨_, _, _, _, _, hk, ?_, _, q1, .data _ _ (.int _ _), q2, fun q hq => ?_⟩
            · simp only [Builtin.copy_]
              simp [run_underlying hu, hsrc.len, run_sz P hs, hmin, hfirst, hst, goInt]
            · by_cases e : q = g
              · subst e; simp [j1]
              · exact q3 q e
          | ref0 _ _ a j1 =>
            rcases h.heap.blk g true cells hg with ⟨_, hc0⟩ | ⟨b, sz, vs, ty2, p1, _⟩
            · subst hc0
              have h0 : min n 0 = 0 := Nat.min_eq_right (Nat.zero_le _)
              rw [h0] at hk hfirst
              simp only [Nat.zero_mul, List.take_zero] at hk hfirst
              have hov : over ([] : List D) 0 [] = [] := rfl
              rw [hov] at hk
              refine ⟨_, _, _, .int .i64 0, w, hk, ?_, m, ?_, .data _ _ (.int _ _), ?_, fun _ _ => rfl⟩
              · cases a <;> simp [Builtin.copy_, run_underlying hu, hsrc.len, run_sz P hs, hmin, h0, hfirst, goInt, storeCells]
              · have : Hp.upd H [(g, .blk true [])] = H := by
                  funext k
                  by_cases e : k = g
                  · subst e; simp [Hp.upd, Hp.set, hg]
                  · simp [Hp.upd, Hp.set, e]
                rw [this]; exact h
              · have : Hp.upd H [(g, .blk true [])] = H := by
                  funext k
                  by_cases e : k = g
                  · subst e; simp [Hp.upd, Hp.set, hg]
                  · simp [Hp.upd, Hp.set, e]
                rw [this]; exact Grow.refl _ _
            · rw [j1] at p1; cases p1
        · exact hk.elim
      · exact hk.elim
    · exact hk.elim
  · exact hk.elim
end
end Go.Proofs.Ytedcnbkhdkchoaa
