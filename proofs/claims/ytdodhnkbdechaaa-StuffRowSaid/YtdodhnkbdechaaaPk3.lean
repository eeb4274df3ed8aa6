/- Each operation keeps the relation: part eight: append, copy, calls; all of them together. Each operation keeps the relation: part nine: calls; all operations. Code on plain data, in the order of the text; calls whose rows are the caller's. Operations whose order is open: on plain data they may be taken in the order of the text, where what they touch lies apart. -/
import Derived.Test.YtdodhnkbdechaaaPk2
import Derived.Lib.ConvBytes
import Derived.Orders
namespace Go.Proofs.Ytdodhnkbdechaaa
open Go.RowKit
set_option linter.unusedVariables false
set_option linter.unusedSimpArgs false

section
variable {P : Program} {Γ : Nat → Option (List Data)} {L0 : Nat → Prop} {w0 : W0} {m : Nat → MB} {H : Nat → Blk} {w : World} {fr : Nat} {L : Nat → Prop}

theorem append_ok {st xt ty : TypeId} {x y : D} {vx vy : Value} {K : D → List Nat → List (Nat × Blk) → Prop} (h : WR Γ L0 w0 m H w) (hfr : m fr = .res) (hd : H fr = .dead) (hx : VV (Live L0 m H) w m x vx) (hy : VV (Live L0 m H) w m y vy) (hk : appendK P st xt x y H fr K) :
    ∃ d rd u v w', K d rd u ∧ (Builtin.append_ #[st, xt] ty #[vx, vy]).run P w = .ok v w' ∧ After Γ L0 w0 fr H m w d u v w' := by
  rw [append_any]
  unfold appendK at hk
  split at hk
  · rename_i e he
    split at hk
    · rename_i es by_ hs hb
      obtain ⟨hes, hzl, hk⟩ := hk
      obtain ⟨ie, ze, hie, hze, hzs⟩ := zl_of hzl
      have hbind : (P.info? e).bind (·.zero) = some ze := by rw [hie]; exact hze
      split at hk
      · -- nothing, or an empty row
        cases hx with
        | emp _ a =>
        split at hk
        · rename_i hxi
          split at hk
          · rename_i k n
            obtain ⟨h00, hb1, hb2, hk⟩ := hk
            have h0 : 0 ≤ n := by omega
            obtain rfl := int_inv hy
            unfold zerosK at hk
            split at hk
            · rename_i z hz
              obtain ⟨hall, hsz, hz0, hk⟩ := hk
              have hzz : es = z.length := by rw [hs] at hsz; simpa using hsz
              obtain ⟨i, v, k1, k2, k3, k4, k5, k6, k7⟩ := zeros_put (L := Live L0 m H) (w := w) (m := m) hz hall hz0 n.toNat
              rw [hie] at k1; cases k1
              rw [hze] at k2; cases k2
              have hput := put_zeros (P := P) (w := w) (k := k) (n := n.toNat) he hs hes hb hxi hbind hzs a 0 0 (by omega) (by
                rw [Nat.zero_add]
                have : ((n.toNat * by_ : Nat) : Int) ≤ ((140737488355328 : Nat) : Int) := by rw [Int.natCast_mul, Int.toNat_of_nonneg h0]; exact hb1
                exact Int.ofNat_le.1 this)
              rw [Int.toNat_of_nonneg h0] at hput
              obtain ⟨v', w', m', q1, q2, q3, q4, q5⟩ := append_core h hfr (olds := []) (old := []) (cs := (List.replicate n.toNat z).flatten) (H' := Hp.set H fr (.blk true (List.replicate n.toNat z).flatten)) hes he hbind hzs hput (by rw [k4, hzz]) (by rw [k5, hzz]) (Nat.zero_le _) (by omega) k6 k7
                (by simp [Hp.set]) (.inl ⟨rfl, rfl, rfl, rfl, fun g hg => .inl (by simp [Hp.set, hg])⟩)
              rw [Nat.zero_add] at q3
              have hpos : 0 < n.toNat := by omega
              refine ⟨_, _, _, v', w', hk, q1, m', q2, ?_, q4, q5⟩
              generalize n.toNat = q at q3 hpos
              cases q3 with
              | ref _ _ _ _ b sz cap o j1 j2 j3 j4 j5 => exact .cut fr 0 q q es b sz cap o j1 j2 j3 (Nat.le_refl _) j4 j5
              | ref0 => omega
            · exact hk.elim
          · exact hk.elim
        · rename_i hxi
          obtain ⟨hxs, hk⟩ := hk
          obtain ⟨n, cs, rd, news, hk, hsrc⟩ := src_ok (P := P) h hy hk
          obtain ⟨hall, hb1, hb2, hk⟩ := hk
          obtain ⟨k6, k7⟩ := hsrc.cells hall
          have hput := put_src (st := st) he hs hb hxs hsrc a 0 0 (by omega) (by rw [Nat.zero_add]; exact hb1)
          obtain ⟨v', w', m', q1, q2, q3, q4, q5⟩ := append_core h hfr (olds := []) (old := []) (cs := cs) (H' := Hp.set H fr (.blk true cs)) hes he hbind hzs hput hsrc.cl hsrc.nl (Nat.zero_le _) (by omega) k6 k7
            (by simp [Hp.set]) (.inl ⟨rfl, rfl, rfl, rfl, fun g hg => .inl (by simp [Hp.set, hg])⟩)
          rw [Nat.zero_add] at q3
          exact ⟨_, _, _, v', w', hk, q1, m', q2, q3, q4, q5⟩
      · -- a row of the call's own
        rename_i g len es'
        obtain ⟨rfl, hk⟩ := hk
        split at hk
        · rename_i cells hg
          obtain ⟨hcl, hk⟩ := hk
          have hfg : fr ≠ g := fun e => by subst e; rw [hd] at hg; cases hg
          -- the two ways in which it may stand
          have finish : ∀ (n : Nat) (cs : List D) (news : List Value) (rd : List Nat), K (.ref fr 0 (len + n) es') rd [(g, .dead), (fr, .blk true (cells ++ cs))] → (∀ base sCap, Put P w st xt es' by_ n news vy base len sCap) → cs.length = n * es' → news.length = n * es' → len + n ≤ 140737488355328 →
              (∀ (i : Nat) (d : D), cs[i]? = some d → ∃ u, news[i]? = some u ∧ u.oneCell' = true ∧ VV (Live L0 m H) w m d u) → (∀ u ∈ news, u.oneCell' = true) →
              ∃ d rd u v w', K d rd u ∧ (Builtin.append_ #[st, xt] 0 #[vx, vy]).run P w = .ok v w' ∧ After Γ L0 w0 fr H m w d u v w' := by
            intro n cs news rd hk hput hc1 hc2 hb2 k6 k7
            have hnew : Hp.upd H [(g, .dead), (fr, .blk true (cells ++ cs))] fr = .blk true (cells ++ cs) := by simp [Hp.upd, Hp.set]
            have hgone : Hp.upd H [(g, .dead), (fr, .blk true (cells ++ cs))] g = .dead := by simp [Hp.upd, Hp.set, hfg.symm]
            have hold : ∀ k, k ≠ fr → k ≠ g → Hp.upd H [(g, .dead), (fr, .blk true (cells ++ cs))] k = H k := fun k h1 h2 => by simp [Hp.upd, Hp.set, h1, h2]
            cases hx with
            | ref _ _ _ _ b sz cap o j1 j2 j3 j4 j5 =>
              obtain ⟨v', w', m', q1, q2, q3, q4, q5⟩ := append_core h hfr (olds := []) (old := cells) (cs := cs) (H' := Hp.upd H [(g, .dead), (fr, .blk true (cells ++ cs))]) hes he hbind hzs (hput (some ⟨b, o, none⟩) cap) hc1 hc2 j5 hb2 k6 k7 hnew
                (.inr (.inr ⟨g, b, sz, o, hfg, hg, hgone, hold, j1, rfl, j2, by omega, j4, hcl⟩))
              exact ⟨_, _, _, v', w', hk, q1, m', q2, q3, q4, q5⟩
            | ref0 _ _ a j1 =>
              have hc0 : cells = [] := List.eq_nil_of_length_eq_zero (by omega)
              subst hc0
              obtain ⟨v', w', m', q1, q2, q3, q4, q5⟩ := append_core h hfr (olds := []) (old := []) (cs := cs) (H' := Hp.upd H [(g, .dead), (fr, .blk true ([] ++ cs))]) hes he hbind hzs (hput a 0) hc1 hc2 (Nat.zero_le _) hb2 k6 k7 hnew
                (.inl ⟨rfl, rfl, rfl, rfl, fun k hk => by
                  by_cases e : k = g
                  · subst e; exact .inr hgone
                  · exact .inl (hold k hk e)⟩)
              exact ⟨_, _, _, v', w', hk, q1, m', q2, q3, q4, q5⟩
          split at hk
          · rename_i hxi
            split at hk
            · rename_i k n
              obtain ⟨h0, hb1, hb2, hk⟩ := hk
              obtain rfl := int_inv hy
              unfold zerosK at hk
              split at hk
              · rename_i z hz
                obtain ⟨hall, hsz, hz0, hk⟩ := hk
                have hzz : es' = z.length := by rw [hs] at hsz; simpa using hsz
                obtain ⟨i, v, k1, k2, k3, k4, k5, k6, k7⟩ := zeros_put (L := Live L0 m H) (w := w) (m := m) hz hall hz0 n.toNat
                rw [hie] at k1; cases k1
                rw [hze] at k2; cases k2
                refine finish n.toNat _ _ _ hk (fun base sCap => ?_) (by rw [k4, hzz]) (by rw [k5, hzz]) (by omega) k6 k7
                have hput := put_zeros (P := P) (w := w) (k := k) (n := n.toNat) he hs hes hb hxi hbind hzs base len sCap (by omega) (by
                  have : (((len + n.toNat) * by_ : Nat) : Int) ≤ ((140737488355328 : Nat) : Int) := by rw [Int.natCast_mul, Int.natCast_add, Int.toNat_of_nonneg h0]; exact hb1
                  exact Int.ofNat_le.1 this)
                rw [Int.toNat_of_nonneg h0] at hput
                exact hput
              · exact hk.elim
            · exact hk.elim
          · obtain ⟨hxs, hk⟩ := hk
            obtain ⟨n, cs, rd, news, hk, hsrc⟩ := src_ok (P := P) h hy hk
            obtain ⟨hall, hb1, hb2, hk⟩ := hk
            obtain ⟨k6, k7⟩ := hsrc.cells hall
            exact finish n cs news _ hk (fun base sCap => put_src (st := st) he hs hb hxs hsrc base len sCap (by omega) hb1) hsrc.cl hsrc.nl (by omega) k6 k7
        · exact hk.elim
      · rename_i g off len cp es'
        obtain ⟨rfl, hk⟩ := hk
        split at hk
        · rename_i cells hg
          obtain ⟨_, hxs, hfit, hk⟩ := hk
          obtain ⟨n, cs, rd, news, hk, hsrc⟩ := src_ok (P := P) h hy hk
          obtain ⟨hall, hcp, hk⟩ := hk
          obtain ⟨k6, k7⟩ := hsrc.cells hall
          cases hx with
          | cut _ _ _ _ _ b sz cap o j1 j2 j3 j4 j5 j6 =>
            have hmul : (len + n) * es' ≤ cp * es' := Nat.mul_le_mul_right _ hcp
            rw [Nat.add_mul] at hmul
            have hcl := hsrc.cl
            have hnl := hsrc.nl
            obtain ⟨w', hst, haf⟩ := put_row (P := P) (fr := fr) (at' := o + len * es') (off := off + len * es') (cs := cs) (news := news) h hg j1 (by omega) (by omega) k6 k7 (by
              rcases j2 with j2 | j2
              · exact .inl (by omega)
              · right
                have hn0 : n = 0 := by omega
                subst hn0
                exact List.eq_nil_of_length_eq_zero (by omega))
            refine ⟨_, _, _, .slice (some ⟨b, o, none⟩) (len + n) cap, w', hk, append_fits he hs hxs hsrc (some ⟨b, o, none⟩) len cap (by omega) w' (by simpa [add_off] using hst), haf _ _ (fun L' w' m' _ hmr => .cut _ _ _ _ _ b sz cap o (by rw [hmr g (by rw [j1]; intro e; cases e)]; exact j1) j2 j3 (by omega) j5 j6)⟩
        · exact hk.elim
      · rename_i es' l
        obtain ⟨rfl, hfc, _, hxs, hk⟩ := hk
        obtain ⟨n, cs, rd, news, hk, hsrc⟩ := src_ok (P := P) h hy hk
        obtain ⟨hall, hn0, hb1, hb2, hk⟩ := hk
        obtain ⟨k6, k7⟩ := hsrc.cells hall
        cases hx with
        | ful _ _ a q hvd =>
        have hq : q = l.length := by cases hvd with | sl _ _ _ _ _ b off vs hn => exact hn
        subst hq
        have hcm : l.length ≤ maxLen := by cases hvd with | sl _ _ _ _ _ b off vs hn hle hm => exact hm
        obtain ⟨v', w', m', q1, q2, q3, q4, q5⟩ := append_core h hfr (olds := []) (old := (flat l).map D.data) (cs := cs) (H' := Hp.set H fr (.blk true ((flat l).map D.data ++ cs))) hes he hbind hzs (put_src (st := st) he hs hb hxs hsrc a l.length l.length (by omega) hb1) hsrc.cl hsrc.nl hcm (by omega) k6 k7
          (by simp [Hp.set]) (.inr (.inl ⟨rfl, hn0, fun g hg => .inl (by simp [Hp.set, hg]), l, rfl, hfc, hvd⟩))
        exact ⟨_, _, _, v', w', hk, q1, m', q2, q3, q4, q5⟩
      · exact hk.elim
    · exact hk.elim
  · exact hk.elim

theorem copy_ok {st xt ty : TypeId} {x y : D} {vx vy : Value} {K : D → List Nat → List (Nat × Blk) → Prop} (h : WR Γ L0 w0 m H w) (hfr : m fr = .res) (hx : VV (Live L0 m H) w m x vx) (hy : VV (Live L0 m H) w m y vy) (hk : copyK P st x y H K) :
    ∃ d rd u v w', K d rd u ∧ (Builtin.copy_ #[st, xt] ty #[vx, vy]).run P w = .ok v w' ∧ After Γ L0 w0 fr H m w d u v w' := by
  unfold copyK at hk
  split at hk
  · rename_i e he
    split at hk
    · rename_i es hs
      have hu := und_slice P he
      split at hk
      · rename_i g off len es'
        obtain ⟨rfl, hk⟩ := hk
        split at hk
        · rename_i cells hg
          obtain ⟨hfit, hk⟩ := hk
          obtain ⟨n, cs, rd, news, hk, hsrc⟩ := src_ok (P := P) h hy hk
          obtain ⟨hall, hk⟩ := hk
          obtain ⟨k6, k7⟩ := hsrc.cells hall
          have hmin : Nat.min n len = min n len := rfl
          have hfirst := hsrc.first (min n len) (Nat.min_le_left _ _)
          have hm1 : min n len * es' ≤ n * es' := Nat.mul_le_mul_right _ (Nat.min_le_left _ _)
          have hm2 : min n len * es' ≤ len * es' := Nat.mul_le_mul_right _ (Nat.min_le_right _ _)
          have hcl := hsrc.cl
          have hnl := hsrc.nl
          cases hx with
          | ref _ _ _ _ b sz cap o j1 j2 j3 j4 j5 =>
            obtain ⟨vs, ty', e1, e2, e3, _, e5⟩ := at_of h hg j1
            have hlc : (cs.take (min n len * es')).length = min n len * es' := by rw [List.length_take]; omega
            have hln : (news.take (min n len * es')).length = min n len * es' := by rw [List.length_take]; omega
            have hoff : o = off ∨ min n len * es' = 0 := by
              rcases j2 with j2 | j2
              · exact .inl j2
              · right
                have : len = 0 := by omega
                subst this
                simp
            have hst : (storeCells ⟨b, o, none⟩ (news.take (min n len * es'))).run P w = .ok () (w.setRow b (vs.toList.take off ++ news.take (min n len * es') ++ vs.toList.drop (off + (news.take (min n len * es')).length)).toArray) := by
              rcases hoff with rfl | h0
              · have := run_storeCells_at P b o ty' (news.take (min n len * es')) 0 vs w e1 (by omega) (fun u hu => k7 u (List.mem_of_mem_take hu))
                simpa using this
              · have hn0 : news.take (min n len * es') = [] := by rw [h0]; rfl
                rw [hn0]
                simp only [storeCells, List.append_nil, List.length_nil, Nat.add_zero, List.take_append_drop]
                rw [show vs.toList.toArray = vs by simp, setRow_self w b vs ty' (0, 0) e1]; rfl
            obtain ⟨q1, q2, q3, q4, q5⟩ := h.write (t := g) (H' := Hp.set H g (.blk true (over cells off (cs.take (min n len * es'))))) (cells' := over cells off (cs.take (min n len * es')))
              (vs' := (vs.toList.take off ++ news.take (min n len * es') ++ vs.toList.drop (off + (news.take (min n len * es')).length)).toArray) hg j1 e1 (.inl rfl) (by simp [Hp.set]) (fun e => absurd rfl e)
              (fun k hk _ => by simp [Hp.set, hk]) (by rw [over_size (by omega)]; exact e2) (by rw [over_length (by omega)]; exact e3)
              (over_cells (by omega) (by omega) (by omega) e5 (fun i d hd => by
                have hi := (List.getElem?_eq_some_iff.1 hd).1
                rw [List.getElem?_take_of_lt (by omega)] at hd
                obtain ⟨u, a1, a2, a3⟩ := k6 i d hd
                exact ⟨u, by rw [List.getElem?_take_of_lt (by omega)]; exact a1, a2, a3⟩))
            refine ⟨_, _, _, _, _, hk, ?_, _, q1, .data _ _ (.int _ _), q2, fun q hq => ?_⟩
            · simp only [Builtin.copy_]
              simp [run_underlying hu, hsrc.len, run_sz P hs, hmin, hfirst, hst, goInt]
            · by_cases e : q = g
              · subst e; simp [j1]
              · exact q3 q e
          | ref0 _ _ a j1 =>
            rcases h.heap.blk g true cells hg with ⟨_, hc0⟩ | ⟨b, sz, vs, ty2, p1, _⟩
            · subst hc0
              have h0 : min n 0 = 0 := Nat.min_eq_right (Nat.zero_le _)
              rw [h0] at hk hfirst
              simp only [Nat.zero_mul, List.take_zero] at hk hfirst
              have hov : over ([] : List D) 0 [] = [] := rfl
              rw [hov] at hk
              refine ⟨_, _, _, .int .i64 0, w, hk, ?_, m, ?_, .data _ _ (.int _ _), ?_, fun _ _ => rfl⟩
              · cases a <;> simp [Builtin.copy_, run_underlying hu, hsrc.len, run_sz P hs, hmin, h0, hfirst, goInt, storeCells]
              · have : Hp.upd H [(g, .blk true [])] = H := by
                  funext k
                  by_cases e : k = g
                  · subst e; simp [Hp.upd, Hp.set, hg]
                  · simp [Hp.upd, Hp.set, e]
                rw [this]; exact h
              · have : Hp.upd H [(g, .blk true [])] = H := by
                  funext k
                  by_cases e : k = g
                  · subst e; simp [Hp.upd, Hp.set, hg]
                  · simp [Hp.upd, Hp.set, e]
                rw [this]; exact Grow.refl _ _
            · rw [j1] at p1; cases p1
        · exact hk.elim
      · exact hk.elim
    · exact hk.elim
  · exact hk.elim
end
end Go.Proofs.Ytdodhnkbdechaaa
namespace Go.Proofs.Ytdodhnkbdechaaa
open Go.RowKit
set_option linter.unusedVariables false
set_option linter.unusedSimpArgs false

section
variable {P : Program} {Γ : Nat → Option (List Data)} {L0 : Nat → Prop} {w0 : W0} {m : Nat → MB} {H : Nat → Blk} {w : World} {fr : Nat} {L : Nat → Prop}

theorem Bare.vd {L L' : Nat → Prop} {w w' : World} {x : Data} {v : Value} (hb : Bare x) (h : VD L w x v) : VD L' w' x v := by
  induction h with
  | bool b => exact .bool b
  | int k n => exact .int k n
  | str s => exact .str s
  | agg cs vs hl _ ih => cases hb with | agg _ hh => exact .agg cs vs hl fun i x v hx hv => ih i x v hx hv (hh x (List.mem_of_getElem? hx))
  | sl => cases hb
  | tup cs vs hl _ ih => cases hb with | tup _ hh => exact .tup cs vs hl fun i x v hx hv => ih i x v hx hv (hh x (List.mem_of_getElem? hx))
  | fn => cases hb
  | mp => cases hb
  | nilf => exact .nilf
  | ifc => cases hb
  | nili => exact .nili
  | nilp => exact .nilp
  | nilm => exact .nilm
  | pc => cases hb

/-- A value whose rows are read out stands as plain data, where its rows aren't live. -/
theorem Frz.vd {ok : Bool} {H : Nat → Blk} {L L' : Nat → Prop} (hless : ∀ b, L' b → L b)
    (hblk : ∀ g rw cells b sz, H g = .blk rw cells → (ok = true ∨ rw = false) → m g = .at b sz → b < w.heap.size ∧ ¬ L' b ∧ ∃ vs ty, w.heap[b]? = some (.cells vs ty (0, 0)) ∧ ∀ (i : Nat) (d : D), cells[i]? = some d → ∃ v, vs[i]? = some v ∧ VV L w m d v)
    (hnil : ∀ g rw cells, H g = .blk rw cells → m g = .nil → cells = [])
    (hobj : ok = true → ∀ g o b, H g = .obj o → m g = .at b 0 → b < w.heap.size ∧ ¬ L' b ∧ ∃ v, w.heap[b]? = some v ∧ ObIs L w m o v)
    {d : D} {x : Data} (h : Frz ok H d x) : ∀ {v : Value}, VV L w m d v → VD L' w x v := by
  have hg : Grow L w L' w := Grow.less w hless
  induction h with
  | data x => intro v hv; exact hv.data_inv.mono hg
  | emp es es' =>
    intro v hv
    cases hv with
    | emp _ a => exact .sl es' [] a 0 0 0 0 (fun _ => undef) rfl (Nat.le_refl _) (Nat.zero_le _) (by simp) (.inr rfl) (fun i x hx => by simp [flat] at hx) (fun i x hx => by simp [flat] at hx)
  | ref g off len es rw cells l ds hgb hrw hl hes hfit hc hvv ih =>
    intro v hv
    cases hv with
    | ref _ _ _ _ b sz cap o j1 j2 j3 j4 j5 =>
      obtain ⟨hb, hL, vs, ty, e1, e2⟩ := hblk g rw cells b sz hgb hrw j1
      subst hl
      have hfl := flat_length hes
      by_cases h0 : l = []
      · subst h0
        exact .sl es [] _ _ cap b o (fun _ => undef) rfl j4 j5 (by simp) (.inr rfl) (fun i x hx => by simp [flat] at hx) (fun i x hx => by simp [flat] at hx)
      · have hpos := List.length_pos_iff.2 h0
        have ho : o = off := by
          rcases j2 with j2 | j2
          · exact j2
          · omega
        subst ho
        refine .sl es l _ _ cap b o (fun i => vs.getD (o + i) undef) rfl j4 j5 hes (.inl ⟨rfl, hb, hL⟩) (fun i x hx => ?_) (fun i x hx => ?_)
        · obtain ⟨v, q1, q2⟩ := e2 _ _ (hc i x hx)
          rw [cell_of e1]
          have hlt := (Array.getElem?_eq_some_iff.1 q1).1
          simp [hlt]
        · obtain ⟨v, q1, q2⟩ := e2 _ _ (hc i x hx)
          have hlt := (Array.getElem?_eq_some_iff.1 q1).1
          have hq := (Array.getElem?_eq_some_iff.1 q1).2
          have : vs.getD (o + i) undef = v := by simp [hlt, hq]
          rw [this]
          exact ih i x hx q2
    | ref0 _ _ a j1 =>
      have : l = [] := List.eq_nil_of_length_eq_zero hl
      subst this
      exact .sl es [] a 0 0 0 0 (fun _ => undef) rfl (Nat.le_refl _) (Nat.zero_le _) (by simp) (.inr rfl) (fun i x hx => by simp [flat] at hx) (fun i x hx => by simp [flat] at hx)
  | agg cs xs hl _ ih =>
    intro v hv
    cases hv with
    | agg _ vs hl2 hh =>
    refine .agg xs vs (by omega) fun i x v hx hv => ?_
    have hi : i < cs.length := by rw [hl]; exact (List.getElem?_eq_some_iff.1 hx).1
    exact ih i _ x (List.getElem?_eq_getElem hi) hx (hh i _ v (List.getElem?_eq_getElem hi) hv)
  | fn f cs xs hl _ ih =>
    intro v hv
    cases hv with
    | fn _ _ vs hl2 hh =>
    refine .fn f xs vs (by omega) fun i x v hx hv => ?_
    have hi : i < cs.length := by rw [hl]; exact (List.getElem?_eq_some_iff.1 hx).1
    exact ih i _ x (List.getElem?_eq_getElem hi) hx (hh i _ v (List.getElem?_eq_getElem hi) hv)
  | mref g ks xs ds hok hgo hl _ ih =>
    intro v hv
    cases hv with
    | mref _ b j1 =>
      obtain ⟨hb, hL, ob, e1, e2⟩ := hobj hok g _ b hgo j1
      cases e2 with
      | mp _ _ es clock hk hx h1 h2 h3 h4 =>
      refine .mp ks xs b es clock hb hL e1 hk (by omega) (fun i x e a c => (h1 i x e a c).mono hg) (fun i x e a c => ?_) h3 h4
      have hi : i < ds.length := by rw [hl]; exact (List.getElem?_eq_some_iff.1 a).1
      exact ih i _ x (List.getElem?_eq_getElem hi) a (h2 i _ e (List.getElem?_eq_getElem hi) c)
  | cptr cells =>
    intro v hv
    cases hv with
    | cptr _ b off vs hb hL hc hvv => exact .pc cells b off vs hb (fun k => hL (hless b k)) hc fun i x hx => (hvv i x hx).mono hg
  | ful es l =>
    intro v hv
    cases hv with
    | ful _ _ a n h => exact h.mono hg
  | ptr g off rw cells l ds hgb hrw hc hvv ih =>
    intro v hv
    cases hv with
    | ptr _ _ b sz j1 =>
      obtain ⟨hb, hL, vs, ty, e1, e2⟩ := hblk g rw cells b sz hgb hrw j1
      refine .pc l b off (fun i => vs.getD (off + i) undef) hb hL (fun i x hx => ?_) (fun i x hx => ?_)
      · obtain ⟨v, q1, q2⟩ := e2 _ _ (hc i x hx)
        rw [cell_of e1]
        have hlt := (Array.getElem?_eq_some_iff.1 q1).1
        simp [hlt]
      · obtain ⟨v, q1, q2⟩ := e2 _ _ (hc i x hx)
        have hlt := (Array.getElem?_eq_some_iff.1 q1).1
        have hq := (Array.getElem?_eq_some_iff.1 q1).2
        have : vs.getD (off + i) undef = v := by simp [hlt, hq]
        rw [this]
        exact ih i x hx q2

theorem freeze_heap (w : World) (b n k : Nat) : (w.freeze ⟨b, n, none⟩ 1).heap.size = w.heap.size ∧ (k ≠ b → (w.freeze ⟨b, n, none⟩ 1).heap[k]? = w.heap[k]?) ∧ ((w.freeze ⟨b, n, none⟩ 1).os = w.os ∧ (w.freeze ⟨b, n, none⟩ 1).tape = w.tape ∧ (w.freeze ⟨b, n, none⟩ 1).output = w.output) ∧
    ∀ vs ty fz, w.heap[b]? = some (.cells vs ty fz) → ∃ fz', (w.freeze ⟨b, n, none⟩ 1).heap[b]? = some (.cells vs ty fz') := by
  unfold World.freeze
  rw [if_neg (by decide)]
  refine ⟨by simp, fun hk => ?_, ⟨rfl, rfl, rfl⟩, fun vs ty fz hb => ?_⟩
  · simp [Array.getElem?_modify, Ne.symm hk]
  · obtain ⟨lo, hi⟩ := fz
    simp [Array.getElem?_modify, hb]
theorem cell_one {x : Data} (h : x.cell = true) : x.cells = [x] := by cases x <;> first | rfl | cases h
theorem flat_cell : ∀ {l : List Data}, (∀ x ∈ l, x.cell = true) → flat l = l
  | [], _ => rfl
  | x :: l, h => by
    have ih := flat_cell (l := l) fun y hy => h y (by simp [hy])
    unfold flat at ih ⊢
    rw [List.flatMap_cons, cell_one (h x (by simp)), ih]
    rfl
theorem mark_ok {src dst : TypeId} {g off len es : Nat} {v : Value} {K : D → List (Nat × Blk) → Prop} (h : WR Γ L0 w0 m H w) (hv : VV (Live L0 m H) w m (.ref g off len es) v) (hk : markK P src dst g off len es H K) :
    ∃ d u v' w', K d u ∧ (convert src dst v).run P w = .ok v' w' ∧ After Γ L0 w0 fr H m w d u v' w' := by
  unfold markK at hk
  obtain ⟨rfl, rfl, rfl, hlen, hk⟩ := hk
  split at hk
  · rename_i e he
    obtain ⟨hie, hk⟩ := hk
    split at hk
    · rename_i cells hg
      split at hk
      · rename_i l hl
        obtain ⟨hll, hcell, hk⟩ := hk
        have hcs := allData_eq hl
        rw [List.all_eq_true] at hcell
        cases hv with
        | ref0 => omega
        | ref _ _ _ _ b sz cap o j1 j2 j3 j4 j5 =>
          have ho : o = 0 := by rcases j2 with j2 | j2 <;> omega
          subst ho
          obtain ⟨vs, ty, e1, e2, e3, e4, e5⟩ := at_of h hg j1
          obtain ⟨f1, f2, f3, f4⟩ := freeze_heap w b vs.size 0
          have f2' : ∀ k, k ≠ b → (w.freeze ⟨b, vs.size, none⟩ 1).heap[k]? = w.heap[k]? := fun k => (freeze_heap w b vs.size k).2.1
          obtain ⟨fz', f5⟩ := f4 vs ty (0, 0) e1
          obtain ⟨q1, q2, q3⟩ := h.kill hg j1 f1 f2' f3 (H' := Hp.upd H [(g, .dead)]) (by simp [Hp.upd, Hp.set]) (fun k hk => by simp [Hp.upd, Hp.set, hk])
          refine ⟨_, _, .slice (some ⟨b, 0, none⟩) len cap, w.freeze ⟨b, vs.size, none⟩ 1, hk, ?_, m, q1, ?_, q2, fun _ _ => rfl⟩
          · have hsh : w.shape? b = some (ty, vs.size) := by unfold World.shape?; rw [e1]
            simp [convert, run_underlying (und_slice P he), run_underlying (und_int P hie), markStringish, hsh]
          · have hfl := flat_cell hcell
            refine .data _ _ (.sl 1 l _ _ cap b 0 (fun i => vs.getD i undef) hll.symm j4 j5 (fun x hx => by rw [cell_one (hcell x hx)]; rfl) (.inl ⟨rfl, by rw [f1]; exact h.lt hg j1, q3⟩) (fun i x hx => ?_) (fun i x hx => ?_))
            · rw [hfl] at hx
              obtain ⟨v, a1, _, a3⟩ := e5 i (.data x) (by rw [hcs, List.getElem?_map, hx]; rfl)
              rw [cell_of f5]
              have hlt := (Array.getElem?_eq_some_iff.1 a1).1
              simp [hlt]
            · rw [hfl] at hx
              obtain ⟨v, a1, _, a3⟩ := e5 i (.data x) (by rw [hcs, List.getElem?_map, hx]; rfl)
              have hlt := (Array.getElem?_eq_some_iff.1 a1).1
              have hq := (Array.getElem?_eq_some_iff.1 a1).2
              have : vs.getD i undef = v := by simp [hlt, hq]
              rw [this]
              exact a3.data_inv.mono q2
      · exact hk.elim
    · exact hk.elim
  · exact hk.elim

/-- A call of a value. -/
theorem callee_ok {m : Nat → MB} {L : Nat → Prop} {x : D} {v : Value} {f : FuncId} {pre caps : List D} (hx : VV L w m x v) (hf : fnD x = some (f, pre, caps)) :
    ∃ pvs cvs, v = .func (.func f) pvs cvs ∧ pre.length = pvs.size ∧ (∀ (i : Nat) (d : D) (v : Value), pre[i]? = some d → pvs[i]? = some v → VV L w m d v) ∧ caps.length = cvs.size ∧ ∀ (i : Nat) (d : D) (v : Value), caps[i]? = some d → cvs[i]? = some v → VV L w m d v := by
  unfold fnD at hf
  split at hf
  · rename_i f' caps'
    cases hf
    have := hx.data_inv
    cases this with
    | fn _ _ vs hl hh =>
    refine ⟨#[], vs, rfl, rfl, fun i d v hx => by simp at hx, by simpa using hl, fun i d v hx hv => ?_⟩
    rw [List.getElem?_map, Option.map_eq_some_iff] at hx
    obtain ⟨y, hy, rfl⟩ := hx
    exact toD_ok (hh i y v hy hv)
  · rename_i f' caps'
    cases hf
    cases hx with
    | fn _ _ vs hl hh => exact ⟨#[], vs, rfl, rfl, fun i d v hx => by simp at hx, hl, hh⟩
  · rename_i f' r
    cases hf
    cases hx with
    | bnd _ _ u h =>
      refine ⟨#[u], #[], rfl, rfl, fun i d v hx hv => ?_, rfl, fun i d v hx => by simp at hx⟩
      match i with
      | 0 => simp at hx hv; subst hx; subst hv; exact h
      | i + 1 => simp at hx
  · cases hf
/-- What a call hands over: what the value has ahead, the arguments, what it has captured. -/
theorem args_ok {m : Nat → MB} {L : Nat → Prop} {pre caps as : List D} {pvs cvs avs : Array Value} (hp : pre.length = pvs.size) (hpv : ∀ (i : Nat) (d : D) (v : Value), pre[i]? = some d → pvs[i]? = some v → VV L w m d v)
    (ha : as.length = avs.size) (hav : ∀ (i : Nat) (d : D) (v : Value), as[i]? = some d → avs[i]? = some v → VV L w m d v) (hcv : ∀ (i : Nat) (d : D) (v : Value), caps[i]? = some d → cvs[i]? = some v → VV L w m d v) :
    ∀ (i : Nat) (d : D) (v : Value), (pre ++ (as ++ caps))[i]? = some d → (pvs ++ (avs ++ cvs))[i]? = some v → VV L w m d v := fun i d v h1 h2 => by
  rw [Array.getElem?_append] at h2
  rw [List.getElem?_append] at h1
  split at h2
  · rename_i hlt
    rw [if_pos (by omega)] at h1
    exact hpv i d v h1 h2
  · rename_i hlt
    rw [if_neg (by omega)] at h1
    rw [hp, List.getElem?_append] at h1
    rw [Array.getElem?_append] at h2
    split at h2
    · rename_i hlt2
      rw [if_pos (by omega)] at h1
      exact hav _ d v h1 h2
    · rename_i hlt2
      rw [if_neg (by omega), ha] at h1
      exact hcv _ d v h1 h2

theorem upd_fz (H0 : Nat → Blk) : ∀ (F : List Nat) (H : Nat → Blk), (∀ k, H k = H0 k ∨ H k = fz (H0 k)) → ∀ k, Hp.upd H (F.map fun g => (g, fz (H0 g))) k = if k ∈ F then fz (H0 k) else H k
  | [], H, _, k => by simp [Hp.upd]
  | g :: F, H, hH, k => by
    simp only [List.map_cons, Hp.upd]
    rw [upd_fz H0 F (Hp.set H g (fz (H0 g))) (fun j => by
      by_cases e : j = g
      · subst e; exact .inr (by simp [Hp.set])
      · have : Hp.set H g (fz (H0 g)) j = H j := by simp [Hp.set, e]
        rw [this]; exact hH j) k]
    by_cases e : k ∈ F
    · simp [e]
    · by_cases e2 : k = g
      · subst e2; simp [e, Hp.set]
      · simp [e, e2, Hp.set]

theorem call_ok {f : FuncId} {ds : List D} {vs : Array Value} {K : D → List Nat → List (Nat × Blk) → Prop} (h : WR Γ L0 w0 m H w) (hl : ds.length = vs.size) (hv : ∀ (i : Nat) (d : D) (v : Value), ds[i]? = some d → vs[i]? = some v → VV (Live L0 m H) w m d v) (hk : callK P Γ f ds H K) :
    ∃ d rd u, K d rd u ∧ CallOk P f ∧ Calls P f vs w fun e w' => ∃ v, e = .returned v ∧ After Γ L0 w0 fr H m w d u v w' := by
  obtain ⟨F, xs, r, rd, hF, ⟨hcall, hpc⟩, hfrz, hk⟩ := hk
  have hupd := upd_fz H F H (fun k => .inl rfl)
  have hold : ∀ g, Hp.upd H (F.map fun g => (g, fz (H g))) g = H g ∨ ∃ rw cells, H g = .blk rw cells ∧ Hp.upd H (F.map fun g => (g, fz (H g))) g = .blk false cells := fun g => by
    rw [hupd g]
    by_cases e : g ∈ F
    · obtain ⟨rw, cells, hg⟩ := hF g e
      exact .inr ⟨rw, cells, hg, by simp [e, hg, fz]⟩
    · exact .inl (by simp [e])
  obtain ⟨h1, hg1⟩ := h.called (Below.refl _ w) hold
  refine ⟨_, _, _, hk, hcall, ?_⟩
  have blkfact : ∀ (H2 : Nat → Blk) (h2 : WR Γ L0 w0 m H2 w) (hlive : ∀ b, Live L0 m H2 b → Live L0 m H b) (hcells : ∀ g rw cells, H2 g = .blk rw cells → ∃ rw', H g = .blk rw' cells), ∀ g rw cells b sz, H2 g = .blk rw cells → m g = .at b sz →
      b < w.heap.size ∧ (rw = false → ¬ Live L0 m H2 b) ∧ ∃ vs ty, w.heap[b]? = some (.cells vs ty (0, 0)) ∧ ∀ (i : Nat) (d : D), cells[i]? = some d → ∃ v, vs[i]? = some v ∧ VV (Live L0 m H) w m d v := by
    intro H2 h2 hlive hcells g rw cells b sz hg hm
    obtain ⟨rw', hg'⟩ := hcells g rw cells hg
    obtain ⟨vs, ty, e1, e2, e3, e4, e5⟩ := at_of h hg' hm
    obtain ⟨_, _, _, _, _, f4, _⟩ := at_of h2 hg hm
    exact ⟨h.lt hg' hm, f4, vs, ty, e1, fun i d hd => by obtain ⟨v, a1, _, a3⟩ := e5 i d hd; exact ⟨v, a1, a3⟩⟩
  have hnil : ∀ (H2 : Nat → Blk), WR Γ L0 w0 m H2 w → ∀ g rw cells, H2 g = .blk rw cells → m g = .nil → cells = [] := fun H2 h2 g rw cells hg hm => by
    rcases h2.heap.blk g rw cells hg with ⟨_, k⟩ | ⟨b, sz, vs, ty, k1, _⟩
    · exact k
    · rw [hm] at k1; cases k1
  rcases hfrz with ⟨hF0, hbare, hfz⟩ | hfz
  · subst hF0
    obtain ⟨hlx, hfx⟩ := hfz H (fun _ _ => rfl)
    refine (hpc (fun _ => False) w vs (h.glob.mono (Grow.less w fun b hb => hb.elim)) (fun b hb => hb.elim) (by omega) (fun i x v hx hvi => ?_)).mono fun e w' ⟨v, he, hr, hb⟩ => ⟨v, he, ?_⟩
    · have hi : i < ds.length := by rw [hlx]; exact (List.getElem?_eq_some_iff.1 hx).1
      have hd := List.getElem?_eq_getElem hi
      refine (hfx i _ x hd hx).vd (m := m) (L := Live L0 m H) (fun b hb => hb.elim) (fun g rw cells b sz hg _ hm => ?_) (hnil H h) (fun _ g o b hg hm => ?_) (hv i _ v hd hvi)
      rotate_left 1
      · obtain ⟨b2, v2, k1, k2, k3, k4⟩ := h.heap.obj g o hg
        rw [k1] at hm; cases hm
        exact ⟨h.ltO hg k1, fun hb => hb.elim, v2, k3, k4⟩
      obtain ⟨a1, _, a3⟩ := blkfact H h (fun b hb => hb) (fun g rw cells hg => ⟨rw, hg⟩) g rw cells b sz hg hm
      exact ⟨a1, fun hb => hb.elim, a3⟩
    · obtain ⟨h2, hg2⟩ := h.called hb (H' := H) (fun g => .inl rfl)
      exact ⟨m, h2, .data _ _ (hbare.vd hr), hg2, fun _ _ => rfl⟩
  · obtain ⟨hlx, hfx⟩ := hfz H (fun _ _ => rfl)
    refine (hpc (Live L0 m (Hp.upd H (F.map fun g => (g, fz (H g))))) w vs h1.glob (fun b hb => h1.live_lt hb) (by omega) (fun i x v hx hvi => ?_)).mono fun e w' ⟨v, he, hr, hb⟩ => ⟨v, he, ?_⟩
    · have hi : i < ds.length := by rw [hlx]; exact (List.getElem?_eq_some_iff.1 hx).1
      have hd := List.getElem?_eq_getElem hi
      have hlive : ∀ b, Live L0 m (Hp.upd H (F.map fun g => (g, fz (H g)))) b → Live L0 m H b := by
        rintro b (hb | ⟨g, sz, hg, hm⟩)
        · exact .inl hb
        · rcases hold g with e | ⟨rw, cs, e1, e2⟩
          · rw [e] at hg; exact .inr ⟨g, sz, hg, hm⟩
          · rw [e2] at hg; cases hg
      refine (hfx i _ x hd hx).vd (m := m) (L := Live L0 m H) hlive (fun g rw cells b sz hg hrw hm => ?_) (hnil _ h1) (fun e => by cases e) (hv i _ v hd hvi)
      obtain ⟨a1, a2, a3⟩ := blkfact _ h1 hlive (fun g rw cells hg => by
        rcases hold g with e | ⟨rw', cs, e1, e2⟩
        · rw [e] at hg; exact ⟨rw, hg⟩
        · rw [e2] at hg; cases hg; exact ⟨rw', e1⟩) g rw cells b sz hg hm
      refine ⟨a1, a2 ?_, a3⟩
      rcases hrw with e | e
      · cases e
      · exact e
    · obtain ⟨h2, hg2⟩ := h.called hb hold
      exact ⟨m, h2, .data _ _ hr, hg2, fun _ _ => rfl⟩

theorem strBytes_ok {m : Nat → MB} {H : Nat → Blk} {w : World} {fr : Nat} {src dst : TypeId} {s : ByteArray} {v : Value} (h : WR Γ L0 w0 m H w) (hs : (P.underlying src).isSome = true) (hb : bytT P dst = true) (hlen : s.size ≤ 140737488355328) (hv : VV (Live L0 m H) w m (.data (.str s)) v) :
    ∃ u w', (convert src dst v).run P w = .ok u w' ∧ After Γ L0 w0 fr H m w (.data (.sl 1 (s.toList.map fun b => .int .u8 b.toNat))) [] u w' := by
  have hv := hv.data_inv
  cases hv
  obtain ⟨us, hus⟩ := Option.isSome_iff_exists.1 hs
  unfold bytT at hb
  split at hb
  · rename_i e hd
    split at hb
    · rename_i he
      refine ⟨_, _, Lib.run_convert_string_bytes w src dst e s hus hd he, ?_⟩
      have hsz := Lib.bytesWorld_size w e s
      have hbel : Below w.heap.size w (Lib.bytesWorld w e s) := ⟨rfl, rfl, rfl, by omega, fun k hk => Lib.bytesWorld_at_old w e s k hk⟩
      obtain ⟨q1, q2⟩ := h.called hbel (H' := H) (fun g => .inl rfl)
      have hge := grownCap_ge w s.size 0 e
      have hmax := grownCap_le_maxLen w s.size 0 e (by unfold maxLen; omega)
      have hfl : flat (s.toList.map fun b => Data.int .u8 b.toNat) = s.toList.map fun b => Data.int .u8 b.toNat := by
        generalize s.toList = l
        induction l with
        | nil => rfl
        | cons b l ih => simp only [List.map_cons, flat, List.flatMap_cons, Data.cells] at ih ⊢; rw [ih]; rfl
      have hll : s.toList.length = s.size := by rw [ByteArray.toList_eq, Array.length_toList]; rfl
      refine ⟨m, q1, .data _ _ (.sl 1 _ _ s.size (grownCap w s.size 0 e) w.heap.size 0 (fun i => .int .u8 (s.toList.getD i 0).toNat) (by rw [List.length_map, hll]) hge hmax (fun x hx => ?_) (.inl ⟨rfl, by omega, fun hl => ?_⟩) (fun i x hx => ?_) (fun i x hx => ?_)), q2, fun _ _ => rfl⟩
      · obtain ⟨b, _, rfl⟩ := List.mem_map.1 hx; rfl
      · exact absurd (h.live_lt hl) (Nat.lt_irrefl _)
      · rw [hfl] at hx
        have hi : i < s.size := by have := (List.getElem?_eq_some_iff.1 hx).1; rw [List.length_map, hll] at this; exact this
        rw [Nat.zero_add]
        rw [ByteArray.toList_eq]
        exact Lib.bytesWorld_cell w e s i hi
      · rw [hfl] at hx
        rw [List.getElem?_map, Option.map_eq_some_iff] at hx
        obtain ⟨b, hb2, rfl⟩ := hx
        have : s.toList.getD i 0 = b := by rw [List.getD_eq_getElem?_getD, hb2]; rfl
        rw [this]
        exact .int .u8 b.toNat
    · cases hb
  · cases hb
theorem assert_ok {m : Nat → MB} {L : Nat → Prop} {w : World} {t t' st : TypeId} {d : Data} {v : Value} {ok : Bool} {K : D → List Nat → List (Nat × Blk) → Prop} (hc : concT P t = true) (hv : VV L w m (.data (.ifc t' d)) v)
    (hk : if t' = t then (if ok = true then K (.data (.tup [d, .bool true])) [] [] else K (.data d) [] []) else ok = true ∧ zvK P t fun z => match z with | .data z => K (.data (.tup [z, .bool false])) [] [] | _ => False) :
    ∃ r u, K r [] [] ∧ VV L w m r u ∧ (Instr.typeAssert v st t ok).run P w = .ok u w := by
  have hv := hv.data_inv
  cases hv with
  | ifc _ _ x hx =>
  have hu : ∃ d, P.underlying t = some d ∧ ∀ ms, d ≠ .interface ms := by
    unfold concT Program.concrete at hc
    cases hd : P.underlying t with
    | none => rw [hd] at hc; cases hc
    | some d => exact ⟨d, rfl, fun ms e => by subst e; rw [hd] at hc; cases hc⟩
  obtain ⟨du, hd, hni⟩ := hu
  have pair : ∀ (y : Data) (b : Bool) (u : Value), VD L w y u → VV L w m (.data (.tup [y, .bool b])) (.tuple #[u, .bool b]) := fun y b u hy => .data _ _ (.tup _ _ rfl fun i z v hz hv2 => by
    match i with
    | 0 => simp at hz hv2; subst hz; subst hv2; exact hy
    | 1 => simp at hz hv2; subst hz; subst hv2; exact .bool b
    | i + 2 => simp at hz)
  by_cases e : t' = t
  · subst e
    rw [if_pos rfl] at hk
    cases ok with
    | true =>
      refine ⟨_, .tuple #[x, .bool true], by simpa using hk, pair d true x hx, ?_⟩
      cases du <;> first | (exact absurd rfl (hni _)) | simp [Instr.typeAssert, run_underlying hd]
    | false =>
      refine ⟨_, x, by simpa using hk, .data _ _ hx, ?_⟩
      cases du <;> first | (exact absurd rfl (hni _)) | simp [Instr.typeAssert, run_underlying hd]
  · rw [if_neg e] at hk
    obtain ⟨rfl, hk⟩ := hk
    obtain ⟨dz, u, hK, hall, hrun⟩ := zv_ok hk
    split at hK
    · rename_i z'
      refine ⟨_, .tuple #[u, .bool false], hK, pair _ false u (hall L w m).data_inv, ?_⟩
      have hrun := hrun w
      cases du <;> first | (exact absurd rfl (hni _)) | simp [Instr.typeAssert, run_underlying hd, e, hrun]
    · exact hK.elim
/-- Every operation. -/
theorem op_sound {o : Oper} {e : Nat → D} {a : Act} {K : D → List Nat → List (Nat × Blk) → Prop} (h : WR Γ L0 w0 m H w) (hfr : m fr = .res) (hd : H fr = .dead) (hv : ∀ t, VV (Live L0 m H) w m (e t) (a.tmps.getD t undef)) (hk : opK P Γ o e H fr K) :
    ∃ d rd u, K d rd u ∧ Runs P o a w (After Γ L0 w0 fr H m w d u) := by
  have hρ : ∀ x, VV (Live L0 m H) w m (evalD Γ e x) (a.eval x) := fun x => eval_ok h.glob hv x
  unfold opK at hk
  obtain ⟨dst, op, type, pos, after, guard⟩ := o
  cases op <;> simp only at hk
  case move x => exact ⟨_, _, _, hk, runs_pure (by simp [execOp]) h (coe_ok P type (hρ x))⟩
  case assign x => exact ⟨_, _, _, hk, runs_pure (by simp [execOp]) h (coe_ok P type (hρ x))⟩
  case pick c x y =>
    split at hk
    · rename_i hc
      have hcv := hρ c
      rw [hc] at hcv
      have := hcv.data_inv
      generalize hce : a.eval c = vc at this
      cases this
      exact ⟨_, _, _, hk, runs_pure (by simp [execOp, hce, asBool]) h (hρ x)⟩
    · rename_i hc
      have hcv := hρ c
      rw [hc] at hcv
      have := hcv.data_inv
      generalize hce : a.eval c = vc at this
      cases this
      exact ⟨_, _, _, hk, runs_pure (by simp [execOp, hce, asBool]) h (hρ y)⟩
    · exact hk.elim
  case alloc t =>
    split at hk
    · rename_i z hz
      obtain ⟨hall, hk⟩ := hk
      obtain ⟨v, w', h1, h2⟩ := alloc_ok h hfr hz hall
      exact ⟨_, _, _, hk, .inl ⟨v, w', by simp [execOp, h1], h2⟩⟩
    · exact hk.elim
  case box t x =>
    obtain ⟨hall, hk⟩ := hk
    obtain ⟨v, w', h1, h2⟩ := box_ok (P := P) (t := t) h hfr (hρ x) hall
    exact ⟨_, _, _, hk, .inl ⟨v, w', by simp [execOp, h1], h2⟩⟩
  case build t parts =>
    obtain ⟨d, v, h1, h2, h3⟩ := build_ok (P := P) (vparts := parts.map fun (i, x) => (i, a.eval x)) (by simp) (fun i p q hp hq => by
      simp only [List.getElem?_map, Option.map_eq_some_iff, Array.getElem?_toList] at hp
      simp only [Array.getElem?_map, Option.map_eq_some_iff] at hq
      obtain ⟨y, hy, rfl⟩ := hp
      obtain ⟨y', hy', rfl⟩ := hq
      rw [hy] at hy'; cases hy'
      exact ⟨rfl, hρ _⟩) hk
    exact ⟨_, _, _, h1, runs_pure (by simp [execOp, h3]) h h2⟩
  case buildSlice t len parts =>
    split at hk
    · rename_i el he
      split at hk
      · rename_i es hs
        obtain ⟨hbig, hk⟩ := hk
        split at hk
        · rename_i h0
          subst h0
          obtain ⟨hp0, hk⟩ := hk
          have hpe : parts = #[] := Array.eq_empty_of_size_eq_zero hp0
          subst hpe
          have hbel : Below w.heap.size w (w.alloc (.cells #[] el)) := (Below.refl _ w).alloc (Nat.le_refl _) _
          obtain ⟨q1, q2⟩ := h.called hbel (H' := H) (fun g => .inl rfl)
          refine ⟨_, _, _, hk, .inl ⟨.slice (some ⟨w.heap.size, 0, none⟩) 0 0, w.alloc (.cells #[] el), ?_, m, q1, .emp _ _, q2, fun _ _ => rfl⟩⟩
          have hr0 : Array.range 0 = #[] := rfl
          simp [execOp, Instr.buildSlice, run_underlying (und_slice P he), run_sz P hs, Instr.fill, newRow, hr0]
        · rename_i h0
          unfold zerosK at hk
          split at hk
          · rename_i z hz
            obtain ⟨hall, hsz, hz0, hk⟩ := hk
            split at hk
            · rename_i cells hf
              obtain ⟨hcell, hk⟩ := hk
              obtain ⟨v, w', h1, h2⟩ := buildSlice_ok (P := P) (vparts := parts.map fun (i, x) => (i, a.eval x)) h hfr he hs hbig h0 hz hall (by rw [hs] at hsz; simpa using hsz) hz0 (by simp) (fun i p q hp hq => by
                simp only [List.getElem?_map, Option.map_eq_some_iff, Array.getElem?_toList] at hp
                simp only [Array.getElem?_map, Option.map_eq_some_iff] at hq
                obtain ⟨y, hy, rfl⟩ := hp
                obtain ⟨y', hy', rfl⟩ := hq
                rw [hy] at hy'; cases hy'
                exact ⟨rfl, hρ _⟩) hf hcell
              exact ⟨_, _, _, hk, .inl ⟨v, w', by simp [execOp, h1], h2⟩⟩
            · exact hk.elim
          · exact hk.elim
      · exact hk.elim
    · exact hk.elim
  case load t x =>
    obtain ⟨d, rd, u, h1, h2, h3⟩ := load_ok h (hρ x) hk
    exact ⟨_, _, _, h1, runs_pure (by simp [execOp, h3]) h h2⟩
  case store t x y =>
    obtain ⟨u, w', h1, h2, h3⟩ := store_ok (fr := fr) h hfr (hρ x) (coe_ok P t (hρ y)) hk
    exact ⟨_, _, _, h1, .inr (.inl ⟨w', by simp [execOp, h2], h3 _ _ fun L' w' m' _ _ => .junk _⟩)⟩
  case binOp op t x y _ =>
    obtain ⟨d, v, h1, h2, h3⟩ := bin_ok x y _ (hρ x) (hρ y) hk
    exact ⟨_, _, _, h1, runs_pure (by simp only [execOp]; rw [Sem.run_bind, h3]; rfl) h h2⟩
  case unOp op t x =>
    obtain ⟨d, v, h1, h2, h3⟩ := un_ok (P := P) (w := w) (hρ x) hk
    exact ⟨_, _, _, h1, runs_pure (by simp [execOp, h3]) h h2⟩
  case convert s d x =>
    split at hk
    · rename_i g off len es hx
      have hxv := hρ x
      rw [hx] at hxv
      obtain ⟨d, u, v', w', h1, h2, h3⟩ := mark_ok (P := P) (fr := fr) h hxv hk
      exact ⟨_, _, _, h1, .inl ⟨v', w', by simp [execOp, h2], h3⟩⟩
    · rename_i s' hx
      split at hk
      · rename_i hb
        obtain ⟨hs, hlen, hk⟩ := hk
        have hxv := hρ x
        rw [hx] at hxv
        obtain ⟨v, w', h1, h2⟩ := strBytes_ok (P := P) (fr := fr) h hs hb hlen hxv
        exact ⟨_, _, _, hk, .inl ⟨v, w', by simp [execOp, h1], h2⟩⟩
      · obtain ⟨hs, hk⟩ := hk
        obtain ⟨d, v, h1, h2, h3⟩ := conv_ok (P := P) (w := w) hs (by have := hρ x; rwa [hx] at this) hk
        exact ⟨_, _, _, h1, runs_pure (by simp [execOp, h3]) h h2⟩
    · obtain ⟨hs, hk⟩ := hk
      obtain ⟨d, v, h1, h2, h3⟩ := conv_ok (P := P) (w := w) hs (hρ x) hk
      exact ⟨_, _, _, h1, runs_pure (by simp [execOp, h3]) h h2⟩
  case makeInterface t x =>
    split at hk
    · rename_i d hx
      obtain ⟨hc, hk⟩ := hk
      have hxv := hρ x
      rw [hx] at hxv
      exact ⟨_, _, _, hk, runs_pure (v := .iface t (a.eval x)) (by simp [execOp, run_makeInterface w t (a.eval x) hc]) h (.data _ _ (.ifc t d _ hxv.data_inv))⟩
    · exact hk.elim
  case typeAssert x st t ok =>
    split at hk
    · rename_i t' d hx
      obtain ⟨hc, hk⟩ := hk
      have hxv := hρ x
      rw [hx] at hxv
      obtain ⟨d, v, h1, h2, h3⟩ := assert_ok (P := P) (w := w) (st := st) hc hxv hk
      exact ⟨_, _, _, h1, runs_pure (by simp [execOp, h3]) h h2⟩
    · exact hk.elim
  case makeSlice t l c =>
    split at hk
    · rename_i el he
      split at hk
      · rename_i es by_ k1 n k2 n2 hs hb hln hcn
        obtain ⟨h0, h1, h2, h3, hk⟩ := hk
        unfold zerosK at hk
        split at hk
        · rename_i z hz
          obtain ⟨hall, hsz, hz0, hk⟩ := hk
          have el1 := hρ l
          have el2 := hρ c
          rw [hln] at el1
          rw [hcn] at el2
          have el1 := int_inv el1
          have el2 := int_inv el2
          obtain ⟨v, w', q1, q2⟩ := makeSlice_ok (P := P) h hfr he hs hb h0 h1 h2 h3 hz hall (by rw [hs] at hsz; simpa using hsz) hz0
          exact ⟨_, _, _, hk, .inl ⟨v, w', by simp only [execOp, el1, el2]; rw [Sem.run_bind, q1]; rfl, q2⟩⟩
        · exact hk.elim
      · exact hk.elim
    · exact hk.elim
  case slice t x lo hi mx =>
    split at hk
    · obtain ⟨d, rd, u, h1, h2, h3⟩ := sliceArr_ok (P := P) h hρ (hρ x) hk
      exact ⟨_, _, _, h1, runs_pure (by simp [execOp, h3]) h h2⟩
    · obtain ⟨d, rd, u, h1, h2, h3⟩ := sliceArr_ok (P := P) h hρ (hρ x) hk
      exact ⟨_, _, _, h1, runs_pure (by simp [execOp, h3]) h h2⟩
    · rename_i g off len cp es hx
      have hxv := hρ x
      rw [hx] at hxv
      obtain ⟨d, u, h1, h2, h3⟩ := cut_ok (P := P) hρ hxv hk
      exact ⟨_, _, _, h1, runs_pure (by simp [execOp, h3]) h h2⟩
    · obtain ⟨d, u, h1, h2, h3⟩ := slice_ok (P := P) hρ (hρ x) hk
      exact ⟨_, _, _, h1, runs_pure (by simp [execOp, h3]) h h2⟩
  case fieldAddr t x f =>
    obtain ⟨d, u, h1, h2, h3⟩ := field_ok (P := P) (hρ x) hk
    exact ⟨_, _, _, h1, runs_pure (by simp [execOp, h3]) h h2⟩
  case field t x f =>
    obtain ⟨d, u, h1, h2, h3⟩ := fieldV_ok (P := P) (hρ x) hk
    exact ⟨_, _, _, h1, runs_pure (by simp [execOp, h3]) h h2⟩
  case indexAddr t x ix =>
    obtain ⟨d, u, h1, h2, h3⟩ := indexAddr_ok (P := P) (hρ x) (hρ ix) hk
    exact ⟨_, _, _, h1, runs_pure (by simp [execOp, h3]) h h2⟩
  case index t x ix =>
    obtain ⟨d, u, h1, h2, h3⟩ := indexV_ok (P := P) (hρ x) (hρ ix) hk
    exact ⟨_, _, _, h1, runs_pure (by simp [execOp, h3]) h h2⟩
  case extract x i =>
    unfold extractK at hk
    split at hk
    · rename_i vs hx
      obtain ⟨v, hvi, hk⟩ := hk
      have hxv := hρ x
      rw [hx] at hxv
      have := hxv.data_inv
      generalize hce : a.eval x = vx at this
      cases this with
      | tup _ us hl hh =>
      have hi : i < us.size := by rw [← hl]; exact (List.getElem?_eq_some_iff.1 hvi).1
      exact ⟨_, _, _, hk, runs_pure (by simp [execOp, Instr.extract, hce, hi]) h (.data _ _ (hh i v _ hvi (Array.getElem?_eq_getElem hi)))⟩
    · rename_i cs hx
      obtain ⟨d, hdi, hk⟩ := hk
      have hxv := hρ x
      rw [hx] at hxv
      generalize hce : a.eval x = vx at hxv
      cases hxv with
      | tp _ us hl hh =>
      have hi : i < us.size := by rw [← hl]; exact (List.getElem?_eq_some_iff.1 hdi).1
      exact ⟨_, _, _, hk, runs_pure (by simp [execOp, Instr.extract, hce, hi]) h (hh i d _ hdi (Array.getElem?_eq_getElem hi))⟩
    · exact hk.elim
  case nilCheck x =>
    obtain ⟨hs, hk⟩ := hk
    have hxv := hρ x
    have hpv : VV (Live L0 m H) w m (ptrD (evalD Γ e x)) (a.eval x) := by
      generalize evalD Γ e x = dx at hxv
      unfold ptrD
      split
      · exact toD_ok hxv.data_inv
      · exact hxv
    refine ⟨_, _, _, hk, runs_pure ?_ h hpv⟩
    generalize hdx : evalD Γ e x = dx at hs hxv
    unfold sureD at hs
    split at hs
    · generalize hce : a.eval x = vx at hxv
      cases hxv
      simp [execOp, hce]
    · generalize hce : a.eval x = vx at hxv
      cases hxv
      simp [execOp, hce]
    · have hxv := hxv.data_inv
      generalize hce : a.eval x = vx at hxv
      cases hxv
      simp [execOp, hce]
    · cases hs
  case makeMap t r =>
    cases r with
    | none =>
      obtain ⟨v, w', h1, h2⟩ := makeMap_ok (P := P) (t := t) h hfr
      exact ⟨_, _, _, hk, .inl ⟨v, w', by simp [execOp, h1], h2⟩⟩
    | some r => exact hk.elim
  case insert t mo k x =>
    obtain ⟨rd, u, w', h1, h2, h3⟩ := insert_ok (P := P) (fr := fr) h (hρ mo) (hρ k) (coe_ok P _ (hρ x)) hk
    exact ⟨_, _, _, h1, .inr (.inl ⟨w', by simp [execOp, h2], h3⟩)⟩
  case mapUpdate t mo k x =>
    obtain ⟨rd, u, w', h1, h2, h3⟩ := insert_ok (P := P) (fr := fr) h (hρ mo) (hρ k) (coe_ok P _ (hρ x)) hk
    exact ⟨_, _, _, h1, .inr (.inl ⟨w', by simp [execOp, h2], h3⟩)⟩
  case lookup t x i ok =>
    obtain ⟨d, rd, u, h1, h2, h3⟩ := lookup_ok (P := P) h (hρ x) (hρ i) hk
    exact ⟨_, _, _, h1, runs_pure (by simp [execOp, h3]) h h2⟩
  case range t x =>
    split at hk
    · rename_i q ks xs hq hx
      have hxv := hρ x
      rw [hx] at hxv
      obtain ⟨v, w', h1, h2⟩ := range_ok (P := P) h hfr hq hxv
      exact ⟨_, _, _, hk, .inl ⟨v, w', by simp [execOp, h1], h2⟩⟩
    · exact hk.elim
  case entry x =>
    obtain ⟨d, rd, u, h1, h2, h3⟩ := entry_ok (P := P) h (hρ x) hk
    exact ⟨_, _, _, h1, runs_pure (by simp [execOp, h3]) h h2⟩
  case makeFunc f first caps =>
    split at hk
    · rename_i f hfi
      have hfe : first = #[] := by apply Array.ext'; simpa using hfi
      subst hfe
      refine ⟨_, _, _, hk, runs_pure (v := .func (.func f) #[] (caps.map a.eval)) (by simp [execOp, Instr.makeFunc]) h (.fn f _ _ (by simp) fun i d v h1 h2 => ?_)⟩
      simp only [List.getElem?_map, Option.map_eq_some_iff, Array.getElem?_toList] at h1
      simp only [Array.getElem?_map, Option.map_eq_some_iff] at h2
      obtain ⟨y, hy, rfl⟩ := h1
      obtain ⟨y', hy', rfl⟩ := h2
      rw [hy] at hy'; cases hy'
      exact hρ _
    · rename_i f r hfi
      obtain ⟨hc0, hk⟩ := hk
      have hfe : first = #[r] := by apply Array.ext'; simpa using hfi
      subst hfe
      have hce : caps = #[] := Array.eq_empty_of_size_eq_zero hc0
      subst hce
      exact ⟨_, _, _, hk, runs_pure (v := .func (.func f) #[a.eval r] #[]) (by simp [execOp, Instr.makeFunc]) h (.bnd f _ _ (hρ r))⟩
    · exact hk.elim
  case call c =>
    obtain ⟨callee, args, argTypes⟩ := c
    have hargs : ∀ (i : Nat) (d : D) (v : Value), (args.toList.map (evalD Γ e))[i]? = some d → (args.map a.eval)[i]? = some v → VV (Live L0 m H) w m d v := fun i d v h1 h2 => by
      simp only [List.getElem?_map, Option.map_eq_some_iff, Array.getElem?_toList] at h1
      simp only [Array.getElem?_map, Option.map_eq_some_iff] at h2
      obtain ⟨y, hy, rfl⟩ := h1
      obtain ⟨y', hy', rfl⟩ := h2
      rw [hy] at hy'; cases hy'
      exact hρ _
    split at hk
    · rename_i x hc
      simp only at hc
      subst hc
      split at hk
      · rename_i f pre caps hf
        obtain ⟨pvs, cvs, hce, hpl, hpv, hcl, hch⟩ := callee_ok (hρ x) hf
        obtain ⟨d, rd, u, h1, h2, h3⟩ := call_ok (P := P) (fr := fr) (vs := pvs ++ (args.map a.eval ++ cvs)) h (by simp [hcl, hpl]) (args_ok hpl hpv (by simp) hargs hch) hk
        refine ⟨_, _, _, h1, .inr (.inr ⟨f, pvs ++ (args.map a.eval ++ cvs), w, ?_, h3⟩)⟩
        simp only [execOp, resolve, Sem.run_bind, hce, Deferred.ofValue, Sem.run_pure, Result.andThen_ok, invoke]
        rw [← Array.append_assoc]
        have h2 := h2 (pvs ++ (args.map a.eval ++ cvs)) w
        rw [← Array.append_assoc] at h2
        exact h2
      · exact hk.elim
    · rename_i r name hc
      simp only at hc
      subst hc
      split at hk
      · rename_i t d hr
        obtain ⟨f, hmeth, hk⟩ := hk
        have hrv := hρ r
        rw [hr] at hrv
        have hrv := hrv.data_inv
        generalize hre : a.eval r = vr at hrv
        cases hrv with
        | ifc _ _ x hx =>
        obtain ⟨d, rd, u, h1, h2, h3⟩ := call_ok (P := P) (fr := fr) (vs := #[x] ++ args.map a.eval) h (by simp [Nat.add_comm]) (fun i d v h1 h2 => by
          cases i with
          | zero =>
            simp only [List.getElem?_cons_zero, Option.some.injEq] at h1
            rw [Array.getElem?_append_left (by simp)] at h2
            simp only [Array.getElem?_singleton, if_true, Option.some.injEq] at h2
            subst h1; subst h2
            exact toD_ok hx
          | succ i =>
            rw [List.getElem?_cons_succ] at h1
            rw [Array.getElem?_append_right (by simp)] at h2
            simp only [List.size_toArray, List.length_cons, List.length_nil, Nat.zero_add, Nat.add_sub_cancel] at h2
            exact hargs i d v h1 h2) hk
        refine ⟨_, _, _, h1, .inr (.inr ⟨f, #[x] ++ args.map a.eval, w, ?_, h3⟩)⟩
        simp only [execOp, resolve, Sem.run_bind, hre, Sem.run_pure, Result.andThen_ok]
        exact hmeth x (args.map a.eval) w
      · exact hk.elim
    · rename_i hc
      simp only at hc
      subst hc
      split at hk
      · rename_i t x ht hx
        simp only at hx
        have hax : args = #[x] := by apply Array.ext'; simpa using hx
        subst hax
        obtain ⟨d, u, h1, h2, h3⟩ := len_ok (P := P) (w := w) (ty := type) (hρ x) hk
        refine ⟨_, _, _, h1, runs_pure ?_ h h2⟩
        have h4 : (Builtin.len_ argTypes type #[a.eval x]).run P w = .ok u w := by
          have : ∀ vs, Builtin.len_ argTypes type vs = Builtin.len_ #[t] type vs := fun vs => by unfold Builtin.len_; simp [ht]
          rw [this]; exact h3
        simp [execOp, resolve, invoke, builtin, h4]
      · exact hk.elim
    · rename_i hc
      simp only at hc
      subst hc
      split at hk
      · rename_i st xt x y hst hxt hx
        simp only at hx
        have hax : args = #[x, y] := by apply Array.ext'; simpa using hx
        subst hax
        obtain ⟨d, rd, u, v, w', h1, h2, h3⟩ := append_ok (P := P) (ty := type) h hfr hd (hρ x) (hρ y) hk
        refine ⟨_, _, _, h1, .inl ⟨v, w', ?_, h3⟩⟩
        have h4 : (Builtin.append_ argTypes type #[a.eval x, a.eval y]).run P w = .ok v w' := by
          have : ∀ vs, Builtin.append_ argTypes type vs = Builtin.append_ #[st, xt] type vs := fun vs => by unfold Builtin.append_; simp [hst, hxt]
          rw [this]; exact h2
        simp [execOp, resolve, invoke, builtin, h4]
      · exact hk.elim
    · rename_i hc
      simp only at hc
      subst hc
      split at hk
      · rename_i st x y hst hx
        simp only at hx
        have hax : args = #[x, y] := by apply Array.ext'; simpa using hx
        subst hax
        obtain ⟨d, rd, u, v, w', h1, h2, h3⟩ := copy_ok (P := P) (xt := st) (ty := type) (fr := fr) h hfr (hρ x) (hρ y) hk
        refine ⟨_, _, _, h1, .inl ⟨v, w', ?_, h3⟩⟩
        have h4 : (Builtin.copy_ argTypes type #[a.eval x, a.eval y]).run P w = .ok v w' := by
          have : ∀ vs, Builtin.copy_ argTypes type vs = Builtin.copy_ #[st, st] type vs := fun vs => by unfold Builtin.copy_; simp [hst]
          rw [this]; exact h2
        simp [execOp, resolve, invoke, builtin, h4]
      · exact hk.elim
    · rename_i hc
      simp only at hc
      subst hc
      split at hk
      · rename_i t x ht hx
        simp only at hx
        have hax : args = #[x] := by apply Array.ext'; simpa using hx
        subst hax
        obtain ⟨d, rd, u, v, w', h1, h2, h3⟩ := clear_ok (P := P) (ty := type) (fr := fr) h (hρ x) hk
        refine ⟨_, _, _, h1, .inl ⟨v, w', ?_, h3⟩⟩
        have h4 : (Builtin.clear_ argTypes type #[a.eval x]).run P w = .ok v w' := by
          have : ∀ vs, Builtin.clear_ argTypes type vs = Builtin.clear_ #[t] type vs := fun vs => by unfold Builtin.clear_; simp [ht]
          rw [this]; exact h2
        simp [execOp, resolve, invoke, builtin, h4]
      · exact hk.elim
    · rename_i hc
      simp only at hc
      subst hc
      obtain ⟨d, u, h1, h2, h3⟩ := minmax_ok (P := P) (w := w) (ts := argTypes) (ty := type) (vs := args.map a.eval) (by simp) hargs hk
      refine ⟨_, _, _, h1, runs_pure ?_ h h2⟩
      simp only [Bool.false_eq_true, if_false] at h3
      simp [execOp, resolve, invoke, builtin, h3]
    · rename_i hc
      simp only at hc
      subst hc
      obtain ⟨d, u, h1, h2, h3⟩ := minmax_ok (P := P) (w := w) (ts := argTypes) (ty := type) (vs := args.map a.eval) (by simp) hargs hk
      refine ⟨_, _, _, h1, runs_pure ?_ h h2⟩
      simp only [if_true] at h3
      simp [execOp, resolve, invoke, builtin, h3]
    · rename_i hc
      simp only at hc
      subst hc
      split at hk
      · rename_i t x ht hx
        simp only at hx
        have hax : args = #[x] := by apply Array.ext'; simpa using hx
        subst hax
        obtain ⟨d, u, h1, h2, h3⟩ := cap_ok (P := P) (w := w) (ty := type) (hρ x) hk
        refine ⟨_, _, _, h1, runs_pure ?_ h h2⟩
        have h4 : (Builtin.cap_ argTypes type #[a.eval x]).run P w = .ok u w := by
          have : ∀ vs, Builtin.cap_ argTypes type vs = Builtin.cap_ #[t] type vs := fun vs => by unfold Builtin.cap_; simp [ht]
          rw [this]; exact h3
        simp [execOp, resolve, invoke, builtin, h4]
      · exact hk.elim
    · exact hk.elim
  all_goals exact hk.elim
end
end Go.Proofs.Ytdodhnkbdechaaa
namespace Go.Proofs.Ytdodhnkbdechaaa
open Go.RowKit
set_option linter.unusedVariables false
set_option linter.unusedSimpArgs false

/-- What a slot holds behind an operation that was passed over. -/
def undefD : D := .data (.tup [])
def stepSt (s : St) (o : Oper) (d : D) (u : List (Nat × Blk)) : St := ⟨Env.dst s.env o.dst d, Hp.upd s.hp u, s.nx + 1, s.lo, s.nt⟩
def dstOk (o : Oper) (nt : Nat) : Bool := match o.dst with
  | some t => decide (t < nt)
  | none => true
/-- Does an operation's guard let it by? -/
def wantedD (ops : Array Oper) (e : Nat → D) (o : Oper) : Option Bool := match o.guard with
  | none => some true
  | some (j, want) => match (ops[j]?).bind (·.dst) with
    | some t => (match e t with
      | .data (.bool b) => some (b == want)
      | .data (.tup []) => some false
      | _ => none)
    | none => some false

/-- A call that runs on the caller's own numbered rows. -/
def DC (P : Program) (Γ : Nat → Option (List Data)) (f : FuncId) (ds : List D) (H : Nat → Blk) (nx : Nat) (K : D → (Nat → Blk) → Nat → Prop) : Prop :=
  CallOk P f ∧ ∀ (L0 : Nat → Prop) (w0 : W0) (m : Nat → MB) (w : World) (vs : Array Value), WR Γ L0 w0 m H w → (∀ g, nx ≤ g → m g = .res) → (∀ g, nx ≤ g → H g = .dead) → ds.length = vs.size → (∀ (i : Nat) (d : D) (v : Value), ds[i]? = some d → vs[i]? = some v → VV (Live L0 m H) w m d v) →
    Calls P f vs w fun e w' => ∃ v d H' nx' m', e = .returned v ∧ WR Γ L0 w0 m' H' w' ∧ VV (Live L0 m' H') w' m' d v ∧ Grow (Live L0 m H) w (Live L0 m' H') w' ∧ (∀ g, g < nx → m' g = m g) ∧ (∀ g, nx' ≤ g → m' g = .res) ∧ nx ≤ nx' ∧ K d H' nx'

def dcK (P : Program) (Γ : Nat → Option (List Data)) (o : Oper) (e : Nat → D) (H : Nat → Blk) (nx : Nat) (K : D → (Nat → Blk) → Nat → Prop) : Prop := match o.op with
  | .call c => (match c.callee with
    | .value x => (match fnD (evalD Γ e x) with
      | some (f, pre, caps) => DC P Γ f (pre ++ (c.args.toList.map (evalD Γ e) ++ caps)) H nx K
      | none => False)
    | _ => False)
  | .next it false => (match evalD Γ e it with
    | .iref g => (match H g with
      | .obj (.it ks xs left _) => (left = [] → K (.data (.tup [.bool false])) (Hp.upd H []) (nx + 1)) ∧
          ∀ i k x, i ∈ left → ks[i]? = some k → xs[i]? = some x → K (.data (.tup [.bool true, k, x])) (Hp.upd H [(g, .obj (.it ks xs (left.filter (· != i)) (some i)))]) (nx + 1)
      | _ => False)
    | _ => False)
  | .binOp .eql t x (.const (.slice none 0 0)) _ => (sliceT P t).isSome = true ∧ (match evalD Γ e x with
    | .data (.sl _ l) => ∀ b : Bool, (b = true → l = []) → K (.data (.bool b)) (Hp.upd H []) (nx + 1)
    | .ref _ _ len _ => ∀ b : Bool, (b = true → len = 0) → K (.data (.bool b)) (Hp.upd H []) (nx + 1)
    | .emp _ => ∀ b : Bool, K (.data (.bool b)) (Hp.upd H []) (nx + 1)
    | _ => False)
  | _ => False
/-- It may be a call whose rows are the caller's; or it goes on in more than one way. -/
def isCall (o : Oper) : Bool := match o.op with
  | .call c => (match c.callee with
    | .value _ => true
    | _ => false)
  | .next _ false => true
  | .binOp .eql _ _ (.const (.slice none 0 0)) _ => true
  | _ => false

/-- One or the other. -/
def ifW (b : Bool) (x y : Prop) : Prop := match b with
  | true => x
  | false => y

section
variable (P : Program) (Γ : Nat → Option (List Data))
/-- Operations one after the other. -/
def opsW (ops : Array Oper) : List Oper → St → (St → Prop) → Prop
  | [], s, K => K s
  | o :: rest, s, K => dstOk o s.nt = true ∧ (match wantedD ops s.env o with
    | some b => ifW b (ifW (isCall o)
        ((opK P Γ o s.env s.hp s.nx fun d _ u => opsW ops rest (stepSt s o d u) K) ∨ dcK P Γ o s.env s.hp s.nx fun d H' nx' => opsW ops rest ⟨Env.dst s.env o.dst d, H', nx', s.lo, s.nt⟩ K)
        (opK P Γ o s.env s.hp s.nx fun d _ u => opsW ops rest (stepSt s o d u) K)) (opsW ops rest (stepSt s o undefD []) K)
    | none => False)
end

section
variable {P : Program} {Γ : Nat → Option (List Data)} {L0 : Nat → Prop} {w0 : W0}

theorem dst_get {a : Act} {e : Nat → D} {dst : Option Nat} {d : D} {v : Value} {L : Nat → Prop} {w : World} {m : Nat → MB} (hd : ∀ t, dst = some t → t < a.tmps.size) (hv : VV L w m d v) (h : ∀ t, VV L w m (e t) (a.tmps.getD t undef)) (t : Nat) :
    VV L w m (Env.dst e dst d t) ((a.put dst v).tmps.getD t undef) := by
  cases dst with
  | none => exact h t
  | some q =>
    have hq := hd q rfl
    by_cases e1 : t = q
    · subst e1
      have h1 : (a.put (some t) v).tmps.getD t undef = v := by simp [Act.put, hq]
      have h2 : Env.dst e (some t) d t = d := by simp [Env.dst, Env.set]
      rw [h1, h2]; exact hv
    · have h1 : (a.put (some q) v).tmps.getD t undef = a.tmps.getD t undef := by
        simp [Act.put, Array.getElem?_setIfInBounds_ne (Ne.symm e1)]
      have h2 : Env.dst e (some q) d t = e t := by simp [Env.dst, Env.set, e1]
      rw [h1, h2]; exact h t

/-- What stays of the numbers of before. -/
structure Ext (L0 : Nat → Prop) (m : Nat → MB) (s : St) (w : World) (m' : Nat → MB) (s' : St) (w' : World) : Prop where
  grow : Grow (Live L0 m s.hp) w (Live L0 m' s'.hp) w'
  keep : ∀ g, g < s.lo → m' g = m g
  lo : s'.lo = s.lo
  nt : s'.nt = s.nt
theorem Ext.refl (L0 : Nat → Prop) (m : Nat → MB) (s : St) (w : World) : Ext L0 m s w m s w := ⟨Grow.refl _ _, fun _ _ => rfl, rfl, rfl⟩
theorem Ext.trans {m m' m'' : Nat → MB} {s s' s'' : St} {w w' w'' : World} (h : Ext L0 m s w m' s' w') (k : Ext L0 m' s' w' m'' s'' w'') : Ext L0 m s w m'' s'' w'' :=
  ⟨h.grow.trans k.grow, fun g hg => (k.keep g (by rw [h.lo]; exact hg)).trans (h.keep g hg), k.lo.trans h.lo, k.nt.trans h.nt⟩

theorem put_slots (a : Act) (dst : Option Nat) (v : Value) : (a.put dst v).tmps.size = a.tmps.size := by cases dst <;> simp [Act.put]

theorem WR.none {m : Nat → MB} {H : Nat → Blk} {w : World} (h : WR Γ L0 w0 m H w) {g : Nat} (hg : m g = .res) : H g = .dead := by
  cases hb : H g with
  | dead => rfl
  | blk rw cells =>
    rcases h.heap.blk g rw cells hb with ⟨k, _⟩ | ⟨_, _, _, _, k, _⟩
    · rw [hg] at k; cases k
    · rw [hg] at k; cases k
  | obj o =>
    obtain ⟨_, _, k, _⟩ := h.heap.obj g o hb
    rw [hg] at k; cases k

theorem After.drew {fr : Nat} {m : Nat → MB} {H : Nat → Blk} {w : World} {d : D} {u : List (Nat × Blk)} {v : Value} {w' : World} (h : After Γ L0 w0 fr H m w.drew d u v w') : After Γ L0 w0 fr H m w d u v w' := by
  obtain ⟨m', h1, h2, h3, h4⟩ := h
  exact ⟨m', h1, h2, ⟨h3.size, fun b hb hL => h3.keep b hb hL⟩, h4⟩

/-- What comes next of a map. -/
theorem next_ok {m : Nat → MB} {H : Nat → Blk} {w : World} {fr g : Nat} {ks xs : List Data} {left : List Nat} {cur : Option Nat} {v : Value} {ty : TypeId} {K : D → (Nat → Blk) → Prop} (h : WR Γ L0 w0 m H w) (hg : H g = .obj (.it ks xs left cur)) (hv : VV (Live L0 m H) w m (.iref g) v)
    (h0 : left = [] → K (.data (.tup [.bool false])) (Hp.upd H [])) (h1 : ∀ i k x, i ∈ left → ks[i]? = some k → xs[i]? = some x → K (.data (.tup [.bool true, k, x])) (Hp.upd H [(g, .obj (.it ks xs (left.filter (· != i)) (some i)))])) :
    ∃ d u r w', K d (Hp.upd H u) ∧ (Instr.next v false ty).run P w = .ok r w' ∧ After Γ L0 w0 fr H m w d u r w' := by
  obtain ⟨b, ob, k1, k2, k3, k4⟩ := h.heap.obj g _ hg
  cases hv with
  | iref _ b' hm' =>
  rw [k1] at hm'; cases hm'
  cases k4 with
  | it _ _ _ _ bm seen hmv hleft hcur =>
  have hmv0 := hmv
  cases hmv with
  | mp _ _ _ es clock hb hL hh hkl hxl hk hx hborn hclock =>
  have hgi := run_getObj_any (P := P) k3 (fun vs ty fz e => by cases e)
  have hgm := MapKept.run_getObj_map (P := P) hh
  have hold : (es.filter fun e => !seen.contains e.born).filter (fun e => decide (e.born < ks.length)) = es.filter fun e => !seen.contains e.born := by
    rw [Array.filter_eq_self]
    intro e he
    obtain ⟨i, hi, hie⟩ := Array.mem_iff_getElem.1 (Array.mem_filter.1 he).1
    have := hborn i e (by rw [← hie]; exact Array.getElem?_eq_getElem hi)
    simp; omega
  have hnew : (es.filter fun e => !seen.contains e.born).filter (fun e => decide (ks.length ≤ e.born)) = #[] := by
    rw [Array.filter_eq_empty_iff]
    intro e he
    obtain ⟨i, hi, hie⟩ := Array.mem_iff_getElem.1 (Array.mem_filter.1 he).1
    have := hborn i e (by rw [← hie]; exact Array.getElem?_eq_getElem hi)
    simp; omega
  have hnot : (!seen.isEmpty && !es.isEmpty && es.all (fun e => decide (ks.length ≤ e.born))) = false := by
    by_cases he : es = #[]
    · subst he; simp
    · have hpos : 0 < es.size := by
        rcases Nat.eq_zero_or_pos es.size with q | q
        · exact absurd (Array.eq_empty_of_size_eq_zero q) he
        · exact q
      have : es.all (fun e => decide (ks.length ≤ e.born)) = false := by
        rw [Bool.eq_false_iff]
        intro hall
        rw [Array.all_eq_true] at hall
        have h2 := hall 0 hpos
        have h3 := hborn 0 es[0] (Array.getElem?_eq_getElem hpos)
        simp only [decide_eq_true_eq] at h2
        omega
      simp [this]
  generalize hcand : (es.filter fun e => !seen.contains e.born) = rest at hold hnew
  have hstep : ∀ (c : Nat) (w1 : World), w1.heap = w.heap → ((if rest.isEmpty then #[none] else #[]) ++ rest.map some : Array (Option MapEntry))[c]? = some none → left = [] := by
    intro c w1 _ hc
    have hre : rest = #[] := by
      by_cases he : rest = #[]
      · exact he
      · have : rest.isEmpty = false := by simpa using he
        rw [this] at hc
        simp at hc
    rw [hre] at hcand
    rw [Array.filter_eq_empty_iff] at hcand
    apply List.eq_nil_iff_forall_not_mem.2
    intro i hi
    obtain ⟨q1, q2⟩ := (hleft i).1 hi
    have hlt : i < es.size := by omega
    have := hcand es[i] (Array.getElem_mem hlt)
    rw [hborn i es[i] (Array.getElem?_eq_getElem hlt)] at this
    simp at this
    exact q2 this
  have hsome : ∀ (c : Nat) (e : MapEntry), ((if rest.isEmpty then #[none] else #[]) ++ rest.map some : Array (Option MapEntry))[c]? = some (some e) → ∃ i, es[i]? = some e ∧ e.born = i ∧ i ∈ left := by
    intro c e hc
    have hmem : e ∈ rest := by
      have := Array.mem_of_getElem? hc
      simp only [Array.mem_append, Array.mem_map] at this
      rcases this with q | ⟨y, hy, e2⟩
      · split at q <;> simp at q
      · cases e2; exact hy
    rw [← hcand] at hmem
    obtain ⟨q1, q2⟩ := Array.mem_filter.1 hmem
    obtain ⟨i, hi, hie⟩ := Array.mem_iff_getElem.1 q1
    have hei : es[i]? = some e := by rw [← hie]; exact Array.getElem?_eq_getElem hi
    have hbi := hborn i e hei
    refine ⟨i, hei, hbi, (hleft i).2 ⟨by omega, ?_⟩⟩
    rw [hbi] at q2
    simpa using q2
  have hsize : 0 < ((if rest.isEmpty then #[none] else #[]) ++ rest.map some : Array (Option MapEntry)).size := by
    by_cases he : rest = #[]
    · subst he; simp
    · have : 0 < rest.size := by
        rcases Nat.eq_zero_or_pos rest.size with q | q
        · exact absurd (Array.eq_empty_of_size_eq_zero q) he
        · exact q
      simp; omega
  generalize hcs : ((if rest.isEmpty then #[none] else #[]) ++ rest.map some : Array (Option MapEntry)) = cands at *
  -- what was drawn
  have hdraw : ∃ c w1, c < cands.size ∧ (choose (.mapNext cands.size)).run P w = .ok c w1 ∧ (w1 = w ∨ w1 = w.drew) := by
    by_cases hf : cands.size ≤ 1
    · exact ⟨0, w, hsize, by simp [choose, Sem.run, Question.forced, hf], .inl rfl⟩
    · exact ⟨w.tape w.drawn (.mapNext cands.size) % cands.size, w.drew, Nat.mod_lt _ hsize, by simp only [choose, Sem.run]; rw [if_neg (by simp [Question.forced, hf])]; rfl, .inr rfl⟩
  obtain ⟨c, w1, hc, hrun, hw1⟩ := hdraw
  have hwr1 : WR Γ L0 w0 m H w1 := by
    rcases hw1 with e | e
    · rw [e]; exact h
    · rw [e]; exact h.drew
  have back : ∀ {d u r w'}, After Γ L0 w0 fr H m w1 d u r w' → After Γ L0 w0 fr H m w d u r w' := fun ha => by
    rcases hw1 with e | e
    · rw [e] at ha; exact ha
    · rw [e] at ha; exact ha.drew
  have hheap : w1.heap = w.heap := by rcases hw1 with e | e <;> rw [e] <;> rfl
  have hcell := Array.getElem?_eq_getElem hc
  cases hce : cands[c] with
  | none =>
    rw [hce] at hcell
    have hl := hstep c w1 hheap hcell
    refine ⟨_, [], .tuple #[.bool false], w1, h0 hl, ?_, back (After.pure hwr1 (.data _ _ (.tup _ _ rfl fun i y u hy hu => ?_)))⟩
    · simp only [Instr.next, Sem.run_bind, hgi, Result.andThen_ok, hgm, ge_iff_le, hnot, Bool.false_eq_true, if_false, hcand, hold, hnew, Array.append_empty, hcs, hrun, hcell, Sem.run_pure]
    · match i with
      | 0 => simp at hy hu; subst hy; subst hu; exact .bool false
      | i + 1 => simp at hy
  | some e =>
    rw [hce] at hcell
    obtain ⟨i, hei, hbi, hil⟩ := hsome c e hcell
    have hlt : i < es.size := (Array.getElem?_eq_some_iff.1 hei).1
    have hki := List.getElem?_eq_getElem (l := ks) (show i < ks.length by omega)
    have hxi := List.getElem?_eq_getElem (l := xs) (show i < xs.length by omega)
    have hob : ObIs (Live L0 m H) w1 m (.it ks xs (left.filter (· != i)) (some i)) (.mapIter (some bm) ks.length (seen.push i) ks.length) := by
      refine .it ks xs _ _ bm (seen.push i) ?_ (fun j => ?_) (fun j hj => ?_)
      · exact hmv0.mono ⟨by rw [hheap]; exact Nat.le_refl _, fun b hb hL => ⟨by rw [hheap], hL⟩⟩
      · rw [List.mem_filter, hleft j]
        simp only [bne_iff_ne, ne_eq, Array.mem_push, not_or]
        constructor
        · rintro ⟨⟨a, b⟩, c⟩; exact ⟨a, b, c⟩
        · rintro ⟨a, b, c⟩; exact ⟨⟨a, b⟩, c⟩
      · cases hj; exact ⟨by simp, by omega⟩
    obtain ⟨w', hw', haf⟩ := set_obj (fr := fr) hwr1 hg k1 (by rw [hheap]; exact k3) hob
    refine ⟨_, _, .tuple #[.bool true, e.key, e.val], w', h1 i _ _ hil hki hxi, ?_, back (haf _ _ fun L' w2 m' hgr _ => .data _ _ (.tup _ _ rfl fun j y u hy hu => ?_))⟩
    · have hset : (setObj b (.mapIter (some bm) ks.length (seen.push e.born) clock)).run P w1 = .ok () w' := by
        rw [hw', hbi, hclock, ← hkl]
        simp [setObj, Sem.run, hheap, k3]
      simp only [Instr.next, Sem.run_bind, hgi, Result.andThen_ok, hgm, ge_iff_le, hnot, Bool.false_eq_true, if_false, hcand, hold, hnew, Array.append_empty, hcs, hrun, hcell, Sem.run_pure, hset]
    · have hg2 : Grow (Live L0 m H) w L' w2 := ⟨by rw [← hheap]; exact hgr.size, fun b hb hL => by rw [← hheap]; exact hgr.keep b (by rw [hheap]; exact hb) hL⟩
      match j with
      | 0 => simp at hy hu; subst hy; subst hu; exact .bool true
      | 1 => simp at hy hu; subst hy; subst hu; exact (hk i _ e hki hei).mono hg2
      | 2 => simp at hy hu; subst hy; subst hu; exact (hx i _ e hxi hei).mono hg2
      | j + 3 => simp at hy

/-- Is a row none? -/
theorem isnil_ok {m : Nat → MB} {H : Nat → Blk} {w : World} {t : TypeId} {v : Value} {a : Option Addr} {n c : Nat} (ox oy : Operand) (ht : (sliceT P t).isSome = true) (hv : v = .slice a n c) :
    (do eqGuard .eql t ox oy v (.slice none 0 0); binOp .eql t v (.slice none 0 0) : Sem Value).run P w = .ok (.bool a.isNone) w := by
  obtain ⟨e, he⟩ := Option.isSome_iff_exists.1 ht
  have hu := und_slice P he
  subst hv
  have heq : ∀ d, (Op.equalIn (d + 1) t (.slice a n c) (.slice none 0 0)).run P w = .ok a.isNone w := fun d => by
    cases a <;> simp [Op.equalIn, run_underlying hu]
  have h2 : (Op.equal t (.slice a n c) (.slice none 0 0)).run P w = .ok a.isNone w := heq _
  cases a <;> simp [eqGuard, binOp, h2]

/-- A step of one operation. -/
theorem step_rel {m : Nat → MB} {s : St} {a : Act} {w : World} {o : Oper} {d : D} {u : List (Nat × Blk)} {v : Value} {w' : World} (h : Rel Γ L0 w0 m s a w) (hd : dstOk o s.nt = true) (ha : After Γ L0 w0 s.nx s.hp m w d u v w') :
    ∃ m', Rel Γ L0 w0 m' (stepSt s o d u) (a.put o.dst v) w' ∧ Ext L0 m s w m' (stepSt s o d u) w' := by
  obtain ⟨m', h1, h2, h3, h4⟩ := ha
  have hmr : ∀ g, m g ≠ .res → m' g = m g := fun g hg => h4 g fun e => hg (by rw [e]; exact h.res _ (Nat.le_refl _))
  have hres : ∀ g, s.nx + 1 ≤ g → m' g = .res := fun g hg => by rw [h4 g (by omega)]; exact h.res g (by omega)
  refine ⟨m', ⟨?_, ?_, h1.heap, hres, ?_, h1.below, h1.l0, h1.glob, ?_, ?_⟩, h3, fun g hg => h4 g (by have := h.lo; omega), rfl, rfl⟩
  · have : (a.put o.dst v).defers = a.defers := by cases o.dst <;> rfl
    rw [this]; exact h.defers
  · intro t
    refine dst_get (fun t ht => ?_) h2 (fun t => (h.vals t).mono h3 hmr) t
    rw [h.slots]
    simpa [dstOk, ht] using hd
  · intro g hg
    exact h1.none (hres g hg)
  · exact Nat.le_succ_of_le h.lo
  · rw [put_slots]; exact h.slots

theorem wanted_ok {ops : Array Oper} {e : Nat → D} {a : Act} {L : Nat → Prop} {w : World} {m : Nat → MB} {o : Oper} {b : Bool} (h : ∀ t, VV L w m (e t) (a.tmps.getD t undef)) (hw : wantedD ops e o = some b) : Region.wanted o (yielded ops a.tmps) = b := by
  unfold wantedD at hw
  unfold Region.wanted
  cases hg : o.guard with
  | none => rw [hg] at hw; simpa using hw
  | some jw =>
    obtain ⟨j, want⟩ := jw
    rw [hg] at hw
    simp only at hw ⊢
    unfold yielded
    cases hj : (ops[j]?).bind (·.dst) with
    | none => rw [hj] at hw; simp only [Option.some.injEq] at hw; subst hw; simp
    | some t =>
      rw [hj] at hw
      simp only at hw
      have ht := h t
      simp only [Option.bind_some]
      split at hw
      · rename_i b' hb
        rw [hb] at ht
        have := ht.data_inv
        generalize hv : a.tmps.getD t undef = v at this
        cases this
        have hlt : a.tmps[t]? = some (.bool b') := by
          rcases Nat.lt_or_ge t a.tmps.size with h1 | h1
          · simp [h1] at hv; simp [h1, hv]
          · simp [Array.getElem?_eq_none h1, undef] at hv
        rw [hlt]
        simp only [Option.some.injEq] at hw
        subst hw
        simp
      · rename_i hb
        rw [hb] at ht
        have := ht.data_inv
        generalize hv : a.tmps.getD t undef = v at this
        cases this with
        | tup _ vs hl _ =>
        simp only [Option.some.injEq] at hw
        subst hw
        cases hq : a.tmps[t]? with
        | none => simp
        | some x =>
          have : x = .tuple vs := by simpa [hq] using hv
          subst this
          simp
      · cases hw

theorem undef_ok (L : Nat → Prop) (w : World) (m : Nat → MB) : VV L w m undefD undef := .data _ _ (.tup [] #[] rfl (fun i x v hx => by simp at hx))

/-- A call on the caller's own numbered rows. -/
theorem dc_step {m : Nat → MB} {s : St} {a : Act} {w : World} {o : Oper} {K : St → Prop} {next : Act → World → Prop} {Q : Exit → Act → World → Prop} (h : Rel Γ L0 w0 m s a w) (hd : dstOk o s.nt = true)
    (hk : dcK P Γ o s.env s.hp s.nx fun d H' nx' => K ⟨Env.dst s.env o.dst d, H', nx', s.lo, s.nt⟩)
    (hn : ∀ m' s' a' w', Rel Γ L0 w0 m' s' a' w' → Ext L0 m s w m' s' w' → K s' → next a' w') : o.wp P a w next Q := by
  obtain ⟨dst, op, type, pos, after, guard⟩ := o
  unfold dcK at hk
  have viaAfter : ∀ (hr : Runs P ⟨dst, op, type, pos, after, guard⟩ a w fun v w' => ∃ d u, K ⟨Env.dst s.env dst d, Hp.upd s.hp u, s.nx + 1, s.lo, s.nt⟩ ∧ After Γ L0 w0 s.nx s.hp m w d u v w'), Oper.wp P ⟨dst, op, type, pos, after, guard⟩ a w next Q := fun hr => by
    refine hr.wp fun v w' ⟨d, u, hK, ha⟩ => ?_
    obtain ⟨m', h1, h2⟩ := step_rel h hd ha
    exact hn m' _ _ _ h1 h2 hK
  have hρ : ∀ x, VV (Live L0 m s.hp) w m (evalD Γ s.env x) (a.eval x) := fun x => eval_ok h.glob h.vals x
  cases op <;> simp only at hk
  case next it isStr =>
    split at hk
    · rename_i heq; cases heq
    · rename_i it' heq
      cases heq
      split at hk
      · rename_i g hx
        have hxv := hρ it
        rw [hx] at hxv
        split at hk
        · rename_i ks xs left cur hg
          obtain ⟨d, u, r, w', q1, q2, q3⟩ := next_ok (P := P) (fr := s.nx) (ty := type) (K := fun d H' => K ⟨Env.dst s.env dst d, H', s.nx + 1, s.lo, s.nt⟩) h.wr hg hxv hk.1 hk.2
          exact viaAfter (.inl ⟨r, w', by simp [execOp, q2], d, u, q1, q3⟩)
        · exact hk.elim
      · exact hk.elim
    all_goals first | exact hk.elim | (rename_i heq; cases heq)
  case binOp op t x y yt =>
    split at hk
    · rename_i heq; cases heq
    · rename_i heq; cases heq
    · rename_i t' x' yt' heq
      cases heq
      obtain ⟨ht, hk⟩ := hk
      have hxv := hρ x
      have fin : ∀ (q : Option Addr) (n c : Nat), a.eval x = .slice q n c → K ⟨Env.dst s.env dst (.data (.bool q.isNone)), Hp.upd s.hp [], s.nx + 1, s.lo, s.nt⟩ → Oper.wp P ⟨dst, .binOp .eql t x (.const (.slice none 0 0)) yt, type, pos, after, guard⟩ a w next Q := fun q n c hv hK =>
        viaAfter (.inl ⟨.bool q.isNone, w, by
          have := isnil_ok (P := P) (m := m) (H := s.hp) (w := w) (t := t) (v := a.eval x) (a := q) (n := n) (c := c) x (.const (.slice none 0 0)) ht hv
          simp only [execOp, Act.eval]
          simp only [Act.eval] at this
          rw [Sem.run_bind, this]; rfl, _, [], hK, After.pure h.wr (.data _ _ (.bool _))⟩)
      split at hk
      · rename_i es l hx
        rw [hx] at hxv
        have hxv := hxv.data_inv
        generalize hce : a.eval x = vx at hxv
        cases hxv with
        | sl _ _ q n cap b off vs hn hle hm hes ha hc hv =>
        refine fin q n cap hce (hk _ fun hq => ?_)
        rcases ha with ⟨rfl, _⟩ | h0
        · cases hq
        · exact h0
      · rename_i g off len es hx
        rw [hx] at hxv
        generalize hce : a.eval x = vx at hxv
        cases hxv with
        | ref _ _ _ _ b sz cap o j1 j2 j3 j4 j5 => exact fin _ _ _ hce (hk _ fun hq => by cases hq)
        | ref0 _ _ q j1 => exact fin _ _ _ hce (hk _ fun hq => rfl)
      · rename_i es hx
        rw [hx] at hxv
        generalize hce : a.eval x = vx at hxv
        cases hxv with
        | emp _ q => exact fin _ _ _ hce (hk _)
      · exact hk.elim
    · exact hk.elim
  case call c =>
    obtain ⟨callee, args, argTypes⟩ := c
    cases callee <;> simp only at hk
    case value x =>
      split at hk
      · rename_i f pre caps hf
        obtain ⟨hcall, hk⟩ := hk
        have hρ : ∀ x, VV (Live L0 m s.hp) w m (evalD Γ s.env x) (a.eval x) := fun x => eval_ok h.glob h.vals x
        have hargs : ∀ (i : Nat) (d : D) (v : Value), (args.toList.map (evalD Γ s.env))[i]? = some d → (args.map a.eval)[i]? = some v → VV (Live L0 m s.hp) w m d v := fun i d v h1 h2 => by
          simp only [List.getElem?_map, Option.map_eq_some_iff, Array.getElem?_toList] at h1
          simp only [Array.getElem?_map, Option.map_eq_some_iff] at h2
          obtain ⟨y, hy, rfl⟩ := h1
          obtain ⟨y', hy', rfl⟩ := h2
          rw [hy] at hy'; cases hy'
          exact hρ _
        obtain ⟨pvs, cvs, hce, hpl, hpv, hcl, hch⟩ := callee_ok (hρ x) hf
        have hc := hk L0 w0 m w (pvs ++ (args.map a.eval ++ cvs)) h.wr h.res h.dead (by simp [hcl, hpl]) (args_ok hpl hpv (by simp) hargs hch)
        have hrun : (execOp a.eval ⟨dst, .call ⟨.value x, args, argTypes⟩, type, pos, after, guard⟩).run P w = .ok (.enter f (pvs ++ (args.map a.eval ++ cvs))) w := by
          simp only [execOp, resolve, Sem.run_bind, hce, Deferred.ofValue, Sem.run_pure, Result.andThen_ok, invoke]
          rw [← Array.append_assoc]
          exact hcall _ w
        unfold Oper.wp
        rw [hrun, Oper.upon_enter]
        refine hc.mono fun e w' ⟨v, d, H', nx', m', he, k1, k2, k3, k4, k5, k6, k7⟩ => ?_
        subst he
        simp only
        have hmr : ∀ g, m g ≠ .res → m' g = m g := fun g hg => k4 g (Nat.lt_of_not_le fun hle => hg (h.res g hle))
        have hrel : Rel Γ L0 w0 m' ⟨Env.dst s.env dst d, H', nx', s.lo, s.nt⟩ (a.put dst v) w' := by
          refine ⟨?_, ?_, k1.heap, k5, ?_, k1.below, k1.l0, k1.glob, Nat.le_trans h.lo k6, by rw [put_slots]; exact h.slots⟩
          · have : (a.put dst v).defers = a.defers := by cases dst <;> rfl
            rw [this]; exact h.defers
          · intro t
            refine dst_get (fun t ht => ?_) k2 (fun t => (h.vals t).mono k3 hmr) t
            rw [h.slots]
            simpa [dstOk, ht] using hd
          · intro g hg
            exact k1.none (k5 g hg)
        exact hn m' _ _ _ hrel ⟨k3, fun g hg => k4 g (Nat.lt_of_lt_of_le hg h.lo), rfl, rfl⟩ k7
      · exact hk.elim
    all_goals exact hk.elim
  all_goals exact hk.elim

/-- Operations in the order of the text keep the relation. -/
theorem ops_sound {ops : Array Oper} {Q : Exit → Act → World → Prop} {K : St → Prop} : ∀ (l : List Oper) (m : Nat → MB) (s : St) (a : Act) (w : World), Rel Γ L0 w0 m s a w → opsW P Γ ops l s K →
    (∀ m' s' a' w', Rel Γ L0 w0 m' s' a' w' → Ext L0 m s w m' s' w' → K s' → Q .normal a' w') → wpList P ops Q l a w
  | [], m, s, a, w, h, hk, hQ => hQ m s a w h (Ext.refl _ _ _ _) hk
  | o :: rest, m, s, a, w, h, hk, hQ => by
    obtain ⟨hd, hk⟩ := hk
    have viaOp : (opK P Γ o s.env s.hp s.nx fun d _ u => opsW P Γ ops rest (stepSt s o d u) K) → o.wp P a w (wpList P ops Q rest) Q := fun hk => by
      obtain ⟨d, rd, u, hk, hr⟩ := op_sound h.wr (h.res _ (Nat.le_refl _)) (h.dead _ (Nat.le_refl _)) h.vals hk
      refine hr.wp fun v w' ha => ?_
      obtain ⟨m', h1, h2⟩ := step_rel h hd ha
      exact ops_sound rest m' _ _ _ h1 hk fun m'' s' a' w'' h3 h4 h5 => hQ m'' s' a' w'' h3 (h2.trans h4) h5
    have viaDc : (dcK P Γ o s.env s.hp s.nx fun d H' nx' => opsW P Γ ops rest ⟨Env.dst s.env o.dst d, H', nx', s.lo, s.nt⟩ K) → o.wp P a w (wpList P ops Q rest) Q := fun hk =>
      dc_step h hd hk fun m' s' a' w' h1 h2 h3 => ops_sound rest m' _ _ _ h1 h3 fun m'' s' a' w'' h4 h5 h6 => hQ m'' s' a' w'' h4 (h2.trans h5) h6
    unfold wpList
    cases hw : wantedD ops s.env o with
    | none => rw [hw] at hk; exact hk.elim
    | some b =>
      rw [hw] at hk
      rw [wanted_ok h.vals hw]
      cases b with
      | true =>
        simp only [ifW] at hk
        rw [if_pos rfl]
        left
        split at hk
        · rcases hk with hk | hk
          · exact viaOp hk
          · exact viaDc hk
        · exact viaOp hk
      | false =>
        simp only [ifW] at hk
        rw [if_neg (by simp)]
        obtain ⟨m', h1, h2⟩ := step_rel (d := undefD) (u := []) (v := undef) (w' := w) h hd ⟨m, h.wr, undef_ok _ _ _, Grow.refl _ _, fun _ _ => rfl⟩
        exact ops_sound rest m' _ _ _ h1 hk fun m'' s' a' w'' h3 h4 h5 => hQ m'' s' a' w'' h3 (h2.trans h4) h5
end
end Go.Proofs.Ytdodhnkbdechaaa
namespace Go.Proofs.Ytdodhnkbdechaaa
open Go.RowKit
set_option linter.unusedVariables false
set_option linter.unusedSimpArgs false

/-- What an operation has looked at, and what it has changed. -/
structure Tr where
  rd : List Nat
  ks : List Nat

/-- Which operations each one comes behind, as bits. -/
def ancs : List Oper → List Nat → List Nat
  | [], acc => acc
  | o :: rest, acc => ancs rest (acc ++ [o.after.toList.foldl (fun s e => if Region.binds .any e then s ||| 2 ^ e.on ||| acc.getD e.on 0 else s) 0])

def slotsOf (ops : Array Oper) (o : Oper) : List Nat := o.looksAt ops
/-- Of two operations, the earlier in the text at i: they are in order, or apart. -/
def pairOk (ops : Array Oper) (i j : Nat) (oi oj : Oper) (ti tj : Tr) (aj : Nat) : Bool :=
  (match oi.dst, oj.dst with
    | some s, some t => s != t
    | _, _ => true) &&
  (aj.testBit i ||
    ((match oi.dst with
      | some s => !(slotsOf ops oj).contains s
      | none => true) &&
    (match oj.dst with
      | some s => !(slotsOf ops oi).contains s
      | none => true) &&
    ti.ks.all (fun g => !tj.rd.contains g && !tj.ks.contains g) && tj.ks.all fun g => !ti.rd.contains g))
def pairsOk (ops : Array Oper) (l : List (Oper × Tr × Nat)) : Bool :=
  (List.range l.length).all fun j => (List.range j).all fun i => match l[i]?, l[j]? with
    | some (oi, ti, _), some (oj, tj, aj) => pairOk ops i j oi oj ti tj aj
    | _, _ => true
def drawOk (ops : Array Oper) (tr : List Tr) : Bool :=
  pairsOk ops (ops.toList.zip (tr.zip (ancs ops.toList []))) && ((List.range ops.size).all fun i => match ops[i]? with
    | some o => o.after.all fun e => !Region.binds .any e || decide (e.on < i)
    | none => true)

/-- Behind an operation that has used up some numbers from fr on. -/
def AfterK (Γ : Nat → Option (List Data)) (L0 : Nat → Prop) (w0 : W0) (fr k : Nat) (H : Nat → Blk) (m : Nat → MB) (w : World) (d : D) (u : List (Nat × Blk)) (v : Value) (w' : World) : Prop :=
  ∃ m', WR Γ L0 w0 m' (Hp.upd H u) w' ∧ VV (Live L0 m' (Hp.upd H u)) w' m' d v ∧ Grow (Live L0 m H) w (Live L0 m' (Hp.upd H u)) w' ∧ ∀ g, (g < fr ∨ fr + k ≤ g) → m' g = m g
theorem After.k {Γ : Nat → Option (List Data)} {L0 : Nat → Prop} {w0 : W0} {fr : Nat} {H : Nat → Blk} {m : Nat → MB} {w : World} {d : D} {u : List (Nat × Blk)} {v : Value} {w' : World} (h : After Γ L0 w0 fr H m w d u v w') : AfterK Γ L0 w0 fr 1 H m w d u v w' := by
  obtain ⟨m', h1, h2, h3, h4⟩ := h
  exact ⟨m', h1, h2, h3, fun g hg => h4 g (by omega)⟩

section
variable (P : Program) (Γ : Nat → Option (List Data))
/-- A call whose doing at these rows is known. -/
def EC (f : FuncId) (ds : List D) (H : Nat → Blk) (fr k : Nat) (d : D) (u : List (Nat × Blk)) : Prop :=
  CallOk P f ∧ ∀ (L0 : Nat → Prop) (w0 : W0) (m : Nat → MB) (w : World) (vs : Array Value), WR Γ L0 w0 m H w → (∀ q, q < k → m (fr + q) = .res) → (∀ g, fr + 64 ≤ g → m g = .res) → ds.length = vs.size →
    (∀ (i : Nat) (d : D) (v : Value), ds[i]? = some d → vs[i]? = some v → VV (Live L0 m H) w m d v) → Calls P f vs w fun e w' => ∃ v, e = .returned v ∧ AfterK Γ L0 w0 fr k H m w d u v w'
def effC (f : FuncId) (ds : List D) (H : Nat → Blk) (fr : Nat) (K : D → List Nat → List (Nat × Blk) → Nat → Prop) : Prop :=
  ∃ d rd u k, 0 < k ∧ (∀ H', (∀ g ∈ rd, H' g = H g) → (∀ g ∈ u.map (·.1), H' g = H g) → EC P Γ f ds H' fr k d u) ∧ K d rd u k
def effK (o : Oper) (e : Nat → D) (H : Nat → Blk) (fr : Nat) (K : D → List Nat → List (Nat × Blk) → Nat → Prop) : Prop := match o.op with
  | .call c => (match c.callee with
    | .value x => (match fnD (evalD Γ e x) with
      | some (f, pre, caps) => effC P Γ f (pre ++ (c.args.toList.map (evalD Γ e) ++ caps)) H fr K
      | none => False)
    | _ => False)
  | _ => False
def stepK (s : St) (o : Oper) (d : D) (u : List (Nat × Blk)) (k : Nat) : St := ⟨Env.dst s.env o.dst d, Hp.upd s.hp u, s.nx + k, s.lo, s.nt⟩
def drawW (ops : Array Oper) : List Oper → St → List Tr → (St → List Tr → Prop) → Prop
  | [], s, tr, K => K s tr.reverse
  | o :: rest, s, tr, K => dstOk o s.nt = true ∧ (match wantedD ops s.env o with
    | some b => ifW b (ifW (isCall o) ((opK P Γ o s.env s.hp s.nx fun d rd u => drawW ops rest (stepSt s o d u) (⟨rd, u.map (·.1)⟩ :: tr) K) ∨ effK P Γ o s.env s.hp s.nx fun d rd u k => drawW ops rest (stepK s o d u k) (⟨rd, u.map (·.1)⟩ :: tr) K)
        (opK P Γ o s.env s.hp s.nx fun d rd u => drawW ops rest (stepSt s o d u) (⟨rd, u.map (·.1)⟩ :: tr) K)) (drawW ops rest (stepSt s o undefD []) (⟨[], []⟩ :: tr) K)
    | none => False)

/-- What an operation came to in the order of the text. -/
structure Res where
  d : D
  rd : List Nat
  u : List (Nat × Blk)
  k : Nat
def Res.tr (r : Res) : Tr := ⟨r.rd, r.u.map (·.1)⟩

/-- An operation at a state comes to this. -/
def Comes1 (ops : Array Oper) (o : Oper) (s : St) (r : Res) : Prop := dstOk o s.nt = true ∧ (match wantedD ops s.env o with
    | some true => (r.k = 1 ∧ opK P Γ o s.env s.hp s.nx fun d rd u => d = r.d ∧ rd = r.rd ∧ u = r.u) ∨ effK P Γ o s.env s.hp s.nx fun d rd u k => d = r.d ∧ rd = r.rd ∧ u = r.u ∧ k = r.k
    | some false => r = ⟨undefD, [], [], 1⟩
    | none => False)
end

section
variable {P : Program} {Γ : Nat → Option (List Data)} {L0 : Nat → Prop} {w0 : W0}

/-- opK at its own outcome. -/
def IsOp (P : Program) (Γ : Nat → Option (List Data)) (o : Oper) (e : Nat → D) (H : Nat → Blk) (fr : Nat) (d : D) (rd : List Nat) (u : List (Nat × Blk)) : Prop := opK P Γ o e H fr fun d' rd' u' => d' = d ∧ rd' = rd ∧ u' = u

/-- It goes on in one way alone. -/
def Lin (F : (D → List Nat → List (Nat × Blk) → Prop) → Prop) : Prop := ∀ K, F K → ∃ d rd u, F (fun d' rd' u' => d' = d ∧ rd' = rd ∧ u' = u) ∧ K d rd u
theorem lin_false : Lin (fun _ => False) := fun K h => h.elim
theorem lin_k (d : D) (rd : List Nat) (u : List (Nat × Blk)) : Lin (fun K => K d rd u) := fun K h => ⟨d, rd, u, ⟨rfl, rfl, rfl⟩, h⟩
theorem lin_and {p : Prop} {F : (D → List Nat → List (Nat × Blk) → Prop) → Prop} (h : Lin F) : Lin (fun K => p ∧ F K) := fun K ⟨hp, hf⟩ => by
  obtain ⟨d, rd, u, h1, h2⟩ := h K hf
  exact ⟨d, rd, u, ⟨hp, h1⟩, h2⟩
theorem lin_ex {α : Type} {F : α → (D → List Nat → List (Nat × Blk) → Prop) → Prop} (h : ∀ x, Lin (F x)) : Lin (fun K => ∃ x, F x K) := fun K ⟨x, hf⟩ => by
  obtain ⟨d, rd, u, h1, h2⟩ := h x K hf
  exact ⟨d, rd, u, ⟨x, h1⟩, h2⟩
theorem lin_ite {c : Prop} [Decidable c] {F G : (D → List Nat → List (Nat × Blk) → Prop) → Prop} (h1 : Lin F) (h2 : Lin G) : Lin (fun K => if c then F K else G K) := by
  by_cases h : c
  · simp only [h, if_true]; exact h1
  · simp only [h, if_false]; exact h2

set_option maxHeartbeats 2000000 in
theorem op_lin (o : Oper) (e : Nat → D) (H : Nat → Blk) (fr : Nat) : Lin (opK P Γ o e H fr) := by
  unfold opK
  obtain ⟨dst, op, type, pos, after, guard⟩ := o
  cases op <;> simp only
  case call c =>
    obtain ⟨callee, args, argTypes⟩ := c
    cases callee <;> simp only
    case value x =>
      split
      · unfold callK
        repeat' first | exact lin_k _ _ _ | apply lin_and | (apply lin_ex; intro _)
      · exact lin_false
    case builtin b =>
      cases b <;> simp only
      all_goals (try unfold lenK); (try unfold capK); (try unfold appendK); (try unfold copyK); (try unfold clearK); (try unfold minmaxK); (try unfold srcK zerosK)
      all_goals (repeat' first | exact lin_false | exact lin_k _ _ _ | apply lin_and | (apply lin_ex; intro _) | apply lin_ite | split | dsimp only | unfold srcK | unfold zerosK | unfold boundsK)
    case invoke =>
      split
      · refine lin_ex fun f => lin_and ?_
        unfold callK
        repeat' first | exact lin_k _ _ _ | apply lin_and | (apply lin_ex; intro _)
      · exact lin_false
  case makeMap t r =>
    cases r
    · exact lin_k _ _ _
    · exact lin_false
  all_goals (try unfold buildK); (try unfold extractK); (try unfold zerosK); (try unfold loadK); (try unfold storeK); (try unfold binK eqK); (try unfold unK); (try unfold convK markK); (try unfold sliceK sliceArrK); (try unfold cutK); (try unfold boundsC); (try unfold lookupK lookK); (try unfold zvK); (try unfold insertK); (try unfold entryK); (try unfold boundsK); (try unfold fieldAddrK); (try unfold fieldK); (try unfold indexAddrK); (try unfold indexK); (try unfold partK)
  all_goals (repeat' first | exact lin_false | exact lin_k _ _ _ | apply lin_and | (apply lin_ex; intro _) | apply lin_ite | split | dsimp only | unfold srcK | unfold zerosK | unfold boundsK | unfold lookK | unfold zvK)
theorem eff_lin (o : Oper) (e : Nat → D) (H : Nat → Blk) (fr : Nat) {K : D → List Nat → List (Nat × Blk) → Nat → Prop} (h : effK P Γ o e H fr K) : ∃ d rd u k, (effK P Γ o e H fr fun d' rd' u' k' => d' = d ∧ rd' = rd ∧ u' = u ∧ k' = k) ∧ K d rd u k := by
  unfold effK at h ⊢
  split at h
  · split at h
    · split at h
      · obtain ⟨d, rd, u, k, h1, h2, h3⟩ := h
        exact ⟨d, rd, u, k, ⟨d, rd, u, k, h1, h2, rfl, rfl, rfl, rfl⟩, h3⟩
      · exact h.elim
    · exact h.elim
  · exact h.elim
theorem eff_congr {o : Oper} {e e' : Nat → D} (h : ∀ x ∈ o.op.operands, evalD Γ e' x = evalD Γ e x) (H : Nat → Blk) (fr : Nat) (K : D → List Nat → List (Nat × Blk) → Nat → Prop) : effK P Γ o e' H fr K = effK P Γ o e H fr K := by
  obtain ⟨dst, op, type, pos, after, guard⟩ := o
  cases op <;> simp only [effK, Op.operands] at h ⊢
  case call c =>
    obtain ⟨callee, args, argTypes⟩ := c
    have hargs : args.toList.map (evalD Γ e') = args.toList.map (evalD Γ e) := by
      apply List.map_congr_left
      intro x hx
      refine h x ?_
      simp only [Call.operands, Array.mem_append]
      exact .inr (by simpa using hx)
    cases callee <;> simp only
    case value x =>
      have hx : evalD Γ e' x = evalD Γ e x := h x (by simp [Call.operands])
      rw [hargs, hx]
theorem eff_loc {o : Oper} {e : Nat → D} {H H' : Nat → Blk} {fr : Nat} {d : D} {rd : List Nat} {u : List (Nat × Blk)} {k : Nat} (h : effK P Γ o e H fr fun d' rd' u' k' => d' = d ∧ rd' = rd ∧ u' = u ∧ k' = k)
    (hr : ∀ g ∈ rd, H' g = H g) (hu : ∀ g ∈ u.map (·.1), H' g = H g) : effK P Γ o e H' fr fun d' rd' u' k' => d' = d ∧ rd' = rd ∧ u' = u ∧ k' = k := by
  unfold effK at *
  split at h
  · split at h
    · split at h
      · obtain ⟨d1, rd1, u1, k1, h0, h1, rfl, rfl, rfl, rfl⟩ := h
        exact ⟨d1, rd1, u1, k1, h0, fun H2 a b => h1 H2 (fun g hg => (a g hg).trans (hr g hg)) (fun g hg => (b g hg).trans (hu g hg)), rfl, rfl, rfl, rfl⟩
      · exact h.elim
    · exact h.elim
  · exact h.elim

theorem op_congr {o : Oper} {e e' : Nat → D} (h : ∀ x ∈ o.op.operands, evalD Γ e' x = evalD Γ e x) (H : Nat → Blk) (fr : Nat) (K : D → List Nat → List (Nat × Blk) → Prop) : opK P Γ o e' H fr K = opK P Γ o e H fr K := by
  obtain ⟨dst, op, type, pos, after, guard⟩ := o
  cases op <;> simp only [opK, Op.operands] at h ⊢
  case move x => rw [h x (by simp)]
  case assign x => rw [h x (by simp)]
  case pick c a b => rw [h c (by simp), h a (by simp), h b (by simp)]
  case box t x => rw [h x (by simp)]
  case build t parts =>
    have : parts.toList.map (fun x => (x.1, evalD Γ e' x.2)) = parts.toList.map (fun x => (x.1, evalD Γ e x.2)) := by
      apply List.map_congr_left
      intro x hx
      rw [h x.2 (by simp only [List.mem_toArray, List.mem_map]; exact ⟨x, hx, rfl⟩)]
    rw [this]
  case buildSlice t len parts =>
    have : parts.toList.map (fun x => (x.1, evalD Γ e' x.2)) = parts.toList.map (fun x => (x.1, evalD Γ e x.2)) := by
      apply List.map_congr_left
      intro x hx
      rw [h x.2 (by simp only [List.mem_toArray, List.mem_map]; exact ⟨x, hx, rfl⟩)]
    rw [this]
  case load t x => rw [h x (by simp)]
  case store t a x => rw [h a (by simp), h x (by simp)]
  case binOp op t x y _ => rw [h x (by simp), h y (by simp)]
  case unOp op _ x => rw [h x (by simp)]
  case convert s d x => rw [h x (by simp)]
  case makeSlice t l c => rw [h l (by simp), h c (by simp)]
  case slice t x lo hi mx =>
    have hlo : lo.map (evalD Γ e') = lo.map (evalD Γ e) := by cases lo with | none => rfl | some y => simp [h y (by simp)]
    have hhi : hi.map (evalD Γ e') = hi.map (evalD Γ e) := by cases hi with | none => rfl | some y => simp [h y (by simp)]
    have hmx : mx.map (evalD Γ e') = mx.map (evalD Γ e) := by cases mx with | none => rfl | some y => simp [h y (by simp)]
    rw [h x (by simp), hlo, hhi, hmx]
  case fieldAddr t x f => rw [h x (by simp)]
  case field t x f => rw [h x (by simp)]
  case indexAddr t x ix => rw [h x (by simp), h ix (by simp)]
  case index t x ix => rw [h x (by simp), h ix (by simp)]
  case extract x i => rw [h x (by simp)]
  case makeInterface t x => rw [h x (by simp)]
  case typeAssert x st t ok => rw [h x (by simp)]
  case nilCheck x => rw [h x (by simp)]
  case makeMap t r => cases r <;> rfl
  case insert t m k x => rw [h m (by simp), h k (by simp), h x (by simp)]
  case mapUpdate t m k x => rw [h m (by simp), h k (by simp), h x (by simp)]
  case lookup t x i ok => rw [h x (by simp), h i (by simp)]
  case range t x => rw [h x (by simp)]
  case entry x => rw [h x (by simp)]
  case makeFunc f first caps =>
    have : caps.toList.map (evalD Γ e') = caps.toList.map (evalD Γ e) := by
      apply List.map_congr_left
      intro x hx
      exact h x (by simp only [Array.mem_append]; exact .inr (by simpa using hx))
    rw [this]
    have hone : ∀ x, x ∈ first.toList → evalD Γ e' x = evalD Γ e x := fun x hx => h x (by simp only [Array.mem_append]; exact .inl (by simpa using hx))
    generalize first.toList = fl at hone
    match f, fl, hone with
    | .func f, [], _ => rfl
    | .func f, [r], hone =>
      have := hone r (by simp)
      simp only [this]
    | .func f, _ :: _ :: _, _ => rfl
    | .method .., _, _ => rfl
    | .methodOf .., _, _ => rfl
    | .via .., _, _ => rfl
    | .yield .., _, _ => rfl
  case call c =>
    obtain ⟨callee, args, argTypes⟩ := c
    have hargs : args.toList.map (evalD Γ e') = args.toList.map (evalD Γ e) := by
      apply List.map_congr_left
      intro x hx
      refine h x ?_
      simp only [Call.operands, Array.mem_append]
      exact .inr (by simpa using hx)
    have hone : ∀ x, x ∈ args.toList → evalD Γ e' x = evalD Γ e x := fun x hx => h x (by
      simp only [Call.operands, Array.mem_append]
      exact .inr (by simpa using hx))
    cases callee <;> simp only
    case value x =>
      have hx : evalD Γ e' x = evalD Γ e x := h x (by simp [Call.operands])
      rw [hargs, hx]
    case invoke x name =>
      have hx : evalD Γ e' x = evalD Γ e x := h x (by simp [Call.operands])
      rw [hargs, hx]
    case builtin b =>
      cases b <;> simp only
      case len =>
        split
        · rename_i t x _ hx
          rw [hone x (by rw [hx]; simp)]
        · rfl
      case append =>
        split
        · rename_i st xt x y _ _ hx
          rw [hone x (by rw [hx]; simp), hone y (by rw [hx]; simp)]
        · rfl
      case copy =>
        split
        · rename_i st x y _ hx
          rw [hone x (by rw [hx]; simp), hone y (by rw [hx]; simp)]
        · rfl
      case clear =>
        split
        · rename_i t x _ hx
          rw [hone x (by rw [hx]; simp)]
        · rfl
      case cap =>
        split
        · rename_i t x _ hx
          rw [hone x (by rw [hx]; simp)]
        · rfl
      case min => rw [hargs]
      case max => rw [hargs]

theorem boundsK_iff {len : Nat} {lo hi : Option D} {K : Nat → Nat → Prop} : boundsK len lo hi K ↔ ∃ a b, boundsK len lo hi (fun a' b' => a' = a ∧ b' = b) ∧ K a b := by
  unfold boundsK
  constructor
  · intro h
    split at h
    · obtain ⟨h0, h1, h2, h⟩ := h
      exact ⟨_, _, ⟨h0, h1, h2, rfl, rfl⟩, h⟩
    · exact h.elim
  · rintro ⟨a, b, h, hk⟩
    split at h
    · obtain ⟨h0, h1, h2, rfl, rfl⟩ := h
      exact ⟨h0, h1, h2, hk⟩
    · exact h.elim

theorem src_loc {y : D} {es : Nat} {H H' : Nat → Blk} {K : Nat → List D → List Nat → Prop} (h : srcK y es H K) (ha : ∀ n cs rd, K n cs rd → ∀ g ∈ rd, H' g = H g) : srcK y es H' K := by
  unfold srcK at *
  split at h
  · exact h
  · exact h
  · obtain ⟨h1, h⟩ := h
    refine ⟨h1, ?_⟩
    split at h
    · rename_i hg
      obtain ⟨h2, h⟩ := h
      rw [ha _ _ _ h _ (by simp), hg]
      exact ⟨h2, h⟩
    · exact h.elim
  · obtain ⟨h1, h⟩ := h
    refine ⟨h1, ?_⟩
    split at h
    · rename_i hg
      obtain ⟨h2, h⟩ := h
      rw [ha _ _ _ h _ (by simp), hg]
      exact ⟨h2, h⟩
    · exact h.elim
  · exact h
  · exact h

theorem src_ex {y : D} {es : Nat} {H : Nat → Blk} {K : Nat → List D → List Nat → Prop} (h : srcK y es H K) : ∃ n cs rd, K n cs rd := by
  unfold srcK at h
  split at h
  · exact ⟨_, _, _, h⟩
  · exact ⟨_, _, _, h.2⟩
  · obtain ⟨_, h⟩ := h
    split at h
    · exact ⟨_, _, _, h.2⟩
    · exact h.elim
  · obtain ⟨_, h⟩ := h
    split at h
    · exact ⟨_, _, _, h.2⟩
    · exact h.elim
  · exact ⟨_, _, _, h.2⟩
  · exact h.elim

theorem ins_loc {t : TypeId} {x key v d : D} {H H' : Nat → Blk} {rd : List Nat} {u : List (Nat × Blk)} (h : insertK P t x key v H fun rd' u' => D.junk = d ∧ rd' = rd ∧ u' = u) (hr : ∀ g ∈ rd, H' g = H g) : insertK P t x key v H' fun rd' u' => D.junk = d ∧ rd' = rd ∧ u' = u := by
  unfold insertK at *
  split at h
  · obtain ⟨h1, h⟩ := h
    refine ⟨h1, ?_⟩
    split at h
    · rename_i hg
      have hrd : ∀ g, [g] = rd → H' g = H g := fun g e => hr g (by rw [← e]; simp)
      split at h
      · rename_i hf
        rw [hrd _ h.2.1, hg]
        simp only [hf]
        exact h
      · rename_i hf
        rw [hrd _ h.2.1, hg]
        simp only [hf]
        exact h
      · exact h.elim
    · exact h.elim
  · exact h.elim
theorem look_ex {et : TypeId} {ks : List Data} {xs : List D} {k : Data} {ok : Bool} {d : D} {rd0 rd : List Nat} {u0 u : List (Nat × Blk)} (h : lookK P et ks xs k ok fun d' => d' = d ∧ rd0 = rd ∧ u0 = u) : rd0 = rd := by
  unfold lookK zvK at h
  repeat' split at h
  all_goals first | exact h.2.1 | exact h.elim

theorem call_loc {f : FuncId} {ds : List D} {H H' : Nat → Blk} {d : D} {rd : List Nat} {u : List (Nat × Blk)} (h : callK P Γ f ds H fun d' rd' u' => d' = d ∧ rd' = rd ∧ u' = u)
    (hr : ∀ g ∈ rd, H' g = H g) (hu : ∀ g ∈ u.map (·.1), H' g = H g) : callK P Γ f ds H' fun d' rd' u' => d' = d ∧ rd' = rd ∧ u' = u := by
  obtain ⟨F, xs, r, rd', hF, hpc, hfz, h1, h2, h3⟩ := h
  have hkey : ∀ g ∈ F, H' g = H g := fun g hg => by
    obtain ⟨rw, cells, hb⟩ := hF g hg
    refine hu g (by rw [← h3]; simp only [List.map_map, List.mem_map]; exact ⟨g, hg, rfl⟩)
  have hmap : F.map (fun g => (g, fz (H' g))) = F.map fun g => (g, fz (H g)) := List.map_congr_left fun g hg => by rw [hkey g hg]
  refine ⟨F, xs, r, rd', fun g hg => by rw [hkey g hg]; exact hF g hg, hpc, ?_, h1, h2, by rw [hmap]; exact h3⟩
  rw [hmap]
  rcases hfz with ⟨q1, q2, q3⟩ | q3
  · exact .inl ⟨q1, q2, fun H2 hH2 => q3 H2 fun g hg => (hH2 g hg).trans (hr g (by rw [← h2]; exact hg))⟩
  · exact .inr fun H2 hH2 => q3 H2 fun g hg => (hH2 g hg).trans (hr g (by rw [← h2]; exact hg))
theorem op_loc {o : Oper} {e : Nat → D} {H H' : Nat → Blk} {fr : Nat} {d : D} {rd : List Nat} {u : List (Nat × Blk)} (h : opK P Γ o e H fr fun d' rd' u' => d' = d ∧ rd' = rd ∧ u' = u)
    (hr : ∀ g ∈ rd, H' g = H g) (hu : ∀ g ∈ u.map (·.1), H' g = H g) : opK P Γ o e H' fr fun d' rd' u' => d' = d ∧ rd' = rd ∧ u' = u := by
  obtain ⟨dst, op, type, pos, after, guard⟩ := o
  cases op <;> simp only [opK] at h ⊢
  case convert s d' x =>
    split at h
    · rename_i g off len es heq
      unfold markK at *
      obtain ⟨h1, h2, h3, h4, h⟩ := h
      refine ⟨h1, h2, h3, h4, ?_⟩
      split at h
      · rename_i el hel
        try simp only [hel]
        obtain ⟨h5, h⟩ := h
        refine ⟨h5, ?_⟩
        split at h
        · rename_i cells hg
          split at h
          · rename_i l hl
            obtain ⟨h6, h7, h8, h9, h10⟩ := h
            rw [hr g (by rw [← h9]; simp), hg]
            try simp only [hl]
            exact ⟨h6, h7, h8, h9, h10⟩
          · exact h.elim
        · exact h.elim
      · exact h.elim
    · exact h
    · exact h
  case load t x =>
    unfold loadK at *
    split at h
    · split at h
      · rename_i hg
        split at h
        · obtain ⟨h1, h2, h3, h4⟩ := h
          rw [hr _ (by rw [← h3]; simp), hg]
          exact ⟨h1, h2, h3, h4⟩
        · obtain ⟨q, h1, h2, h3, h4⟩ := h
          rw [hr _ (by rw [← h3]; simp), hg]
          exact ⟨q, h1, h2, h3, h4⟩
        · exact h.elim
      · exact h.elim
    · exact h
    · exact h.elim
  case store t x y =>
    unfold storeK at *
    split at h
    · split at h
      · rename_i hg
        obtain ⟨h1, h2, h3, h4, h5, h6⟩ := h
        rw [hu _ (by rw [← h6]; simp), hg]
        exact ⟨h1, h2, h3, h4, h5, h6⟩
      · exact h.elim
    · exact h.elim
  case slice t x lo hi mx =>
    split at h
    · unfold sliceArrK at *
      split at h
      · exact h.elim
      · split at h
        · split at h
          · rename_i hg
            have hb := h.2.2
            obtain ⟨a, b, _, _, h3, _⟩ := boundsK_iff.1 hb
            simp only
            rw [hr _ (by rw [← h3]; simp), hg]
            simp only [*]
            simp_all
          · exact h.elim
        · exact h
        · exact h.elim
    · unfold sliceArrK at *
      split at h
      · exact h.elim
      · split at h
        · split at h
          · rename_i hg
            have hb := h.2.2
            obtain ⟨a, b, _, _, h3, _⟩ := boundsK_iff.1 hb
            simp only
            rw [hr _ (by rw [← h3]; simp), hg]
            simp_all
          · exact h.elim
        · exact h
        · exact h.elim
    · exact h
    · exact h
  case call c =>
    obtain ⟨callee, args, argTypes⟩ := c
    cases callee <;> simp only at h ⊢
    case value x =>
      split at h
      · exact call_loc h hr hu
      · exact h.elim
    case invoke x name =>
      split at h
      · obtain ⟨f, hmf, h⟩ := h
        exact ⟨f, hmf, call_loc h hr hu⟩
      · exact h.elim
    case builtin b =>
      cases b <;> simp only at h ⊢
      case append =>
        split at h
        · unfold appendK at *
          split at h
          · split at h
            · obtain ⟨h1, h2, h⟩ := h
              refine ⟨h1, h2, ?_⟩
              split at h
              · split at h
                · rename_i hif
                  rw [if_pos hif]
                  exact h
                · rename_i hif
                  rw [if_neg hif]
                  obtain ⟨h3, h⟩ := h
                  exact ⟨h3, src_loc h fun n cs rd' hk g hg => hr g (by rw [← hk.2.2.2.2.1]; exact hg)⟩
              · obtain ⟨h3, h⟩ := h
                refine ⟨h3, ?_⟩
                split at h
                · rename_i g _ _ _ _ hg
                  obtain ⟨h4, h⟩ := h
                  split at h
                  · rename_i hif
                    split at h
                    · have hz := h.2.2.2
                      unfold zerosK at hz
                      split at hz
                      · rw [hr _ (by rw [← hz.2.2.2.2.1]; simp), hg]
                        simp only
                        rw [if_pos hif]
                        simp_all
                      · exact hz.elim
                    · exact h.elim
                  · rename_i hif
                    obtain ⟨h5, h⟩ := h
                    obtain ⟨n, cs, rd', hk⟩ := src_ex h
                    rw [hr _ (by rw [← hk.2.2.2.2.1]; simp), hg]
                    simp only
                    rw [if_neg hif]
                    exact ⟨h4, h5, src_loc h fun n cs rd' hk q hq => hr q (by rw [← hk.2.2.2.2.1]; simp [hq])⟩
                · exact h.elim
              · obtain ⟨h3, h⟩ := h
                refine ⟨h3, ?_⟩
                split at h
                · rename_i g _ _ _ _ _ _ hg
                  obtain ⟨h4, h5, h6, h⟩ := h
                  obtain ⟨n, cs, rd', hk⟩ := src_ex h
                  rw [hr _ (by rw [← hk.2.2.2.1]; simp), hg]
                  exact ⟨h4, h5, h6, src_loc h fun n cs rd' hk q hq => hr q (by rw [← hk.2.2.2.1]; simp [hq])⟩
                · exact h.elim
              · obtain ⟨h3, h4, h5, h6, h⟩ := h
                exact ⟨h3, h4, h5, h6, src_loc h fun n cs rd' hk q hq => hr q (by rw [← hk.2.2.2.2.2.1]; exact hq)⟩
              · exact h.elim
            · exact h.elim
          · exact h.elim
        · exact h.elim
      case copy =>
        split at h
        · unfold copyK at *
          split at h
          · split at h
            · split at h
              · obtain ⟨h3, h⟩ := h
                refine ⟨h3, ?_⟩
                split at h
                · rename_i hg
                  obtain ⟨h4, h⟩ := h
                  obtain ⟨n, cs, rd', hk⟩ := src_ex h
                  rw [hr _ (by rw [← hk.2.2.1]; simp), hg]
                  exact ⟨h4, src_loc h fun n cs rd' hk q hq => hr q (by rw [← hk.2.2.1]; simp [hq])⟩
                · exact h.elim
              · exact h.elim
            · exact h.elim
          · exact h.elim
        · exact h.elim
      case clear =>
        split at h
        · unfold clearK at *
          split at h
          · split at h
            · exact h
            · split at h
              · rename_i hg
                obtain ⟨h1, h2, h⟩ := h
                have hz := h
                unfold zerosK at hz
                split at hz
                · rw [hr _ (by rw [← hz.2.2.2.2.1]; simp), hg]
                  exact ⟨h1, h2, h⟩
                · exact hz.elim
              · exact h.elim
            · split at h
              · rename_i hg
                obtain ⟨h1, h2, h⟩ := h
                have hz := h
                unfold zerosK at hz
                split at hz
                · rw [hr _ (by rw [← hz.2.2.2.2.1]; simp), hg]
                  exact ⟨h1, h2, h⟩
                · exact hz.elim
              · exact h.elim
            · exact h.elim
          · exact h.elim
        · exact h.elim
      all_goals exact h
    all_goals exact h
  case makeMap t r => cases r <;> exact h
  case insert t m k x => exact ins_loc h hr
  case mapUpdate t m k x => exact ins_loc h hr
  case lookup t x i ok =>
    unfold lookupK at *
    split at h
    · obtain ⟨h1, h⟩ := h
      refine ⟨h1, ?_⟩
      split at h
      · exact h
      · split at h
        · rename_i hg
          rw [hr _ (by rw [← look_ex h]; simp), hg]
          exact h
        · exact h.elim
      · exact h.elim
    · exact h.elim
  case entry x =>
    unfold entryK at *
    split at h
    · split at h
      · rename_i hg
        obtain ⟨k, v, h1, h2, h3, h4, h5⟩ := h
        rw [hr _ (by rw [← h4]; simp), hg]
        exact ⟨k, v, h1, h2, h3, h4, h5⟩
      · exact h.elim
    · exact h.elim
  all_goals exact h
end
end Go.Proofs.Ytdodhnkbdechaaa
