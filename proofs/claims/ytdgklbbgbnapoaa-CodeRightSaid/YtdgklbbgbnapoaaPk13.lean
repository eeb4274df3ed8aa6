/- Code: snapshots read. (By genQC.py.) Code: what the document reads of bytes is what the program reads. Code: snapshots as the document reads them. (By genQH.py.) Books: sessions, lines, users who have failed, books and ops as they come in. Code: the document's example. Code: the laws CodeRecords, CodeBooks, CodeRight. Code: the laws CodeRight, CodeForth. (By genQK.py.) Code: the law CodeForth. (By genQL.py.) Code: the law CodeBack. (By genQM.py.) -/
import Derived.Test.YtdgklbbgbnapoaaPk12
namespace Go.Proofs.Ytdgklbbgbnapoaa
open Go.RowKit
set_option linter.unusedVariables false
set_option linter.unusedSimpArgs false
set_option maxRecDepth 100000
namespace Bk
/-- What a snapshot tells: a right book, and noughts behind it. -/
def BookPIs (l : List Nat) (p : Option (Book × List Nat)) : Prop := ∀ b r, p = some (b, r) ↔ bookQ l = some (b, r) ∧ RightP b ∧ ∀ x ∈ r, x = 0
theorem bookP_ex (l : List Nat) : ∃ p, BookPIs l p := by
  by_cases h : ∃ b r, bookQ l = some (b, r) ∧ RightP b ∧ ∀ x ∈ r, x = 0
  · obtain ⟨b, r, h1, h2⟩ := h
    refine ⟨some (b, r), fun b2 r2 => ⟨fun e => ?_, fun e => ?_⟩⟩
    · cases e; exact ⟨h1, h2⟩
    · rw [h1] at e; exact e.1
  · exact ⟨none, fun b r => ⟨fun e => (by cases e), fun e => absurd ⟨b, r, e⟩ h⟩⟩
theorem BookPIs.none_of {l : List Nat} {p : Option (Book × List Nat)} (h : BookPIs l p) (hn : bookQ l = none) : p = none := by
  cases p with
  | none => rfl
  | some x =>
    obtain ⟨b, r⟩ := x
    have := ((h b r).1 rfl).1
    rw [hn] at this; cases this
theorem BookPIs.bad {l : List Nat} {p : Option (Book × List Nat)} (h : BookPIs l p) {b : Book} {r : List Nat} (hq : bookQ l = some (b, r)) (hb : ¬ (RightP b ∧ ∀ x ∈ r, x = 0)) : p = none := by
  cases p with
  | none => rfl
  | some x =>
    obtain ⟨b2, r2⟩ := x
    have := (h b2 r2).1 rfl
    rw [hq] at this
    have e := this.1
    simp only [Option.some.injEq, Prod.mk.injEq] at e
    obtain ⟨rfl, rfl⟩ := e
    exact absurd this.2 hb
theorem BookFit.fits {b : Book} (h : BookFit b) : Fits b := ⟨by have := h.nopn; omega, by have := h.nitems; omega, by have := h.nlocks; omega, fun s hs => by have := (h.opn s hs).user; omega, fun s hs => by have := (h.locks s hs).user; omega⟩
theorem ItemFit.ty {x : Item} (h : ItemFit x) : x.Ty := by
  obtain ⟨h1, h2, h3, h4, h5⟩ := h
  unfold Fit at h1 h2 h3 h4 h5
  refine ⟨?_, ?_, ?_, ?_, ?_⟩
  · unfold R64; omega
  · unfold R64; omega
  · unfold U64; omega
  · unfold U64; omega
  · unfold R64; omega
section
variable {Γ : Nat → Option (List Data)}
theorem rd_lentL {f : FuncId} {ds bs : List D} {l : List Nat} {p : Option (Data × List Nat)} (h : DX Try.prog Γ f bs (hpL [(0, .blk true [.data (.sl 1 (bys l))])]) 1 (RdK p) (RdX p)) {H : Nat → Blk} {nx g : Nat} {K : D → (Nat → Blk) → Nat → Prop} {X : Value → (Nat → Blk) → Nat → Prop} (hg : H g = .blk true [.data (.sl 1 (bys l))]) (hd : LentL g ds bs)
    (hk : ∀ r l', p = some (r, l') → K (.data r) (Hp.upd H [(g, .blk true [.data (.sl 1 (bys l'))])]) nx) (hx : p = none → ∀ l', X errV (Hp.upd H [(g, .blk true [.data (.sl 1 (bys l'))])]) nx) : DX Try.prog Γ f ds H nx K X := by
  refine dx_lentL (cells := [.sl 1 (bys l)]) (K0 := fun r c => ∃ l', c = [.sl 1 (bys l')] ∧ p = some (r, l')) (X0 := fun v c => (∃ l', c = [Data.sl 1 (bys l')]) ∧ v = errV ∧ p = none) h hg hd ?_ ?_
  · rintro r c ⟨l', rfl, hp⟩; exact hk r l' hp
  · rintro v c ⟨⟨l', rfl⟩, rfl, hp⟩; exact hx hp l'
end
theorem manyP_rest {α : Type} {p : List Nat → Option (α × List Nat)} (hp : ∀ {l r : List Nat} {x : α}, Bytes l → p l = some (x, r) → Bytes r ∧ r.length ≤ l.length) : ∀ (n : Nat) {l r : List Nat} {xs : List α}, Bytes l → manyP p n l = some (xs, r) → Bytes r ∧ r.length ≤ l.length
  | 0, l, r, xs, hl, h => by
    simp only [manyP, Option.some.injEq, Prod.mk.injEq] at h
    obtain ⟨_, rfl⟩ := h
    exact ⟨hl, Nat.le_refl _⟩
  | n + 1, l, r, xs, hl, h => by
    simp only [manyP] at h
    obtain ⟨x, l1, h1, h⟩ := bnd_some.1 h
    obtain ⟨ys, l2, h2, h⟩ := bnd_some.1 h
    simp only [Option.some.injEq, Prod.mk.injEq] at h
    obtain ⟨_, rfl⟩ := h
    obtain ⟨b1, e1⟩ := hp hl h1
    obtain ⟨b2, e2⟩ := manyP_rest hp n b1 h2
    exact ⟨b2, Nat.le_trans e2 e1⟩
section
variable (Γ : Nat → Option (List Data))
set_option maxHeartbeats 16000000 in
theorem book_rd (l : List Nat) (hl : l.length ≤ 1000000) (hb : Bytes l) (p : Option (Book × List Nat)) (hP : BookPIs l p) : RD Γ 41 [] l (mapD p book) := by
  refine dx_by mixed Try.func41 rfl (fun args w => Try.call41 args w) ?_
  by_cases h2048 : l.length = 2048
  rotate_left
  · have hn := hP.none_of (by unfold bookQ; rw [if_neg h2048])
    simp -implicitDefEqProofs (disch := omega) [go_sem]
    refine .inr (.inr (need_dx Γ false (fun e => by cases e) (fun _ => ?_)))
    simp -implicitDefEqProofs (disch := omega) [go_sem]
    exact rdX (l' := l) rfl (by simp [go_sem]) (by rw [hn]; rfl)
  simp -implicitDefEqProofs (disch := omega) [go_sem]
  refine .inr (.inr (need_dx Γ true (fun _ => ?_) (fun e => by cases e)))
  have hl0 := hl
  have hb0 := hb
  simp -implicitDefEqProofs (disch := omega) [go_sem]
  refine .inr (.inr (rd_lent (small_rd Γ l hl0 hb0 4 (by omega)) (by simp [go_sem]) (by simp) (fun r l1 hp => ?_) (fun hp l' => ?_)))
  rotate_left
  · rw [numD_none] at hp
    have hn := hP.none_of (by simp [bookQ, h2048, bnd, hp])
    simp -implicitDefEqProofs (disch := omega) [go_sem]
    exact rdX (l' := l') rfl (by simp [go_sem]) (by rw [hn]; rfl)
  obtain ⟨nx, h1, rfl⟩ := numD_some.1 hp
  clear hp
  have hb1 := bytes_rest hb0 h1
  have hl1 : l1.length ≤ 1000000 := Nat.le_trans (numP_len h1) hl0
  have q1 : nx < 4294967296 := numP_lt hb0 h1
  simp -implicitDefEqProofs (disch := omega) [go_sem]
  refine .inr (.inr (rd_lent (small_rd Γ l1 hl1 hb1 1 (by omega)) (by simp [go_sem]) (by simp) (fun r l2 hp => ?_) (fun hp l' => ?_)))
  rotate_left
  · rw [numD_none] at hp
    have hn := hP.none_of (by simp [bookQ, h2048, bnd, h1, hp])
    simp -implicitDefEqProofs (disch := omega) [go_sem]
    exact rdX (l' := l') rfl (by simp [go_sem]) (by rw [hn]; rfl)
  obtain ⟨no, h2, rfl⟩ := numD_some.1 hp
  clear hp
  have hb2 := bytes_rest hb1 h2
  have hl2 : l2.length ≤ 1000000 := Nat.le_trans (numP_len h2) hl1
  have q2 : no < 256 := numP_lt hb1 h2
  simp -implicitDefEqProofs (disch := omega) [go_sem]
  refine .inr (.inr (rd_lent (small_rd Γ l2 hl2 hb2 1 (by omega)) (by simp [go_sem]) (by simp) (fun r l3 hp => ?_) (fun hp l' => ?_)))
  rotate_left
  · rw [numD_none] at hp
    have hn := hP.none_of (by simp [bookQ, h2048, bnd, h1, h2, hp])
    simp -implicitDefEqProofs (disch := omega) [go_sem]
    exact rdX (l' := l') rfl (by simp [go_sem]) (by rw [hn]; rfl)
  obtain ⟨ni, h3, rfl⟩ := numD_some.1 hp
  clear hp
  have hb3 := bytes_rest hb2 h3
  have hl3 : l3.length ≤ 1000000 := Nat.le_trans (numP_len h3) hl2
  have q3 : ni < 256 := numP_lt hb2 h3
  simp -implicitDefEqProofs (disch := omega) [go_sem]
  refine .inr (.inr (rd_lent (small_rd Γ l3 hl3 hb3 1 (by omega)) (by simp [go_sem]) (by simp) (fun r l4 hp => ?_) (fun hp l' => ?_)))
  rotate_left
  · rw [numD_none] at hp
    have hn := hP.none_of (by simp [bookQ, h2048, bnd, h1, h2, h3, hp])
    simp -implicitDefEqProofs (disch := omega) [go_sem]
    exact rdX (l' := l') rfl (by simp [go_sem]) (by rw [hn]; rfl)
  obtain ⟨nl, h4, rfl⟩ := numD_some.1 hp
  clear hp
  have hb4 := bytes_rest hb3 h4
  have hl4 : l4.length ≤ 1000000 := Nat.le_trans (numP_len h4) hl3
  have q4 : nl < 256 := numP_lt hb3 h4
  simp -implicitDefEqProofs (disch := omega) [go_sem]
  refine .inr (.inr (rd_lentL (manySess_dx Γ l4 hl4 hb4 no (by omega)) (by simp [go_sem]) (.cons (.data _) (.cons (.bnd _ (.ptr 0)) .nil)) (fun r l5 hp => ?_) (fun hp l' => ?_)))
  rotate_left
  · rw [mapD_none] at hp
    have hn := hP.none_of (by simp [bookQ, h2048, bnd, h1, h2, h3, h4, hp])
    simp -implicitDefEqProofs (disch := omega) [go_sem]
    exact rdX (l' := l') rfl (by simp [go_sem]) (by rw [hn]; rfl)
  obtain ⟨os, h5, rfl⟩ := mapD_some.1 hp
  clear hp
  obtain ⟨hb5, e5⟩ := manyP_rest (fun h1 h2 => sessP_rest h1 h2) no hb4 h5
  have hl5 : l5.length ≤ 1000000 := Nat.le_trans e5 hl4
  simp -implicitDefEqProofs (disch := omega) [go_sem]
  refine .inr (.inr (rd_lentL (manyItem_dx Γ l5 hl5 hb5 ni (by omega)) (by simp [go_sem]) (.cons (.data _) (.cons (.bnd _ (.ptr 0)) .nil)) (fun r l6 hp => ?_) (fun hp l' => ?_)))
  rotate_left
  · rw [mapD_none] at hp
    have hn := hP.none_of (by simp [bookQ, h2048, bnd, h1, h2, h3, h4, h5, hp])
    simp -implicitDefEqProofs (disch := omega) [go_sem]
    exact rdX (l' := l') rfl (by simp [go_sem]) (by rw [hn]; rfl)
  obtain ⟨is, h6, rfl⟩ := mapD_some.1 hp
  clear hp
  obtain ⟨hb6, e6⟩ := manyP_rest (fun h1 h2 => itemP_rest h1 h2) ni hb5 h6
  have hl6 : l6.length ≤ 1000000 := Nat.le_trans e6 hl5
  simp -implicitDefEqProofs (disch := omega) [go_sem]
  refine .inr (.inr (rd_lentL (manyLock_dx Γ l6 hl6 hb6 nl (by omega)) (by simp [go_sem]) (.cons (.data _) (.cons (.bnd _ (.ptr 0)) .nil)) (fun r l7 hp => ?_) (fun hp l' => ?_)))
  rotate_left
  · rw [mapD_none] at hp
    have hn := hP.none_of (by simp [bookQ, h2048, bnd, h1, h2, h3, h4, h5, h6, hp])
    simp -implicitDefEqProofs (disch := omega) [go_sem]
    exact rdX (l' := l') rfl (by simp [go_sem]) (by rw [hn]; rfl)
  obtain ⟨ls, h7, rfl⟩ := mapD_some.1 hp
  clear hp
  obtain ⟨hb7, e7⟩ := manyP_rest (fun h1 h2 => lockP_rest h1 h2) nl hb6 h7
  have hl7 : l7.length ≤ 1000000 := Nat.le_trans e7 hl6
  have hQ : bookQ l = some (⟨nx, os, is, ls⟩, l7) := by simp [bookQ, h2048, bnd, h1, h2, h3, h4, h5, h6, h7]
  have hfit := ((bookQ_iff hb _ _).1 hQ).2.2
  obtain ⟨v1, hv1⟩ : ∃ v : Bool, v = true ↔ RightP ⟨nx, os, is, ls⟩ := by classical exact ⟨decide (RightP ⟨nx, os, is, ls⟩), by simp⟩
  have cr := right3_pc Γ ⟨nx, os, is, ls⟩ hfit.fits (fun x hx => (hfit.items x hx).ty) hv1
  clear h1 h2 h3 h4 h5 h6 h7 hfit
  unfold book at cr
  simp only at cr
  simp -implicitDefEqProofs (disch := omega) [go_sem]
  refine .inl (call_data cr (by simp [go_sem]) ?_)
  simp -implicitDefEqProofs (disch := omega) [go_sem]
  refine .inr (.inr (need_dx Γ v1 (fun e => ?_) (fun e => ?_)))
  rotate_left
  · have hn := hP.bad hQ fun h => by rw [hv1.2 h.1] at e; cases e
    simp -implicitDefEqProofs (disch := omega) [go_sem]
    exact rdX (l' := l7) rfl (by simp [go_sem]) (by rw [hn]; rfl)
  have hr := hv1.1 e
  simp -implicitDefEqProofs (disch := omega) [go_sem]
  obtain ⟨v, hv⟩ : ∃ v : Bool, v = true ↔ ∀ x ∈ l7, x = 0 := by classical exact ⟨decide (∀ x ∈ l7, x = 0), by simp⟩
  refine .inr (.inr (rd_lent (end_rd Γ l7 hl7 hv) (by simp [go_sem]) (by simp) (fun r l8 hp => ?_) (fun hp l' => ?_)))
  rotate_left
  · have hn := hP.bad hQ fun h => by rw [hv.2 h.2, if_pos rfl] at hp; cases hp
    simp -implicitDefEqProofs (disch := omega) [go_sem]
    exact rdX (l' := l') rfl (by simp [go_sem]) (by rw [hn]; rfl)
  split at hp
  rotate_left
  · cases hp
  rename_i hv2
  simp only [Option.some.injEq, Prod.mk.injEq] at hp
  obtain ⟨rfl, rfl⟩ := hp
  have hsome := (hP _ _).2 ⟨hQ, hr, hv.1 hv2⟩
  simp -implicitDefEqProofs (disch := omega) [go_sem, Try.f41]
  exact rdK (l' := l7) (by simp [go_sem]) (by rw [hsome]; rfl)
theorem clBook_nil {g : Nat} {H : Nat → Blk} {nx : Nat} {K : (Nat → Blk) → Nat → Prop} (hk : K H (nx + 2)) : DR Try.prog Γ 69 [.ptr g 0] .nili H nx K := by
  refine dr_by mixed Try.func69 rfl rfl (fun args w => Try.call69 args w) (by decide) (by decide) ?_
  simp -implicitDefEqProofs (disch := omega) [go_sem]
  refine eqK_nil any_interface ?_
  simp -implicitDefEqProofs (disch := omega) [go_sem, hk]
theorem clBook_err {g : Nat} {H : Nat → Blk} {nx : Nat} {x : D} {K : (Nat → Blk) → Nat → Prop} (hg : H g = .blk true [x]) (hk : K (Hp.upd H [(g, .blk true [.data (.int .i64 2)])]) (nx + 5)) : DR Try.prog Γ 69 [.ptr g 0] errD H nx K := by
  refine dr_by mixed Try.func69 rfl rfl (fun args w => Try.call69 args w) (by decide) (by decide) ?_
  unfold errD
  simp -implicitDefEqProofs (disch := omega) [go_sem]
  refine eqK_ifc any_interface ?_
  simp -implicitDefEqProofs (disch := omega) [go_sem, hg]
  exact hk
def noBook : Book := ⟨0, [], [], []⟩
def gotB (p : Option (Book × List Nat)) : Book := match p with
  | some (b, _) => b
  | none => noBook
set_option maxHeartbeats 2000000 in
theorem triedBook_pc {f : FuncId} (l : List Nat) (p : Option (Book × List Nat)) (h : RD Γ f [] l (mapD p book)) : PC Try.prog Γ 40 [.sl 1 (bys l), .fn f []] (.tup [book (gotB p), .int .i64 (gotE p)]) := by
  refine pc_def_by mixed Try.func40 rfl (fun args w => Try.call40 args w) (by decide) ?_
  simp -implicitDefEqProofs (disch := omega) [go_sem]
  refine .inr (.inr (rd_lent h (by simp [go_sem]) (by simp) (fun r l' hp => ?_) (fun hp l' => ?_)))
  · obtain ⟨b, hp2, rfl⟩ := mapD_some.1 hp
    unfold book
    simp -implicitDefEqProofs (disch := omega) [go_sem]
    refine clBook_nil Γ ?_
    simp -implicitDefEqProofs (disch := omega) [go_sem, Try.f40, hp2, gotB, gotE]
  · rw [mapD_none] at hp
    simp -implicitDefEqProofs (disch := omega) [go_sem]
    refine bodyR_panic (x := .int .i64 2) rfl (clBook_err Γ (by simp [go_sem]; rfl) ?_)
    simp -implicitDefEqProofs (disch := omega) [go_sem, Try.f40, hp, gotB, gotE, book, noBook, sesss, items, locks]
    exact ⟨_, ⟨_, rfl, frz_aggL (frzL_c ((frz_data _ _ _ _).2 rfl) (frzL_c (.emp 0 6) (frzL_c (.emp 0 5) (frzL_c (.emp 0 3) frzL_n))))⟩, rfl⟩
set_option maxHeartbeats 2000000 in
theorem readBook_pc (l : List Nat) (hl : l.length ≤ 1000000) (hb : Bytes l) (p : Option (Book × List Nat)) (hP : BookPIs l p) : PC Try.prog Γ 19 [.sl 1 (bys l)] (.tup [book (gotB p), .int .i64 (gotE p)]) := by
  refine pc_by mixed Try.func19 rfl (fun args w => Try.call19 args w) ?_
  have ct := triedBook_pc Γ l p (book_rd Γ l hl hb p hP)
  generalize gotB p = b at *
  generalize gotE p = e at *
  unfold book at ct ⊢
  simp -implicitDefEqProofs (disch := omega) [go_sem]
  refine .inl (call_data ct (by simp [go_sem]) ?_)
  simp -implicitDefEqProofs (disch := omega) [go_sem, Try.f19]
end
end Bk
end Go.Proofs.Ytdgklbbgbnapoaa
namespace Go.Proofs.Ytdgklbbgbnapoaa
open Go.RowKit
set_option linter.unusedVariables false
set_option linter.unusedSimpArgs false
set_option maxRecDepth 100000
namespace Bk
theorem num_get {k n a b : Nat} {l l' r : List Nat} (h : l' = l.drop a) (hp : numP k l' = some (n, r)) (hb : b = a + k) : n = getR l a k ∧ r = l.drop b := by
  unfold numP at hp
  split at hp
  rotate_left
  · cases hp
  rename_i hk
  simp only [Option.some.injEq, Prod.mk.injEq] at hp
  obtain ⟨rfl, rfl⟩ := hp
  subst h
  subst hb
  refine ⟨?_, by rw [List.drop_drop]⟩
  exact (getR_take (l := l) (a := a) (l.drop a) (fun i hi => by rw [List.getD_eq_getElem?_getD, ← List.getElem?_drop, List.getElem?_eq_getElem hi, Option.getD_some]) k hk).symm
theorem name_get {a b : Nat} {l l' r : List Nat} {u : ByteArray} (h : l' = l.drop a) (hp : nameP l' = some (u, r)) (hb : b = a + 17) : u = userR l a ∧ r = l.drop b := by
  unfold nameP at hp
  split at hp
  · cases hp
  rename_i n l1 h1
  obtain ⟨hn, hl1⟩ := num_get h h1 rfl
  split at hp
  rotate_left
  · cases hp
  rename_i hc
  obtain ⟨h16, hn16, _⟩ := hc
  simp only [Option.some.injEq, Prod.mk.injEq] at hp
  obtain ⟨rfl, rfl⟩ := hp
  subst hl1
  refine ⟨?_, by rw [List.drop_drop, hb]⟩
  unfold userR
  rw [← hn, Nat.min_eq_left hn16]
  congr 1
  apply List.ext_getElem
  · rw [userB_length, List.length_take, List.length_take]; omega
  · intro i h1 h2
    rw [userB_length] at h2
    simp only [List.getElem_take, userB, List.getElem_map, List.getElem_range, getR]
    have hi : i < (l.drop (a + 1)).length := by omega
    have : l.getD (a + 1 + i + 0) 0 = (l.drop (a + 1))[i] := by
      rw [List.getD_eq_getElem?_getD, Nat.add_zero, ← List.getElem?_drop, List.getElem?_eq_getElem hi, Option.getD_some]
    omega
def sessR (l : List Nat) (a : Nat) : Sess := ⟨getR l a 4, getR l (a + 4) 1, getR l (a + 5) 4, userR l (a + 9), getR l (a + 26) 8, getR l (a + 34) 8⟩
def itemR (l : List Nat) (a : Nat) : Item := ⟨getR l a 1, getR l (a + 1) 4, getR l (a + 5) 8, getR l (a + 13) 8, getR l (a + 21) 1⟩
def lockR (l : List Nat) (a : Nat) : Lock := ⟨userR l a, getR l (a + 17) 1, getR l (a + 18) 4⟩
theorem sess_get {a b : Nat} {l l' r : List Nat} {s : Sess} (h : l' = l.drop a) (hp : sessP l' = some (s, r)) (hb : b = a + 42) : s = sessR l a ∧ r = l.drop b := by
  unfold sessP at hp
  simp only [bnd_some, Option.some.injEq, Prod.mk.injEq] at hp
  obtain ⟨x1, l1, h1, x2, l2, h2, x3, l3, h3, x4, l4, h4, x5, l5, h5, x6, l6, h6, rfl, rfl⟩ := hp
  obtain ⟨rfl, e1⟩ := num_get (b := a + 4) h h1 rfl
  obtain ⟨rfl, e2⟩ := num_get (b := a + 5) e1 h2 (by omega)
  obtain ⟨rfl, e3⟩ := num_get (b := a + 9) e2 h3 (by omega)
  obtain ⟨rfl, e4⟩ := name_get (b := a + 26) e3 h4 (by omega)
  obtain ⟨rfl, e5⟩ := num_get (b := a + 34) e4 h5 (by omega)
  obtain ⟨rfl, e6⟩ := num_get (b := b) e5 h6 (by omega)
  exact ⟨rfl, e6⟩
theorem item_get {a b : Nat} {l l' r : List Nat} {s : Item} (h : l' = l.drop a) (hp : itemP l' = some (s, r)) (hb : b = a + 22) : s = itemR l a ∧ r = l.drop b := by
  unfold itemP at hp
  simp only [bnd_some, Option.some.injEq, Prod.mk.injEq] at hp
  obtain ⟨x1, l1, h1, x2, l2, h2, x3, l3, h3, x4, l4, h4, x5, l5, h5, rfl, rfl⟩ := hp
  obtain ⟨rfl, e1⟩ := num_get (b := a + 1) h h1 rfl
  obtain ⟨rfl, e2⟩ := num_get (b := a + 5) e1 h2 (by omega)
  obtain ⟨rfl, e3⟩ := num_get (b := a + 13) e2 h3 (by omega)
  obtain ⟨rfl, e4⟩ := num_get (b := a + 21) e3 h4 (by omega)
  obtain ⟨rfl, e5⟩ := num_get (b := b) e4 h5 (by omega)
  exact ⟨rfl, e5⟩
theorem lock_get {a b : Nat} {l l' r : List Nat} {s : Lock} (h : l' = l.drop a) (hp : lockP l' = some (s, r)) (hb : b = a + 22) : s = lockR l a ∧ r = l.drop b := by
  unfold lockP at hp
  simp only [bnd_some, Option.some.injEq, Prod.mk.injEq] at hp
  obtain ⟨x1, l1, h1, x2, l2, h2, x3, l3, h3, rfl, rfl⟩ := hp
  obtain ⟨rfl, e1⟩ := name_get (b := a + 17) h h1 rfl
  obtain ⟨rfl, e2⟩ := num_get (b := a + 18) e1 h2 (by omega)
  obtain ⟨rfl, e3⟩ := num_get (b := b) e2 h3 (by omega)
  exact ⟨rfl, e3⟩
theorem many_get {α : Type} {l : List Nat} {p : List Nat → Option (α × List Nat)} {R : Nat → α} {w : Nat} (hp : ∀ {a b : Nat} {l' r : List Nat} {x : α}, l' = l.drop a → p l' = some (x, r) → b = a + w → x = R a ∧ r = l.drop b) :
    ∀ (n : Nat) {a b : Nat} {l' r : List Nat} {xs : List α}, l' = l.drop a → manyP p n l' = some (xs, r) → b = a + w * n → xs = (List.range n).map (fun i => R (a + w * i)) ∧ r = l.drop b
  | 0, a, b, l', r, xs, h, hm, hb => by
    simp only [manyP, Option.some.injEq, Prod.mk.injEq] at hm
    obtain ⟨rfl, rfl⟩ := hm
    exact ⟨rfl, by rw [h, hb]; rfl⟩
  | n + 1, a, b, l', r, xs, h, hm, hb => by
    simp only [manyP] at hm
    obtain ⟨x, l1, h1, hm⟩ := bnd_some.1 hm
    obtain ⟨ys, l2, h2, hm⟩ := bnd_some.1 hm
    simp only [Option.some.injEq, Prod.mk.injEq] at hm
    obtain ⟨rfl, rfl⟩ := hm
    obtain ⟨rfl, e1⟩ := hp h h1 rfl
    obtain ⟨rfl, e2⟩ := many_get hp n (b := b) e1 h2 (by rw [hb, Nat.mul_succ]; omega)
    refine ⟨?_, e2⟩
    rw [List.range_succ_eq_map, List.map_cons, List.map_map]
    congr 1
    apply List.map_congr_left
    intro i _
    simp only [Function.comp, Nat.mul_succ]
    congr 1
    omega
def bookR (l : List Nat) : Book := ⟨getR l 0 4, (List.range (getR l 4 1)).map fun i => sessR l (7 + 42 * i), (List.range (getR l 5 1)).map fun i => itemR l (7 + 42 * getR l 4 1 + 22 * i), (List.range (getR l 6 1)).map fun i => lockR l (7 + 42 * getR l 4 1 + 22 * getR l 5 1 + 22 * i)⟩
theorem book_get {l r : List Nat} {b : Book} (h : bookQ l = some (b, r)) : b = bookR l := by
  unfold bookQ at h
  split at h
  rotate_left
  · cases h
  simp only [bnd_some, Option.some.injEq, Prod.mk.injEq] at h
  obtain ⟨next, l1, h1, no, l2, h2, ni, l3, h3, nl, l4, h4, os, l5, h5, is, l6, h6, ls, l7, h7, rfl, rfl⟩ := h
  obtain ⟨rfl, e1⟩ := num_get (a := 0) (b := 4) (l := l) rfl h1 rfl
  obtain ⟨rfl, e2⟩ := num_get (b := 5) e1 h2 rfl
  obtain ⟨rfl, e3⟩ := num_get (b := 6) e2 h3 rfl
  obtain ⟨rfl, e4⟩ := num_get (b := 7) e3 h4 rfl
  obtain ⟨rfl, e5⟩ := many_get (R := sessR l) (w := 42) (fun h hp hb => sess_get h hp hb) _ e4 h5 rfl
  obtain ⟨rfl, e6⟩ := many_get (R := itemR l) (w := 22) (fun h hp hb => item_get h hp hb) _ e5 h6 rfl
  obtain ⟨rfl, e7⟩ := many_get (R := lockR l) (w := 22) (fun h hp hb => lock_get h hp hb) _ e6 h7 rfl
  rfl
theorem fit_get {l : List Nat} (hl : Bytes l) (a k : Nat) : Fit k (getR l a k : Nat) := fit_nat (getR_lt hl a k)
theorem sessR_fit {l : List Nat} (hl : Bytes l) (a : Nat) : SessFit (sessR l a) := ⟨fit_get hl _ _, fit_get hl _ _, fit_get hl _ _, userR_size _ _, fit_get hl _ _, fit_get hl _ _⟩
theorem itemR_fit {l : List Nat} (hl : Bytes l) (a : Nat) : ItemFit (itemR l a) := ⟨fit_get hl _ _, fit_get hl _ _, fit_get hl _ _, fit_get hl _ _, fit_get hl _ _⟩
theorem lockR_fit {l : List Nat} (hl : Bytes l) (a : Nat) : LockFit (lockR l a) := ⟨userR_size _ _, fit_get hl _ _, fit_get hl _ _⟩
theorem bookR_fit {l : List Nat} (hl : Bytes l) : BookFit (bookR l) := by
  refine ⟨fit_get hl _ _, ?_, ?_, ?_, fun s hs => ?_, fun s hs => ?_, fun s hs => ?_⟩
  · simp only [bookR, List.length_map, List.length_range]; exact getR_lt hl 4 1
  · simp only [bookR, List.length_map, List.length_range]; exact getR_lt hl 5 1
  · simp only [bookR, List.length_map, List.length_range]; exact getR_lt hl 6 1
  · obtain ⟨i, _, rfl⟩ := List.mem_map.1 hs; exact sessR_fit hl _
  · obtain ⟨i, _, rfl⟩ := List.mem_map.1 hs; exact itemR_fit hl _
  · obtain ⟨i, _, rfl⟩ := List.mem_map.1 hs; exact lockR_fit hl _
theorem SessFit.ty {x : Sess} (h : SessFit x) : x.Ty := by
  obtain ⟨h1, h2, h3, h4, h5, h6⟩ := h
  unfold Fit at h1 h2 h3 h5 h6
  refine ⟨?_, ?_, ?_, ?_, ?_, ?_⟩
  · unfold R64; omega
  · unfold R64; omega
  · omega
  · exact Nat.le_trans h4 (by decide)
  · unfold U64; omega
  · unfold U64; omega
theorem LockFit.ty {x : Lock} (h : LockFit x) : x.Ty := by
  obtain ⟨h1, h2, h3⟩ := h
  unfold Fit at h2 h3
  constructor <;> first | exact Nat.le_trans h1 (by decide) | (unfold R64; omega)
theorem BookFit.ty {b : Book} (h : BookFit b) : b.Ty := ⟨fun s hs => (h.opn s hs).ty, fun s hs => (h.items s hs).ty, fun s hs => (h.locks s hs).ty⟩
/-- Bytes are the snapshot that the document reads of them. -/
def BookIs (l : List Nat) : Prop := RightP (bookR l) ∧ l = padB 2048 (bookB (bookR l))
theorem RightP.short {b : Book} (h : RightP b) (hf : BookFit b) : (bookB b).length ≤ 2048 := by
  have := bookB_length hf
  have := h.opn8
  have := h.len
  have := h.ll
  omega
theorem bookIs_iff {l : List Nat} (hl : Bytes l) {p : Option (Book × List Nat)} (hP : BookPIs l p) : BookIs l ↔ ∃ b r, p = some (b, r) := by
  constructor
  · rintro ⟨h1, h2⟩
    have hf := bookR_fit hl
    have hb := book_back hf (h1.short hf)
    rw [← h2] at hb
    exact ⟨_, _, (hP _ _).2 ⟨hb, h1, by simp⟩⟩
  · rintro ⟨b, r, h⟩
    obtain ⟨h1, h2, h3⟩ := (hP _ _).1 h
    have e := book_get h1
    subst e
    exact ⟨h2, book_forth hl h1 h3⟩
theorem book_same {l : List Nat} (hl : Bytes l) {p : Option (Book × List Nat)} (hP : BookPIs l p) {q : Bool} (hq : q = true ↔ BookIs l) : gotB p = (if q = true then bookR l else noBook) ∧ gotE p = if q = true then 0 else 2 := by
  rw [bookIs_iff hl hP] at hq
  cases p with
  | none =>
    have : ¬ q = true := fun h => by obtain ⟨_, _, h⟩ := hq.1 h; cases h
    rw [if_neg this, if_neg this]
    exact ⟨rfl, rfl⟩
  | some x =>
    obtain ⟨b, r⟩ := x
    rw [if_pos (hq.2 ⟨b, r, rfl⟩), if_pos (hq.2 ⟨b, r, rfl⟩)]
    exact ⟨book_get ((hP _ _).1 rfl).1, rfl⟩
theorem op_get {a b : Nat} {l l' r : List Nat} {o : Op} (h : l' = l.drop 7) (hp : opP l' = some (o, r)) : o = opR l := by
  unfold opP at hp
  simp only [bnd_some, Option.some.injEq, Prod.mk.injEq] at hp
  obtain ⟨x1, l1, h1, x2, l2, h2, x3, l3, h3, x4, l4, h4, x5, l5, h5, x6, l6, h6, x7, l7, h7, x8, l8, h8, x9, l9, h9, rfl, rfl⟩ := hp
  obtain ⟨rfl, e1⟩ := num_get (b := 8) h h1 rfl
  obtain ⟨rfl, e2⟩ := num_get (b := 12) e1 h2 rfl
  obtain ⟨rfl, e3⟩ := num_get (b := 13) e2 h3 rfl
  obtain ⟨rfl, e4⟩ := num_get (b := 17) e3 h4 rfl
  obtain ⟨rfl, e5⟩ := name_get (b := 34) e4 h5 rfl
  obtain ⟨rfl, e6⟩ := num_get (b := 42) e5 h6 rfl
  obtain ⟨rfl, e7⟩ := num_get (b := 50) e6 h7 rfl
  obtain ⟨rfl, e8⟩ := num_get (b := 51) e7 h8 rfl
  obtain ⟨rfl, e9⟩ := num_get (b := 55) e8 h9 rfl
  rfl
theorem rec_get {l r : List Nat} {g s : Nat} {o : Op} (h : recordP l = some ((g, s, o), r)) : g = getR l 2 4 ∧ s = getR l 6 1 ∧ o = opR l := by
  unfold recordP at h
  split at h
  rotate_left
  · cases h
  simp only [bnd_some] at h
  obtain ⟨x, l1, h1, g', l2, h2, s', l3, h3, o', l4, h4, h5⟩ := h
  split at h5
  rotate_left
  · cases h5
  simp only [Option.some.injEq, Prod.mk.injEq] at h5
  obtain ⟨⟨rfl, rfl, rfl⟩, rfl⟩ := h5
  have e1 : l1 = l.drop 2 := by have := (letP_rest h1).2.1; rwa [uRE_size] at this
  obtain ⟨rfl, e2⟩ := num_get (b := 6) e1 h2 rfl
  obtain ⟨rfl, e3⟩ := num_get (b := 7) e2 h3 rfl
  exact ⟨rfl, rfl, op_get (a := 0) (b := 0) e3 h4⟩
theorem opR_range {l : List Nat} (hl : Bytes l) : OpRange (opR l) := by
  have h1 := fit_get hl 13 4
  have h2 := fit_get hl 34 8
  have h3 := fit_get hl 42 8
  unfold Fit at h1 h2 h3
  exact ⟨⟨h1.1, by have := h1.2; simp only [opR]; omega⟩, ⟨h2.1, by have := h2.2; simp only [opR]; omega⟩, ⟨h3.1, by have := h3.2; simp only [opR]; omega⟩⟩
theorem recIs_iff {l : List Nat} (hl : Bytes l) : RecIs l ↔ ∃ x r, recordP l = some (x, r) := by
  constructor
  · rintro ⟨h1, h2⟩
    have hb := record_back h1 (opR_range hl)
    rw [← h2] at hb
    exact ⟨_, _, hb⟩
  · rintro ⟨⟨g, s, o⟩, r, h⟩
    obtain ⟨h1, h2, h3, _⟩ := (recordP_iff hl _ _ _ _).1 h
    obtain ⟨rfl, rfl, rfl⟩ := rec_get h
    exact ⟨h1, h3⟩
theorem record_same {l : List Nat} (hl : Bytes l) {q : Bool} (hq : q = true ↔ RecIs l) : gotG (recordP l) = (if q = true then ((getR l 2 4 : Int), (getR l 6 1 : Int), opR l) else (0, 0, noOp)) ∧ gotE (recordP l) = if q = true then 0 else 2 := by
  rw [recIs_iff hl] at hq
  cases hp : recordP l with
  | none =>
    have : ¬ q = true := fun h => by obtain ⟨_, _, h⟩ := hq.1 h; rw [hp] at h; cases h
    rw [if_neg this, if_neg this]
    exact ⟨rfl, rfl⟩
  | some x =>
    obtain ⟨⟨g, s, o⟩, r⟩ := x
    rw [if_pos (hq.2 ⟨_, r, hp⟩), if_pos (hq.2 ⟨_, r, hp⟩)]
    obtain ⟨rfl, rfl, rfl⟩ := rec_get hp
    exact ⟨rfl, rfl⟩
end Bk
end Go.Proofs.Ytdgklbbgbnapoaa
namespace Go.Proofs.Ytdgklbbgbnapoaa
open Go.RowKit
set_option linter.unusedVariables false
set_option linter.unusedSimpArgs false
set_option maxRecDepth 100000
namespace Bk
section
variable (Γ : Nat → Option (List Data))
theorem range_snoc {α : Type} (f : Nat → α) (n : Nat) : (List.range (n + 1)).map f = (List.range n).map f ++ [f n] := by rw [List.range_succ, List.map_append]; rfl
def sessRs (l : List Nat) (a n : Nat) : List Sess := (List.range n).map fun j => sessR l (a + 42 * j)
def itemRs (l : List Nat) (a n : Nat) : List Item := (List.range n).map fun j => itemR l (a + 22 * j)
def lockRs (l : List Nat) (a n : Nat) : List Lock := (List.range n).map fun j => lockR l (a + 22 * j)
theorem sessRs_succ (l : List Nat) (a n : Nat) : sessRs l a n ++ [sessR l (a + 42 * n)] = sessRs l a (n + 1) := (range_snoc _ n).symm
theorem itemRs_succ (l : List Nat) (a n : Nat) : itemRs l a n ++ [itemR l (a + 22 * n)] = itemRs l a (n + 1) := (range_snoc _ n).symm
theorem lockRs_succ (l : List Nat) (a n : Nat) : lockRs l a n ++ [lockR l (a + 22 * n)] = lockRs l a (n + 1) := (range_snoc _ n).symm
theorem sessRs_length (l : List Nat) (a n : Nat) : (sessRs l a n).length = n := by simp [sessRs]
theorem itemRs_length (l : List Nat) (a n : Nat) : (itemRs l a n).length = n := by simp [itemRs]
theorem lockRs_length (l : List Nat) (a n : Nat) : (lockRs l a n).length = n := by simp [lockRs]
theorem sessRs_zero (l : List Nat) (a : Nat) : sessRs l a 0 = [] := rfl
theorem itemRs_zero (l : List Nat) (a : Nat) : itemRs l a 0 = [] := rfl
theorem lockRs_zero (l : List Nat) (a : Nat) : lockRs l a 0 = [] := rfl
set_option maxHeartbeats 32000000 in
theorem rreadBook_pc (l : List Nat) (hl : l.length ≤ 1000000) (hb : Bytes l) {q : Bool} (hq : q = true ↔ BookIs l) : PC Try.prog Γ 20 [.sl 1 (bys l)] (if q = true then .tup [book (bookR l), .int .i64 0] else .tup [book noBook, .int .i64 2]) := by
  refine pc_by mixed Try.func20 rfl (fun args w => Try.call20 args w) ?_
  have hfit := bookR_fit hb
  obtain ⟨q1, hq1⟩ : ∃ v : Bool, v = true ↔ RightP (bookR l) := by classical exact ⟨decide (RightP (bookR l)), by simp⟩
  have cb := rbookBytes_pc Γ (bookR l) hfit.fits hfit.ty hq1
  have hshort := fun h : RightP (bookR l) => h.short hfit
  have hbk : book (bookR l) = .agg [.int .i64 (getR l 0 4), .sl 6 (sesss (sessRs l 7 (getR l 4 1))), .sl 5 (items (itemRs l (7 + 42 * getR l 4 1) (getR l 5 1))), .sl 3 (locks (lockRs l (7 + 42 * getR l 4 1 + 22 * getR l 5 1) (getR l 6 1)))] := rfl
  clear hfit
  unfold BookIs at hq
  rw [hbk] at cb ⊢
  generalize bookR l = B at *
  clear hbk
  have c1 := rget_pc Γ l hl hb 0 4 (by omega) (by omega)
  have b1 : getR l 0 4 < 4294967296 := getR_lt hb 0 4
  have c2 := rget_pc Γ l hl hb 4 1 (by omega) (by omega)
  have b2 : getR l 4 1 < 256 := getR_lt hb 4 1
  have c3 := rget_pc Γ l hl hb 5 1 (by omega) (by omega)
  have b3 : getR l 5 1 < 256 := getR_lt hb 5 1
  have c4 := rget_pc Γ l hl hb 6 1 (by omega) (by omega)
  have b4 : getR l 6 1 < 256 := getR_lt hb 6 1
  generalize getR l 0 4 = nx at *
  generalize getR l 4 1 = no at *
  generalize getR l 5 1 = ni at *
  generalize getR l 6 1 = nl at *
  have e1 : IntKind.i64.wrap (nx : Int) = nx := by rw [IntKind.wrap_i64]; omega
  have e2 : IntKind.i64.wrap (no : Int) = no := by rw [IntKind.wrap_i64]; omega
  have e3 : IntKind.i64.wrap (ni : Int) = ni := by rw [IntKind.wrap_i64]; omega
  have e4 : IntKind.i64.wrap (nl : Int) = nl := by rw [IntKind.wrap_i64]; omega
  simp -implicitDefEqProofs (disch := omega) [go_sem]
  refine .inl (call_data c1 (by simp [go_sem]) ?_)
  simp -implicitDefEqProofs (disch := omega) [go_sem, e1]
  refine .inl (call_data c2 (by simp [go_sem]) ?_)
  simp -implicitDefEqProofs (disch := omega) [go_sem, e2]
  refine .inl (call_data c3 (by simp [go_sem]) ?_)
  simp -implicitDefEqProofs (disch := omega) [go_sem, e3]
  refine .inl (call_data c4 (by simp [go_sem]) ?_)
  simp -implicitDefEqProofs (disch := omega) [go_sem, e4]

  refine loop_ren (σ := { i : Nat // i ≤ no }) (fun i => if i.1 < no then ⟨envL [(0, .data (.sl 1 (bys l))), (2, .ptr 0 0), (4, .ptr 1 0), (5, .data (.int .i64 no)), (6, .data (.int .i64 ni)), (7, .data (.int .i64 nl)), (8, .data (.int .i64 ((7 + 42 * i.1 : Nat) : Int))), (9, .data (.int .i64 i.1))], hpL [(0, .blk true [.data (.int .i64 0), .emp 0, .emp 0, .emp 0]), (1, .blk true [.data (.int .i64 nx), .ref 2 0 i.1 6, .emp 0, .emp 0]), (2, .blk true ((flat (sesss (sessRs l (7) i.1))).map D.data))], 3, 0, 144⟩ else ⟨envL [(0, .data (.sl 1 (bys l))), (2, .ptr 0 0), (4, .ptr 1 0), (5, .data (.int .i64 no)), (6, .data (.int .i64 ni)), (7, .data (.int .i64 nl)), (8, .data (.int .i64 ((7 + 42 * i.1 : Nat) : Int))), (9, .data (.int .i64 i.1))], hpL [(0, .blk true [.data (.int .i64 0), .emp 0, .emp 0, .emp 0]), (1, .blk true [.data (.int .i64 nx), .data (.sl 6 (sesss (sessRs l (7) i.1))), .emp 0, .emp 0])], 3, 0, 144⟩) (fun i => no - i.1) ⟨0, by omega⟩ [] (rhoL [(0, some 0), (1, some 6), (2, none)]) ?_ ?_
  · by_cases h0 : 0 < no
    · simp only [h0, if_true]
      apply ren_lists <;> simp -implicitDefEqProofs [go_sem, sessRs_zero, sesss, flat]
      all_goals trace_state
      all_goals omega
    · simp only [h0, if_false]
      apply ren_lists <;> simp -implicitDefEqProofs [go_sem, sessRs_zero, sesss]
      all_goals trace_state
      all_goals omega
  rintro ⟨i, hi⟩
  simp only
  by_cases h : i < no
  · rw [if_pos h]
    have hsn := sesss_flat_snoc (sessRs l (7) i) (sessR l (7 + 42 * i))
    rw [sessRs_succ] at hsn
    have hsl : (sesss (sessRs l (7) i)).length = i := by rw [sesss_length, sessRs_length]
    have hfl : (flat (sesss (sessRs l (7) i))).length = i * 6 := by rw [flat_len (es := 6) (sesss_cells _), hsl]
    have hsl2 : (sesss (sessRs l (7) (i + 1))).length = i + 1 := by rw [sesss_length, sessRs_length]
    have hnext : 7 + 42 * (i + 1) = (7 + 42 * i) + 42 := by omega
    have hab : 7 + 42 * i ≤ 100000 := by omega
    generalize hXS : (sesss (sessRs l (7) i)) = XS at *
    generalize hYS : (sesss (sessRs l (7) (i + 1))) = YS at *
    generalize 7 + 42 * i = a at *
    have k0 := rget_pc Γ l hl hb a 4 (by omega) (by omega)
    have l0 : getR l a 4 < 4294967296 := getR_lt hb a 4
    have k1 := rget_pc Γ l hl hb (a + 4) 1 (by omega) (by omega)
    have l1 : getR l (a + 4) 1 < 256 := getR_lt hb (a + 4) 1
    have k2 := rget_pc Γ l hl hb (a + 5) 4 (by omega) (by omega)
    have l2 : getR l (a + 5) 4 < 4294967296 := getR_lt hb (a + 5) 4
    have k3 := user_pc Γ l hl hb (a + 9) (by omega)
    have k4 := rget_pc Γ l hl hb (a + 26) 8 (by omega) (by omega)
    have l4 : getR l (a + 26) 8 < 18446744073709551616 := getR_lt hb (a + 26) 8
    have k5 := rget_pc Γ l hl hb (a + 34) 8 (by omega) (by omega)
    have l5 : getR l (a + 34) 8 < 18446744073709551616 := getR_lt hb (a + 34) 8
    simp only [sessR] at hsn
    generalize getR l a 4 = x0 at *
    have w0 : IntKind.i64.wrap (x0 : Int) = x0 := by rw [IntKind.wrap_i64]; omega
    generalize getR l (a + 4) 1 = x1 at *
    have w1 : IntKind.i64.wrap (x1 : Int) = x1 := by rw [IntKind.wrap_i64]; omega
    generalize getR l (a + 5) 4 = x2 at *
    have w2 : IntKind.u32.wrap (x2 : Int) = x2 := by rw [IntKind.wrap_u32]; omega
    generalize userR l (a + 9) = x3 at *
    generalize getR l (a + 26) 8 = x4 at *
    generalize getR l (a + 34) 8 = x5 at *
    simp -implicitDefEqProofs (disch := omega) [go_sem, w0, w1, w2]
    refine .inl (call_data k0 (by simp [go_sem]) ?_)
    simp -implicitDefEqProofs (disch := omega) [go_sem, hfl, w0, w1, w2]
    refine .inl (call_data k1 (by simp [go_sem]) ?_)
    simp -implicitDefEqProofs (disch := omega) [go_sem, hfl, w0, w1, w2]
    refine .inl (call_data k2 (by simp [go_sem]) ?_)
    simp -implicitDefEqProofs (disch := omega) [go_sem, hfl, w0, w1, w2]
    refine .inl (call_data k3 (by simp [go_sem]) ?_)
    simp -implicitDefEqProofs (disch := omega) [go_sem, hfl, w0, w1, w2]
    refine .inl (call_data k4 (by simp [go_sem]) ?_)
    simp -implicitDefEqProofs (disch := omega) [go_sem, hfl, w0, w1, w2]
    refine .inl (call_data k5 (by simp [go_sem]) ?_)
    simp -implicitDefEqProofs (disch := omega) [go_sem, hfl, w0, w1, w2]
    refine side (by kernel_rfl) ?_
    simp -implicitDefEqProofs (disch := omega) [go_sem, w0, w1, w2]
    refine next_ren ⟨i + 1, by omega⟩ (by simp only; omega) (if i + 1 < no then [] else [36]) (rhoL [(0, some 0), (1, some 1), (2, some 36)]) ?_
    by_cases h1 : i + 1 < no
    · simp only [h1, if_true]
      apply ren_lists <;> simp -implicitDefEqProofs [go_sem, hsn, hYS]
      all_goals first | omega | exact renCells_plain rfl (by simp [plainD]) | trace_state
    · simp only [h1, if_false]
      apply ren_lists <;> simp -implicitDefEqProofs [go_sem, hYS]
      all_goals first | omega | exact frz_ref (rw := false) (by rfl) (.inr rfl) hsl2 (by rw [← hYS]; exact sesss_cells _) hsn.symm | trace_state
  obtain rfl : no = i := by omega
  rw [if_neg h]
  simp -implicitDefEqProofs (disch := omega) [go_sem]
  refine loop_ren (σ := { i : Nat // i ≤ ni }) (fun i => if i.1 < ni then ⟨envL [(0, .data (.sl 1 (bys l))), (2, .ptr 0 0), (4, .ptr 1 0), (5, .data (.int .i64 no)), (6, .data (.int .i64 ni)), (7, .data (.int .i64 nl)), (8, .data (.int .i64 ((7 + 42 * no + 22 * i.1 : Nat) : Int))), (10, .data (.int .i64 i.1))], hpL [(0, .blk true [.data (.int .i64 0), .emp 0, .emp 0, .emp 0]), (1, .blk true [.data (.int .i64 nx), .data (.sl 6 (sesss (sessRs l (7) no))), .ref 2 0 i.1 5, .emp 0]), (2, .blk true ((flat (items (itemRs l (7 + 42 * no) i.1))).map D.data))], 3, 0, 144⟩ else ⟨envL [(0, .data (.sl 1 (bys l))), (2, .ptr 0 0), (4, .ptr 1 0), (5, .data (.int .i64 no)), (6, .data (.int .i64 ni)), (7, .data (.int .i64 nl)), (8, .data (.int .i64 ((7 + 42 * no + 22 * i.1 : Nat) : Int))), (10, .data (.int .i64 i.1))], hpL [(0, .blk true [.data (.int .i64 0), .emp 0, .emp 0, .emp 0]), (1, .blk true [.data (.int .i64 nx), .data (.sl 6 (sesss (sessRs l (7) no))), .data (.sl 5 (items (itemRs l (7 + 42 * no) i.1))), .emp 0])], 3, 0, 144⟩) (fun i => ni - i.1) ⟨0, by omega⟩ [] (rhoL [(0, some 0), (1, some 1), (2, none)]) ?_ ?_
  · by_cases h0 : 0 < ni
    · simp only [h0, if_true]
      apply ren_lists <;> simp -implicitDefEqProofs [go_sem, itemRs_zero, items, flat]
      all_goals trace_state
      all_goals omega
    · simp only [h0, if_false]
      apply ren_lists <;> simp -implicitDefEqProofs [go_sem, itemRs_zero, items]
      all_goals trace_state
      all_goals omega
  rintro ⟨i, hi⟩
  simp only
  by_cases h : i < ni
  · rw [if_pos h]
    have hsn := items_flat_snoc (itemRs l (7 + 42 * no) i) (itemR l (7 + 42 * no + 22 * i))
    rw [itemRs_succ] at hsn
    have hsl : (items (itemRs l (7 + 42 * no) i)).length = i := by rw [items_length, itemRs_length]
    have hfl : (flat (items (itemRs l (7 + 42 * no) i))).length = i * 5 := by rw [flat_len (es := 5) (items_cells _), hsl]
    have hsl2 : (items (itemRs l (7 + 42 * no) (i + 1))).length = i + 1 := by rw [items_length, itemRs_length]
    have hnext : 7 + 42 * no + 22 * (i + 1) = (7 + 42 * no + 22 * i) + 22 := by omega
    have hab : 7 + 42 * no + 22 * i ≤ 100000 := by omega
    generalize hXS : (items (itemRs l (7 + 42 * no) i)) = XS at *
    generalize hYS : (items (itemRs l (7 + 42 * no) (i + 1))) = YS at *
    generalize 7 + 42 * no + 22 * i = a at *
    have k0 := rget_pc Γ l hl hb a 1 (by omega) (by omega)
    have l0 : getR l a 1 < 256 := getR_lt hb a 1
    have k1 := rget_pc Γ l hl hb (a + 1) 4 (by omega) (by omega)
    have l1 : getR l (a + 1) 4 < 4294967296 := getR_lt hb (a + 1) 4
    have k2 := rget_pc Γ l hl hb (a + 5) 8 (by omega) (by omega)
    have l2 : getR l (a + 5) 8 < 18446744073709551616 := getR_lt hb (a + 5) 8
    have k3 := rget_pc Γ l hl hb (a + 13) 8 (by omega) (by omega)
    have l3 : getR l (a + 13) 8 < 18446744073709551616 := getR_lt hb (a + 13) 8
    have k4 := rget_pc Γ l hl hb (a + 21) 1 (by omega) (by omega)
    have l4 : getR l (a + 21) 1 < 256 := getR_lt hb (a + 21) 1
    simp only [itemR] at hsn
    generalize getR l a 1 = x0 at *
    have w0 : IntKind.i64.wrap (x0 : Int) = x0 := by rw [IntKind.wrap_i64]; omega
    generalize getR l (a + 1) 4 = x1 at *
    have w1 : IntKind.i64.wrap (x1 : Int) = x1 := by rw [IntKind.wrap_i64]; omega
    generalize getR l (a + 5) 8 = x2 at *
    generalize getR l (a + 13) 8 = x3 at *
    generalize getR l (a + 21) 1 = x4 at *
    have w4 : IntKind.i64.wrap (x4 : Int) = x4 := by rw [IntKind.wrap_i64]; omega
    simp -implicitDefEqProofs (disch := omega) [go_sem, w0, w1, w4]
    refine .inl (call_data k0 (by simp [go_sem]) ?_)
    simp -implicitDefEqProofs (disch := omega) [go_sem, hfl, w0, w1, w4]
    refine .inl (call_data k1 (by simp [go_sem]) ?_)
    simp -implicitDefEqProofs (disch := omega) [go_sem, hfl, w0, w1, w4]
    refine .inl (call_data k2 (by simp [go_sem]) ?_)
    simp -implicitDefEqProofs (disch := omega) [go_sem, hfl, w0, w1, w4]
    refine .inl (call_data k3 (by simp [go_sem]) ?_)
    simp -implicitDefEqProofs (disch := omega) [go_sem, hfl, w0, w1, w4]
    refine .inl (call_data k4 (by simp [go_sem]) ?_)
    simp -implicitDefEqProofs (disch := omega) [go_sem, hfl, w0, w1, w4]
    refine side (by kernel_rfl) ?_
    simp -implicitDefEqProofs (disch := omega) [go_sem, w0, w1, w4]
    refine next_ren ⟨i + 1, by omega⟩ (by simp only; omega) (if i + 1 < ni then [] else [32]) (rhoL [(0, some 0), (1, some 1), (2, some 32)]) ?_
    by_cases h1 : i + 1 < ni
    · simp only [h1, if_true]
      apply ren_lists <;> simp -implicitDefEqProofs [go_sem, hsn, hYS]
      all_goals first | omega | exact renCells_plain rfl (by simp [plainD]) | trace_state
    · simp only [h1, if_false]
      apply ren_lists <;> simp -implicitDefEqProofs [go_sem, hYS]
      all_goals first | omega | exact frz_ref (rw := false) (by rfl) (.inr rfl) hsl2 (by rw [← hYS]; exact items_cells _) hsn.symm | trace_state
  obtain rfl : ni = i := by omega
  rw [if_neg h]
  simp -implicitDefEqProofs (disch := omega) [go_sem]
  refine loop_ren (σ := { i : Nat // i ≤ nl }) (fun i => if i.1 < nl then ⟨envL [(0, .data (.sl 1 (bys l))), (2, .ptr 0 0), (4, .ptr 1 0), (5, .data (.int .i64 no)), (6, .data (.int .i64 ni)), (7, .data (.int .i64 nl)), (8, .data (.int .i64 ((7 + 42 * no + 22 * ni + 22 * i.1 : Nat) : Int))), (11, .data (.int .i64 i.1))], hpL [(0, .blk true [.data (.int .i64 0), .emp 0, .emp 0, .emp 0]), (1, .blk true [.data (.int .i64 nx), .data (.sl 6 (sesss (sessRs l (7) no))), .data (.sl 5 (items (itemRs l (7 + 42 * no) ni))), .ref 2 0 i.1 3]), (2, .blk true ((flat (locks (lockRs l (7 + 42 * no + 22 * ni) i.1))).map D.data))], 3, 0, 144⟩ else ⟨envL [(0, .data (.sl 1 (bys l))), (2, .ptr 0 0), (4, .ptr 1 0), (5, .data (.int .i64 no)), (6, .data (.int .i64 ni)), (7, .data (.int .i64 nl)), (8, .data (.int .i64 ((7 + 42 * no + 22 * ni + 22 * i.1 : Nat) : Int))), (11, .data (.int .i64 i.1))], hpL [(0, .blk true [.data (.int .i64 0), .emp 0, .emp 0, .emp 0]), (1, .blk true [.data (.int .i64 nx), .data (.sl 6 (sesss (sessRs l (7) no))), .data (.sl 5 (items (itemRs l (7 + 42 * no) ni))), .data (.sl 3 (locks (lockRs l (7 + 42 * no + 22 * ni) i.1)))])], 3, 0, 144⟩) (fun i => nl - i.1) ⟨0, by omega⟩ [] (rhoL [(0, some 0), (1, some 1), (2, none)]) ?_ ?_
  · by_cases h0 : 0 < nl
    · simp only [h0, if_true]
      apply ren_lists <;> simp -implicitDefEqProofs [go_sem, lockRs_zero, locks, flat]
      all_goals trace_state
      all_goals omega
    · simp only [h0, if_false]
      apply ren_lists <;> simp -implicitDefEqProofs [go_sem, lockRs_zero, locks]
      all_goals trace_state
      all_goals omega
  rintro ⟨i, hi⟩
  simp only
  by_cases h : i < nl
  · rw [if_pos h]
    have hsn := locks_flat_snoc (lockRs l (7 + 42 * no + 22 * ni) i) (lockR l (7 + 42 * no + 22 * ni + 22 * i))
    rw [lockRs_succ] at hsn
    have hsl : (locks (lockRs l (7 + 42 * no + 22 * ni) i)).length = i := by rw [locks_length, lockRs_length]
    have hfl : (flat (locks (lockRs l (7 + 42 * no + 22 * ni) i))).length = i * 3 := by rw [flat_len (es := 3) (locks_cells _), hsl]
    have hsl2 : (locks (lockRs l (7 + 42 * no + 22 * ni) (i + 1))).length = i + 1 := by rw [locks_length, lockRs_length]
    have hnext : 7 + 42 * no + 22 * ni + 22 * (i + 1) = (7 + 42 * no + 22 * ni + 22 * i) + 22 := by omega
    have hab : 7 + 42 * no + 22 * ni + 22 * i ≤ 100000 := by omega
    generalize hXS : (locks (lockRs l (7 + 42 * no + 22 * ni) i)) = XS at *
    generalize hYS : (locks (lockRs l (7 + 42 * no + 22 * ni) (i + 1))) = YS at *
    generalize 7 + 42 * no + 22 * ni + 22 * i = a at *
    have k0 := user_pc Γ l hl hb a (by omega)
    have k1 := rget_pc Γ l hl hb (a + 17) 1 (by omega) (by omega)
    have l1 : getR l (a + 17) 1 < 256 := getR_lt hb (a + 17) 1
    have k2 := rget_pc Γ l hl hb (a + 18) 4 (by omega) (by omega)
    have l2 : getR l (a + 18) 4 < 4294967296 := getR_lt hb (a + 18) 4
    simp only [lockR] at hsn
    generalize userR l a = x0 at *
    generalize getR l (a + 17) 1 = x1 at *
    have w1 : IntKind.i64.wrap (x1 : Int) = x1 := by rw [IntKind.wrap_i64]; omega
    generalize getR l (a + 18) 4 = x2 at *
    have w2 : IntKind.i64.wrap (x2 : Int) = x2 := by rw [IntKind.wrap_i64]; omega
    simp -implicitDefEqProofs (disch := omega) [go_sem, w1, w2]
    refine .inl (call_data k0 (by simp [go_sem]) ?_)
    simp -implicitDefEqProofs (disch := omega) [go_sem, hfl, w1, w2]
    refine .inl (call_data k1 (by simp [go_sem]) ?_)
    simp -implicitDefEqProofs (disch := omega) [go_sem, hfl, w1, w2]
    refine .inl (call_data k2 (by simp [go_sem]) ?_)
    simp -implicitDefEqProofs (disch := omega) [go_sem, hfl, w1, w2]
    refine side (by kernel_rfl) ?_
    simp -implicitDefEqProofs (disch := omega) [go_sem, w1, w2]
    refine next_ren ⟨i + 1, by omega⟩ (by simp only; omega) (if i + 1 < nl then [] else [23]) (rhoL [(0, some 0), (1, some 1), (2, some 23)]) ?_
    by_cases h1 : i + 1 < nl
    · simp only [h1, if_true]
      apply ren_lists <;> simp -implicitDefEqProofs [go_sem, hsn, hYS]
      all_goals first | omega | exact renCells_plain rfl (by simp [plainD]) | trace_state
    · simp only [h1, if_false]
      apply ren_lists <;> simp -implicitDefEqProofs [go_sem, hYS]
      all_goals first | omega | exact frz_ref (rw := false) (by rfl) (.inr rfl) hsl2 (by rw [← hYS]; exact locks_cells _) hsn.symm | trace_state
  obtain rfl : nl = i := by omega
  rw [if_neg h]
  simp -implicitDefEqProofs (disch := omega) [go_sem]
  cases q1 with
  | true =>
    have hR := hq1.1 rfl
    have hs := hshort hR
    rw [if_pos rfl] at cb
    have hlen : (padB 2048 (bookB B)).length = 2048 := padB_length hs
    have cr := row_pc Γ l (padB 2048 (bookB B)) (by omega) (by omega)
    refine .inl (call_data cb (by simp [go_sem]) ?_)
    simp -implicitDefEqProofs (disch := omega) [go_sem]
    refine .inl (call_data cr (by simp [go_sem]) ?_)
    by_cases h2 : l = padB 2048 (bookB B)
    · have hqt : q = true := hq.2 ⟨hR, h2⟩
      rw [decide_eq_true h2, if_pos hqt]
      simp -implicitDefEqProofs (disch := omega) [go_sem, Try.f20]
    · have hqf : ¬ q = true := fun h => h2 (hq.1 h).2
      rw [decide_eq_false h2, if_neg hqf]
      simp -implicitDefEqProofs (disch := omega) [go_sem, Try.f20, book, noBook, sesss, items, locks]
      exact ⟨_, ⟨_, rfl, frz_aggL (frzL_c ((frz_data _ _ _ _).2 rfl) (frzL_c (.emp 0 6) (frzL_c (.emp 0 5) (frzL_c (.emp 0 3) frzL_n))))⟩, rfl⟩
  | false =>
    have hqf : ¬ q = true := fun h => by have := hq1.2 (hq.1 h).1; cases this
    rw [if_neg hqf]
    rw [if_neg (by decide)] at cb
    have cr := row_pc Γ l [] (by omega) (by simp)
    refine .inl (call_data cb (by simp [go_sem]) ?_)
    simp -implicitDefEqProofs (disch := omega) [go_sem]
    refine .inl (call_data cr (by simp [go_sem]) ?_)
    simp -implicitDefEqProofs (disch := omega) [go_sem, Try.f20, book, noBook, sesss, items, locks]
    exact ⟨_, ⟨_, rfl, frz_aggL (frzL_c ((frz_data _ _ _ _).2 rfl) (frzL_c (.emp 0 6) (frzL_c (.emp 0 5) (frzL_c (.emp 0 3) frzL_n))))⟩, rfl⟩
end
end Bk
end Go.Proofs.Ytdgklbbgbnapoaa
namespace Go.Proofs.Ytdgklbbgbnapoaa
open Go.RowKit
set_option linter.unusedVariables false
set_option linter.unusedSimpArgs false
set_option maxRecDepth 100000
namespace Bk
theorem lift_rows {α : Type} {f : α → Data} {p : α → Prop} {l : List Data} (h : ∀ x ∈ l, ∃ a, p a ∧ x = f a) : ∃ bs : List α, l = bs.map f ∧ ∀ a ∈ bs, p a := by
  induction l with
  | nil => exact ⟨[], rfl, fun a ha => by cases ha⟩
  | cons x t ih =>
    obtain ⟨a, pa, rfl⟩ := h _ List.mem_cons_self
    obtain ⟨bs, rfl, hp⟩ := ih fun y hy => h y (List.mem_cons_of_mem _ hy)
    exact ⟨a :: bs, rfl, fun b hb => by
      rcases List.mem_cons.1 hb with rfl | hb
      · exact pa
      · exact hp b hb⟩
theorem ok_u64 {n : Nat} {t : TypeId} {ds : List Data} (hu : Try.prog.underlying t = some (.int .u64)) (h : okD Try.prog (n + 1) t ds) : ∃ i : Int, U64 i ∧ ds = [.int .u64 i] := by
  obtain ⟨i, h1, h2, rfl⟩ := ok_int hu h
  have e1 : IntKind.u64.min = 0 := by decide
  have e2 : IntKind.u64.max = 18446744073709551615 := by decide
  exact ⟨i, ⟨by omega, by omega⟩, rfl⟩
theorem ok_u32 {n : Nat} {t : TypeId} {ds : List Data} (hu : Try.prog.underlying t = some (.int .u32)) (h : okD Try.prog (n + 1) t ds) : ∃ i : Int, (0 ≤ i ∧ i ≤ 4294967295) ∧ ds = [.int .u32 i] := by
  obtain ⟨i, h1, h2, rfl⟩ := ok_int hu h
  have e1 : IntKind.u32.min = 0 := by decide
  have e2 : IntKind.u32.max = 4294967295 := by decide
  exact ⟨i, ⟨by omega, by omega⟩, rfl⟩
theorem ok_text {n : Nat} {t : TypeId} {ds : List Data} (hu : Try.prog.underlying t = some .string) (h : okD Try.prog (n + 1) t ds) : ∃ s : ByteArray, s.size ≤ 140737488351232 ∧ ds = [.str s] := by
  unfold okD at h
  simp only [hu] at h
  obtain ⟨s, rfl, hs⟩ := h
  exact ⟨s, hs, rfl⟩
theorem arg_sess {n : Nat} {x : Data} (a : argD Try.prog (n + 2) 89 x) : ∃ s : Sess, (s.Ty ∧ s.user.size ≤ 140737488351232) ∧ x = sess s := by
  obtain ⟨ds, rfl, h⟩ := arg_struct Try.underlying89 a
  obtain ⟨d1, r1, rfl, h1, h⟩ := okF_cons h
  obtain ⟨d2, r2, rfl, h2, h⟩ := okF_cons h
  obtain ⟨d3, r3, rfl, h3, h⟩ := okF_cons h
  obtain ⟨d4, r4, rfl, h4, h⟩ := okF_cons h
  obtain ⟨d5, r5, rfl, h5, h⟩ := okF_cons h
  obtain ⟨d6, r6, rfl, h6, h⟩ := okF_cons h
  obtain rfl := okF_nil h
  obtain ⟨i1, a1, b1, rfl⟩ := ok_i64 Try.underlying3 h1
  obtain ⟨i2, a2, b2, rfl⟩ := ok_i64 Try.underlying3 h2
  obtain ⟨i3, a3, rfl⟩ := ok_u32 Try.underlying22 h3
  obtain ⟨u, hu, rfl⟩ := ok_text Try.underlying9 h4
  obtain ⟨i5, a5, rfl⟩ := ok_u64 Try.underlying23 h5
  obtain ⟨i6, a6, rfl⟩ := ok_u64 Try.underlying23 h6
  exact ⟨⟨i1, i2, i3, u, i5, i6⟩, ⟨⟨⟨a1, b1⟩, ⟨a2, b2⟩, a3, Nat.le_trans hu (by decide), a5, a6⟩, hu⟩, rfl⟩
theorem arg_item {n : Nat} {x : Data} (a : argD Try.prog (n + 2) 94 x) : ∃ s : Item, s.Ty ∧ x = item s := by
  obtain ⟨ds, rfl, h⟩ := arg_struct Try.underlying94 a
  obtain ⟨d1, r1, rfl, h1, h⟩ := okF_cons h
  obtain ⟨d2, r2, rfl, h2, h⟩ := okF_cons h
  obtain ⟨d3, r3, rfl, h3, h⟩ := okF_cons h
  obtain ⟨d4, r4, rfl, h4, h⟩ := okF_cons h
  obtain ⟨d5, r5, rfl, h5, h⟩ := okF_cons h
  obtain rfl := okF_nil h
  obtain ⟨i1, a1, b1, rfl⟩ := ok_i64 Try.underlying3 h1
  obtain ⟨i2, a2, b2, rfl⟩ := ok_i64 Try.underlying3 h2
  obtain ⟨i3, a3, rfl⟩ := ok_u64 Try.underlying23 h3
  obtain ⟨i4, a4, rfl⟩ := ok_u64 Try.underlying23 h4
  obtain ⟨i5, a5, b5, rfl⟩ := ok_i64 Try.underlying3 h5
  exact ⟨⟨i1, i2, i3, i4, i5⟩, ⟨⟨a1, b1⟩, ⟨a2, b2⟩, a3, a4, ⟨a5, b5⟩⟩, rfl⟩
theorem arg_lock {n : Nat} {x : Data} (a : argD Try.prog (n + 2) 91 x) : ∃ s : Lock, (s.Ty ∧ s.user.size ≤ 140737488351232) ∧ x = lock s := by
  obtain ⟨ds, rfl, h⟩ := arg_struct Try.underlying91 a
  obtain ⟨d1, r1, rfl, h1, h⟩ := okF_cons h
  obtain ⟨d2, r2, rfl, h2, h⟩ := okF_cons h
  obtain ⟨d3, r3, rfl, h3, h⟩ := okF_cons h
  obtain rfl := okF_nil h
  obtain ⟨u, hu, rfl⟩ := ok_text Try.underlying9 h1
  obtain ⟨i2, a2, b2, rfl⟩ := ok_i64 Try.underlying3 h2
  obtain ⟨i3, a3, b3, rfl⟩ := ok_i64 Try.underlying3 h3
  exact ⟨⟨u, i2, i3⟩, ⟨⟨Nat.le_trans hu (by decide), ⟨a2, b2⟩, ⟨a3, b3⟩⟩, hu⟩, rfl⟩
theorem arg_book {n : Nat} {x : Data} (a : argD Try.prog (n + 4) 45 x) : ∃ b : Book, Fits b ∧ b.Ty ∧ x = book b := by
  obtain ⟨ds, rfl, h⟩ := arg_struct Try.underlying45 a
  obtain ⟨d1, r1, rfl, h1, h⟩ := okF_cons h
  obtain ⟨d2, r2, rfl, h2, h⟩ := okF_cons h
  obtain ⟨d3, r3, rfl, h3, h⟩ := okF_cons h
  obtain ⟨d4, r4, rfl, h4, h⟩ := okF_cons h
  obtain rfl := okF_nil h
  obtain ⟨i1, a1, b1, rfl⟩ := ok_i64 Try.underlying3 h1
  obtain ⟨l2, rfl, k2, e2⟩ := ok_slice Try.underlying41 h2
  obtain ⟨l3, rfl, k3, e3⟩ := ok_slice Try.underlying42 h3
  obtain ⟨l4, rfl, k4, e4⟩ := ok_slice Try.underlying43 h4
  obtain ⟨l2, rfl, p2⟩ := lift_rows fun x hx => arg_sess (e2 x hx)
  obtain ⟨l3, rfl, p3⟩ := lift_rows fun x hx => arg_item (e3 x hx)
  obtain ⟨l4, rfl, p4⟩ := lift_rows fun x hx => arg_lock (e4 x hx)
  refine ⟨⟨i1, l2, l3, l4⟩, ⟨by simpa using k2, by simpa using k3, by simpa using k4, fun s hs => (p2 s hs).2, fun s hs => (p4 s hs).2⟩, ⟨fun s hs => (p2 s hs).1, p3, fun s hs => (p4 s hs).1⟩, ?_⟩
  rw [show Try.prog.cellsOf 89 = 6 by kernel_rfl, show Try.prog.cellsOf 94 = 5 by kernel_rfl, show Try.prog.cellsOf 91 = 3 by kernel_rfl]
  rfl
structure Op.Ty (o : Op) : Prop where
  kind : R64 o.kind
  id : R64 o.id
  link : R64 o.link
  addr : 0 ≤ o.addr ∧ o.addr ≤ 4294967295
  user : o.user.size ≤ 140737488351232
  inn : U64 o.inn
  out : U64 o.out
  cause : R64 o.cause
  at_ : R64 o.at_
theorem arg_op {n : Nat} {x : Data} (a : argD Try.prog (n + 2) 25 x) : ∃ o : Op, o.Ty ∧ x = op o := by
  obtain ⟨ds, rfl, h⟩ := arg_struct Try.underlying25 a
  obtain ⟨d1, r1, rfl, h1, h⟩ := okF_cons h
  obtain ⟨d2, r2, rfl, h2, h⟩ := okF_cons h
  obtain ⟨d3, r3, rfl, h3, h⟩ := okF_cons h
  obtain ⟨d4, r4, rfl, h4, h⟩ := okF_cons h
  obtain ⟨d5, r5, rfl, h5, h⟩ := okF_cons h
  obtain ⟨d6, r6, rfl, h6, h⟩ := okF_cons h
  obtain ⟨d7, r7, rfl, h7, h⟩ := okF_cons h
  obtain ⟨d8, r8, rfl, h8, h⟩ := okF_cons h
  obtain ⟨d9, r9, rfl, h9, h⟩ := okF_cons h
  obtain rfl := okF_nil h
  obtain ⟨i1, a1, b1, rfl⟩ := ok_i64 Try.underlying3 h1
  obtain ⟨i2, a2, b2, rfl⟩ := ok_i64 Try.underlying3 h2
  obtain ⟨i3, a3, b3, rfl⟩ := ok_i64 Try.underlying3 h3
  obtain ⟨i4, a4, rfl⟩ := ok_u32 Try.underlying22 h4
  obtain ⟨u, hu, rfl⟩ := ok_text Try.underlying9 h5
  obtain ⟨i6, a6, rfl⟩ := ok_u64 Try.underlying23 h6
  obtain ⟨i7, a7, rfl⟩ := ok_u64 Try.underlying23 h7
  obtain ⟨i8, a8, b8, rfl⟩ := ok_i64 Try.underlying3 h8
  obtain ⟨i9, a9, b9, rfl⟩ := ok_i64 Try.underlying3 h9
  exact ⟨⟨i1, i2, i3, i4, u, i6, i7, i8, i9⟩, ⟨⟨a1, b1⟩, ⟨a2, b2⟩, ⟨a3, b3⟩, a4, hu, a6, a7, ⟨a8, b8⟩, ⟨a9, b9⟩⟩, rfl⟩
theorem ok_op {n : Nat} {ds : List Data} (h : okD Try.prog (n + 2) 25 ds) : ∃ o : Op, o.Ty ∧ ds = (op o).cells := by
  obtain ⟨o, ho, e⟩ := arg_op (n := n) (x := mkE Try.prog 25 ds) ⟨ds, rfl, h⟩
  refine ⟨o, ho, ?_⟩
  simp only [mkE, Try.underlying25] at e
  rw [← e]
  rfl
theorem ok_book {n : Nat} {ds : List Data} (h : okD Try.prog (n + 4) 45 ds) : ∃ b : Book, Fits b ∧ b.Ty ∧ ds = (book b).cells := by
  obtain ⟨o, hf, ho, e⟩ := arg_book (n := n) (x := mkE Try.prog 45 ds) ⟨ds, rfl, h⟩
  refine ⟨o, hf, ho, ?_⟩
  simp only [mkE, Try.underlying45] at e
  rw [← e]
  rfl
/-- An array of two numbers. -/
theorem ok_two {n : Nat} {t e : TypeId} {ds : List Data} (hu : Try.prog.underlying t = some (.array 2 e)) (he : Try.prog.underlying e = some (.int .i64)) (h : okD Try.prog (n + 2) t ds) : ∃ i j : Int, R64 i ∧ R64 j ∧ ds = [.int .i64 i, .int .i64 j] := by
  unfold okD at h
  simp only [hu] at h
  obtain ⟨a, b, rfl, h1, h⟩ := h
  obtain ⟨c, d, rfl, h2, h⟩ := h
  have h : d = [] := h
  subst h
  obtain ⟨i, a1, b1, rfl⟩ := ok_i64 he h1
  obtain ⟨j, a2, b2, rfl⟩ := ok_i64 he h2
  exact ⟨i, j, ⟨a1, b1⟩, ⟨a2, b2⟩, rfl⟩
end Bk
end Go.Proofs.Ytdgklbbgbnapoaa
namespace Go.Proofs.Ytdgklbbgbnapoaa
open Go.RowKit
set_option linter.unusedVariables false
set_option linter.unusedSimpArgs false
set_option maxRecDepth 100000
namespace Bk
theorem op_flat : ∃ fs, FlatS Try.prog 25 fs [.i .i64, .i .i64, .i .i64, .i .u32, .s, .i .u64, .i .u64, .i .i64, .i .i64] := ⟨_, {
  ut := Try.underlying25
  n := rfl
  ct := by kernel_rfl
  names := by simp
  each := by kernel_rfl
  deep := run_equalIn_deep 9998 2 25 (by kernel_rfl)
  guard := by kernel_rfl }⟩
theorem Op.fit {o : Op} (h : o.Ty) : FitD [.i .i64, .i .i64, .i .i64, .i .u32, .s, .i .u64, .i .u64, .i .i64, .i .i64] [.int .i64 o.kind, .int .i64 o.id, .int .i64 o.link, .int .u32 o.addr, .str o.user, .int .u64 o.inn, .int .u64 o.out, .int .i64 o.cause, .int .i64 o.at_] := by
  simp only [fitD_cons, fitD_nil]
  exact ⟨fit_int h.kind, fit_int h.id, fit_int h.link, fit_int h.addr, fit_str (Nat.le_trans h.user (by decide)), fit_int h.inn, fit_int h.out, fit_int h.cause, fit_int h.at_, trivial⟩
theorem op_eq (a c : Op) : ([.int .i64 a.kind, .int .i64 a.id, .int .i64 a.link, .int .u32 a.addr, .str a.user, .int .u64 a.inn, .int .u64 a.out, .int .i64 a.cause, .int .i64 a.at_] : List Data) = [.int .i64 c.kind, .int .i64 c.id, .int .i64 c.link, .int .u32 c.addr, .str c.user, .int .u64 c.inn, .int .u64 c.out, .int .i64 c.cause, .int .i64 c.at_] ↔ a = c := by
  cases a; cases c; simp
theorem eqK_op {a c : Op} (ha : a.Ty) (hc : c.Ty) {K : Bool → Prop} (hk : K (decide (a = c))) : eqK Try.prog 25 (.agg [.int .i64 a.kind, .int .i64 a.id, .int .i64 a.link, .int .u32 a.addr, .str a.user, .int .u64 a.inn, .int .u64 a.out, .int .i64 a.cause, .int .i64 a.at_]) (.agg [.int .i64 c.kind, .int .i64 c.id, .int .i64 c.link, .int .u32 c.addr, .str c.user, .int .u64 c.inn, .int .u64 c.out, .int .i64 c.cause, .int .i64 c.at_]) K := by
  obtain ⟨fs, hf⟩ := op_flat
  exact eqK_flat hf (Op.fit ha) (Op.fit hc) (op_eq a c) hk
theorem OpFit.ty {o : Op} (h : OpFit o) : o.Ty := by
  obtain ⟨h1, h2, h3, h4, h5, h6, h7, h8, h9⟩ := h
  unfold Fit at h1 h2 h3 h4 h6 h7 h8 h9
  refine ⟨?_, ?_, ?_, ?_, ?_, ?_, ?_, ?_, ?_⟩
  all_goals first | (unfold R64; omega) | (unfold U64; omega) | omega
theorem Op.Ty.range {o : Op} (h : o.Ty) : OpRange o := by
  have h1 := h.addr
  have h2 := h.inn
  have h3 := h.out
  unfold U64 at h2 h3
  exact ⟨⟨h1.1, by omega⟩, ⟨h2.1, by omega⟩, ⟨h3.1, by omega⟩⟩
theorem noOp_ty : noOp.Ty := by
  refine ⟨?_, ?_, ?_, ?_, ?_, ?_, ?_, ?_, ?_⟩ <;> first | (unfold R64; decide) | (unfold U64; decide) | decide
theorem right_no : RightP noBook := by
  refine ⟨by decide, by decide, by decide, by decide, ?_, ?_, ?_, ?_⟩
  all_goals intro i h; exact absurd h (by simp [noBook])
theorem no_fit : BookFit noBook := ⟨⟨by decide, by decide⟩, by decide, by decide, by decide, (by intro s hs; cases hs), (by intro s hs; cases hs), (by intro s hs; cases hs)⟩
def uU : ByteArray := ⟨#[117]⟩
theorem uU_size : uU.size = 1 := rfl
def opU : Op := ⟨4, 0, 0, 0, uU, 0, 0, 0, 7⟩
theorem opU_ty : opU.Ty := by
  refine ⟨?_, ?_, ?_, ?_, ?_, ?_, ?_, ?_, ?_⟩ <;> first | (unfold R64; decide) | (unfold U64; decide) | decide
theorem recU : RecP 2 3 opU := ⟨by decide, by decide, by simp [MayP, opU, uU_size]⟩
section
variable (Γ : Nat → Option (List Data))
set_option maxHeartbeats 8000000 in
theorem shown_pc : PC Try.prog Γ 10 [] (.bool true) := by
  refine pc_by mixed Try.func10 rfl (fun args w => Try.call10 args w) ?_
  obtain ⟨H, hH⟩ : ∃ H, padB 128 (headB 1) = H := ⟨_, rfl⟩
  have h0 : H[0]? = some 72 := by rw [← hH]; rfl
  have h5 : H[5]? = some 1 := by rw [← hH]; rfl
  have hl : H.length = 128 := by rw [← hH]; exact padB_length (by simp [headB, be_length])
  have hHb : Bytes H := by rw [← hH]; exact padB_bytes (by unfold headB; simp only [bytes_app]; exact ⟨be_bytes _ _, be_bytes _ _, be_bytes _ _⟩)
  have c1 := headBytes_pc Γ 1
  rw [if_pos ⟨by decide, by decide⟩, show (1 : Int).toNat = 1 from rfl, hH] at c1
  have c2 := readHead_pc Γ H (by omega) hHb
  rw [(headP_iff hHb 1 _).2 ⟨⟨by decide, by decide⟩, hH.symm, rfl⟩] at c2
  simp only [gotN, gotE] at c2
  obtain ⟨R, hR⟩ : ∃ R, padB 128 (recB 2 3 opU) = R := ⟨_, rfl⟩
  have hfU := recU.fit opU_ty.range
  have hRb : Bytes R := by rw [← hR]; exact padB_bytes (recB_bytes hfU.op.user)
  have hRl : R.length = 128 := by rw [← hR]; exact padB_length (by rw [recB_length hfU]; omega)
  have c3 := opBytes_pc Γ 2 3 opU opU_ty.range
  rw [if_pos recU, hR] at c3
  have c4 := readOp_pc Γ R (by omega) hRb
  have hrb := record_back recU opU_ty.range
  rw [hR] at hrb
  rw [hrb] at c4
  simp only [gotG, gotE] at c4
  obtain ⟨S, hS⟩ : ∃ S, padB 2048 (bookB noBook) = S := ⟨_, rfl⟩
  have hSl : S.length = 2048 := by rw [← hS]; exact padB_length (right_no.short no_fit)
  have hSb : Bytes S := by rw [← hS]; exact padB_bytes (bookB_bytes no_fit)
  have cr := right3_pc Γ noBook no_fit.fits no_fit.ty.i (q := true) ⟨fun _ => right_no, fun _ => rfl⟩
  have c5 := bookBytes_pc Γ noBook no_fit.ty ⟨fun _ => right_no, fun _ => rfl⟩ cr
  rw [if_pos rfl, hS] at c5
  obtain ⟨p, hP⟩ := bookP_ex S
  have hpq := (hP noBook _).2 ⟨by rw [← hS]; exact book_back no_fit (right_no.short no_fit), right_no, by simp⟩
  have c6 := readBook_pc Γ S (by omega) hSb p hP
  rw [hpq] at c6
  simp only [gotB, gotE] at c6
  have c7 := same_pc Γ noBook noBook no_fit.fits no_fit.fits no_fit.ty no_fit.ty
  rw [decide_eq_true rfl] at c7
  clear hpq hP hS hR hH hrb hfU cr
  simp -implicitDefEqProofs (disch := omega) [go_sem]
  refine .inl (call_data c1 (by simp [go_sem]) ?_)
  simp -implicitDefEqProofs (disch := omega) [go_sem]
  refine .inl (call_data c2 (by simp [go_sem]) ?_)
  simp -implicitDefEqProofs (disch := omega) [go_sem]
  refine .inl (call_data c3 (by simp [go_sem, op, opU, uU]) ?_)
  simp -implicitDefEqProofs (disch := omega) [go_sem]
  refine .inl (call_data c4 (by simp [go_sem]) ?_)
  simp -implicitDefEqProofs (disch := omega) [go_sem, op, opU, uU]
  refine .inl (call_frz [] [] (by simp) c5 (fun H' _ => frzL_c (frz_aggL (frzL_c ((frz_data _ _ _ _).2 rfl) (frzL_c (.emp 0 6) (frzL_c (.emp 0 5) (frzL_c (.emp 0 3) frzL_n))))) frzL_n) ?_)
  simp -implicitDefEqProofs (disch := omega) [go_sem]
  refine .inl (call_data c6 (by simp [go_sem]) ?_)
  simp -implicitDefEqProofs (maxSteps := 2000000) (disch := omega) [go_sem, book, noBook, -getElem?_pos, h0, h5, hl]
  refine eqK_op opU_ty opU_ty ?_
  simp -implicitDefEqProofs (disch := omega) [go_sem, hSl]
  refine .inl (call_frz [] [] (by simp) c7 (fun H' _ => frzL_c ((frz_data _ _ _ _).2 rfl) (frzL_c (frz_aggL (frzL_c ((frz_data _ _ _ _).2 rfl) (frzL_c (.emp 0 6) (frzL_c (.emp 0 5) (frzL_c (.emp 0 3) frzL_n))))) frzL_n)) ?_)
  simp -implicitDefEqProofs (disch := omega) [go_sem, Try.f10]
end
end Bk
end Go.Proofs.Ytdgklbbgbnapoaa
namespace Go.Proofs.Ytdgklbbgbnapoaa
open Go.RowKit
set_option linter.unusedVariables false
set_option linter.unusedSimpArgs false
set_option maxRecDepth 100000
namespace Bk
theorem prop_bool (p : Prop) : ∃ q : Bool, q = true ↔ p := by classical exact ⟨decide p, by simp⟩
theorem headB_bytes (n : Nat) : Bytes (headB n) := by unfold headB; simp only [bytes_app]; exact ⟨be_bytes _ _, be_bytes _ _, be_bytes _ _⟩
def headL (g : Int) : List Nat := if 1 ≤ g ∧ g ≤ 1000000000 then padB 128 (headB g.toNat) else []
def headE (g : Int) : Int := if 1 ≤ g ∧ g ≤ 1000000000 then 0 else 1
theorem headL_length (g : Int) : (headL g).length ≤ 128 := by
  unfold headL
  split
  · rw [padB_length (by simp [headB, be_length])]; omega
  · simp
def recL (q : Bool) (g s : Int) (o : Op) : List Nat := if q = true then padB 128 (recB g s o) else []
def recE (q : Bool) : Int := if q = true then 0 else 1
theorem recL_length {q : Bool} {g s : Int} {o : Op} (hq : q = true ↔ RecP g s o) (ho : OpRange o) : (recL q g s o).length ≤ 128 := by
  unfold recL
  split
  · rename_i h; rw [padB_length (by rw [recB_length ((hq.1 h).fit ho)]; omega)]; omega
  · simp
def bookL (q : Bool) (b : Book) : List Nat := if q = true then padB 2048 (bookB b) else []
theorem bookL_length {q : Bool} {b : Book} (hq : q = true ↔ RightP b) (ht : b.Ty) : (bookL q b).length ≤ 2048 := by
  unfold bookL
  split
  · rename_i h
    have hr := hq.1 h
    rw [padB_length (hr.short (hr.bfit ht))]; omega
  · simp
theorem gotB_fit {l : List Nat} {p : Option (Book × List Nat)} (hl : Bytes l) (hP : BookPIs l p) : BookFit (gotB p) := by
  cases p with
  | none => exact no_fit
  | some x =>
    obtain ⟨b, r⟩ := x
    exact ((bookQ_iff hl b r).1 ((hP b r).1 rfl).1).2.2
theorem gotG_ty {l : List Nat} (hl : Bytes l) : (gotG (recordP l)).2.2.Ty := by
  cases hp : recordP l with
  | none => exact noOp_ty
  | some x =>
    obtain ⟨⟨g, s, o⟩, r⟩ := x
    exact ((recordP_iff hl g s o r).1 hp).2.1.op.ty
section
variable (Γ : Nat → Option (List Data))
theorem head_u (g : Int) : PC Try.prog Γ 21 [.int .i64 g] (.tup [.sl 1 (bys (headL g)), .int .i64 (headE g)]) := by
  have c := headBytes_pc Γ g
  unfold headL headE
  split
  · rename_i h; rwa [if_pos h] at c
  · rename_i h; rwa [if_neg h] at c
theorem op_u (g s : Int) (o : Op) (ho : OpRange o) {q : Bool} (hq : q = true ↔ RecP g s o) : PC Try.prog Γ 11 [.int .i64 g, .int .i64 s, op o] (.tup [.sl 1 (bys (recL q g s o)), .int .i64 (recE q)]) := by
  have c := opBytes_pc Γ g s o ho
  unfold recL recE
  cases q with
  | true => rwa [if_pos (hq.1 rfl)] at c
  | false => rwa [if_neg fun h => by have := hq.2 h; cases this] at c
theorem book_u (b : Book) (hf : Fits b) (ht : b.Ty) {q : Bool} (hq : q = true ↔ RightP b) : PC Try.prog Γ 17 [book b] (.tup [.sl 1 (bys (bookL q b)), .int .i64 (recE q)]) := by
  have c := bookBytes_pc Γ b ht hq (right3_pc Γ b hf ht.i hq)
  unfold bookL recE
  cases q <;> exact c
theorem rhead_u (g : Int) : PC Try.prog Γ 22 [.int .i64 g] (.tup [.sl 1 (bys (headL g)), .int .i64 (headE g)]) := by
  have c := rheadBytes_pc Γ g
  unfold headL headE
  split
  · rename_i h; rwa [if_pos h] at c
  · rename_i h; rwa [if_neg h] at c
theorem rop_u (g s : Int) (o : Op) (ho : o.Ty) {q : Bool} (hq : q = true ↔ RecP g s o) : PC Try.prog Γ 12 [.int .i64 g, .int .i64 s, op o] (.tup [.sl 1 (bys (recL q g s o)), .int .i64 (recE q)]) := by
  have c := ropBytes_pc Γ g s o ho.range (Nat.le_trans ho.user (by decide))
  unfold recL recE
  cases q with
  | true => rwa [if_pos (hq.1 rfl)] at c
  | false => rwa [if_neg fun h => by have := hq.2 h; cases this] at c
theorem rbook_u (b : Book) (hf : Fits b) (ht : b.Ty) {q : Bool} (hq : q = true ↔ RightP b) : PC Try.prog Γ 18 [book b] (.tup [.sl 1 (bys (bookL q b)), .int .i64 (recE q)]) := by
  have c := rbookBytes_pc Γ b hf ht hq
  unfold bookL recE
  cases q <;> exact c
theorem rrec_u (l : List Nat) (hl : l.length ≤ 1000000) (hb : Bytes l) : PC Try.prog Γ 14 [.sl 1 (bys l)] (.tup [.int .i64 (gotG (recordP l)).1, .int .i64 (gotG (recordP l)).2.1, op (gotG (recordP l)).2.2, .int .i64 (gotE (recordP l))]) := by
  obtain ⟨q, hq⟩ := prop_bool (RecIs l)
  have c := rreadOp_pc Γ l hl hb hq
  obtain ⟨e1, e2⟩ := record_same hb hq
  rw [e1, e2]
  cases q <;> exact c
theorem rreadBook_u (l : List Nat) (hl : l.length ≤ 1000000) (hb : Bytes l) {p : Option (Book × List Nat)} (hP : BookPIs l p) : PC Try.prog Γ 20 [.sl 1 (bys l)] (.tup [book (gotB p), .int .i64 (gotE p)]) := by
  obtain ⟨q, hq⟩ := prop_bool (BookIs l)
  have c := rreadBook_pc Γ l hl hb hq
  obtain ⟨e1, e2⟩ := book_same hb hP hq
  rw [e1, e2]
  cases q <;> exact c
theorem rreadHead_u (l : List Nat) (hl : l.length ≤ 1000000) (hb : Bytes l) : PC Try.prog Γ 24 [.sl 1 (bys l)] (.tup [.int .i64 (gotN (headP l)), .int .i64 (gotE (headP l))]) := by
  have c := rreadHead_pc Γ l hl hb
  have e := head_same hb
  simp only [Prod.ext_iff] at e
  obtain ⟨e1, e2⟩ := e
  rw [← e1, ← e2]
  split at c
  · rename_i h; rw [if_pos h]; exact c
  · rename_i h; rw [if_neg h]; exact c
set_option maxHeartbeats 8000000 in
theorem CodeRecords_pc (g s : Int) (o : Op) (b : List Nat) (ho : o.Ty) (hb : Bytes b) : b.length ≤ 140737488351232 → PC Try.prog Γ 3 [.agg [.int .i64 g, .int .i64 s, .int .i64 o.kind, .int .i64 o.id, .int .i64 o.link, .int .u32 o.addr, .str o.user, .int .u64 o.inn, .int .u64 o.out, .int .i64 o.cause, .int .i64 o.at_, .sl 1 (bys b)]] (.bool true) := by
  intro hbl
  refine pc_by mixed Try.func3 rfl (fun args w => Try.call3 args w) ?_
  have cs := shown_pc Γ
  have hou := ho.user
  by_cases g1 : 50 < o.user.size
  · simp -implicitDefEqProofs (disch := omega) [go_sem]
    refine .inl (call_data cs (by simp [go_sem]) ?_)
    simp -implicitDefEqProofs (disch := omega) [go_sem, Try.f3]
  by_cases g2 : 400 < b.length
  · simp -implicitDefEqProofs (disch := omega) [go_sem]
    refine .inl (call_data cs (by simp [go_sem]) ?_)
    simp -implicitDefEqProofs (disch := omega) [go_sem, Try.f3]
  obtain ⟨q, hq⟩ := prop_bool (RecP g s o)
  have c1 := op_u Γ g s o ho.range hq
  have c2 := rop_u Γ g s o ho hq
  have c3 := readOp_pc Γ b (by omega) hb
  have c4 := rrec_u Γ b (by omega) hb
  have hty := gotG_ty hb
  have hlen := recL_length hq ho.range
  generalize gotG (recordP b) = G at *
  obtain ⟨g2, s2, o2⟩ := G
  generalize gotE (recordP b) = E at *
  generalize recL q g s o = l at *
  generalize recE q = e at *
  have cr := row_pc Γ l l (by omega) (by omega)
  rw [decide_eq_true rfl] at cr
  unfold op at c1 c2 c3 c4
  simp only at c3 c4 hty
  clear hq ho
  simp -implicitDefEqProofs (disch := omega) [go_sem]
  refine .inl (call_data cs (by simp [go_sem]) ?_)
  simp -implicitDefEqProofs (disch := omega) [go_sem]
  refine .inl (call_data c1 (by simp [go_sem]) ?_)
  simp -implicitDefEqProofs (disch := omega) [go_sem]
  refine .inl (call_data c2 (by simp [go_sem]) ?_)
  simp -implicitDefEqProofs (disch := omega) [go_sem]
  refine .inl (call_data c3 (by simp [go_sem]) ?_)
  simp -implicitDefEqProofs (disch := omega) [go_sem]
  refine .inl (call_data c4 (by simp [go_sem]) ?_)
  simp -implicitDefEqProofs (disch := omega) [go_sem]
  refine .inl (call_data cr (by simp [go_sem]) ?_)
  simp -implicitDefEqProofs (maxSteps := 2000000) (disch := omega) [go_sem]
  refine eqK_op hty hty ?_
  simp -implicitDefEqProofs (maxSteps := 2000000) (disch := omega) [go_sem, Try.f3]
set_option maxHeartbeats 8000000 in
theorem CodeBooks_pc (b : Book) (g : Int) (c : List Nat) (hf : Fits b) (ht : b.Ty) (hb : Bytes c) : c.length ≤ 140737488351232 → PC Try.prog Γ 4 [book b, .int .i64 g, .sl 1 (bys c)] (.bool true) := by
  intro hcl
  refine pc_by mixed Try.func4 rfl (fun args w => Try.call4 args w) ?_
  have cs := shown_pc Γ
  obtain ⟨q0, hq0⟩ := prop_bool (SmallP b)
  have c0 := small_pc Γ b hf hq0
  clear hq0
  cases q0 with
  | false =>
    simp -implicitDefEqProofs (disch := omega) [go_sem, book]
    refine .inl (call_data cs (by simp [go_sem]) ?_)
    simp -implicitDefEqProofs (disch := omega) [go_sem]
    refine .inl (call_data c0 (by simp [go_sem, book]) ?_)
    simp -implicitDefEqProofs (disch := omega) [go_sem, Try.f4]
  | true =>
  by_cases g2 : 3000 < c.length
  · simp -implicitDefEqProofs (disch := omega) [go_sem, book]
    refine .inl (call_data cs (by simp [go_sem]) ?_)
    simp -implicitDefEqProofs (disch := omega) [go_sem]
    refine .inl (call_data c0 (by simp [go_sem, book]) ?_)
    simp -implicitDefEqProofs (disch := omega) [go_sem, Try.f4]
  obtain ⟨q, hq⟩ := prop_bool (RightP b)
  obtain ⟨p, hP⟩ := bookP_ex c
  have c1 := book_u Γ b hf ht hq
  have c2 := rbook_u Γ b hf ht hq
  have c3 := readBook_pc Γ c (by omega) hb p hP
  have c4 := rreadBook_u Γ c (by omega) hb hP
  have c5 := head_u Γ g
  have c6 := rhead_u Γ g
  have c7 := readHead_pc Γ c (by omega) hb
  have c8 := rreadHead_u Γ c (by omega) hb
  have hlen := bookL_length hq ht
  have hlen2 := headL_length g
  have hfit := gotB_fit hb hP
  have cm := same_pc Γ (gotB p) (gotB p) hfit.fits hfit.fits hfit.ty hfit.ty
  rw [decide_eq_true rfl] at cm
  clear hfit hP hq
  generalize gotB p = B at *
  generalize gotE p = E at *
  generalize gotN (headP c) = n at *
  generalize gotE (headP c) = E2 at *
  generalize bookL q b = l at *
  generalize recE q = e at *
  generalize headL g = l2 at *
  generalize headE g = e2 at *
  have cr := row_pc Γ l l (by omega) (by omega)
  rw [decide_eq_true rfl] at cr
  have cr2 := row_pc Γ l2 l2 (by omega) (by omega)
  rw [decide_eq_true rfl] at cr2
  unfold book at c0 c1 c2 c3 c4 cm ⊢
  simp -implicitDefEqProofs (disch := omega) [go_sem]
  refine .inl (call_data cs (by simp [go_sem]) ?_)
  simp -implicitDefEqProofs (disch := omega) [go_sem]
  refine .inl (call_data c0 (by simp [go_sem]) ?_)
  simp -implicitDefEqProofs (disch := omega) [go_sem]
  refine .inl (call_data c1 (by simp [go_sem]) ?_)
  simp -implicitDefEqProofs (disch := omega) [go_sem]
  refine .inl (call_data c2 (by simp [go_sem]) ?_)
  simp -implicitDefEqProofs (disch := omega) [go_sem]
  refine .inl (call_data c3 (by simp [go_sem]) ?_)
  simp -implicitDefEqProofs (disch := omega) [go_sem]
  refine .inl (call_data c4 (by simp [go_sem]) ?_)
  simp -implicitDefEqProofs (disch := omega) [go_sem]
  refine .inl (call_data c5 (by simp [go_sem]) ?_)
  simp -implicitDefEqProofs (disch := omega) [go_sem]
  refine .inl (call_data c6 (by simp [go_sem]) ?_)
  simp -implicitDefEqProofs (disch := omega) [go_sem]
  refine .inl (call_data c7 (by simp [go_sem]) ?_)
  simp -implicitDefEqProofs (disch := omega) [go_sem]
  refine .inl (call_data c8 (by simp [go_sem]) ?_)
  simp -implicitDefEqProofs (disch := omega) [go_sem]
  refine .inl (call_data cr (by simp [go_sem]) ?_)
  simp -implicitDefEqProofs (disch := omega) [go_sem]
  refine .inl (call_data cm (by simp [go_sem]) ?_)
  simp -implicitDefEqProofs (disch := omega) [go_sem]
  refine .inl (call_data cr2 (by simp [go_sem]) ?_)
  simp -implicitDefEqProofs (maxSteps := 2000000) (disch := omega) [go_sem, Try.f4]
end
end Bk
end Go.Proofs.Ytdgklbbgbnapoaa
namespace Go.Proofs.Ytdgklbbgbnapoaa
open Go.RowKit
set_option linter.unusedVariables false
set_option linter.unusedSimpArgs false
set_option maxRecDepth 100000
namespace Bk
theorem gotB_cases {l : List Nat} {p : Option (Book × List Nat)} (hP : BookPIs l p) : (gotE p = 0 ∧ RightP (gotB p)) ∨ (gotE p = 2 ∧ gotB p = noBook) := by
  cases p with
  | none => exact .inr ⟨rfl, rfl⟩
  | some x => obtain ⟨b, r⟩ := x; exact .inl ⟨rfl, ((hP b r).1 rfl).2.1⟩
theorem gotG_cases {l : List Nat} (hl : Bytes l) : (gotE (recordP l) = 0 ∧ RecP (gotG (recordP l)).1 (gotG (recordP l)).2.1 (gotG (recordP l)).2.2) ∨ (gotE (recordP l) = 2 ∧ (gotG (recordP l)).1 = 0 ∧ (gotG (recordP l)).2.1 = 0) := by
  cases hp : recordP l with
  | none => exact .inr ⟨rfl, rfl, rfl⟩
  | some x => obtain ⟨⟨g, s, o⟩, r⟩ := x; exact .inl ⟨rfl, ((recordP_iff hl g s o r).1 hp).1⟩
theorem gotN_cases {l : List Nat} (hl : Bytes l) : (gotE (headP l) = 0 ∧ 1 ≤ gotN (headP l) ∧ gotN (headP l) ≤ 1000000000) ∨ gotE (headP l) = 2 := by
  cases hp : headP l with
  | none => exact .inr rfl
  | some x => obtain ⟨n, r⟩ := x; exact .inl ⟨rfl, ((headP_iff hl n r).1 hp).1⟩
section
variable (Γ : Nat → Option (List Data))

set_option maxHeartbeats 16000000 in
theorem CodeRight_pc (b : List Nat) (hb : Bytes b) : b.length ≤ 140737488351232 → PC Try.prog Γ 9 [.sl 1 (bys b)] (.bool true) := by
  intro hbl
  refine pc_by mixed Try.func9 rfl (fun args w => Try.call9 args w) ?_
  have cs := shown_pc Γ
  by_cases g2 : 3000 < b.length
  · simp -implicitDefEqProofs (maxSteps := 2000000) (disch := omega) [go_sem]
    refine .inl (call_data cs (by simp [go_sem]) ?_)
    simp -implicitDefEqProofs (maxSteps := 2000000) (disch := omega) [go_sem, Try.f9]
  obtain ⟨p, hP⟩ := bookP_ex b
  have c1 := readBook_pc Γ b (by omega) hb p hP
  have c2 := readOp_pc Γ b (by omega) hb
  have c3 := readHead_pc Γ b (by omega) hb
  have hB := gotB_cases hP
  have hG := gotG_cases hb
  have hN := gotN_cases hb
  have hty := gotG_ty hb
  have hfit := gotB_fit hb hP
  clear hP
  generalize gotB p = B at *
  generalize gotE p = E at *
  generalize gotG (recordP b) = G at *
  generalize gotE (recordP b) = E1 at *
  generalize gotN (headP b) = N at *
  generalize gotE (headP b) = E2 at *
  obtain ⟨g, s, o⟩ := G
  simp only at hG hty c2
  have cm := may_pc Γ o (Nat.le_trans hty.user (by decide))
  have cq := fun h => right_pc Γ B hfit.fits (q := true) ⟨fun _ => h, fun _ => rfl⟩
  have cn := same_pc Γ noBook noBook no_fit.fits no_fit.fits no_fit.ty no_fit.ty
  rw [decide_eq_true rfl] at cn
  clear hfit hty
  unfold op at c2 cm
  unfold book at c1 cq
  simp -implicitDefEqProofs (maxSteps := 2000000) (disch := omega) [go_sem]
  refine .inl (call_data cs (by simp [go_sem]) ?_)
  simp -implicitDefEqProofs (maxSteps := 2000000) (disch := omega) [go_sem]
  refine .inl (call_data c1 (by simp [go_sem]) ?_)
  simp -implicitDefEqProofs (maxSteps := 2000000) (disch := omega) [go_sem]
  refine .inl (call_data c2 (by simp [go_sem]) ?_)
  simp -implicitDefEqProofs (maxSteps := 2000000) (disch := omega) [go_sem]
  refine .inl (call_data c3 (by simp [go_sem]) ?_)
  rcases hB with ⟨rfl, hr⟩ | ⟨rfl, rfl⟩ <;> rcases hG with ⟨rfl, hR⟩ | ⟨rfl, rfl, rfl⟩ <;> rcases hN with ⟨rfl, hN1, hN2⟩ | rfl
  · have cq := cq hr
    obtain ⟨⟨r1, r2⟩, ⟨r3, r4⟩, r5⟩ := hR
    rw [decide_eq_true r5] at cm
    simp -implicitDefEqProofs (maxSteps := 2000000) (disch := omega) [go_sem]
    refine .inl (call_data cq (by simp [go_sem]) ?_)
    simp -implicitDefEqProofs (maxSteps := 2000000) (disch := omega) [go_sem]
    refine .inl (call_data cm (by simp [go_sem]) ?_)
    simp -implicitDefEqProofs (maxSteps := 2000000) (disch := omega) [go_sem, Try.f9]
  · have cq := cq hr
    obtain ⟨⟨r1, r2⟩, ⟨r3, r4⟩, r5⟩ := hR
    rw [decide_eq_true r5] at cm
    simp -implicitDefEqProofs (maxSteps := 2000000) (disch := omega) [go_sem]
    refine .inl (call_data cq (by simp [go_sem]) ?_)
    simp -implicitDefEqProofs (maxSteps := 2000000) (disch := omega) [go_sem]
    refine .inl (call_data cm (by simp [go_sem]) ?_)
    simp -implicitDefEqProofs (maxSteps := 2000000) (disch := omega) [go_sem, Try.f9]
  · have cq := cq hr
    simp -implicitDefEqProofs (maxSteps := 2000000) (disch := omega) [go_sem]
    refine .inl (call_data cq (by simp [go_sem]) ?_)
    simp -implicitDefEqProofs (maxSteps := 2000000) (disch := omega) [go_sem, Try.f9]
  · have cq := cq hr
    simp -implicitDefEqProofs (maxSteps := 2000000) (disch := omega) [go_sem]
    refine .inl (call_data cq (by simp [go_sem]) ?_)
    simp -implicitDefEqProofs (maxSteps := 2000000) (disch := omega) [go_sem, Try.f9]
  · clear cq
    obtain ⟨⟨r1, r2⟩, ⟨r3, r4⟩, r5⟩ := hR
    rw [decide_eq_true r5] at cm
    simp -implicitDefEqProofs (maxSteps := 2000000) (disch := omega) [go_sem, noBook, sesss, items, locks]
    refine .inl (call_data cm (by simp [go_sem]) ?_)
    simp -implicitDefEqProofs (maxSteps := 2000000) (disch := omega) [go_sem, noBook, sesss, items, locks]
    refine .inl (call_frz [] [] (by simp) cn (fun H' _ => frzL_c ((frz_data _ _ _ _).2 rfl) (frzL_c (frz_aggL (frzL_c ((frz_data _ _ _ _).2 rfl) (frzL_c (.emp 0 6) (frzL_c (.emp 0 5) (frzL_c (.emp 0 3) frzL_n))))) frzL_n)) ?_)
    simp -implicitDefEqProofs (maxSteps := 2000000) (disch := omega) [go_sem, Try.f9]
  · clear cq
    obtain ⟨⟨r1, r2⟩, ⟨r3, r4⟩, r5⟩ := hR
    rw [decide_eq_true r5] at cm
    simp -implicitDefEqProofs (maxSteps := 2000000) (disch := omega) [go_sem, noBook, sesss, items, locks]
    refine .inl (call_data cm (by simp [go_sem]) ?_)
    simp -implicitDefEqProofs (maxSteps := 2000000) (disch := omega) [go_sem, noBook, sesss, items, locks]
    refine .inl (call_frz [] [] (by simp) cn (fun H' _ => frzL_c ((frz_data _ _ _ _).2 rfl) (frzL_c (frz_aggL (frzL_c ((frz_data _ _ _ _).2 rfl) (frzL_c (.emp 0 6) (frzL_c (.emp 0 5) (frzL_c (.emp 0 3) frzL_n))))) frzL_n)) ?_)
    simp -implicitDefEqProofs (maxSteps := 2000000) (disch := omega) [go_sem, Try.f9]
  · clear cq
    simp -implicitDefEqProofs (maxSteps := 2000000) (disch := omega) [go_sem, noBook, sesss, items, locks]
    refine .inl (call_frz [] [] (by simp) cn (fun H' _ => frzL_c ((frz_data _ _ _ _).2 rfl) (frzL_c (frz_aggL (frzL_c ((frz_data _ _ _ _).2 rfl) (frzL_c (.emp 0 6) (frzL_c (.emp 0 5) (frzL_c (.emp 0 3) frzL_n))))) frzL_n)) ?_)
    simp -implicitDefEqProofs (maxSteps := 2000000) (disch := omega) [go_sem, Try.f9]
  · clear cq
    simp -implicitDefEqProofs (maxSteps := 2000000) (disch := omega) [go_sem, noBook, sesss, items, locks]
    refine .inl (call_frz [] [] (by simp) cn (fun H' _ => frzL_c ((frz_data _ _ _ _).2 rfl) (frzL_c (frz_aggL (frzL_c ((frz_data _ _ _ _).2 rfl) (frzL_c (.emp 0 6) (frzL_c (.emp 0 5) (frzL_c (.emp 0 3) frzL_n))))) frzL_n)) ?_)
    simp -implicitDefEqProofs (maxSteps := 2000000) (disch := omega) [go_sem, Try.f9]
end
end Bk
end Go.Proofs.Ytdgklbbgbnapoaa
namespace Go.Proofs.Ytdgklbbgbnapoaa
open Go.RowKit
set_option linter.unusedVariables false
set_option linter.unusedSimpArgs false
set_option maxRecDepth 100000
namespace Bk
section
variable (Γ : Nat → Option (List Data))
theorem forthG {b : List Nat} (hb : Bytes b) : (gotE (recordP b) = 0 ∧ gotE (headP b) = 2 ∧ PC Try.prog Γ 11 [.int .i64 (gotG (recordP b)).1, .int .i64 (gotG (recordP b)).2.1, op (gotG (recordP b)).2.2] (.tup [.sl 1 (bys b), .int .i64 0])) ∨ gotE (recordP b) = 2 := by
  cases hp : recordP b with
  | none => exact .inr rfl
  | some x =>
    obtain ⟨⟨g, s, o⟩, r⟩ := x
    obtain ⟨h1, h2, h3, _⟩ := (recordP_iff hb g s o r).1 hp
    have c := opBytes_pc Γ g s o h2.op.ty.range
    rw [if_pos h1, ← h3] at c
    refine .inl ⟨rfl, ?_, c⟩
    cases hq : headP b with
    | none => rfl
    | some y => exact (head_no_record hb hq hp).elim
theorem forthN {b : List Nat} (hb : Bytes b) : (gotE (headP b) = 0 ∧ PC Try.prog Γ 21 [.int .i64 (gotN (headP b))] (.tup [.sl 1 (bys b), .int .i64 0])) ∨ gotE (headP b) = 2 := by
  cases hp : headP b with
  | none => exact .inr rfl
  | some x =>
    obtain ⟨n, r⟩ := x
    obtain ⟨h1, h2, _⟩ := (headP_iff hb n r).1 hp
    have c := headBytes_pc Γ n
    rw [if_pos h1, Int.toNat_natCast, ← h2] at c
    exact .inl ⟨rfl, c⟩
theorem forthB {b : List Nat} (hb : Bytes b) {p : Option (Book × List Nat)} (hP : BookPIs b p) : (gotE p = 0 ∧ PC Try.prog Γ 17 [book (gotB p)] (.tup [.sl 1 (bys b), .int .i64 0])) ∨ gotE p = 2 := by
  cases p with
  | none => exact .inr rfl
  | some x =>
    obtain ⟨B, r⟩ := x
    obtain ⟨h1, h2, h3⟩ := (hP B r).1 rfl
    have hf := ((bookQ_iff hb B r).1 h1).2.2
    have c := book_u Γ B hf.fits hf.ty (q := true) ⟨fun _ => h2, fun _ => rfl⟩
    rw [bookL, if_pos rfl, ← book_forth hb h1 h3] at c
    exact .inl ⟨rfl, c⟩
theorem bare_op (o : Op) : Bare (op o) := .agg _ (by simp; exact ⟨.int _ _, .int _ _, .int _ _, .int _ _, .str _, .int _ _, .int _ _, .int _ _, .int _ _⟩)
theorem bare_rec (g s : Int) (o : Op) (e : Int) : Bare (.tup [.int .i64 g, .int .i64 s, op o, .int .i64 e]) := .tup _ (by simp; exact ⟨.int _ _, .int _ _, bare_op o, .int _ _⟩)
theorem zeros_bytes : Bytes (List.replicate 128 0) := fun x hx => by rw [(List.mem_replicate.1 hx).2]; omega
theorem zeros_head : headP (List.replicate 128 0) = none := by
  cases h : headP (List.replicate 128 0) with
  | none => rfl
  | some x =>
    obtain ⟨n, r⟩ := x
    have e := ((headP_iff zeros_bytes n r).1 h).2.1
    have a1 : (padB 128 (headB n))[0]? = some 72 := rfl
    rw [← e] at a1
    cases a1
theorem zeros_rec : recordP (List.replicate 128 0) = none := by
  cases h : recordP (List.replicate 128 0) with
  | none => rfl
  | some x =>
    obtain ⟨⟨g, s, o⟩, r⟩ := x
    have e := ((recordP_iff zeros_bytes g s o r).1 h).2.2.1
    have a1 : (padB 128 (recB g s o))[0]? = some 82 := rfl
    rw [← e] at a1
    cases a1

set_option maxHeartbeats 16000000 in
theorem CodeForth_pc (b : List Nat) (hb : Bytes b) : b.length ≤ 140737488351232 → PC Try.prog Γ 6 [.sl 1 (bys b)] (.bool true) := by
  intro hbl
  refine pc_by mixed Try.func6 rfl (fun args w => Try.call6 args w) ?_
  have cs := shown_pc Γ
  by_cases g2 : 3000 < b.length
  · simp -implicitDefEqProofs (maxSteps := 2000000) (disch := omega) [go_sem]
    refine .inl (call_data cs (by simp [go_sem]) ?_)
    simp -implicitDefEqProofs (maxSteps := 2000000) (disch := omega) [go_sem, Try.f6]
  obtain ⟨p, hP⟩ := bookP_ex b
  have c1 := readOp_pc Γ b (by omega) hb
  have c2 := readHead_pc Γ b (by omega) hb
  have c3 := readBook_pc Γ b (by omega) hb p hP
  have hG := forthG Γ hb
  have hN := forthN Γ hb
  have hB := forthB Γ hb hP
  have cr := row_pc Γ b b (by omega) (by omega)
  rw [decide_eq_true rfl] at cr
  have cz1 := readHead_pc Γ (List.replicate 128 0) (by simp) zeros_bytes
  rw [zeros_head] at cz1
  have cz2 := readOp_pc Γ (List.replicate 128 0) (by simp) zeros_bytes
  rw [zeros_rec] at cz2
  simp only [gotN, gotG, gotE] at cz1 cz2
  clear hP
  generalize gotB p = B at *
  generalize gotE p = E at *
  generalize gotG (recordP b) = G at *
  generalize gotE (recordP b) = E1 at *
  generalize gotN (headP b) = N at *
  generalize gotE (headP b) = E2 at *
  obtain ⟨g, s, o⟩ := G
  simp only at hG c1
  unfold op at c1 hG cz2
  unfold book at c3 hB
  simp -implicitDefEqProofs (maxSteps := 2000000) (disch := omega) [go_sem]
  refine .inl (call_data cs (by simp [go_sem]) ?_)
  simp -implicitDefEqProofs (maxSteps := 2000000) (disch := omega) [go_sem]
  refine .inl (call_data c1 (by simp [go_sem]) ?_)
  simp -implicitDefEqProofs (maxSteps := 2000000) (disch := omega) [go_sem]
  rcases hG with ⟨rfl, rfl, cG⟩ | rfl
  · simp -implicitDefEqProofs (maxSteps := 2000000) (disch := omega) [go_sem]
    refine .inl (call_data cG (by simp [go_sem]) ?_)
    simp -implicitDefEqProofs (maxSteps := 2000000) (disch := omega) [go_sem]
    refine .inl (call_data cr (by simp [go_sem]) ?_)
    simp -implicitDefEqProofs (maxSteps := 2000000) (disch := omega) [go_sem]
    refine .inl (call_data c2 (by simp [go_sem]) ?_)
    simp -implicitDefEqProofs (maxSteps := 2000000) (disch := omega) [go_sem]
    skip
    refine .inl (call_data c3 (by simp [go_sem]) ?_)
    simp -implicitDefEqProofs (maxSteps := 2000000) (disch := omega) [go_sem]
    rcases hB with ⟨rfl, cB⟩ | rfl
    · simp -implicitDefEqProofs (maxSteps := 2000000) (disch := omega) [go_sem]
      refine .inl (call_data cB (by simp [go_sem]) ?_)
      simp -implicitDefEqProofs (maxSteps := 2000000) (disch := omega) [go_sem]
      refine .inl (call_data cr (by simp [go_sem]) ?_)
      simp -implicitDefEqProofs (maxSteps := 2000000) (disch := omega) [go_sem]
      refine .inl (call_bare [71] cz1 (.tup _ (by simp; exact ⟨.int _ _, .int _ _⟩)) (fun H' hH => frzL_c (frz_bys (rw := true) (l := List.replicate 128 0) ((hH _ (by simp)).trans (by simp [go_sem]; rfl)) (.inl rfl) (by simp)) frzL_n) ?_)
      simp -implicitDefEqProofs (maxSteps := 2000000) (disch := omega) [go_sem]
      refine .inl (call_bare [71] cz2 (bare_rec 0 0 noOp 2) (fun H' hH => frzL_c (frz_bys (rw := true) (l := List.replicate 128 0) ((hH _ (by simp)).trans (by simp [go_sem]; rfl)) (.inl rfl) (by simp)) frzL_n) ?_)
      simp -implicitDefEqProofs (maxSteps := 2000000) (disch := omega) [go_sem, Try.f6]
    · skip
      simp -implicitDefEqProofs (maxSteps := 2000000) (disch := omega) [go_sem]
      refine .inl (call_bare [56] cz1 (.tup _ (by simp; exact ⟨.int _ _, .int _ _⟩)) (fun H' hH => frzL_c (frz_bys (rw := true) (l := List.replicate 128 0) ((hH _ (by simp)).trans (by simp [go_sem]; rfl)) (.inl rfl) (by simp)) frzL_n) ?_)
      simp -implicitDefEqProofs (maxSteps := 2000000) (disch := omega) [go_sem]
      refine .inl (call_bare [56] cz2 (bare_rec 0 0 noOp 2) (fun H' hH => frzL_c (frz_bys (rw := true) (l := List.replicate 128 0) ((hH _ (by simp)).trans (by simp [go_sem]; rfl)) (.inl rfl) (by simp)) frzL_n) ?_)
      simp -implicitDefEqProofs (maxSteps := 2000000) (disch := omega) [go_sem, Try.f6]
  · simp -implicitDefEqProofs (maxSteps := 2000000) (disch := omega) [go_sem]
    refine .inl (call_data c2 (by simp [go_sem]) ?_)
    simp -implicitDefEqProofs (maxSteps := 2000000) (disch := omega) [go_sem]
    rcases hN with ⟨rfl, cN⟩ | rfl
    · simp -implicitDefEqProofs (maxSteps := 2000000) (disch := omega) [go_sem]
      refine .inl (call_data cN (by simp [go_sem]) ?_)
      simp -implicitDefEqProofs (maxSteps := 2000000) (disch := omega) [go_sem]
      refine .inl (call_data cr (by simp [go_sem]) ?_)
      simp -implicitDefEqProofs (maxSteps := 2000000) (disch := omega) [go_sem]
      refine .inl (call_data c3 (by simp [go_sem]) ?_)
      simp -implicitDefEqProofs (maxSteps := 2000000) (disch := omega) [go_sem]
      rcases hB with ⟨rfl, cB⟩ | rfl
      · simp -implicitDefEqProofs (maxSteps := 2000000) (disch := omega) [go_sem]
        refine .inl (call_data cB (by simp [go_sem]) ?_)
        simp -implicitDefEqProofs (maxSteps := 2000000) (disch := omega) [go_sem]
        refine .inl (call_data cr (by simp [go_sem]) ?_)
        simp -implicitDefEqProofs (maxSteps := 2000000) (disch := omega) [go_sem]
        refine .inl (call_bare [73] cz1 (.tup _ (by simp; exact ⟨.int _ _, .int _ _⟩)) (fun H' hH => frzL_c (frz_bys (rw := true) (l := List.replicate 128 0) ((hH _ (by simp)).trans (by simp [go_sem]; rfl)) (.inl rfl) (by simp)) frzL_n) ?_)
        simp -implicitDefEqProofs (maxSteps := 2000000) (disch := omega) [go_sem]
        refine .inl (call_bare [73] cz2 (bare_rec 0 0 noOp 2) (fun H' hH => frzL_c (frz_bys (rw := true) (l := List.replicate 128 0) ((hH _ (by simp)).trans (by simp [go_sem]; rfl)) (.inl rfl) (by simp)) frzL_n) ?_)
        simp -implicitDefEqProofs (maxSteps := 2000000) (disch := omega) [go_sem, Try.f6]
      · skip
        simp -implicitDefEqProofs (maxSteps := 2000000) (disch := omega) [go_sem]
        refine .inl (call_bare [58] cz1 (.tup _ (by simp; exact ⟨.int _ _, .int _ _⟩)) (fun H' hH => frzL_c (frz_bys (rw := true) (l := List.replicate 128 0) ((hH _ (by simp)).trans (by simp [go_sem]; rfl)) (.inl rfl) (by simp)) frzL_n) ?_)
        simp -implicitDefEqProofs (maxSteps := 2000000) (disch := omega) [go_sem]
        refine .inl (call_bare [58] cz2 (bare_rec 0 0 noOp 2) (fun H' hH => frzL_c (frz_bys (rw := true) (l := List.replicate 128 0) ((hH _ (by simp)).trans (by simp [go_sem]; rfl)) (.inl rfl) (by simp)) frzL_n) ?_)
        simp -implicitDefEqProofs (maxSteps := 2000000) (disch := omega) [go_sem, Try.f6]
    · simp -implicitDefEqProofs (maxSteps := 2000000) (disch := omega) [go_sem]
      refine .inl (call_data c3 (by simp [go_sem]) ?_)
      simp -implicitDefEqProofs (maxSteps := 2000000) (disch := omega) [go_sem]
      rcases hB with ⟨rfl, cB⟩ | rfl
      · simp -implicitDefEqProofs (maxSteps := 2000000) (disch := omega) [go_sem]
        refine .inl (call_data cB (by simp [go_sem]) ?_)
        simp -implicitDefEqProofs (maxSteps := 2000000) (disch := omega) [go_sem]
        refine .inl (call_data cr (by simp [go_sem]) ?_)
        simp -implicitDefEqProofs (maxSteps := 2000000) (disch := omega) [go_sem]
        refine .inl (call_bare [54] cz1 (.tup _ (by simp; exact ⟨.int _ _, .int _ _⟩)) (fun H' hH => frzL_c (frz_bys (rw := true) (l := List.replicate 128 0) ((hH _ (by simp)).trans (by simp [go_sem]; rfl)) (.inl rfl) (by simp)) frzL_n) ?_)
        simp -implicitDefEqProofs (maxSteps := 2000000) (disch := omega) [go_sem]
        refine .inl (call_bare [54] cz2 (bare_rec 0 0 noOp 2) (fun H' hH => frzL_c (frz_bys (rw := true) (l := List.replicate 128 0) ((hH _ (by simp)).trans (by simp [go_sem]; rfl)) (.inl rfl) (by simp)) frzL_n) ?_)
        simp -implicitDefEqProofs (maxSteps := 2000000) (disch := omega) [go_sem, Try.f6]
      · skip
        simp -implicitDefEqProofs (maxSteps := 2000000) (disch := omega) [go_sem]
        refine .inl (call_bare [39] cz1 (.tup _ (by simp; exact ⟨.int _ _, .int _ _⟩)) (fun H' hH => frzL_c (frz_bys (rw := true) (l := List.replicate 128 0) ((hH _ (by simp)).trans (by simp [go_sem]; rfl)) (.inl rfl) (by simp)) frzL_n) ?_)
        simp -implicitDefEqProofs (maxSteps := 2000000) (disch := omega) [go_sem]
        refine .inl (call_bare [39] cz2 (bare_rec 0 0 noOp 2) (fun H' hH => frzL_c (frz_bys (rw := true) (l := List.replicate 128 0) ((hH _ (by simp)).trans (by simp [go_sem]; rfl)) (.inl rfl) (by simp)) frzL_n) ?_)
        simp -implicitDefEqProofs (maxSteps := 2000000) (disch := omega) [go_sem, Try.f6]
end
end Bk
end Go.Proofs.Ytdgklbbgbnapoaa
namespace Go.Proofs.Ytdgklbbgbnapoaa
open Go.RowKit
set_option linter.unusedVariables false
set_option linter.unusedSimpArgs false
set_option maxRecDepth 100000
namespace Bk
section
variable (Γ : Nat → Option (List Data))
theorem backO (g s : Int) (o : Op) (ho : o.Ty) : (∃ R : List Nat, R.length = 128 ∧ PC Try.prog Γ 11 [.int .i64 g, .int .i64 s, op o] (.tup [.sl 1 (bys R), .int .i64 0]) ∧ PC Try.prog Γ 13 [.sl 1 (bys R)] (.tup [.int .i64 g, .int .i64 s, op o, .int .i64 0])) ∨
    PC Try.prog Γ 11 [.int .i64 g, .int .i64 s, op o] (.tup [.sl 1 [], .int .i64 1]) := by
  have c := opBytes_pc Γ g s o ho.range
  by_cases h : RecP g s o
  · rw [if_pos h] at c
    have hf := h.fit ho.range
    have hl : (padB 128 (recB g s o)).length = 128 := padB_length (by rw [recB_length hf]; omega)
    have hb := padB_bytes (n := 128) (recB_bytes (g := g) (s := s) hf.op.user)
    have c2 := readOp_pc Γ _ (by omega) hb
    rw [record_back h ho.range] at c2
    simp only [gotG, gotE] at c2
    rw [hf.gen.eq, hf.seq.eq] at c2
    exact .inl ⟨_, hl, c, c2⟩
  · rw [if_neg h] at c
    exact .inr c
theorem backH (g : Int) : (∃ R : List Nat, R.length = 128 ∧ PC Try.prog Γ 21 [.int .i64 g] (.tup [.sl 1 (bys R), .int .i64 0]) ∧ PC Try.prog Γ 23 [.sl 1 (bys R)] (.tup [.int .i64 g, .int .i64 0])) ∨
    PC Try.prog Γ 21 [.int .i64 g] (.tup [.sl 1 [], .int .i64 1]) := by
  have c := headBytes_pc Γ g
  by_cases h : 1 ≤ g ∧ g ≤ 1000000000
  · rw [if_pos h] at c
    have hl : (padB 128 (headB g.toNat)).length = 128 := padB_length (by simp [headB, be_length])
    have hb := padB_bytes (n := 128) (headB_bytes g.toNat)
    have c2 := readHead_pc Γ _ (by omega) hb
    have e : ((g.toNat : Nat) : Int) = g := by omega
    rw [(headP_iff hb g.toNat _).2 ⟨by rw [e]; exact h, rfl, rfl⟩] at c2
    simp only [gotN, gotE, e] at c2
    exact .inl ⟨_, hl, c, c2⟩
  · rw [if_neg h] at c
    exact .inr c
theorem backB (b : Book) (hf : Fits b) (ht : b.Ty) : (RightP b ∧ ∃ R : List Nat, R.length = 2048 ∧ PC Try.prog Γ 17 [book b] (.tup [.sl 1 (bys R), .int .i64 0]) ∧ PC Try.prog Γ 19 [.sl 1 (bys R)] (.tup [book b, .int .i64 0])) ∨
    (¬ RightP b ∧ PC Try.prog Γ 17 [book b] (.tup [.sl 1 [], .int .i64 1])) := by
  obtain ⟨q, hq⟩ := prop_bool (RightP b)
  have c := book_u Γ b hf ht hq
  cases q with
  | true =>
    have h := hq.1 rfl
    have hfit := h.bfit ht
    rw [bookL, if_pos rfl] at c
    have hl : (padB 2048 (bookB b)).length = 2048 := padB_length (h.short hfit)
    have hb := padB_bytes (n := 2048) (bookB_bytes hfit)
    obtain ⟨p, hP⟩ := bookP_ex (padB 2048 (bookB b))
    have c2 := readBook_pc Γ _ (by omega) hb p hP
    rw [(hP b _).2 ⟨book_back hfit (h.short hfit), h, by simp⟩] at c2
    exact .inl ⟨h, _, hl, c, c2⟩
  | false => exact .inr ⟨fun h => (by have := hq.2 h; cases this), c⟩

set_option maxHeartbeats 32000000 in
theorem CodeBack_pc (g s : Int) (o : Op) (b : Book) (ho : o.Ty) (hf : Fits b) (ht : b.Ty) : PC Try.prog Γ 5 [.agg [.int .i64 g, .int .i64 s, .int .i64 o.kind, .int .i64 o.id, .int .i64 o.link, .int .u32 o.addr, .str o.user, .int .u64 o.inn, .int .u64 o.out, .int .i64 o.cause, .int .i64 o.at_, .int .i64 b.next, .sl 6 (sesss b.opn), .sl 5 (items b.items), .sl 3 (locks b.locks)]] (.bool true) := by
  refine pc_by mixed Try.func5 rfl (fun args w => Try.call5 args w) ?_
  have cs := shown_pc Γ
  have hou := ho.user
  by_cases g1 : 50 < o.user.size
  · simp -implicitDefEqProofs (maxSteps := 2000000) (disch := omega) [go_sem]
    refine .inl (call_data cs (by simp [go_sem]) ?_)
    simp -implicitDefEqProofs (maxSteps := 2000000) (disch := omega) [go_sem, Try.f5]
  obtain ⟨q0, hq0⟩ := prop_bool (SmallP b)
  have c0 := small_pc Γ b hf hq0
  clear hq0
  unfold book at c0
  cases q0 with
  | false =>
    simp -implicitDefEqProofs (maxSteps := 2000000) (disch := omega) [go_sem]
    refine .inl (call_data cs (by simp [go_sem]) ?_)
    simp -implicitDefEqProofs (maxSteps := 2000000) (disch := omega) [go_sem]
    refine .inl (call_data c0 (by simp [go_sem]) ?_)
    simp -implicitDefEqProofs (maxSteps := 2000000) (disch := omega) [go_sem, Try.f5]
  | true =>
  have hO := backO Γ g s o ho
  have hH := backH Γ g
  have hB := backB Γ b hf ht
  have cm := same_pc Γ b b hf hf ht ht
  rw [decide_eq_true rfl] at cm
  have cq := fun (q : Bool) hq => right_pc Γ b hf (q := q) hq
  unfold op at hO
  unfold book at hB cm cq
  simp -implicitDefEqProofs (maxSteps := 2000000) (disch := omega) [go_sem]
  refine .inl (call_data cs (by simp [go_sem]) ?_)
  simp -implicitDefEqProofs (maxSteps := 2000000) (disch := omega) [go_sem]
  refine .inl (call_data c0 (by simp [go_sem]) ?_)
  simp -implicitDefEqProofs (maxSteps := 2000000) (disch := omega) [go_sem]
  rcases hO with ⟨R, hR, d5, d6⟩ | d5
  · refine .inl (call_data d5 (by simp [go_sem]) ?_)
    simp -implicitDefEqProofs (maxSteps := 2000000) (disch := omega) [go_sem]
    refine .inl (call_data d6 (by simp [go_sem]) ?_)
    simp -implicitDefEqProofs (maxSteps := 2000000) (disch := omega) [go_sem]
    refine eqK_op ho ho ?_
    simp -implicitDefEqProofs (maxSteps := 2000000) (disch := omega) [go_sem, hR]
    rcases hH with ⟨H, hHl, d3, d4⟩ | d3
    · refine .inl (call_data d3 (by simp [go_sem]) ?_)
      simp -implicitDefEqProofs (maxSteps := 2000000) (disch := omega) [go_sem]
      refine .inl (call_data d4 (by simp [go_sem]) ?_)
      simp -implicitDefEqProofs (maxSteps := 2000000) (disch := omega) [go_sem, hHl]
      rcases hB with ⟨hr, S, hS, d1, d2⟩ | ⟨hr, d1⟩
      · have cq := cq true ⟨fun _ => hr, fun _ => rfl⟩
        refine .inl (call_data d1 (by simp [go_sem]) ?_)
        simp -implicitDefEqProofs (maxSteps := 2000000) (disch := omega) [go_sem]
        refine .inl (call_data cq (by simp [go_sem]) ?_)
        simp -implicitDefEqProofs (maxSteps := 2000000) (disch := omega) [go_sem]
        refine .inl (call_data d2 (by simp [go_sem]) ?_)
        simp -implicitDefEqProofs (maxSteps := 2000000) (disch := omega) [go_sem]
        refine .inl (call_data cm (by simp [go_sem]) ?_)
        simp -implicitDefEqProofs (maxSteps := 2000000) (disch := omega) [go_sem, hS, Try.f5]
      · have cq := cq false ⟨fun h => (by cases h), fun h => absurd h hr⟩
        refine .inl (call_data d1 (by simp [go_sem]) ?_)
        simp -implicitDefEqProofs (maxSteps := 2000000) (disch := omega) [go_sem]
        refine .inl (call_data cq (by simp [go_sem]) ?_)
        simp -implicitDefEqProofs (maxSteps := 2000000) (disch := omega) [go_sem, Try.f5]
    · refine .inl (call_data d3 (by simp [go_sem]) ?_)
      simp -implicitDefEqProofs (maxSteps := 2000000) (disch := omega) [go_sem]
      rcases hB with ⟨hr, S, hS, d1, d2⟩ | ⟨hr, d1⟩
      · have cq := cq true ⟨fun _ => hr, fun _ => rfl⟩
        refine .inl (call_data d1 (by simp [go_sem]) ?_)
        simp -implicitDefEqProofs (maxSteps := 2000000) (disch := omega) [go_sem]
        refine .inl (call_data cq (by simp [go_sem]) ?_)
        simp -implicitDefEqProofs (maxSteps := 2000000) (disch := omega) [go_sem]
        refine .inl (call_data d2 (by simp [go_sem]) ?_)
        simp -implicitDefEqProofs (maxSteps := 2000000) (disch := omega) [go_sem]
        refine .inl (call_data cm (by simp [go_sem]) ?_)
        simp -implicitDefEqProofs (maxSteps := 2000000) (disch := omega) [go_sem, hS, Try.f5]
      · have cq := cq false ⟨fun h => (by cases h), fun h => absurd h hr⟩
        refine .inl (call_data d1 (by simp [go_sem]) ?_)
        simp -implicitDefEqProofs (maxSteps := 2000000) (disch := omega) [go_sem]
        refine .inl (call_data cq (by simp [go_sem]) ?_)
        simp -implicitDefEqProofs (maxSteps := 2000000) (disch := omega) [go_sem, Try.f5]
  · refine .inl (call_data d5 (by simp [go_sem]) ?_)
    simp -implicitDefEqProofs (maxSteps := 2000000) (disch := omega) [go_sem]
    rcases hH with ⟨H, hHl, d3, d4⟩ | d3
    · refine .inl (call_data d3 (by simp [go_sem]) ?_)
      simp -implicitDefEqProofs (maxSteps := 2000000) (disch := omega) [go_sem]
      refine .inl (call_data d4 (by simp [go_sem]) ?_)
      simp -implicitDefEqProofs (maxSteps := 2000000) (disch := omega) [go_sem, hHl]
      rcases hB with ⟨hr, S, hS, d1, d2⟩ | ⟨hr, d1⟩
      · have cq := cq true ⟨fun _ => hr, fun _ => rfl⟩
        refine .inl (call_data d1 (by simp [go_sem]) ?_)
        simp -implicitDefEqProofs (maxSteps := 2000000) (disch := omega) [go_sem]
        refine .inl (call_data cq (by simp [go_sem]) ?_)
        simp -implicitDefEqProofs (maxSteps := 2000000) (disch := omega) [go_sem]
        refine .inl (call_data d2 (by simp [go_sem]) ?_)
        simp -implicitDefEqProofs (maxSteps := 2000000) (disch := omega) [go_sem]
        refine .inl (call_data cm (by simp [go_sem]) ?_)
        simp -implicitDefEqProofs (maxSteps := 2000000) (disch := omega) [go_sem, hS, Try.f5]
      · have cq := cq false ⟨fun h => (by cases h), fun h => absurd h hr⟩
        refine .inl (call_data d1 (by simp [go_sem]) ?_)
        simp -implicitDefEqProofs (maxSteps := 2000000) (disch := omega) [go_sem]
        refine .inl (call_data cq (by simp [go_sem]) ?_)
        simp -implicitDefEqProofs (maxSteps := 2000000) (disch := omega) [go_sem, Try.f5]
    · refine .inl (call_data d3 (by simp [go_sem]) ?_)
      simp -implicitDefEqProofs (maxSteps := 2000000) (disch := omega) [go_sem]
      rcases hB with ⟨hr, S, hS, d1, d2⟩ | ⟨hr, d1⟩
      · have cq := cq true ⟨fun _ => hr, fun _ => rfl⟩
        refine .inl (call_data d1 (by simp [go_sem]) ?_)
        simp -implicitDefEqProofs (maxSteps := 2000000) (disch := omega) [go_sem]
        refine .inl (call_data cq (by simp [go_sem]) ?_)
        simp -implicitDefEqProofs (maxSteps := 2000000) (disch := omega) [go_sem]
        refine .inl (call_data d2 (by simp [go_sem]) ?_)
        simp -implicitDefEqProofs (maxSteps := 2000000) (disch := omega) [go_sem]
        refine .inl (call_data cm (by simp [go_sem]) ?_)
        simp -implicitDefEqProofs (maxSteps := 2000000) (disch := omega) [go_sem, hS, Try.f5]
      · have cq := cq false ⟨fun h => (by cases h), fun h => absurd h hr⟩
        refine .inl (call_data d1 (by simp [go_sem]) ?_)
        simp -implicitDefEqProofs (maxSteps := 2000000) (disch := omega) [go_sem]
        refine .inl (call_data cq (by simp [go_sem]) ?_)
        simp -implicitDefEqProofs (maxSteps := 2000000) (disch := omega) [go_sem, Try.f5]
end
end Bk
end Go.Proofs.Ytdgklbbgbnapoaa
