/- What came in, read as plain data: the arguments of a law, the listed variables. Rows of bytes; what arguments are. Choices that the numbers at hand decide: by omega, in the walk's simp. (Import it where the walk should decide by itself.) Functions that may panic, on plain data; functions that are lent a row of the caller's. A row of the caller's, lent to a call: the call is looked at with this row alone. Functions that may panic: what the walk needs. A function with a deferred call that recovers, on plain data. What a walk through a deferred call needs. A row of the caller's, lent to a call: by any of its arguments. -/
import Derived.Test.YtdgklbbgbnapoaaPk6
import Derived.OpenShut
import Derived.SizedLaws
import Derived.LaidMore
import Derived.KernelRfl
import Derived.Recover
namespace Go.Proofs.Ytdgklbbgbnapoaa
open Go.RowKit
set_option linter.unusedVariables false
set_option linter.unusedSimpArgs false

/-- An element of a type, out of its cells. -/
def mkE (P : Program) (t : TypeId) (ds : List Data) : Data := match P.underlying t with
  | some (.struct _) | some (.array _ _) => .agg ds
  | _ => ds.headD .nilp

/-- Types that are read as plain data. -/
def suppF (P : Program) (s : TypeId → Bool) : Nat → List Field → Option Nat
  | o, [] => some o
  | o, f :: fs => if f.offset = o ∧ s f.type = true then suppF P s (o + P.cellsOf f.type) fs else none
def supp (P : Program) : Nat → TypeId → Bool
  | 0, _ => false
  | n + 1, t => match P.underlying t with
    | some .bool | some .string => true
    | some (.int _) => true
    | some (.slice e) => supp P n e && decide (0 < P.cellsOf e) && decide (0 < P.bytesOf e)
    | some (.struct fs) => suppF P (supp P n) 0 fs.toList == some (P.cellsOf t)
    | some (.array m e) => supp P n e && decide (P.cellsOf t = m * P.cellsOf e)
    | _ => false

/-- The cells that a reading tells. -/
def dDF {H : Type} (r : TypeId → DataW H → List Data) : List Field → List (DataW H) → List Data
  | f :: fs, d :: ds => r f.type d ++ dDF r fs ds
  | _, _ => []
def dD {H : Type} (P : Program) : Nat → TypeId → DataW H → List Data
  | 0, _, _ => []
  | n + 1, t, d => match P.underlying t with
    | some (.slice e) => (match d with
      | .slice elems _ => [.sl (P.cellsOf e) (elems.map fun x => mkE P e (dD P n e x))]
      | _ => [.sl (P.cellsOf e) []])
    | some (.struct fs) => (match d with
      | .agg parts => dDF (dD P n) fs.toList parts
      | _ => [])
    | some (.array _ e) => (match d with
      | .agg parts => parts.flatMap (dD P n e)
      | _ => [])
    | _ => (match d with
      | .lit (.bool b) => [.bool b]
      | .lit (.int k i) => [.int k i]
      | .lit (.string s) => [.str ⟨s.toArray⟩]
      | _ => [])

/-- The form of a type's cells. -/
def okF (o : TypeId → List Data → Prop) : List Field → List Data → Prop
  | [], ds => ds = []
  | f :: fs, ds => ∃ a b, ds = a ++ b ∧ o f.type a ∧ okF o fs b
def okA (o : List Data → Prop) : Nat → List Data → Prop
  | 0, ds => ds = []
  | n + 1, ds => ∃ a b, ds = a ++ b ∧ o a ∧ okA o n b
def okD (P : Program) : Nat → TypeId → List Data → Prop
  | 0, _, _ => False
  | n + 1, t, ds => match P.underlying t with
    | some .bool => ∃ b, ds = [.bool b]
    | some (.int k) => ∃ i, ds = [.int k i] ∧ (Lit.int k i).wf = true
    | some .string => ∃ s, ds = [.str s] ∧ s.size ≤ reachBytes
    | some (.slice e) => ∃ l, ds = [.sl (P.cellsOf e) l] ∧ l.length ≤ reachBytes ∧ ∀ x ∈ l, ∃ es, x = mkE P e es ∧ okD P n e es
    | some (.struct fs) => okF (okD P n) fs.toList ds
    | some (.array m e) => okA (okD P n e) m ds
    | _ => False

/-- Cells, one by one. -/
def VDs (w : World) (cs : List Value) (ds : List Data) : Prop := ds.length = cs.length ∧ ∀ (i : Nat) (x : Data) (v : Value), ds[i]? = some x → cs[i]? = some v → VD (fun _ => False) w x v

theorem VDs.nil (w : World) : VDs w [] [] := ⟨rfl, fun i x v h => by simp at h⟩
theorem VDs.one {w : World} {v : Value} {x : Data} (h : VD (fun _ => False) w x v) : VDs w [v] [x] := ⟨rfl, fun i y u hy hu => by
  match i with
  | 0 => simp at hy hu; subst hy; subst hu; exact h
  | i + 1 => simp at hy⟩
theorem VDs.append {w : World} {a b : List Value} {x y : List Data} (h : VDs w a x) (k : VDs w b y) : VDs w (a ++ b) (x ++ y) := by
  refine ⟨by simp [h.1, k.1], fun i d v hd hv => ?_⟩
  rw [List.getElem?_append] at hd hv
  rw [h.1] at hd
  split at hd
  · rename_i hi; rw [if_pos hi] at hv; exact h.2 i d v hd hv
  · rename_i hi; rw [if_neg hi] at hv; exact k.2 _ d v hd hv

section
variable {H : Type} {enc : TypeId × Value → H} {P : Program} {w : World} {held : Bool} {spare : Nat → Bool}

theorem weights_each {ts : List TypeId} {ds : List (DataW H)} (hz : ∀ x ∈ DataW.weightsEach P ts ds, x ≤ reachBytes) : ∀ (i : Nat) t d, ts[i]? = some t → ds[i]? = some d → ∀ x ∈ DataW.weights P t d, x ≤ reachBytes := by
  induction ts generalizing ds with
  | nil => intro i t d h; simp at h
  | cons t ts ih =>
    cases ds with
    | nil => intro i t d _ h; simp at h
    | cons d ds =>
      simp only [DataW.weightsEach, List.mem_append] at hz
      intro i t' d' ht hd x hx
      match i with
      | 0 => simp at ht hd; subst ht; subst hd; exact hz x (.inl hx)
      | i + 1 => exact ih (fun y hy => hz y (.inr hy)) i t' d' (by simpa using ht) (by simpa using hd) x hx
theorem weights_all {e : TypeId} {ds : List (DataW H)} (hz : ∀ x ∈ DataW.weightsAll P e ds, x ≤ reachBytes) : ∀ d ∈ ds, ∀ x ∈ DataW.weights P e d, x ≤ reachBytes := by
  induction ds with
  | nil => intro d h; simp at h
  | cons d ds ih =>
    simp only [DataW.weightsAll, List.mem_append] at hz
    intro d' hd x hx
    rcases List.mem_cons.1 hd with rfl | hd
    · exact hz x (.inl hx)
    · exact ih (fun y hy => hz y (.inr hy)) d' hd x hx

/-- The cells of a memory row. -/
theorem cells_get {b0 : Nat} {a : Addr} {n : Nat} {cs : List Value} (h : w.cells? b0 a n = some cs) : cs.length = n ∧ ∀ i, i < n → w.cell? (a.add i) = cs[i]? := by
  unfold World.cells? at h
  split at h
  · exact ⟨by simpa using mapM_some_length h, fun i hi => mapM_some_get h i i (by simp [hi])⟩
  · cases h
theorem cell_lt {a : Addr} {v : Value} (h : w.cell? a = some v) : a.block < w.heap.size ∧ a.spot = none := by
  unfold World.cell? at h
  split at h
  · rename_i hb
    exact ⟨(Array.getElem?_eq_some_iff.1 hb).1, by cases hs : a.spot with
      | none => rfl
      | some s => rw [hs] at h; simp at h⟩
  · cases h

theorem mkE_cells {n : Nat} {t : TypeId} {es : List Data} (h : okD P n t es) : (mkE P t es).cells = es := by
  cases n with
  | zero => exact h.elim
  | succ n =>
    unfold okD at h
    unfold mkE
    split at h
    all_goals rename_i hu; simp only [hu]
    · obtain ⟨b, rfl⟩ := h; rfl
    · obtain ⟨i, rfl, _⟩ := h; rfl
    · obtain ⟨s, rfl, _⟩ := h; rfl
    · obtain ⟨l, rfl, _⟩ := h; rfl
    · rfl
    · rfl
    · exact h.elim

/-- The reading of cells: plain data, of the type's form. -/
theorem read_ok : ∀ (n : Nat) (fuel : Nat) (t : TypeId) (cs : List Value) (d : DataW H) (ps : List MemPlace), supp P n t = true → DataW.trod enc P w 0 spare held fuel t cs = some (d, ps) → (∀ x ∈ DataW.weights P t d, x ≤ reachBytes) →
    VDs w cs (dD P n t d) ∧ okD P n t (dD P n t d) := by
  intro n
  induction n with
  | zero => intro fuel t cs d ps hs; simp [supp] at hs
  | succ n ih =>
    intro fuel t cs d ps hs h hz
    unfold supp at hs
    split at hs
    · rename_i hu
      obtain ⟨b, rfl, e⟩ := DataW.trod_bool hu h
      cases e
      simp only [dD, okD, hu]
      exact ⟨.one (.bool b), b, rfl⟩
    · rename_i hu
      obtain ⟨s, rfl, e, _⟩ := DataW.trod_string hu h
      cases e
      simp only [dD, okD, hu]
      refine ⟨.one (.str s), s, rfl, ?_⟩
      have := hz s.data.toList.length (by simp [DataW.weights])
      simpa using this
    · rename_i k hu
      obtain ⟨i, rfl, e, hw⟩ := DataW.trod_int hu h
      cases e
      simp only [dD, okD, hu]
      exact ⟨.one (.int k i), i, rfl, hw⟩
    · rename_i e hu
      simp only [Bool.and_eq_true, decide_eq_true_eq] at hs
      obtain ⟨⟨hse, hc⟩, hb⟩ := hs
      rcases DataW.trod_slice hu h with ⟨rfl, hx⟩ | ⟨a, len, cap, elems, rest, m, rfl, rfl, hx, _, hlc, hcm, hlen, hel, _, _⟩
      · cases hx
        simp only [dD, okD, hu]
        exact ⟨.one (.sl _ [] none 0 0 0 0 (fun _ => .nilIface) rfl (Nat.le_refl _) (by simp [maxLen]) (by simp) (.inr rfl) (fun i x hx => by simp [flat] at hx) (fun i x hx => by simp [flat] at hx)), [], rfl, by simp, by simp⟩
      · cases hx
        simp only [DataW.weights, hu, List.mem_cons, List.mem_append, List.length_map] at hz
        have hw1 := hz _ (.inl rfl)
        have hw2 := weights_all (P := P) (e := e) (ds := elems.map (·.1)) (fun x hx => hz x (.inr (.inl hx)))
        have hlen2 : elems.length ≤ reachBytes := by
          have : elems.length * 1 ≤ (elems.length + rest.length) * P.bytesOf e := Nat.mul_le_mul (by omega) hb
          omega
        have each : ∀ (i : Nat) (y : DataW H × List MemPlace), elems[i]? = some y → ∃ ec, w.cells? 0 (a.add (i * P.cellsOf e)) (P.cellsOf e) = some ec ∧ VDs w ec (dD P n e y.1) ∧ okD P n e (dD P n e y.1) := by
          intro i y hy
          have hi : i < len := by rw [← hlen]; exact (List.getElem?_eq_some_iff.1 hy).1
          have h1 := hel i hi
          rw [hy, Option.bind_eq_some_iff] at h1
          obtain ⟨ec, h2, h3⟩ := h1
          exact ⟨ec, h2, ih m e ec y.1 y.2 hse h3 (hw2 y.1 (List.mem_map.2 ⟨y, List.mem_of_getElem? hy, rfl⟩))⟩
        have hcl : ∀ (i : Nat) (y : DataW H × List MemPlace), elems[i]? = some y → (mkE P e (dD P n e y.1)).cells = dD P n e y.1 ∧ (dD P n e y.1).length = P.cellsOf e := by
          intro i y hy
          obtain ⟨ec, h2, h3, h4⟩ := each i y hy
          exact ⟨mkE_cells h4, by rw [h3.1]; exact (cells_get h2).1⟩
        have hflat : ∀ (l : List Data) (c : Nat), 0 < c → (∀ x ∈ l, x.cells.length = c) → ∀ (i : Nat) (x : Data), (flat l)[i]? = some x → ∃ y, l[i / c]? = some y ∧ y.cells[i % c]? = some x := by
          intro l c hc0
          induction l with
          | nil => intro _ i x hx; simp [flat] at hx
          | cons y l ihl =>
            intro hall i x hx
            have hy : y.cells.length = c := hall y (by simp)
            simp only [flat, List.flatMap_cons, List.getElem?_append] at hx
            rw [hy] at hx
            split at hx
            · rename_i hi
              rw [Nat.div_eq_of_lt hi, Nat.mod_eq_of_lt hi]
              exact ⟨y, rfl, hx⟩
            · rename_i hi
              obtain ⟨z, h1, h2⟩ := ihl (fun x hx => hall x (by simp [hx])) (i - c) x hx
              obtain ⟨q, rfl⟩ : ∃ q, i = q + c := ⟨i - c, by omega⟩
              rw [Nat.add_div_right _ hc0, Nat.add_mod_right]
              rw [Nat.add_sub_cancel] at h1 h2
              exact ⟨z, by simpa using h1, h2⟩
        have hall : ∀ x ∈ (elems.map fun y => mkE P e (dD P n e y.1)), x.cells.length = P.cellsOf e := by
          intro x hx
          obtain ⟨y, hy, rfl⟩ := List.mem_map.1 hx
          obtain ⟨i, hi⟩ := List.getElem?_of_mem hy
          rw [(hcl i y hi).1, (hcl i y hi).2]
        have key : ∀ (i : Nat) (x : Data), (flat (elems.map fun y => mkE P e (dD P n e y.1)))[i]? = some x → ∃ v, w.cell? (a.add i) = some v ∧ VD (fun _ => False) w x v := by
          intro i x hx
          obtain ⟨y, h1, h2⟩ := hflat _ _ hc hall i x hx
          rw [List.getElem?_map, Option.map_eq_some_iff] at h1
          obtain ⟨z, h3, rfl⟩ := h1
          rw [(hcl _ z h3).1] at h2
          obtain ⟨ec, h4, h5, _⟩ := each _ z h3
          obtain ⟨h6, h7⟩ := cells_get h4
          have hlt : i % P.cellsOf e < P.cellsOf e := Nat.mod_lt _ hc
          have hv : ec[i % P.cellsOf e]? = some ec[i % P.cellsOf e] := List.getElem?_eq_getElem (by omega)
          refine ⟨ec[i % P.cellsOf e], ?_, h5.2 _ x _ h2 hv⟩
          have h8 := h7 _ hlt
          rw [hv] at h8
          rw [← h8]
          congr 1
          have hi := Nat.div_add_mod i (P.cellsOf e)
          rw [Nat.mul_comm] at hi
          generalize i / P.cellsOf e * P.cellsOf e = q at hi
          generalize i % P.cellsOf e = r at hi
          subst hi
          unfold Addr.add
          by_cases hq : q = 0
          · subst hq; simp
          · by_cases hr : r = 0
            · subst hr; simp
            · simp [hq, hr, Nat.add_assoc]
        have hdd : dD P (n + 1) t (DataW.slice (elems.map (·.1)) (rest.map (·.1))) = [.sl (P.cellsOf e) (elems.map fun y => mkE P e (dD P n e y.1))] := by
          simp [dD, hu, Function.comp_def]
        rw [hdd]
        refine ⟨.one ?_, ?_⟩
        · have spot : ∀ (i : Nat) (x : Data), (flat (elems.map fun y => mkE P e (dD P n e y.1)))[i]? = some x → a.spot = none := by
            intro i x hx
            have h0 : 0 < (flat (elems.map fun y => mkE P e (dD P n e y.1))).length := by
              have := (List.getElem?_eq_some_iff.1 hx).1; omega
            obtain ⟨v, hv, _⟩ := key 0 _ (List.getElem?_eq_getElem h0)
            simpa [Addr.add] using (cell_lt hv).2
          refine .sl _ _ (some a) len cap a.block a.off (fun i => (w.cell? ⟨a.block, a.off + i, none⟩).getD .nilIface) (by simp [hlen]) hlc hcm hall ?_ ?_ ?_
          · by_cases he : elems = []
            · exact .inr (by simp [he])
            · refine .inl ?_
              have h0 : 0 < elems.length := List.length_pos_iff.2 he
              obtain ⟨ec, h4, _, _⟩ := each 0 elems[0] (List.getElem?_eq_getElem h0)
              obtain ⟨h6, h7⟩ := cells_get h4
              have h8 := h7 0 hc
              rw [List.getElem?_eq_getElem (by omega)] at h8
              have h9 := cell_lt h8
              simp [Addr.add] at h9
              obtain ⟨ab, ao, as⟩ := a
              simp at h9
              exact ⟨by rw [h9.2], h9.1, fun h => h⟩
          · intro i x hx
            obtain ⟨v, hv, _⟩ := key i x hx
            have hsp := spot i x hx
            have : a.add i = ⟨a.block, a.off + i, none⟩ := by
              unfold Addr.add
              split
              · rename_i e0; subst e0; obtain ⟨ab, ao, as⟩ := a; simp at hsp ⊢; exact hsp
              · rfl
            rw [this] at hv
            simp only [hv, Option.getD_some]
          · intro i x hx
            obtain ⟨v, hv, hvd⟩ := key i x hx
            have hsp := spot i x hx
            have : a.add i = ⟨a.block, a.off + i, none⟩ := by
              unfold Addr.add
              split
              · rename_i e0; subst e0; obtain ⟨ab, ao, as⟩ := a; simp at hsp ⊢; exact hsp
              · rfl
            rw [this] at hv
            simp only [hv, Option.getD_some]
            exact hvd
        · simp only [okD, hu]
          refine ⟨_, rfl, by simpa using hlen2, fun x hx => ?_⟩
          obtain ⟨y, hy, rfl⟩ := List.mem_map.1 hx
          obtain ⟨i, hi⟩ := List.getElem?_of_mem hy
          obtain ⟨ec, _, _, h4⟩ := each i y hi
          exact ⟨_, rfl, h4⟩
    · rename_i fs hu
      obtain ⟨xs, m, rfl, hx, hcl, hxl, hf⟩ := DataW.trod_struct hu h
      cases hx
      simp only [DataW.weights, hu] at hz
      have hw := weights_each hz
      have hdd : dD P (n + 1) t (DataW.agg (xs.map (·.1))) = dDF (dD P n) fs.toList (xs.map (·.1)) := by simp [dD, hu]
      rw [hdd]
      have hs2 : suppF P (supp P n) 0 fs.toList = some (P.cellsOf t) := by simpa using hs
      have go : ∀ (l : List Field) (ys : List (DataW H × List MemPlace)) (o : Nat), l.length = ys.length → suppF P (supp P n) o l = some (P.cellsOf t) →
          (∀ (i : Nat) (f : Field), l[i]? = some f → DataW.trod enc P w 0 spare held m f.type ((cs.drop f.offset).take (P.cellsOf f.type)) = ys[i]?) →
          (∀ (i : Nat) (f : Field) (y : DataW H × List MemPlace), l[i]? = some f → ys[i]? = some y → ∀ x ∈ DataW.weights P f.type y.1, x ≤ reachBytes) → o ≤ P.cellsOf t ∧ VDs w (cs.drop o) (dDF (dD P n) l (ys.map (·.1))) ∧ okF (okD P n) l (dDF (dD P n) l (ys.map (·.1))) := by
        intro l
        induction l with
        | nil =>
          intro ys o hl hs3 _ _
          simp only [suppF, Option.some.injEq] at hs3
          subst hs3
          rw [← hcl]
          simp only [List.drop_length, dDF]
          exact ⟨Nat.le_refl _, .nil w, rfl⟩
        | cons f l ihl =>
          intro ys o hl hs3 hf3 hw3
          cases ys with
          | nil => simp at hl
          | cons y ys =>
            simp only [suppF] at hs3
            split at hs3
            · rename_i ho
              obtain ⟨rfl, hsf⟩ := ho
              have h0 := hf3 0 f rfl
              simp only [List.getElem?_cons_zero] at h0
              obtain ⟨h1, h2⟩ := ih m f.type _ y.1 y.2 hsf h0 (hw3 0 f y rfl rfl)
              obtain ⟨h3, h4, h5⟩ := ihl ys (f.offset + P.cellsOf f.type) (by simpa using hl) hs3 (fun i g hg => by simpa using hf3 (i + 1) g (by simpa using hg)) (fun i g z hg hz' => hw3 (i + 1) g z (by simpa using hg) (by simpa using hz'))
              refine ⟨by omega, ?_, _, _, rfl, h2, h5⟩
              have : cs.drop f.offset = (cs.drop f.offset).take (P.cellsOf f.type) ++ cs.drop (f.offset + P.cellsOf f.type) := by
                rw [← List.drop_drop, List.take_append_drop]
              rw [this]
              exact h1.append h4
            · cases hs3
      obtain ⟨_, h1, h2⟩ := go fs.toList xs 0 (by simp [hxl]) hs2 (fun i f hg => hf i f (by simpa using hg)) (fun i f y hg hy => hw i f.type y.1 (by simp at hg ⊢; exact ⟨f, hg, rfl⟩) (by simp [hy]))
      refine ⟨by simpa using h1, ?_⟩
      simp only [okD, hu]
      exact h2
    · rename_i m e hu
      simp only [Bool.and_eq_true, decide_eq_true_eq] at hs
      obtain ⟨hse, hsz⟩ := hs
      obtain ⟨xs, k, rfl, hx, hcl, hxl, hf⟩ := DataW.trod_array hu h
      cases hx
      simp only [DataW.weights, hu] at hz
      have hw := weights_all hz
      have hdd : dD P (n + 1) t (DataW.agg (xs.map (·.1))) = (xs.map (·.1)).flatMap (dD P n e) := by simp [dD, hu]
      rw [hdd]
      have go : ∀ (j : Nat), j ≤ m → VDs w (cs.drop ((m - j) * P.cellsOf e)) (((xs.drop (m - j)).map (·.1)).flatMap (dD P n e)) ∧ okA (okD P n e) j (((xs.drop (m - j)).map (·.1)).flatMap (dD P n e)) := by
        intro j
        induction j with
        | zero =>
          intro _
          rw [Nat.sub_zero, ← hsz, ← hcl, ← hxl]
          simp only [List.drop_length, List.map_nil, List.flatMap_nil]
          exact ⟨.nil w, rfl⟩
        | succ j ihj =>
          intro hj
          obtain ⟨h1, h2⟩ := ihj (by omega)
          have hi : m - (j + 1) < m := by omega
          have hxi : m - (j + 1) < xs.length := by omega
          have h0 := hf (m - (j + 1)) hi
          rw [List.getElem?_eq_getElem hxi] at h0
          obtain ⟨h3, h4⟩ := ih k e _ xs[m - (j + 1)].1 xs[m - (j + 1)].2 hse h0 (hw _ (List.mem_map.2 ⟨_, List.getElem_mem hxi, rfl⟩))
          have e1 : m - (j + 1) + 1 = m - j := by omega
          rw [List.drop_eq_getElem_cons hxi, e1]
          simp only [List.map_cons, List.flatMap_cons]
          refine ⟨?_, _, _, rfl, h4, h2⟩
          have e2 : cs.drop ((m - (j + 1)) * P.cellsOf e) = (cs.drop ((m - (j + 1)) * P.cellsOf e)).take (P.cellsOf e) ++ cs.drop ((m - j) * P.cellsOf e) := by
            have : (m - j) * P.cellsOf e = (m - (j + 1)) * P.cellsOf e + P.cellsOf e := by rw [← e1, Nat.add_mul, Nat.one_mul]
            rw [this, ← List.drop_drop, List.take_append_drop]
          rw [e2]
          exact h3.append h1
      have := go m (Nat.le_refl _)
      simp only [Nat.sub_self, Nat.zero_mul, List.drop_zero] at this
      refine ⟨this.1, ?_⟩
      simp only [okD, hu]
      exact this.2
    · cases hs
/-- An argument. -/
def argD (P : Program) (n : Nat) (t : TypeId) (x : Data) : Prop := ∃ ds, x = mkE P t ds ∧ okD P n t ds

theorem read_arg {n : Nat} {base : Nat} {t : TypeId} {v : Value} {d : DataW H} {ps : List MemPlace} (hs : supp P n t = true) (hv : Value.okWide P w .any base t v) (k : DataW.Trod enc P w 0 spare held t v d ps) (hz : (DataW.weights P t d).all (fun x => decide (x ≤ reachBytes)) = true) :
    ∃ x, VD (fun _ => False) w x v ∧ argD P n t x := by
  obtain ⟨fuel, hf⟩ := k
  obtain ⟨h1, h2⟩ := read_ok n fuel t _ d ps hs hf (fun x hx => by simpa using List.all_eq_true.1 hz x hx)
  refine ⟨mkE P t (dD P n t d), ?_, _, rfl, h2⟩
  generalize dD P n t d = ds at h1 h2
  cases n with
  | zero => exact h2.elim
  | succ n =>
    have one : ∀ x, (∀ cs, v ≠ .agg cs) → ds = [x] → VD (fun _ => False) w x v := by
      intro x hna hds
      subst hds
      have : v.cells.toList = [v] := by
        cases v with
        | agg cs => exact absurd rfl (hna cs)
        | _ => rfl
      rw [this] at h1
      exact h1.2 0 x v rfl rfl
    unfold Value.okWide at hv
    unfold okD at h2
    unfold mkE
    split at h2
    all_goals rename_i hu; simp only [hu] at hv ⊢
    · obtain ⟨b, rfl⟩ := h2
      exact one _ (fun cs e => by subst e; simp [Cell.okWide, Cell.ok, hu] at hv) rfl
    · obtain ⟨i, rfl, _⟩ := h2
      exact one _ (fun cs e => by subst e; simp [Cell.okWide, Cell.ok, hu] at hv) rfl
    · obtain ⟨s, rfl, _⟩ := h2
      exact one _ (fun cs e => by subst e; simp [Cell.okWide, Cell.ok, hu] at hv) rfl
    · obtain ⟨l, rfl, _⟩ := h2
      exact one _ (fun cs e => by subst e; simp [Cell.okWide, Cell.ok, hu] at hv) rfl
    · obtain ⟨cs, rfl, _⟩ := hv
      exact .agg _ _ (by simpa [Value.cells] using h1.1) (fun i x u hx hu => h1.2 i x u hx (by simpa [Value.cells] using hu))
    · obtain ⟨cs, rfl, _⟩ := hv
      exact .agg _ _ (by simpa [Value.cells] using h1.1) (fun i x u hx hu => h1.2 i x u hx (by simpa [Value.cells] using hu))
    · exact h2.elim

/-- A law by its contract on plain data. -/
theorem calls_of_pc {Γ : Nat → Option (List Data)} {f : FuncId} {xs : List Data} {vs : Array Value} (hg : Glob Γ (fun _ => False) w) (h : PC P Γ f xs (.bool true)) (hl : xs.length = vs.size)
    (hv : ∀ (i : Nat) (x : Data) (v : Value), xs[i]? = some x → vs[i]? = some v → VD (fun _ => False) w x v) :
    Calls P f vs w fun e w' => e = .returned (.bool true) ∧ Below w.heap.size w w' := by
  refine (h.2 (fun _ => False) w vs hg (fun b hb => hb.elim) hl hv).mono fun e w' ⟨v, he, hvd, hb⟩ => ?_
  cases hvd
  exact ⟨he, hb⟩
theorem vd1 {x0 : Data} {v0 : Value} (h0 : VD (fun _ => False) w x0 v0) : ∀ (i : Nat) (x : Data) (v : Value), [x0][i]? = some x → #[v0][i]? = some v → VD (fun _ => False) w x v := fun i x v hx hv => by
  match i with
  | 0 => simp at hx hv; subst hx; subst hv; exact h0
  | i + 1 => simp at hx
theorem vdl {x0 : Data} {v0 : Value} {xs : List Data} {vs : List Value} (h0 : VD (fun _ => False) w x0 v0) (h : ∀ (i : Nat) (x : Data) (v : Value), xs[i]? = some x → vs[i]? = some v → VD (fun _ => False) w x v) :
    ∀ (i : Nat) (x : Data) (v : Value), (x0 :: xs)[i]? = some x → (v0 :: vs)[i]? = some v → VD (fun _ => False) w x v := fun i x v hx hv => by
  match i with
  | 0 => simp at hx hv; subst hx; subst hv; exact h0
  | i + 1 => exact h i x v (by simpa using hx) (by simpa using hv)
/-- A listed variable. -/
theorem glob_of {n : Nat} {nm : String} {g : Nat} {t : TypeId} {cs : Array Value} {fuel : Nat} {d : DataW H} {ps : List MemPlace} (hs : supp P n t = true) (hg : P.globalNamed nm = some g) (hv : w.var? P nm = some cs)
    (hd : DataW.trod enc P w 0 spare held fuel t cs.toList = some (d, ps)) (hz : (DataW.weights P t d).all (fun x => decide (x ≤ reachBytes)) = true) (hne : dD P n t d ≠ []) :
    VV (fun _ => False) w (fun _ => .res) (.cptr (dD P n t d)) (.pointer (some ⟨g, 0, none⟩)) := by
  obtain ⟨h1, h2⟩ := read_ok n fuel t _ d ps hs hd (fun x hx => by simpa using List.all_eq_true.1 hz x hx)
  have hc : ∀ (i : Nat) (x : Data), (dD P n t d)[i]? = some x → ∃ v, w.cell? ⟨g, 0 + i, none⟩ = some v ∧ VD (fun _ => False) w x v := by
    intro i x hx
    have hi : i < cs.size := by
      have := (List.getElem?_eq_some_iff.1 hx).1
      rw [h1.1] at this; simpa using this
    have hcell := World.var?_cell hg hv i
    rw [Array.getElem?_eq_getElem hi] at hcell
    refine ⟨cs[i], by simpa using hcell, h1.2 i x _ hx (by simp [hi])⟩
  have h0 : 0 < (dD P n t d).length := List.length_pos_iff.2 hne
  obtain ⟨v, hv0, _⟩ := hc 0 _ (List.getElem?_eq_getElem h0)
  refine .cptr _ g 0 (fun i => (w.cell? ⟨g, 0 + i, none⟩).getD .nilIface) (cell_lt hv0).1 (fun h => h) (fun i x hx => ?_) (fun i x hx => ?_)
  · obtain ⟨v, hv, _⟩ := hc i x hx
    simp only [hv, Option.getD_some]
  · obtain ⟨v, hv, hvd⟩ := hc i x hx
    simp only [hv, Option.getD_some]
    exact hvd
end
end Go.Proofs.Ytdgklbbgbnapoaa
namespace Go.Proofs.Ytdgklbbgbnapoaa
open Go.RowKit
set_option linter.unusedVariables false
set_option linter.unusedSimpArgs false
def u8 (n : Nat) : Data := .int .u8 n
/-- A row of bytes. -/
def bys (l : List Nat) : List Data := l.map u8
@[go_sem] theorem flat_bys (l : List Nat) : flat (bys l) = bys l := by
  induction l with
  | nil => rfl
  | cons x l ih => simp [bys, flat, u8, Data.cells] at ih ⊢; simpa [u8] using ih
@[go_sem] theorem bys_nil : bys [] = [] := rfl
@[go_sem] theorem bys_length (l : List Nat) : (bys l).length = l.length := by simp [bys]
theorem bys_cell' (l : List Nat) : ∀ x ∈ bys l, x.cell = true := fun x hx => by
  obtain ⟨n, _, rfl⟩ := List.mem_map.1 hx
  rfl
@[go_sem] theorem bys_cell (l : List Nat) : (∀ x ∈ bys l, x.cell = true) ↔ True := iff_true_intro (bys_cell' l)
theorem bys_cells (l : List Nat) : ∀ x ∈ bys l, x.cells.length = 1 := fun x hx => by
  obtain ⟨n, _, rfl⟩ := List.mem_map.1 hx
  rfl
@[go_sem] theorem bys_take (l : List Nat) (n : Nat) : (bys l).take n = bys (l.take n) := by simp [bys, List.map_take]
@[go_sem] theorem bys_drop (l : List Nat) (n : Nat) : (bys l).drop n = bys (l.drop n) := by simp [bys, List.map_drop]
@[go_sem] theorem bys_get (l : List Nat) (i : Nat) : (bys l)[i]? = (l[i]?).map u8 := by simp [bys]
@[go_sem] theorem bysd_take (l : List Nat) (n : Nat) : ((bys l).map D.data).take n = (bys (l.take n)).map D.data := by rw [← bys_take, List.map_take]
@[go_sem] theorem bysd_drop (l : List Nat) (n : Nat) : ((bys l).map D.data).drop n = (bys (l.drop n)).map D.data := by rw [← bys_drop, List.map_drop]
@[go_sem] theorem bysd_append (a b : List Nat) : (bys a).map D.data ++ (bys b).map D.data = (bys (a ++ b)).map D.data := by simp [bys]
@[go_sem] theorem bysd_rep (n : Nat) : List.replicate n (D.data (.int .u8 0)) = (bys (List.replicate n 0)).map D.data := by simp [bys, u8]
@[go_sem] theorem data_u8 (n : Nat) : D.data (u8 n) = .data (.int .u8 n) := rfl
@[go_sem] theorem u8_cell (n : Nat) : (u8 n).cell = true := rfl
@[go_sem] theorem u8_cells (n : Nat) : (u8 n).cells = [u8 n] := rfl
/-- A row of bytes of the call's own, handed to a callee that keeps it. -/
theorem call_kept {P : Program} {Γ : Nat → Option (List Data)} {f : FuncId} {H : Nat → Blk} {K : D → List Nat → List (Nat × Blk) → Prop} (g n : Nat) (l : List Nat) {r : Data} (h : PC P Γ f [.sl 1 (bys l)] r) (hg : H g = .blk true ((bys l).map D.data)) (hn : l.length = n)
    (k : K (.data r) [g] [(g, .blk false ((bys l).map D.data))]) : callK P Γ f [.ref g 0 n 1] H K := by
  refine call_frz [g] [g] (fun q hq => ⟨true, _, by simp at hq; subst hq; exact hg⟩) h (fun H' hH' => ?_) ?_
  · refine frzL_c (frz_ref (rw := false) (cells := (bys l).map D.data) ?_ (.inr rfl) (by rw [bys_length, hn]) (bys_cells _) (by rw [flat_bys])) frzL_n
    simp [Hp.upd, Hp.set, hg, fz]
  · simp only [List.map_cons, List.map_nil, hg, fz]
    exact k
theorem call_read {P : Program} {Γ : Nat → Option (List Data)} {f : FuncId} {H : Nat → Blk} {K : D → List Nat → List (Nat × Blk) → Prop} (g n : Nat) (l : List Nat) {rw : Bool} {r : Data} (h : PC P Γ f [.sl 1 (bys l)] r) (hb : Bare r) (hg : H g = .blk rw ((bys l).map D.data)) (hn : l.length = n)
    (k : K (.data r) [g] []) : callK P Γ f [.ref g 0 n 1] H K := by
  refine call_bare [g] h hb (fun H' hH' => ?_) k
  refine frzL_c (frz_ref (rw := rw) (cells := (bys l).map D.data) ?_ (.inl rfl) (by rw [bys_length, hn]) (bys_cells _) (by rw [flat_bys])) frzL_n
  rw [hH' g (by simp), hg]
theorem frz_bys {ok : Bool} {H : Nat → Blk} {g n : Nat} {l : List Nat} {rw : Bool} (hg : H g = .blk rw ((bys l).map D.data)) (hrw : ok = true ∨ rw = false) (hn : l.length = n) : Frz ok H (.ref g 0 n 1) (.sl 1 (bys l)) :=
  frz_ref hg hrw (by rw [bys_length, hn]) (bys_cells l) (by rw [flat_bys])
/-- A row that is filled element by element: i of F, then noughts z. -/
def rowc (F : List Data) (z : List D) (i : Nat) : List D := (flat (F.take i)).map D.data ++ (List.replicate (F.length - i) z).flatten
theorem rowc_zero (F : List Data) (z : List D) : rowc F z 0 = (List.replicate F.length z).flatten := by simp [rowc, flat]
theorem rowc_end (F : List Data) (z : List D) : rowc F z F.length = (flat F).map D.data := by simp [rowc]
theorem flat_len {es : Nat} : ∀ {l : List Data}, (∀ x ∈ l, x.cells.length = es) → (flat l).length = l.length * es
  | [], _ => by simp [flat]
  | x :: l, h => by
    have ih := flat_len (l := l) fun y hy => h y (by simp [hy])
    have hx := h x (by simp)
    simp only [flat, List.flatMap_cons, List.length_append, List.length_cons] at ih ⊢
    rw [ih, hx, Nat.add_mul]; omega
theorem reps_len (z : List D) (n : Nat) : (List.replicate n z).flatten.length = n * z.length := by simp
theorem rowc_length {F : List Data} {z : List D} (hF : ∀ x ∈ F, x.cells.length = z.length) (i : Nat) (h : i ≤ F.length) : (rowc F z i).length = F.length * z.length := by
  simp only [rowc, List.length_append, List.length_map, reps_len]
  rw [flat_len (es := z.length) fun x hx => hF x (List.mem_of_mem_take hx), List.length_take, Nat.min_eq_left h, ← Nat.add_mul]
  congr 1; omega
theorem over_mid {A old new rest : List D} (h : old.length = new.length) : over (A ++ (old ++ rest)) A.length new = A ++ (new ++ rest) := by
  have gen : (A ++ (old ++ rest)).take A.length ++ new ++ (A ++ (old ++ rest)).drop (A.length + new.length) = A ++ (new ++ rest) := by
    rw [List.take_left, ← h, ← List.drop_drop, List.drop_left, List.drop_left, List.append_assoc]
  match new, h with
  | [], h => exact gen
  | [d], h =>
    match old, h with
    | [o], _ => simp [over]
  | a :: b :: new, h => exact gen
theorem rowc_over {F : List Data} {z : List D} (hF : ∀ x ∈ F, x.cells.length = z.length) {i : Nat} (h : i < F.length) : over (rowc F z i) (i * z.length) (F[i].cells.map D.data) = rowc F z (i + 1) := by
  have e1 : F.length - i = (F.length - (i + 1)) + 1 := by omega
  have hA : ((flat (F.take i)).map D.data).length = i * z.length := by
    rw [List.length_map, flat_len (es := z.length) fun x hx => hF x (List.mem_of_mem_take hx), List.length_take, Nat.min_eq_left (by omega)]
  have e2 : flat (F.take (i + 1)) = flat (F.take i) ++ F[i].cells := by
    rw [List.take_add_one, List.getElem?_eq_getElem h, Option.toList_some]
    unfold flat
    rw [List.flatMap_append, List.flatMap_cons, List.flatMap_nil, List.append_nil]
  unfold rowc
  rw [e1, List.replicate_succ, List.flatten_cons, ← hA, over_mid (by rw [List.length_map, hF _ (List.getElem_mem h)]), e2, List.map_append, List.append_assoc]
def plainD : D → Bool
  | .data _ | .emp _ => true
  | _ => false
theorem renCells_plain {n : Nat} {ρ : Nat → Option Nat} {H : Nat → Blk} {cs ds : List D} (e : cs = ds) (h : cs.all plainD = true) : RenCells n ρ H cs ds := by
  subst e
  refine ⟨Nat.le_refl _, fun i c d hc hd => ?_⟩
  rw [hc] at hd; cases hd
  have := List.all_eq_true.1 h c (List.mem_of_getElem? hc)
  cases c with
  | data x => exact .data x
  | emp es => exact .emp es es
  | _ => cases this
theorem rowc_plain {F : List Data} {z : List D} (hz : z.all plainD = true) (i : Nat) : (rowc F z i).all plainD = true := by
  rw [List.all_eq_true] at hz ⊢
  intro c hc
  rcases List.mem_append.1 hc with hc | hc
  · obtain ⟨x, _, rfl⟩ := List.mem_map.1 hc
    rfl
  · obtain ⟨l, hl, hc⟩ := List.mem_flatten.1 hc
    rw [(List.mem_replicate.1 hl).2] at hc
    exact hz c hc
theorem renCells_rowc {n : Nat} {ρ : Nat → Option Nat} {H : Nat → Blk} {F : List Data} {z : List D} {i : Nat} {ds : List D} (hz : z.all plainD = true) (e : rowc F z i = ds) : RenCells n ρ H (rowc F z i) ds := renCells_plain e (rowc_plain hz i)
theorem renCells_set {n : Nat} {ρ : Nat → Option Nat} {H : Nat → Blk} {cs : List D} {i : Nat} {c d : D} (hp : cs.all plainD = true) (h : Ren n ρ H c d) : RenCells n ρ H (cs.set i c) (cs.set i d) := by
  refine ⟨by simp, fun j c' d' hc hd => ?_⟩
  rw [List.getElem?_set] at hc hd
  by_cases e : i = j
  · subst e
    by_cases hi : i < cs.length
    · simp [hi] at hc hd; subst hc; subst hd; exact h
    · simp [hi] at hc
  · simp only [e, if_false] at hc hd
    rw [hc] at hd; cases hd
    have := List.all_eq_true.1 hp c' (List.mem_of_getElem? hc)
    cases c' with
    | data x => exact .data x
    | emp es => exact .emp es es
    | _ => cases this
theorem over1 (cells : List D) (off : Nat) (a : D) : over cells off [a] = cells.set off a := rfl
theorem over2 (cells : List D) (off : Nat) (a b : D) : over cells off [a, b] = cells.take off ++ a :: b :: cells.drop (off + 2) := by simp [over]
theorem over3 (cells : List D) (off : Nat) (a b c : D) : over cells off [a, b, c] = cells.take off ++ a :: b :: c :: cells.drop (off + 3) := by simp [over]
theorem frz_aggL {ok : Bool} {H : Nat → Blk} {cs : List D} {xs : List Data} (h : FrzL ok H cs xs) : Frz ok H (.agg cs) (.agg xs) := .agg cs xs h.1 h.2
/-- A row of the call's own, handed to a callee that keeps it. -/
theorem call_keep {P : Program} {Γ : Nat → Option (List Data)} {f : FuncId} {ds : List D} {H : Nat → Blk} {K : D → List Nat → List (Nat × Blk) → Prop} (g : Nat) {rw : Bool} {cells : List D} {xs : List Data} {r : Data} (h : PC P Γ f xs r) (hg : H g = .blk rw cells)
    (hx : ∀ H' : Nat → Blk, H' g = .blk false cells → FrzL false H' ds xs) (k : K (.data r) [g] [(g, .blk false cells)]) : callK P Γ f ds H K := by
  refine call_frz [g] [g] (fun q hq => ⟨rw, cells, by simp at hq; subst hq; exact hg⟩) h (fun H' hH' => ?_) ?_
  · exact hx _ (by simp [Hp.upd, Hp.set, hg, fz])
  · simp only [List.map_cons, List.map_nil, hg, fz]
    exact k
/-- Bytes as a string. -/
def toStr (l : List Nat) : ByteArray := ⟨(l.map UInt8.ofNat).toArray⟩
theorem bys_u8 {l : List Nat} (h : ∀ x ∈ l, x < 256) : bys l = (l.map UInt8.ofNat).map (fun b => Data.int .u8 (b.toNat : Int)) := by
  unfold bys u8
  rw [List.map_map]
  refine List.map_congr_left fun x hx => ?_
  have := h x hx
  simp only [Function.comp, UInt8.toNat_ofNat']
  congr 1
  omega
theorem toStr_inj {l m : List Nat} (hl : ∀ x ∈ l, x < 256) (hm : ∀ x ∈ m, x < 256) : toStr l = toStr m ↔ l = m := by
  constructor
  · intro e
    have e2 : l.map UInt8.ofNat = m.map UInt8.ofNat := by simpa [toStr] using e
    have e3 := congrArg (List.map fun b : UInt8 => b.toNat) e2
    rw [List.map_map, List.map_map] at e3
    have k : ∀ q : List Nat, (∀ x ∈ q, x < 256) → q.map ((fun b : UInt8 => b.toNat) ∘ UInt8.ofNat) = q := fun q hq => by
      have : q.map ((fun b : UInt8 => b.toNat) ∘ UInt8.ofNat) = q.map id := List.map_congr_left fun x hx => by
        have := hq x hx
        simp only [Function.comp, UInt8.toNat_ofNat', id]
        omega
      rw [this, List.map_id]
    rwa [k l hl, k m hm] at e3
  · rintro rfl; rfl
theorem conv_bys {P : Program} {s d e : TypeId} {l : List Nat} {K : D → Prop} (hb : ∀ x ∈ l, x < 256) (ht : strT P d = true) (hs : sliceT P s = some e) (he : intT P e = some .u8) (k : K (.data (.str (toStr l)))) : convK P s d (.data (.sl 1 (bys l))) K :=
  ⟨rfl, ht, by simp only [hs]; exact he, _, bys_u8 hb, k⟩
theorem wf_nat {k : IntKind} {i : Int} (h : (Lit.int k i).wf = true) : k.min ≤ i ∧ i ≤ k.max := by simpa [Lit.wf] using h
section
variable {P : Program} {n : Nat} {t e : TypeId} {x : Data}
theorem arg_int {k : IntKind} (hu : P.underlying t = some (.int k)) (a : argD P (n + 1) t x) : ∃ i : Int, k.min ≤ i ∧ i ≤ k.max ∧ x = .int k i := by
  obtain ⟨ds, rfl, h⟩ := a
  simp only [okD, hu] at h
  obtain ⟨i, rfl, hw⟩ := h
  have := wf_nat hw
  exact ⟨i, this.1, this.2, by simp [mkE, hu]⟩
theorem arg_i64 (hu : P.underlying t = some (.int .i64)) (a : argD P (n + 1) t x) : ∃ i : Int, -9223372036854775808 ≤ i ∧ i ≤ 9223372036854775807 ∧ x = .int .i64 i := by
  obtain ⟨i, h1, h2, rfl⟩ := arg_int hu a
  simp [IntKind.min, IntKind.max, IntKind.signed, IntKind.bits] at h1 h2
  exact ⟨i, h1, h2, rfl⟩
theorem arg_nat {k : IntKind} (hk : k.signed = false) (hu : P.underlying t = some (.int k)) (a : argD P (n + 1) t x) : ∃ i : Nat, i < 2 ^ k.bits ∧ x = .int k i := by
  obtain ⟨i, h1, h2, rfl⟩ := arg_int hu a
  simp [IntKind.min, IntKind.max, hk] at h1 h2
  obtain ⟨j, rfl⟩ := Int.eq_ofNat_of_zero_le h1
  have : ((2 ^ k.bits : Nat) : Int) = 2 ^ k.bits := by simp
  exact ⟨j, by omega, rfl⟩
theorem arg_u8 (hu : P.underlying t = some (.int .u8)) (a : argD P (n + 1) t x) : ∃ i : Nat, i < 256 ∧ x = .int .u8 i := arg_nat rfl hu a
theorem arg_u16 (hu : P.underlying t = some (.int .u16)) (a : argD P (n + 1) t x) : ∃ i : Nat, i < 65536 ∧ x = .int .u16 i := arg_nat rfl hu a
theorem arg_u32 (hu : P.underlying t = some (.int .u32)) (a : argD P (n + 1) t x) : ∃ i : Nat, i < 4294967296 ∧ x = .int .u32 i := arg_nat rfl hu a
theorem arg_bool (hu : P.underlying t = some .bool) (a : argD P (n + 1) t x) : ∃ b : Bool, x = .bool b := by
  obtain ⟨ds, rfl, h⟩ := a
  simp only [okD, hu] at h
  obtain ⟨b, rfl⟩ := h
  exact ⟨b, by simp [mkE, hu]⟩
theorem nums_of {k : IntKind} (hk : k.signed = false) (hu : P.underlying e = some (.int k)) : ∀ l : List Data, (∀ x ∈ l, ∃ es, x = mkE P e es ∧ okD P (n + 1) e es) → ∃ m : List Nat, l = m.map (fun i : Nat => Data.int k i) ∧ ∀ b ∈ m, b < 2 ^ k.bits
  | [], _ => ⟨[], rfl, by simp⟩
  | y :: l, h => by
    obtain ⟨m, rfl, hm⟩ := nums_of hk hu l fun x hx => h x (by simp [hx])
    obtain ⟨i, hi, rfl⟩ := arg_nat hk hu (h y (by simp))
    exact ⟨i :: m, rfl, by simpa using ⟨hi, hm⟩⟩
theorem arg_bytes (hu : P.underlying t = some (.slice e)) (he : P.underlying e = some (.int .u8)) (hc : P.cellsOf e = 1) (a : argD P (n + 2) t x) : ∃ l : List Nat, (∀ b ∈ l, b < 256) ∧ l.length ≤ 140737488351232 ∧ x = .sl 1 (bys l) := by
  obtain ⟨ds, rfl, h⟩ := a
  simp only [okD, hu, hc] at h
  obtain ⟨l, rfl, hl, hx⟩ := h
  obtain ⟨m, rfl, hm⟩ := nums_of (n := n) (k := .u8) rfl he l hx
  exact ⟨m, hm, by simpa [reachBytes] using hl, by simp [mkE, hu, bys]; intro a _; rfl⟩
/-- An array of numbers. -/
theorem okA_nums {k : IntKind} (hk : k.signed = false) (hu : P.underlying e = some (.int k)) : ∀ (m : Nat) (ds : List Data), okA (okD P (n + 1) e) m ds → ∃ l : List Nat, l.length = m ∧ ds = l.map (fun i : Nat => Data.int k i) ∧ ∀ b ∈ l, b < 2 ^ k.bits
  | 0, ds, h => ⟨[], rfl, h, by simp⟩
  | m + 1, ds, h => by
    obtain ⟨a, b, rfl, h1, h2⟩ := h
    obtain ⟨l, rfl, rfl, hl⟩ := okA_nums hk hu m b h2
    simp only [okD, hu] at h1
    obtain ⟨i, rfl, hw⟩ := h1
    have := wf_nat hw
    simp [IntKind.min, IntKind.max, hk] at this
    obtain ⟨j, rfl⟩ := Int.eq_ofNat_of_zero_le this.1
    have e2 : ((2 ^ k.bits : Nat) : Int) = 2 ^ k.bits := by simp
    exact ⟨j :: l, rfl, rfl, by simpa using ⟨by omega, hl⟩⟩
theorem okA_bytes (hu : P.underlying e = some (.int .u8)) (m : Nat) (ds : List Data) (h : okA (okD P (n + 1) e) m ds) : ∃ l : List Nat, l.length = m ∧ (∀ b ∈ l, b < 256) ∧ ds = bys l := by
  obtain ⟨l, h1, rfl, h2⟩ := okA_nums (n := n) (k := .u8) rfl hu m ds h
  exact ⟨l, h1, h2, by simp [bys]; intro a _; rfl⟩
/-- An array of bytes. -/
theorem arg_abytes {m : Nat} (hu : P.underlying t = some (.array m e)) (he : P.underlying e = some (.int .u8)) (a : argD P (n + 2) t x) : ∃ l : List Nat, l.length = m ∧ (∀ b ∈ l, b < 256) ∧ x = .agg (bys l) := by
  obtain ⟨ds, rfl, h⟩ := a
  simp only [okD, hu] at h
  obtain ⟨l, h1, h2, rfl⟩ := okA_bytes (n := n) he m ds h
  exact ⟨l, h1, h2, by simp [mkE, hu]⟩
theorem arg_struct {fs : Array Field} (hu : P.underlying t = some (.struct fs)) (a : argD P (n + 1) t x) : ∃ ds, x = .agg ds ∧ okF (okD P n) fs.toList ds := by
  obtain ⟨ds, rfl, h⟩ := a
  simp only [okD, hu] at h
  exact ⟨ds, by simp [mkE, hu], h⟩
theorem okF_cons {o : TypeId → List Data → Prop} {f : Field} {fs : List Field} {ds : List Data} (h : okF o (f :: fs) ds) : ∃ a b, ds = a ++ b ∧ o f.type a ∧ okF o fs b := h
theorem okF_nil {o : TypeId → List Data → Prop} {ds : List Data} (h : okF o [] ds) : ds = [] := h
theorem ok_bytes {ds : List Data} (hu : P.underlying t = some (.slice e)) (he : P.underlying e = some (.int .u8)) (hc : P.cellsOf e = 1) (h : okD P (n + 2) t ds) : ∃ l : List Nat, (∀ b ∈ l, b < 256) ∧ l.length ≤ 140737488351232 ∧ ds = [.sl 1 (bys l)] := by
  unfold okD at h
  simp only [hu, hc] at h
  obtain ⟨l, rfl, hl, hx⟩ := h
  obtain ⟨m, rfl, hm⟩ := nums_of (n := n) (k := .u8) rfl he l hx
  exact ⟨m, hm, by simpa [reachBytes] using hl, by simp [bys]; intro a _; rfl⟩
theorem ok_abytes {m : Nat} {ds : List Data} (hu : P.underlying t = some (.array m e)) (he : P.underlying e = some (.int .u8)) (h : okD P (n + 2) t ds) : ∃ l : List Nat, l.length = m ∧ (∀ b ∈ l, b < 256) ∧ ds = bys l := by
  unfold okD at h
  simp only [hu] at h
  exact okA_bytes (n := n) he m ds h
theorem ok_anums {m : Nat} {k : IntKind} (hk : k.signed = false) {ds : List Data} (hu : P.underlying t = some (.array m e)) (he : P.underlying e = some (.int k)) (h : okD P (n + 2) t ds) : ∃ l : List Nat, l.length = m ∧ ds = l.map (fun i : Nat => Data.int k i) ∧ ∀ b ∈ l, b < 2 ^ k.bits := by
  unfold okD at h
  simp only [hu] at h
  exact okA_nums (n := n) hk he m ds h
theorem ok_int {k : IntKind} {ds : List Data} (hu : P.underlying t = some (.int k)) (h : okD P (n + 1) t ds) : ∃ i : Int, k.min ≤ i ∧ i ≤ k.max ∧ ds = [.int k i] := by
  unfold okD at h
  simp only [hu] at h
  obtain ⟨i, rfl, hw⟩ := h
  have := wf_nat hw
  exact ⟨i, this.1, this.2, rfl⟩
theorem ok_i64 {ds : List Data} (hu : P.underlying t = some (.int .i64)) (h : okD P (n + 1) t ds) : ∃ i : Int, -9223372036854775808 ≤ i ∧ i ≤ 9223372036854775807 ∧ ds = [.int .i64 i] := by
  obtain ⟨i, h1, h2, rfl⟩ := ok_int hu h
  simp [IntKind.min, IntKind.max, IntKind.signed, IntKind.bits] at h1 h2
  exact ⟨i, h1, h2, rfl⟩
/-- A slice, element by element. -/
theorem ok_slice {ds : List Data} (hu : P.underlying t = some (.slice e)) (h : okD P (n + 1) t ds) : ∃ l, ds = [.sl (P.cellsOf e) l] ∧ l.length ≤ 140737488351232 ∧ ∀ x ∈ l, argD P n e x := by
  unfold okD at h
  simp only [hu] at h
  obtain ⟨l, h1, h2, h3⟩ := h
  exact ⟨l, h1, by simpa [reachBytes] using h2, h3⟩
theorem arg_slice (hu : P.underlying t = some (.slice e)) (a : argD P (n + 1) t x) : ∃ l, x = .sl (P.cellsOf e) l ∧ l.length ≤ 140737488351232 ∧ ∀ x ∈ l, argD P n e x := by
  obtain ⟨ds, rfl, h⟩ := a
  obtain ⟨l, rfl, h1, h2⟩ := ok_slice hu h
  exact ⟨l, by simp [mkE, hu], h1, h2⟩
end
end Go.Proofs.Ytdgklbbgbnapoaa
namespace Go.Proofs.Ytdgklbbgbnapoaa
open Go.RowKit
set_option linter.unusedVariables false
set_option linter.unusedSimpArgs false
@[go_sem] theorem dec_yes {p : Prop} [Decidable p] (h : p) : decide p = true := decide_eq_true h
@[go_sem] theorem dec_no {p : Prop} [Decidable p] (h : ¬ p) : decide p = false := decide_eq_false h
end Go.Proofs.Ytdgklbbgbnapoaa
namespace Go.Proofs.Ytdgklbbgbnapoaa
open Go.RowKit
set_option linter.unusedVariables false
set_option linter.unusedSimpArgs false

/-- What a panic brings. -/
def pan (x : Value) : List PanicEntry := [{ v := x, recovered := false }]
/-- A value that hangs on no memory. -/
def litV : Data → Option Value
  | .bool b => some (.bool b)
  | .int k n => some (.int k n)
  | .str s => some (.string s)
  | .ifc t d => (litV d).map (.iface t)
  | _ => none
theorem litV_ok {L : Nat → Prop} {w : World} : ∀ {x : Data} {v u : Value}, VD L w x v → litV x = some u → v = u
  | .bool b, v, u, h, e => by cases h; simpa [litV] using e
  | .int k n, v, u, h, e => by cases h; simpa [litV] using e
  | .str s, v, u, h, e => by cases h; simpa [litV] using e
  | .ifc t d, v, u, h, e => by
    cases h with
    | ifc _ _ x hx =>
    simp only [litV, Option.map_eq_some_iff] at e
    obtain ⟨y, hy, rfl⟩ := e
    rw [litV_ok hx hy]
  | .agg _, _, _, _, e => by cases e
  | .sl _ _, _, _, _, e => by cases e
  | .tup _, _, _, _, e => by cases e
  | .fn _ _, _, _, _, e => by cases e
  | .nilf, _, _, _, e => by cases e
  | .nili, _, _, _, e => by cases e
  | .nilp, _, _, _, e => by cases e
  | .nilm, _, _, _, e => by cases e
  | .pc _, _, _, _, e => by cases e
  | .mp _ _, _, _, _, e => by cases e

/-- A call on the caller's own numbered rows: it hands back, or it panics. -/
def DX (P : Program) (Γ : Nat → Option (List Data)) (f : FuncId) (ds : List D) (H : Nat → Blk) (nx : Nat) (K : D → (Nat → Blk) → Nat → Prop) (X : Value → (Nat → Blk) → Nat → Prop) : Prop :=
  CallOk P f ∧ ∀ (L0 : Nat → Prop) (w0 : W0) (m : Nat → MB) (w : World) (vs : Array Value), WR Γ L0 w0 m H w → (∀ g, nx ≤ g → m g = .res) → (∀ g, nx ≤ g → H g = .dead) → ds.length = vs.size → (∀ (i : Nat) (d : D) (v : Value), ds[i]? = some d → vs[i]? = some v → VV (Live L0 m H) w m d v) →
    Calls P f vs w fun e w' => ∃ H' nx' m', WR Γ L0 w0 m' H' w' ∧ Grow (Live L0 m H) w (Live L0 m' H') w' ∧ (∀ g, g < nx → m' g = m g) ∧ (∀ g, nx' ≤ g → m' g = .res) ∧ nx ≤ nx' ∧
      ((∃ v d, e = .returned v ∧ VV (Live L0 m' H') w' m' d v ∧ K d H' nx') ∨ ∃ x, e = .panicked (pan x) ∧ X x H' nx')
theorem dx_of_dc {P : Program} {Γ : Nat → Option (List Data)} {f : FuncId} {ds : List D} {H : Nat → Blk} {nx : Nat} {K : D → (Nat → Blk) → Nat → Prop} {X : Value → (Nat → Blk) → Nat → Prop} (h : DC P Γ f ds H nx K) : DX P Γ f ds H nx K X :=
  ⟨h.1, fun L0 w0 m w vs a b c d e => (h.2 L0 w0 m w vs a b c d e).mono fun e w' ⟨v, d, H', nx', m', k1, k2, k3, k4, k5, k6, k7, k8⟩ => ⟨H', nx', m', k2, k4, k5, k6, k7, .inl ⟨v, d, k1, k3, k8⟩⟩⟩
theorem DX.mono {P : Program} {Γ : Nat → Option (List Data)} {f : FuncId} {ds : List D} {H : Nat → Blk} {nx : Nat} {K K' : D → (Nat → Blk) → Nat → Prop} {X X' : Value → (Nat → Blk) → Nat → Prop} (h : DX P Γ f ds H nx K X) (hk : ∀ d H' nx', K d H' nx' → K' d H' nx') (hx : ∀ v H' nx', X v H' nx' → X' v H' nx') : DX P Γ f ds H nx K' X' :=
  ⟨h.1, fun L0 w0 m w vs a b c d e => (h.2 L0 w0 m w vs a b c d e).mono fun e w' ⟨H', nx', m', k1, k2, k3, k4, k5, k6⟩ => ⟨H', nx', m', k1, k2, k3, k4, k5, k6.imp (fun ⟨v, d, a, b, c⟩ => ⟨v, d, a, b, hk _ _ _ c⟩) (fun ⟨x, a, b⟩ => ⟨x, a, hx _ _ _ b⟩)⟩⟩
theorem dc_of_dx {P : Program} {Γ : Nat → Option (List Data)} {f : FuncId} {ds : List D} {H : Nat → Blk} {nx : Nat} {K : D → (Nat → Blk) → Nat → Prop} (h : DX P Γ f ds H nx K fun _ _ _ => False) : DC P Γ f ds H nx K :=
  ⟨h.1, fun L0 w0 m w vs a b c d e => (h.2 L0 w0 m w vs a b c d e).mono fun e w' ⟨H', nx', m', k1, k2, k3, k4, k5, k6⟩ => by
    rcases k6 with ⟨v, d, q1, q2, q3⟩ | ⟨_, _, q⟩
    · exact ⟨v, d, H', nx', m', q1, k1, q2, k2, k3, k4, k5, q3⟩
    · exact q.elim⟩

def dxK (P : Program) (Γ : Nat → Option (List Data)) (o : Oper) (e : Nat → D) (H : Nat → Blk) (nx : Nat) (K : D → (Nat → Blk) → Nat → Prop) (X : Value → (Nat → Blk) → Nat → Prop) : Prop := match o.op with
  | .call c => (match c.callee with
    | .value x => (match fnD (evalD Γ e x) with
      | some (f, pre, caps) => DX P Γ f (pre ++ (c.args.toList.map (evalD Γ e) ++ caps)) H nx K X
      | none => False)
    | _ => False)
  | _ => False
def isPan (o : Oper) : Bool := match o.op with
  | .panic _ => true
  | _ => false
def panD (Γ : Nat → Option (List Data)) (o : Oper) (e : Nat → D) : D := match o.op with
  | .panic x => evalD Γ e x
  | _ => .junk
def panK (x : D) (X : Value → Prop) : Prop := match x with
  | .data (.ifc t d) => ∃ v, litV d = some v ∧ X (.iface t v)
  | _ => False

section
variable (P : Program) (Γ : Nat → Option (List Data))
def opsX (ops : Array Oper) : List Oper → St → (Exit → St → Prop) → Prop
  | [], s, Q => Q .normal s
  | o :: rest, s, Q => dstOk o s.nt = true ∧ (match wantedD ops s.env o with
    | some b => ifW b (ifW (isPan o) (panK (panD Γ o s.env) fun v => Q (.panic (pan v)) s) (ifW (isCall o)
        ((opK P Γ o s.env s.hp s.nx fun d _ u => opsX ops rest (stepSt s o d u) Q) ∨ (dcK P Γ o s.env s.hp s.nx fun d H' nx' => opsX ops rest ⟨Env.dst s.env o.dst d, H', nx', s.lo, s.nt⟩ Q) ∨
          dxK P Γ o s.env s.hp s.nx (fun d H' nx' => opsX ops rest ⟨Env.dst s.env o.dst d, H', nx', s.lo, s.nt⟩ Q) fun v H' nx' => Q (.panic (pan v)) ⟨s.env, H', nx', s.lo, s.nt⟩)
        (opK P Γ o s.env s.hp s.nx fun d _ u => opsX ops rest (stepSt s o d u) Q))) (opsX ops rest (stepSt s o undefD []) Q)
    | none => False)
def wpX : Code → (Exit → St → Prop) → St → Prop
  | .skip, Q, s => Q .normal s
  | .region _ ops draw, Q, s => ifW draw (drawW P Γ ops ops.toList s [] (fun s' tr => drawOk2 ops tr s.nx s'.nx = true ∧ Q .normal s')) (opsX P Γ ops ops.toList s Q)
  | .seq x y, Q, s => wpX x (thenW (wpX y Q) Q) s
  | .cond c x y, Q, s => (match evalD Γ s.env c with
    | .data (.bool b) => ifW b (wpX x Q s) (wpX y Q s)
    | _ => False)
  | .block id b, Q, s => wpX b (blockW id Q) s
  | .loop b, Q, s => LoopW (wpX b) Q s
  | .exit id, Q, s => Q (.exit id) s
  | .ret, Q, s => Q .ret s
  | .label _, Q, s => Q .normal s
  | _, _, _ => False
def retXQ (fn : Func) (K : D → (Nat → Blk) → Nat → Prop) (X : Value → (Nat → Blk) → Nat → Prop) : Exit → St → Prop
  | .normal, s | .ret, s => resK P fn.results.toList s fun ds => ∃ d, tupDD ds = some d ∧ K d s.hp s.nx
  | .panic ch, s => ∃ v, ch = pan v ∧ X v s.hp s.nx
  | _, _ => False
end

section
variable {P : Program} {Γ : Nat → Option (List Data)} {L0 : Nat → Prop} {w0 : W0}
theorem dx_step {m : Nat → MB} {s : St} {a : Act} {w : World} {o : Oper} {K : St → Prop} {X : Value → St → Prop} {next : Act → World → Prop} {Q : Exit → Act → World → Prop} (h : Rel Γ L0 w0 m s a w) (hd : dstOk o s.nt = true)
    (hk : dxK P Γ o s.env s.hp s.nx (fun d H' nx' => K ⟨Env.dst s.env o.dst d, H', nx', s.lo, s.nt⟩) fun v H' nx' => X v ⟨s.env, H', nx', s.lo, s.nt⟩)
    (hn : ∀ m' s' a' w', Rel Γ L0 w0 m' s' a' w' → Ext L0 m s w m' s' w' → K s' → next a' w')
    (hx : ∀ v m' s' w', Rel Γ L0 w0 m' s' a w' → Ext L0 m s w m' s' w' → X v s' → Q (.panic (pan v)) a w') : o.wp P a w next Q := by
  obtain ⟨dst, op, type, pos, after, guard⟩ := o
  unfold dxK at hk
  cases op <;> simp only at hk
  case call c =>
    obtain ⟨callee, args, argTypes⟩ := c
    cases callee <;> simp only at hk
    case value x =>
      split at hk
      · rename_i f pre caps hf
        obtain ⟨hcall, hk⟩ := hk
        have hρ : ∀ x, VV (Live L0 m s.hp) w m (evalD Γ s.env x) (a.eval x) := fun x => eval_ok h.glob h.vals x
        have hargs : ∀ (i : Nat) (d : D) (v : Value), (args.toList.map (evalD Γ s.env))[i]? = some d → (args.map a.eval)[i]? = some v → VV (Live L0 m s.hp) w m d v := fun i d v h1 h2 => by
          simp only [List.getElem?_map, Option.map_eq_some_iff, Array.getElem?_toList] at h1
          simp only [Array.getElem?_map, Option.map_eq_some_iff] at h2
          obtain ⟨y, hy, rfl⟩ := h1
          obtain ⟨y', hy', rfl⟩ := h2
          rw [hy] at hy'; cases hy'
          exact hρ _
        obtain ⟨pvs, cvs, hce, hpl, hpv, hcl, hch⟩ := callee_ok (hρ x) hf
        have hc := hk L0 w0 m w (pvs ++ (args.map a.eval ++ cvs)) h.wr h.res h.dead (by simp [hcl, hpl]) (args_ok hpl hpv (by simp) hargs hch)
        have hrun : (execOp a.eval ⟨dst, .call ⟨.value x, args, argTypes⟩, type, pos, after, guard⟩).run P w = .ok (.enter f (pvs ++ (args.map a.eval ++ cvs))) w := by
          simp only [execOp, resolve, Sem.run_bind, hce, Deferred.ofValue, Sem.run_pure, Result.andThen_ok, invoke]
          rw [← Array.append_assoc]
          exact hcall _ w
        unfold Oper.wp
        rw [hrun, Oper.upon_enter]
        refine hc.mono fun e w' ⟨H', nx', m', k1, k3, k4, k5, k6, k7⟩ => ?_
        have hmr : ∀ g, m g ≠ .res → m' g = m g := fun g hg => k4 g (Nat.lt_of_not_le fun hle => hg (h.res g hle))
        have hext : ∀ s2 : St, s2.hp = H' → s2.lo = s.lo → s2.nt = s.nt → Ext L0 m s w m' s2 w' := fun s2 e1 e2 e3 => ⟨by rw [e1]; exact k3, fun g hg => k4 g (Nat.lt_of_lt_of_le hg h.lo), e2, e3⟩
        rcases k7 with ⟨v, d, he, k2, k8⟩ | ⟨v, he, k8⟩
        · subst he
          simp only
          have hrel : Rel Γ L0 w0 m' ⟨Env.dst s.env dst d, H', nx', s.lo, s.nt⟩ (a.put dst v) w' := by
            refine ⟨?_, ?_, k1.heap, k5, ?_, k1.below, k1.l0, k1.glob, Nat.le_trans h.lo k6, by rw [put_slots]; exact h.slots⟩
            · have : (a.put dst v).defers = a.defers := by cases dst <;> rfl
              rw [this]; exact h.defers
            · intro t
              refine dst_get (fun t ht => ?_) k2 (fun t => (h.vals t).mono k3 hmr) t
              rw [h.slots]
              simpa [dstOk, ht] using hd
            · intro g hg
              exact k1.none (k5 g hg)
          exact hn m' _ _ _ hrel (hext _ rfl rfl rfl) k8
        · subst he
          simp only
          exact hx v m' ⟨s.env, H', nx', s.lo, s.nt⟩ w' ⟨h.defers, fun t => (h.vals t).mono k3 hmr, k1.heap, k5, fun g hg => k1.none (k5 g hg), k1.below, k1.l0, k1.glob, Nat.le_trans h.lo k6, h.slots⟩ (hext _ rfl rfl rfl) k8
      · exact hk.elim
    all_goals exact hk.elim
  all_goals exact hk.elim

theorem opsX_sound {ops : Array Oper} {Q : Exit → Act → World → Prop} {Qs : Exit → St → Prop} : ∀ (l : List Oper) (m : Nat → MB) (s : St) (a : Act) (w : World), Rel Γ L0 w0 m s a w → opsX P Γ ops l s Qs →
    (∀ e m' s' a' w', Rel Γ L0 w0 m' s' a' w' → Ext L0 m s w m' s' w' → Qs e s' → Q e a' w') → wpList P ops Q l a w
  | [], m, s, a, w, h, hk, hQ => hQ .normal m s a w h (Ext.refl _ _ _ _) hk
  | o :: rest, m, s, a, w, h, hk, hQ => by
    obtain ⟨hd, hk⟩ := hk
    have viaOp : (opK P Γ o s.env s.hp s.nx fun d _ u => opsX P Γ ops rest (stepSt s o d u) Qs) → o.wp P a w (wpList P ops Q rest) Q := fun hk => by
      obtain ⟨d, rd, u, hk, hr⟩ := op_sound h.wr (h.res _ (Nat.le_refl _)) (h.dead _ (Nat.le_refl _)) h.vals hk
      refine hr.wp fun v w' ha => ?_
      obtain ⟨m', h1, h2⟩ := step_rel h hd ha
      exact opsX_sound rest m' _ _ _ h1 hk fun e m'' s' a' w'' h3 h4 h5 => hQ e m'' s' a' w'' h3 (h2.trans h4) h5
    have viaDc : (dcK P Γ o s.env s.hp s.nx fun d H' nx' => opsX P Γ ops rest ⟨Env.dst s.env o.dst d, H', nx', s.lo, s.nt⟩ Qs) → o.wp P a w (wpList P ops Q rest) Q := fun hk =>
      dc_step h hd hk fun m' s' a' w' h1 h2 h3 => opsX_sound rest m' _ _ _ h1 h3 fun e m'' s' a' w'' h4 h5 h6 => hQ e m'' s' a' w'' h4 (h2.trans h5) h6
    have viaDx : dxK P Γ o s.env s.hp s.nx (fun d H' nx' => opsX P Γ ops rest ⟨Env.dst s.env o.dst d, H', nx', s.lo, s.nt⟩ Qs) (fun v H' nx' => Qs (.panic (pan v)) ⟨s.env, H', nx', s.lo, s.nt⟩) → o.wp P a w (wpList P ops Q rest) Q := fun hk =>
      dx_step (K := fun s' => opsX P Γ ops rest s' Qs) (X := fun v s' => Qs (.panic (pan v)) s') h hd hk (fun m' s' a' w' h1 h2 h3 => opsX_sound rest m' _ _ _ h1 h3 fun e m'' s' a' w'' h4 h5 h6 => hQ e m'' s' a' w'' h4 (h2.trans h5) h6)
        (fun v m' s' w' h1 h2 h3 => hQ _ m' s' a w' h1 h2 h3)
    unfold wpList
    cases hw : wantedD ops s.env o with
    | none => rw [hw] at hk; exact hk.elim
    | some b =>
      rw [hw] at hk
      rw [wanted_ok h.vals hw]
      cases b with
      | true =>
        simp only [ifW] at hk
        rw [if_pos rfl]
        left
        split at hk
        · -- it panics
          rename_i hp
          obtain ⟨dst, op, type, pos, after, guard⟩ := o
          cases op <;> simp only [isPan] at hp
          case panic x =>
            simp only [panD, panK] at hk
            split at hk
            · rename_i t d hx
              obtain ⟨v, hv, hk⟩ := hk
              have hxv := eval_ok h.glob h.vals x
              rw [hx] at hxv
              have hxv := hxv.data_inv
              generalize hce : a.eval x = vx at hxv
              cases hxv with
              | ifc _ _ u hu =>
              have hu := litV_ok hu hv
              subst hu
              have hrun : (execOp a.eval ⟨dst, .panic x, type, pos, after, guard⟩).run P w = .halt (.panic (.iface t u)) w := by
                simp [execOp, hce, Instr.panic, goPanic]
              unfold Oper.wp
              rw [hrun]
              exact hQ _ m s a w h (Ext.refl _ _ _ _) hk
            · exact hk.elim
          all_goals cases hp
        · split at hk
          · rcases hk with hk | hk | hk
            · exact viaOp hk
            · exact viaDc hk
            · exact viaDx hk
          · exact viaOp hk
      | false =>
        simp only [ifW] at hk
        rw [if_neg (by simp)]
        obtain ⟨m', h1, h2⟩ := step_rel (d := undefD) (u := []) (v := undef) (w' := w) h hd ⟨m, h.wr, undef_ok _ _ _, Grow.refl _ _, fun _ _ => rfl⟩
        exact opsX_sound rest m' _ _ _ h1 hk fun e m'' s' a' w'' h3 h4 h5 => hQ e m'' s' a' w'' h3 (h2.trans h4) h5

theorem wpX_sound (hm : P.follows .mixedOrders = true) : ∀ (c : Code) (Q : Exit → St → Prop) (m : Nat → MB) (s : St) (a : Act) (w : World), Rel Γ L0 w0 m s a w → wpX P Γ c Q s → c.wp P (Lifts Γ L0 w0 m s w Q) a w
  | .skip, Q, m, s, a, w, h, hk => wp_skip ⟨m, s, h, Ext.refl _ _ _ _, hk⟩
  | .label _, Q, m, s, a, w, h, hk => wp_label ⟨m, s, h, Ext.refl _ _ _ _, hk⟩
  | .exit id, Q, m, s, a, w, h, hk => wp_exit ⟨m, s, h, Ext.refl _ _ _ _, hk⟩
  | .ret, Q, m, s, a, w, h, hk => wp_ret ⟨m, s, h, Ext.refl _ _ _ _, hk⟩
  | .region id ops draw, Q, m, s, a, w, h, hk => by
    cases draw with
    | true => exact draw_sound hm h (by simpa [wpX, ifW] using hk) fun m' s' a' w' h1 h2 h3 => ⟨m', s', h1, h2, h3⟩
    | false => exact wp_region_list (opsX_sound ops.toList m s a w h (by simpa [wpX, ifW] using hk) fun e m' s' a' w' h1 h2 h3 => ⟨m', s', h1, h2, h3⟩)
  | .seq x y, Q, m, s, a, w, h, hk => by
    refine wp_seq (wp_mono (wpX_sound hm x _ m s a w h hk) fun e a' w' ⟨m', s', h1, h2, h3⟩ => ?_)
    cases e with
    | normal => exact wp_mono (wpX_sound hm y Q m' s' a' w' h1 h3) fun e a'' w'' ⟨m'', s'', h4, h5, h6⟩ => ⟨m'', s'', h4, h2.trans h5, h6⟩
    | exit id => exact ⟨m', s', h1, h2, h3⟩
    | goto l => exact ⟨m', s', h1, h2, h3⟩
    | ret => exact ⟨m', s', h1, h2, h3⟩
    | panic ch => exact ⟨m', s', h1, h2, h3⟩
    | outgrown => exact ⟨m', s', h1, h2, h3⟩
  | .cond c x y, Q, m, s, a, w, h, hk => by
    simp only [wpX] at hk
    split at hk
    · rename_i b hc
      have hcv := eval_ok h.glob h.vals c
      rw [hc] at hcv
      have := hcv.data_inv
      generalize hce : a.eval c = vc at this
      cases this
      refine wp_cond hce ?_
      cases b with
      | true => exact wpX_sound hm x Q m s a w h hk
      | false => exact wpX_sound hm y Q m s a w h hk
    · exact hk.elim
  | .block id b, Q, m, s, a, w, h, hk => by
    refine wp_block (wp_mono (wpX_sound hm b _ m s a w h hk) fun e a' w' ⟨m', s', h1, h2, h3⟩ => ?_)
    cases e with
    | exit i =>
      simp only [Exit.inBlock, blockW] at h3 ⊢
      split at h3
      · rename_i e; rw [if_pos e]; exact ⟨m', s', h1, h2, h3⟩
      · rename_i e; rw [if_neg e]; exact ⟨m', s', h1, h2, h3⟩
    | normal => exact ⟨m', s', h1, h2, h3⟩
    | goto l => exact ⟨m', s', h1, h2, h3⟩
    | ret => exact ⟨m', s', h1, h2, h3⟩
    | panic ch => exact ⟨m', s', h1, h2, h3⟩
    | outgrown => exact ⟨m', s', h1, h2, h3⟩
  | .loop b, Q, m, s, a, w, h, hk => by
    obtain ⟨σ, st, μ, x0, hw, hr⟩ := hk
    refine loop_sound (fun x a' w' => ∃ m', Rel Γ L0 w0 m' (st x) a' w' ∧ Ext L0 m s w m' (st x) w') μ (x0 := x0) ?_ ?_
    · obtain ⟨m2, h1, h2⟩ := weakX_rel h hw
      exact ⟨m2, h1, h2⟩
    · rintro x a' w' ⟨m', h1, h2⟩
      refine wp_mono (wpX_sound hm b _ m' (st x) a' w' h1 (hr x)) fun e a'' w'' ⟨m'', s'', h3, h4, h5⟩ => ?_
      cases e with
      | normal =>
        obtain ⟨y, hwy, hlt⟩ := h5
        obtain ⟨m3, h6, h7⟩ := weakX_rel h3 hwy
        exact ⟨y, ⟨m3, h6, (h2.trans h4).trans h7⟩, hlt⟩
      | exit id => exact ⟨m'', s'', h3, h2.trans h4, h5⟩
      | goto l => exact ⟨m'', s'', h3, h2.trans h4, h5⟩
      | ret => exact ⟨m'', s'', h3, h2.trans h4, h5⟩
      | panic ch => exact ⟨m'', s'', h3, h2.trans h4, h5⟩
      | outgrown => exact ⟨m'', s'', h3, h2.trans h4, h5⟩
  | .rangeFunc .., Q, m, s, a, w, h, hk => hk.elim
  | .scope _, Q, m, s, a, w, h, hk => hk.elim
  | .goto _, Q, m, s, a, w, h, hk => hk.elim
  | .refuse _, Q, m, s, a, w, h, hk => hk.elim

/-- A function by its body: it may panic. -/
theorem dx_of (hm : P.follows .mixedOrders = true) {f : FuncId} {fn : Func} {c : Code} {ds : List D} {H : Nat → Blk} {nx : Nat} {K : D → (Nat → Blk) → Nat → Prop} {X : Value → (Nat → Blk) → Nat → Prop} (hf : P.funcs[f]? = some fn) (hb : fn.body = some c) (hc : CallOk P f)
    (h : wpX P Γ c (retXQ P fn K X) ⟨envArgs ds, H, nx, nx, ds.length + (fn.ntmps - ds.length)⟩) : DX P Γ f ds H nx K X := by
  refine ⟨hc, fun L0 w0 m w vs hwr hres hdead hl hv => calls_of_wp hf hb ?_⟩
  have hrel : Rel Γ L0 w0 m ⟨envArgs ds, H, nx, nx, ds.length + (fn.ntmps - ds.length)⟩ { tmps := vs ++ Array.replicate (fn.ntmps - vs.size) undef, defers := [] } w :=
    ⟨rfl, fun t => args_env hl hv t, hwr.heap, hres, hdead, hwr.below, hwr.l0, hwr.glob, Nat.le_refl _, by simp [hl]⟩
  refine wp_mono (wpX_sound hm c _ _ _ _ _ hrel h) fun e a' w' ⟨m', s', h1, h2, h3⟩ => ?_
  have hlo : nx ≤ s'.nx := by have := h1.lo; rw [h2.lo] at this; exact this
  have key : (resK P fn.results.toList s' fun ds => ∃ d, tupDD ds = some d ∧ K d s'.hp s'.nx) → a'.defers = [] ∧ ∃ v, (results fn a'.tmps).run P w' = .ok v w' ∧ ∃ H' nx' m', WR Γ L0 w0 m' H' w' ∧ Grow (Live L0 m H) w (Live L0 m' H') w' ∧
      (∀ g, g < nx → m' g = (m : Nat → MB) g) ∧ (∀ g, nx' ≤ g → m' g = .res) ∧ nx ≤ nx' ∧ ((∃ v' d, Ending.returned v = .returned v' ∧ VV (Live L0 m' H') w' m' d v' ∧ K d H' nx') ∨ ∃ x, Ending.returned v = .panicked (pan x) ∧ X x H' nx') := by
    intro hk
    obtain ⟨es, us, ⟨d, hd, hK⟩, k1, k2, k3⟩ := res_ok h1 _ _ hk
    refine ⟨h1.defers, _, results_run k3, s'.hp, s'.nx, m', h1.wr, h2.grow, h2.keep, h1.res, hlo, .inl ⟨_, d, rfl, ?_, hK⟩⟩
    match es, us, k1, k2, hd with
    | [e], [u], _, k2, hd =>
      simp only [tupDD, Option.some.injEq] at hd
      subst hd
      exact k2 0 e u rfl rfl
    | [], [], _, _, hd =>
      simp only [tupDD, allData, Option.some.injEq] at hd
      subst hd
      exact .data _ _ (.tup [] #[] rfl (fun i x v hx => by simp at hx))
    | e :: e2 :: es, u :: u2 :: us, k1, k2, hd =>
      simp only [tupDD, Option.some.injEq] at hd
      cases hxs : allData (e :: e2 :: es) with
      | some xs =>
        rw [hxs] at hd
        simp only at hd
        subst hd
        have hx := allData_eq hxs
        refine .data _ _ (.tup xs _ (by have := congrArg List.length hx; simp at this k1 ⊢; omega) fun i x v hxi hvi => ?_)
        exact (k2 i (.data x) v (by rw [hx, List.getElem?_map, hxi]; rfl) (by simpa using hvi)).data_inv
      | none =>
        rw [hxs] at hd
        simp only at hd
        subst hd
        exact .tp _ _ (by simp at k1 ⊢; omega) fun i x v hxi hvi => k2 i x v hxi (by simpa using hvi)
    | [], u :: us, k1, _, _ => simp at k1
    | [e], [], k1, _, _ => simp at k1
    | [e], u :: u2 :: us, k1, _, _ => simp at k1
    | e :: e2 :: es, [], k1, _, _ => simp at k1
    | e :: e2 :: es, [u], k1, _, _ => simp at k1
  cases e with
  | normal => exact key h3
  | ret => exact key h3
  | panic ch =>
    obtain ⟨x, rfl, hX⟩ := h3
    exact ⟨h1.defers, s'.hp, s'.nx, m', h1.wr, h2.grow, h2.keep, h1.res, hlo, .inr ⟨x, rfl, hX⟩⟩
  | _ => exact h3.elim
end
end Go.Proofs.Ytdgklbbgbnapoaa
namespace Go.Proofs.Ytdgklbbgbnapoaa
open Go.RowKit
set_option linter.unusedVariables false
set_option linter.unusedSimpArgs false

/-- What is live elsewhere, where row g is lent. -/
def lentL (L0 : Nat → Prop) (m : Nat → MB) (H : Nat → Blk) (g : Nat) : Nat → Prop := fun b => Live L0 m H b ∧ ∀ sz, m g ≠ .at b sz
def lentM (m m' : Nat → MB) (t k : Nat) : Nat → MB := fun q => if q = t then m' k else m q
def lentH (H : Nat → Blk) (g t : Nat) (c : List Data) : Nat → Blk := fun q => if q = t then .blk true (c.map D.data) else if q = g then .dead else H q

section
variable {Γ : Nat → Option (List Data)} {L0 : Nat → Prop} {w0 : W0} {m : Nat → MB} {H : Nat → Blk} {w : World}

theorem lend (h : WR Γ L0 w0 m H w) {g : Nat} {cells : List Data} (hg : H g = .blk true (cells.map D.data)) :
    WR Γ (lentL L0 m H g) ⟨w, 0, Nat.zero_le _⟩ (fun i => if i = 0 then m g else .res) (hpL [(0, .blk true (cells.map D.data))]) w ∧
    ∀ b, Live (lentL L0 m H g) (fun i => if i = 0 then m g else .res) (hpL [(0, .blk true (cells.map D.data))]) b ↔ Live L0 m H b := by
  have hp0 : hpL [(0, .blk true (cells.map D.data))] 0 = .blk true (cells.map D.data) := rfl
  have hpn : ∀ i, i ≠ 0 → hpL [(0, .blk true (cells.map D.data))] i = .dead := fun i hi => by simp [hpL, hi]
  have hlive : ∀ b, Live (lentL L0 m H g) (fun i => if i = 0 then m g else .res) (hpL [(0, .blk true (cells.map D.data))]) b ↔ Live L0 m H b := by
    intro b
    constructor
    · rintro (hb | ⟨q, sz, hq, hm⟩)
      · exact hb.1
      · by_cases e : q = 0
        · subst e; exact .inr ⟨g, sz, by rw [hg]; rfl, by simpa using hm⟩
        · rw [hpn q e] at hq; cases hq
    · intro hb
      by_cases e : ∃ sz, m g = .at b sz
      · obtain ⟨sz, e⟩ := e
        exact .inr ⟨0, sz, by rw [hp0]; rfl, by simpa using e⟩
      · exact .inl ⟨hb, fun sz k => e ⟨sz, k⟩⟩
  refine ⟨⟨⟨?_, ?_, ?_, ?_⟩, ⟨rfl, rfl, rfl, Nat.le_refl _, fun k hk => absurd hk (Nat.not_lt_zero k)⟩, fun b hb => ⟨h.live_lt hb.1, rfl⟩, h.glob.mono (Grow.less w fun b hb => (hlive b).1 hb)⟩, hlive⟩
  · intro q rw cs hq
    by_cases e : q = 0
    · subst e
      rw [hp0] at hq; cases hq
      rcases h.heap.blk g true _ hg with ⟨k1, k2⟩ | ⟨b, sz, vs, ty, k1, k2, k3, k4, k5, k6, k7⟩
      · exact .inl ⟨by simpa using k1, k2⟩
      · refine .inr ⟨b, sz, vs, ty, by simpa using k1, ⟨Nat.zero_le _, fun hl => hl.2 sz k1⟩, (fun e => by cases e), k4, k5, k6, fun i d hd => ?_⟩
        obtain ⟨v, hv, h1c, hvv⟩ := k7 i d hd
        refine ⟨v, hv, h1c, ?_⟩
        rw [List.getElem?_map, Option.map_eq_some_iff] at hd
        obtain ⟨x, _, rfl⟩ := hd
        exact .data _ _ (hvv.data_inv.mono (Grow.less w fun b hb => (hlive b).1 hb))
    · rw [hpn q e] at hq; cases hq
  · intro q q' cs rw' cs' b sz sz' hq hq' _ _
    by_cases e : q = 0
    · by_cases e' : q' = 0
      · rw [e, e']
      · rw [hpn q' e'] at hq'; cases hq'
    · rw [hpn q e] at hq; cases hq
  · intro q o hq
    by_cases e : q = 0
    · subst e; rw [hp0] at hq; cases hq
    · rw [hpn q e] at hq; cases hq
  · intro q q' o o' b sz sz' hq _ _ _
    by_cases e : q = 0
    · subst e; rw [hp0] at hq; cases hq
    · rw [hpn q e] at hq; cases hq

theorem lent_back (h : WR Γ L0 w0 m H w) {g : Nat} {cells : List Data} (hg : H g = .blk true (cells.map D.data)) {m' : Nat → MB} {H' : Nat → Blk} {w' : World}
    (k1 : WR Γ (lentL L0 m H g) ⟨w, 0, Nat.zero_le _⟩ m' H' w') (k2 : Grow (Live L0 m H) w (Live (lentL L0 m H g) m' H') w') (hm0 : m' 0 = m g) {k t : Nat} {c : List Data} (hk : H' k = .blk true (c.map D.data)) (ht : (t = g ∧ k = 0) ∨ (t ≠ g ∧ m t = .res)) :
    WR Γ L0 w0 (lentM m m' t k) (lentH H g t c) w' ∧ Grow (Live L0 m H) w (Live L0 (lentM m m' t k) (lentH H g t c)) w' ∧ (∀ b, Live L0 (lentM m m' t k) (lentH H g t c) b → Live (lentL L0 m H g) m' H' b) ∧ ∀ q, m q ≠ .res → lentM m m' t k q = m q := by
  have hown : ∀ b sz, m g = .at b sz → Own L0 w0.base b := fun b sz hm => by
    rcases h.heap.blk g true _ hg with ⟨j1, _⟩ | ⟨b', sz', vs, ty, j1, j2, _⟩
    · rw [j1] at hm; cases hm
    · rw [j1] at hm; cases hm; exact j2
  have hgl : ∀ b sz, m g = .at b sz → Live L0 m H b := fun b sz hm => .inr ⟨g, sz, by rw [hg]; rfl, hm⟩
  have hM : ∀ q, m q ≠ .res → lentM m m' t k q = m q := fun q hq => by
    unfold lentM
    by_cases e : q = t
    · rw [if_pos e]
      rcases ht with ⟨e1, e2⟩ | ⟨_, e2⟩
      · rw [e2, hm0, e, e1]
      · rw [e] at hq; exact absurd e2 hq
    · exact if_neg e
  have hMt : lentM m m' t k t = m' k := if_pos rfl
  have hMn : ∀ q, q ≠ t → lentM m m' t k q = m q := fun q e => if_neg e
  have hHt : lentH H g t c t = .blk true (c.map D.data) := if_pos rfl
  have hHn : ∀ q, q ≠ t → q ≠ g → lentH H g t c q = H q := fun q e e2 => by unfold lentH; rw [if_neg e, if_neg e2]
  have hHg : ∀ q, q ≠ t → q = g → lentH H g t c q = .dead := fun q e e2 => by unfold lentH; rw [if_neg e, if_pos e2]
  -- a row of the caller's that isn't lent lies elsewhere
  have other : ∀ q b sz, q ≠ g → H q ≠ .dead → m q = .at b sz → ∀ s, m g ≠ .at b s := fun q b sz e hq hm s hs => e (h.inj (by rw [hg]; rfl) hq hs hm).symm
  have sub : ∀ b, Live L0 (lentM m m' t k) (lentH H g t c) b → Live (lentL L0 m H g) m' H' b := by
    rintro b (hb | ⟨q, sz, hq, hm⟩)
    · exact .inl ⟨.inl hb, fun sz e => (hown b sz e).2 hb⟩
    · by_cases e : q = t
      · subst e; rw [hMt] at hm; exact .inr ⟨k, sz, by rw [hk]; rfl, hm⟩
      · by_cases e2 : q = g
        · rw [hHg q e e2] at hq; cases hq
        · rw [hHn q e e2] at hq; rw [hMn q e] at hm
          exact .inl ⟨.inr ⟨q, sz, hq, hm⟩, other q b sz e2 (fun e3 => by rw [e3] at hq; cases hq) hm⟩
  have newb : ∀ b sz, m' k = .at b sz → b < w.heap.size → ∃ s, m g = .at b s := fun b sz hm hb => Classical.byContradiction fun hno => by
    have hl : Live L0 m H b := Classical.byContradiction fun hl => (k2.keep b hb hl).2 (.inr ⟨k, sz, by rw [hk]; rfl, hm⟩)
    rcases k1.heap.blk k true _ hk with ⟨j1, _⟩ | ⟨b', sz', vs, ty, j1, j2, _⟩
    · rw [j1] at hm; cases hm
    · rw [j1] at hm; cases hm
      exact j2.2 ⟨hl, fun s e => hno ⟨s, e⟩⟩
  have oldl : ∀ b, b < w.heap.size → Live L0 (lentM m m' t k) (lentH H g t c) b → Live L0 m H b := by
    rintro b hb (hl | ⟨q, sz, hq, hm⟩)
    · exact .inl hl
    · by_cases e : q = t
      · subst e; rw [hMt] at hm
        obtain ⟨s, hs⟩ := newb b sz hm hb
        exact hgl b s hs
      · by_cases e2 : q = g
        · rw [hHg q e e2] at hq; cases hq
        · rw [hHn q e e2] at hq; rw [hMn q e] at hm
          exact .inr ⟨q, sz, hq, hm⟩
  have grow : Grow (Live L0 m H) w (Live L0 (lentM m m' t k) (lentH H g t c)) w' := ⟨k2.size, fun b hb hL => ⟨(k2.keep b hb hL).1, fun hl => hL (oldl b hb hl)⟩⟩
  have vd : ∀ {x : Data} {v : Value}, VD (Live (lentL L0 m H g) m' H') w' x v → VD (Live L0 (lentM m m' t k) (lentH H g t c)) w' x v := fun hx => hx.mono (Grow.less w' sub)
  -- what isn't lent is as it was
  have still : ∀ b, b < w.heap.size → (∀ s, m g ≠ .at b s) → w'.heap[b]? = w.heap[b]? := fun b hb hn => by
    by_cases hl : Live L0 m H b
    · exact (k1.l0 b ⟨hl, hn⟩).2
    · exact (k2.keep b hb hl).1
  have tdead : t ≠ g → H t = .dead := fun e => by
    rcases ht with ⟨e1, _⟩ | ⟨_, e2⟩
    · exact absurd e1 e
    · exact h.none e2
  have oback : ∀ q o, lentH H g t c q = .obj o → q ≠ t ∧ q ≠ g ∧ H q = .obj o := fun q o hq => by
    have e : q ≠ t := fun e => by rw [e, hHt] at hq; cases hq
    have e2 : q ≠ g := fun e2 => by rw [hHg q e e2] at hq; cases hq
    exact ⟨e, e2, by rw [← hHn q e e2]; exact hq⟩
  refine ⟨⟨⟨?_, ?_, ?_, ?_⟩, ?_, ?_, h.glob.mono grow⟩, grow, sub, hM⟩
  · intro q rw cs hq
    by_cases e : q = t
    · subst e
      rw [hHt] at hq; cases hq
      rcases k1.heap.blk k true _ hk with ⟨j1, j2⟩ | ⟨b, sz, vs, ty, j1, j2, j3, j4, j5, j6, j7⟩
      · exact .inl ⟨by rw [hMt]; exact j1, j2⟩
      · refine .inr ⟨b, sz, vs, ty, by rw [hMt]; exact j1, ?_, (fun e => by cases e), j4, j5, j6, fun i d hd => ?_⟩
        · by_cases hb : b < w.heap.size
          · obtain ⟨s, hs⟩ := newb b sz j1 hb
            exact hown b s hs
          · exact ⟨Nat.le_trans h.base (Nat.le_of_not_lt hb), fun hl => hb (h.l0 b hl).1⟩
        · obtain ⟨v, hv, h1c, hvv⟩ := j7 i d hd
          refine ⟨v, hv, h1c, ?_⟩
          rw [List.getElem?_map, Option.map_eq_some_iff] at hd
          obtain ⟨x, _, rfl⟩ := hd
          exact .data _ _ (vd hvv.data_inv)
    · by_cases e2 : q = g
      · rw [hHg q e e2] at hq; cases hq
      · rw [hHn q e e2] at hq
        rcases h.heap.blk q rw cs hq with ⟨j1, j2⟩ | ⟨b, sz, vs, ty, j1, j2, j3, j4, j5, j6, j7⟩
        · exact .inl ⟨by rw [hMn q e]; exact j1, j2⟩
        · have hb := h.lt hq j1
          refine .inr ⟨b, sz, vs, ty, by rw [hMn q e]; exact j1, j2, fun hrw hl => j3 hrw (oldl b hb hl), ?_, j5, j6, fun i d hd => ?_⟩
          · rw [still b hb (other q b sz e2 (fun e3 => by rw [e3] at hq; cases hq) j1)]; exact j4
          · obtain ⟨v, hv, h1c, hvv⟩ := j7 i d hd
            exact ⟨v, hv, h1c, hvv.mono grow hM⟩
  · intro q q' cs rw' cs' b sz sz' hq hq' hm1 hm2
    -- the block of t is no other row's
    have tno : ∀ p, p ≠ t → p ≠ g → H p ≠ .dead → ∀ s s', m' k = .at b s → m p = .at b s' → False := fun p e e2 hp s s' h1 h2 => by
      have hb : b < w.heap.size := by
        cases hpe : H p with
        | dead => exact absurd hpe hp
        | blk rw c2 => exact h.lt hpe h2
        | obj o => exact h.ltO hpe h2
      obtain ⟨s2, hs⟩ := newb b s h1 hb
      exact other p b s' e2 hp h2 s2 hs
    by_cases e : q = t
    · by_cases e' : q' = t
      · rw [e, e']
      · exfalso
        by_cases e2 : q' = g
        · rw [hHg q' e' e2] at hq'; cases hq'
        · rw [hHn q' e' e2] at hq'; rw [hMn q' e'] at hm2; rw [e, hMt] at hm1
          exact tno q' e' e2 (fun e3 => by rw [e3] at hq'; cases hq') sz sz' hm1 hm2
    · by_cases e2 : q = g
      · rw [hHg q e e2] at hq; cases hq
      · rw [hHn q e e2] at hq; rw [hMn q e] at hm1
        by_cases e' : q' = t
        · exfalso
          rw [e', hMt] at hm2
          exact tno q e e2 (fun e3 => by rw [e3] at hq; cases hq) sz' sz hm2 hm1
        · by_cases e3 : q' = g
          · rw [hHg q' e' e3] at hq'; cases hq'
          · rw [hHn q' e' e3] at hq'; rw [hMn q' e'] at hm2
            exact h.heap.inj q q' cs rw' cs' b sz sz' hq hq' hm1 hm2
  · intro q o hq
    obtain ⟨e, e2, hq⟩ := oback q o hq
    obtain ⟨b, v, j1, j2, j3, j4⟩ := h.heap.obj q o hq
    exact ⟨b, v, by rw [hMn q e]; exact j1, j2, by rw [still b (h.ltO hq j1) (other q b 0 e2 (fun e3 => by rw [e3] at hq; cases hq) j1)]; exact j3, j4.mono grow hM⟩
  · intro q q' o o' b sz sz' hq hq' hm1 hm2
    obtain ⟨e, _, hq⟩ := oback q o hq
    obtain ⟨e', _, hq'⟩ := oback q' o' hq'
    rw [hMn q e] at hm1; rw [hMn q' e'] at hm2
    exact h.heap.injO q q' o o' b sz sz' hq hq' hm1 hm2
  · refine h.below.trans ⟨k1.below.os, k1.below.tape, k1.below.output, k2.size, fun b hb => still b (Nat.lt_of_lt_of_le hb h.base) fun s hs => ?_⟩
    have := (hown b s hs).1
    omega
  · intro b hb
    refine ⟨Nat.lt_of_lt_of_le (h.l0 b hb).1 k2.size, ?_⟩
    rw [still b (h.l0 b hb).1 fun s hs => (hown b s hs).2 hb]
    exact (h.l0 b hb).2
end

section
variable {P : Program} {Γ : Nat → Option (List Data)}
theorem lent_args {L0 : Nat → Prop} {m : Nat → MB} {H : Nat → Blk} {w : World} {d0 d1 : D} {xs : List D} {vs : Array Value} {L : Nat → Prop} {m1 : Nat → MB} (hL : ∀ b, L b → Live L0 m H b)
    (h0 : ∀ v, VV (Live L0 m H) w m d0 v → VV L w m1 d1 v) (hx : ∀ x ∈ xs, (∃ y, x = .data y) ∨ ∃ c, x = .cptr c)
    (hv : ∀ (i : Nat) (d : D) (v : Value), (d0 :: xs)[i]? = some d → vs[i]? = some v → VV (Live L0 m H) w m d v) (i : Nat) (d : D) (v : Value) (hd : (d1 :: xs)[i]? = some d) (hvi : vs[i]? = some v) : VV L w m1 d v := by
  cases i with
  | zero =>
    simp only [List.getElem?_cons_zero, Option.some.injEq] at hd
    subst hd
    exact h0 v (hv 0 d0 v rfl hvi)
  | succ i =>
    have hd2 := hd
    rw [List.getElem?_cons_succ] at hd2
    have hvv := hv (i + 1) d v (by rw [List.getElem?_cons_succ]; exact hd2) hvi
    have hg : Grow (Live L0 m H) w L w := Grow.less w hL
    rcases hx d (List.mem_of_getElem? hd2) with ⟨y, rfl⟩ | ⟨c, rfl⟩
    · exact .data _ _ (hvv.data_inv.mono hg)
    · cases hvv with
      | cptr _ b off us hb hl hc hu => exact .cptr c b off us hb (fun h => hl (hL _ h)) hc fun i x hx => (hu i x hx).mono hg
/-- What leads to the row that is lent, as the caller has it, and as the call does. -/
inductive Lent (g : Nat) : D → D → Prop where
  | ptr (off : Nat) : Lent g (.ptr g off) (.ptr 0 off)
  | ref (off len es : Nat) : Lent g (.ref g off len es) (.ref 0 off len es)
/-- A call that is lent a row of the caller's; it hands back plain data, or panics. -/
theorem dx_lent {d0 d1 : D} {f : FuncId} {xs : List D} {cells : List Data} {K0 : Data → List Data → Prop} {X0 : Value → List Data → Prop}
    (hc : DX P Γ f (d0 :: xs) (hpL [(0, .blk true (cells.map D.data))]) 1 (fun d H' _ => ∃ r c, d = .data r ∧ H' 0 = .blk true (c.map D.data) ∧ K0 r c) fun v H' _ => ∃ c, H' 0 = .blk true (c.map D.data) ∧ X0 v c)
    {H : Nat → Blk} {nx g : Nat} {K : D → (Nat → Blk) → Nat → Prop} {X : Value → (Nat → Blk) → Nat → Prop} (hg : H g = .blk true (cells.map D.data)) (hd : Lent g d1 d0) (hxs : ∀ x ∈ xs, (∃ y, x = .data y) ∨ ∃ c, x = .cptr c)
    (hk : ∀ r c, K0 r c → K (.data r) (Hp.upd H [(g, .blk true (c.map D.data))]) nx) (hx : ∀ v c, X0 v c → X v (Hp.upd H [(g, .blk true (c.map D.data))]) nx) : DX P Γ f (d1 :: xs) H nx K X := by
  refine ⟨hc.1, fun L0 w0 m w vs hwr hres hdead hl hv => ?_⟩
  obtain ⟨h1, hlive⟩ := lend hwr hg
  refine (hc.2 _ _ _ w vs h1 (fun q hq => if_neg (by omega)) (fun q hq => by simp [hpL, show q ≠ 0 by omega]) (by simpa using hl) (lent_args (fun b hb => (hlive b).1 hb) (fun v hvv => ?_) hxs hv)).mono fun e w' ⟨H', nx', m', k1, k2, k3, k4, k5, k6⟩ => ?_
  · cases hd with
    | ptr off =>
      cases hvv with
      | ptr _ _ b sz hm => exact .ptr 0 off b sz (by simpa using hm)
    | ref off len es =>
      cases hvv with
      | ref _ _ _ _ b sz cap o hm j2 j3 j4 j5 => exact .ref 0 off len es b sz cap o (by simpa using hm) j2 j3 j4 j5
      | ref0 _ _ a hm => exact .ref0 0 es a (by simpa using hm)
  have hm0 : m' 0 = m g := (k3 0 (by omega)).trans (if_pos rfl)
  have k2' : Grow (Live L0 m H) w (Live (lentL L0 m H g) m' H') w' := ⟨k2.size, fun b hb hL => k2.keep b hb fun h => hL ((hlive b).1 h)⟩
  have same : ∀ c : List Data, lentH H g g c = Hp.upd H [(g, .blk true (c.map D.data))] := fun c => by
    funext q
    unfold lentH Hp.upd
    by_cases e : q = g
    · subst e; simp [Hp.upd, Hp.set]
    · simp [Hp.upd, Hp.set, e, Ne.symm e]
  have back : ∀ c : List Data, H' 0 = .blk true (c.map D.data) → WR Γ L0 w0 m (Hp.upd H [(g, .blk true (c.map D.data))]) w' ∧ Grow (Live L0 m H) w (Live L0 m (Hp.upd H [(g, .blk true (c.map D.data))])) w' ∧ ∀ b, Live L0 m (Hp.upd H [(g, .blk true (c.map D.data))]) b → Live (lentL L0 m H g) m' H' b := fun c h0 => by
    have hM : lentM m m' g 0 = m := by
      funext q
      unfold lentM
      by_cases e : q = g
      · rw [if_pos e, hm0, e]
      · exact if_neg e
    obtain ⟨a, b, c2, _⟩ := lent_back hwr hg k1 k2' hm0 (k := 0) (t := g) (c := c) h0 (.inl ⟨rfl, rfl⟩)
    rw [hM, same c] at a b c2
    exact ⟨a, b, c2⟩
  rcases k6 with ⟨v, d, he, hvv, r, c, rfl, h0, hK⟩ | ⟨x, he, c, h0, hX⟩
  · obtain ⟨a, b, s⟩ := back c h0
    exact ⟨_, nx, m, a, b, fun _ _ => rfl, hres, Nat.le_refl _, .inl ⟨v, .data r, he, .data _ _ (hvv.data_inv.mono (Grow.less w' s)), hk r c hK⟩⟩
  · obtain ⟨a, b, s⟩ := back c h0
    exact ⟨_, nx, m, a, b, fun _ _ => rfl, hres, Nat.le_refl _, .inr ⟨x, he, hx x c hX⟩⟩
/-- A call that is handed a row of the caller's own, and hands back one in its place. -/
theorem dc_given {f : FuncId} {xs : List D} {cells : List Data} {len es : Nat} {K0 : Nat → List Data → Prop}
    (hc : DC P Γ f (.ref 0 0 len es :: xs) (hpL [(0, .blk true (cells.map D.data))]) 1 fun d H' _ => ∃ k n c, d = .ref k 0 n es ∧ H' k = .blk true (c.map D.data) ∧ K0 n c)
    {H : Nat → Blk} {nx g : Nat} {K : D → (Nat → Blk) → Nat → Prop} (hg : H g = .blk true (cells.map D.data)) (hn : g < nx) (hxs : ∀ x ∈ xs, (∃ y, x = .data y) ∨ ∃ c, x = .cptr c)
    (hk : ∀ n c, K0 n c → K (.ref nx 0 n es) (Hp.upd H [(g, .dead), (nx, .blk true (c.map D.data))]) (nx + 1)) : DC P Γ f (.ref g 0 len es :: xs) H nx K := by
  refine ⟨hc.1, fun L0 w0 m w vs hwr hres hdead hl hv => ?_⟩
  obtain ⟨h1, hlive⟩ := lend hwr hg
  refine (hc.2 _ _ _ w vs h1 (fun q hq => if_neg (by omega)) (fun q hq => by simp [hpL, show q ≠ 0 by omega]) (by simpa using hl) (lent_args (fun b hb => (hlive b).1 hb) (fun v hvv => ?_) hxs hv)).mono fun e w' ⟨v, d, H', nx', m', he, k1, hvv, k2, k3, k4, k5, k, n, c, hd, h0, hK⟩ => ?_
  · cases hvv with
    | ref _ _ _ _ b sz cap o hm j2 j3 j4 j5 => exact .ref 0 0 len es b sz cap o (by simpa using hm) j2 j3 j4 j5
    | ref0 _ _ a hm => exact .ref0 0 es a (by simpa using hm)
  subst hd
  have hm0 : m' 0 = m g := (k3 0 (by omega)).trans (if_pos rfl)
  have k2' : Grow (Live L0 m H) w (Live (lentL L0 m H g) m' H') w' := ⟨k2.size, fun b hb hL => k2.keep b hb fun h => hL ((hlive b).1 h)⟩
  obtain ⟨a, b, s, hM⟩ := lent_back hwr hg k1 k2' hm0 (k := k) (t := nx) (c := c) h0 (.inr ⟨by omega, hres nx (Nat.le_refl _)⟩)
  have same : lentH H g nx c = Hp.upd H [(g, .dead), (nx, .blk true (c.map D.data))] := by
    funext q
    have hgn : g ≠ nx := by omega
    unfold lentH
    by_cases e : q = nx
    · subst e; simp [Hp.upd, Hp.set, hgn]
    · by_cases e2 : q = g
      · subst e2; simp [Hp.upd, Hp.set, e]
      · simp [Hp.upd, Hp.set, e, e2, Ne.symm e, Ne.symm e2]
  rw [same] at a b s
  refine ⟨v, .ref nx 0 n es, _, nx + 1, lentM m m' nx k, he, a, ?_, b, fun q hq => if_neg (by omega), fun q hq => (if_neg (by omega)).trans (hres q (by omega)), by omega, hk n c hK⟩
  have hMt : lentM m m' nx k nx = m' k := if_pos rfl
  cases hvv with
  | ref _ _ _ _ b2 sz cap o hm j2 j3 j4 j5 => exact .ref nx 0 n es b2 sz cap o (by rw [hMt]; exact hm) j2 j3 j4 j5
  | ref0 _ _ a2 hm => exact .ref0 nx es a2 (by rw [hMt]; exact hm)
end
end Go.Proofs.Ytdgklbbgbnapoaa
namespace Go.Proofs.Ytdgklbbgbnapoaa
open Go.RowKit
set_option linter.unusedVariables false
set_option linter.unusedSimpArgs false
section
variable (P : Program) (Γ : Nat → Option (List Data))
@[go_sem] theorem wpX_skip (Q : Exit → St → Prop) (s : St) : wpX P Γ .skip Q s = Q .normal s := rfl
@[go_sem] theorem wpX_draw (i : Nat) (ops : List Oper) (Q : Exit → St → Prop) (s : St) : wpX P Γ (.region i ops.toArray true) Q s = drawW P Γ ops.toArray ops s [] (fun s' tr => sideK (drawOk2 ops.toArray tr s.nx s'.nx = true) (Q .normal s')) := rfl
@[go_sem] theorem wpX_row (i : Nat) (ops : List Oper) (Q : Exit → St → Prop) (s : St) : wpX P Γ (.region i ops.toArray false) Q s = opsX P Γ ops.toArray ops s Q := rfl
@[go_sem] theorem wpX_seq (x y : Code) (Q : Exit → St → Prop) (s : St) : wpX P Γ (.seq x y) Q s = wpX P Γ x (thenW (wpX P Γ y Q) Q) s := rfl
@[go_sem] theorem wpX_cond (c : Operand) (x y : Code) (Q : Exit → St → Prop) (s : St) : wpX P Γ (.cond c x y) Q s = condK (evalD Γ s.env c) (wpX P Γ x Q s) (wpX P Γ y Q s) := rfl
@[go_sem] theorem wpX_block (id : Nat) (b : Code) (Q : Exit → St → Prop) (s : St) : wpX P Γ (.block id b) Q s = wpX P Γ b (blockW id Q) s := rfl
@[go_sem] theorem wpX_loop (b : Code) (Q : Exit → St → Prop) (s : St) : wpX P Γ (.loop b) Q s = LoopW (wpX P Γ b) Q s := rfl
@[go_sem] theorem wpX_exit (id : Nat) (Q : Exit → St → Prop) (s : St) : wpX P Γ (.exit id) Q s = Q (.exit id) s := rfl
@[go_sem] theorem wpX_ret (Q : Exit → St → Prop) (s : St) : wpX P Γ .ret Q s = Q .ret s := rfl
@[go_sem] theorem thenW_panic (n : St → Prop) (Q : Exit → St → Prop) (s : St) (ch : List PanicEntry) : thenW n Q (.panic ch) s = Q (.panic ch) s := rfl
@[go_sem] theorem blockW_panic (id : Nat) (Q : Exit → St → Prop) (s : St) (ch : List PanicEntry) : blockW id Q (.panic ch) s = Q (.panic ch) s := rfl
@[congr] theorem retXQ_congr {n0 : Nat} (tk : tick = n0) (fn : Func) (K : D → (Nat → Blk) → Nat → Prop) (X : Value → (Nat → Blk) → Nat → Prop) (x : Exit) (s : St) : retXQ P fn K X x s = retXQ P fn K X x s := rfl
@[go_sem] theorem retXQ_ret (fn : Func) (K : D → (Nat → Blk) → Nat → Prop) (X : Value → (Nat → Blk) → Nat → Prop) (s : St) : retXQ P fn K X .ret s = resK P fn.results.toList s fun ds => ∃ d, tupDD ds = some d ∧ K d s.hp s.nx := rfl
@[go_sem] theorem retXQ_normal (fn : Func) (K : D → (Nat → Blk) → Nat → Prop) (X : Value → (Nat → Blk) → Nat → Prop) (s : St) : retXQ P fn K X .normal s = resK P fn.results.toList s fun ds => ∃ d, tupDD ds = some d ∧ K d s.hp s.nx := rfl
theorem pan_inj {x y : Value} (h : pan x = pan y) : x = y := by
  unfold pan at h
  simpa using h
@[go_sem] theorem retXQ_panic (fn : Func) (K : D → (Nat → Blk) → Nat → Prop) (X : Value → (Nat → Blk) → Nat → Prop) (s : St) (v : Value) : retXQ P fn K X (.panic (pan v)) s = X v s.hp s.nx := by
  apply propext
  constructor
  · rintro ⟨u, h, hX⟩
    rw [pan_inj h]; exact hX
  · intro h
    exact ⟨v, rfl, h⟩
@[go_sem] theorem panK_ifc (t : TypeId) (k : IntKind) (n : Int) (X : Value → Prop) : panK (.data (.ifc t (.int k n))) X = X (.iface t (.int k n)) := by
  simp [panK, litV]
@[congr] theorem panK_congr {n0 : Nat} (tk : tick = n0) {x x' : D} (h : x = x') (X : Value → Prop) : panK x X = panK x' X := by rw [h]
@[go_sem] theorem panD_eq (dst : Option Nat) (x : Operand) (ty : TypeId) (pos : String) (af : Array Edge) (gd : Option (Nat × Bool)) (e : Nat → D) : panD Γ ⟨dst, .panic x, ty, pos, af, gd⟩ e = evalD Γ e x := rfl
attribute [go_sem] isPan
@[go_sem] theorem opsX_nil (ops : Array Oper) (s : St) (Q : Exit → St → Prop) : opsX P Γ ops [] s Q = Q .normal s := rfl
@[go_sem] theorem opsX_cons (ops : Array Oper) (o : Oper) (rest : List Oper) (e : Nat → D) (H : Nat → Blk) (nx lo nt : Nat) (Q : Exit → St → Prop) : opsX P Γ ops (o :: rest) ⟨e, H, nx, lo, nt⟩ Q =
    sideK (dstOk o nt = true) (someK (wantedD ops e o) fun b => ifW b (ifW (isPan o) (panK (panD Γ o e) fun v => Q (.panic (pan v)) ⟨e, H, nx, lo, nt⟩) (ifW (isCall o)
        ((opK P Γ o e H nx fun d _ u => opsX P Γ ops rest ⟨Env.dst e o.dst d, Hp.upd H u, nx + 1, lo, nt⟩ Q) ∨ (dcK P Γ o e H nx fun d H' nx' => opsX P Γ ops rest ⟨Env.dst e o.dst d, H', nx', lo, nt⟩ Q) ∨
          dxK P Γ o e H nx (fun d H' nx' => opsX P Γ ops rest ⟨Env.dst e o.dst d, H', nx', lo, nt⟩ Q) fun v H' nx' => Q (.panic (pan v)) ⟨e, H', nx', lo, nt⟩)
        (opK P Γ o e H nx fun d _ u => opsX P Γ ops rest ⟨Env.dst e o.dst d, Hp.upd H u, nx + 1, lo, nt⟩ Q))) (opsX P Γ ops rest ⟨Env.dst e o.dst undefD, H, nx + 1, lo, nt⟩ Q)) := by
  unfold sideK someK
  rw [opsX]
  congr 1
  simp only
  cases wantedD ops e o <;> rfl
@[congr] theorem opsX_congr {n0 : Nat} (tk : tick = n0) (ops : Array Oper) (l : List Oper) (s : St) (Q : Exit → St → Prop) : opsX P Γ ops l s Q = opsX P Γ ops l s Q := rfl
@[congr] theorem wpX_congr {n0 : Nat} (tk : tick = n0) (c : Code) (Q : Exit → St → Prop) (s : St) : wpX P Γ c Q s = wpX P Γ c Q s := rfl
@[congr] theorem dxK_congr' {n0 : Nat} (tk : tick = n0) (o : Oper) (e : Nat → D) (H : Nat → Blk) (fr : Nat) (K : D → (Nat → Blk) → Nat → Prop) (X : Value → (Nat → Blk) → Nat → Prop) : dxK P Γ o e H fr K X = dxK P Γ o e H fr K X := rfl
@[congr] theorem DX_congr {n0 : Nat} (tk : tick = n0) (f : FuncId) {ds ds' : List D} (h : ds = ds') (H : Nat → Blk) (nx : Nat) (K : D → (Nat → Blk) → Nat → Prop) (X : Value → (Nat → Blk) → Nat → Prop) : DX P Γ f ds H nx K X = DX P Γ f ds' H nx K X := by rw [h]
@[go_sem] theorem dxK_eq (dst : Option Nat) (ty : TypeId) (pos : String) (af : Array Edge) (gd : Option (Nat × Bool)) (e : Nat → D) (H : Nat → Blk) (nx : Nat) (K : D → (Nat → Blk) → Nat → Prop) (X : Value → (Nat → Blk) → Nat → Prop) (x : Operand) (args : Array Operand) (ts : Array TypeId) :
    dxK P Γ ⟨dst, .call ⟨.value x, args, ts⟩, ty, pos, af, gd⟩ e H nx K X = someK (fnD (evalD Γ e x)) fun fc => DX P Γ fc.1 (fc.2.1 ++ (args.toList.map (evalD Γ e) ++ fc.2.2)) H nx K X := by
  unfold dxK someK
  simp only
  cases fnD (evalD Γ e x) <;> rfl
end
section
variable {P : Program} {Γ : Nat → Option (List Data)}
theorem dx_by (hm : P.follows .mixedOrders = true) {f : FuncId} {fn : Func} {c : Code} {ds : List D} {H : Nat → Blk} {nx : Nat} {K : D → (Nat → Blk) → Nat → Prop} {X : Value → (Nat → Blk) → Nat → Prop} (hf : P.funcs[f]? = some fn) (hb : fn.body = some c) (hc : CallOk P f)
    (h : startK ds (ds.length + (fn.ntmps - ds.length)) fun ds n => wpX P Γ c (retXQ P fn K X) ⟨envArgs ds, H, nx, nx, n⟩) : DX P Γ f ds H nx K X := dx_of hm hf hb hc h
end
end Go.Proofs.Ytdgklbbgbnapoaa
namespace Go.Proofs.Ytdgklbbgbnapoaa
open Go.RowKit
set_option linter.unusedVariables false
set_option linter.unusedSimpArgs false

def shA (ds : List Deferred) (a : Act) : Act := { a with defers := a.defers ++ ds }
theorem shA_eval (ds : List Deferred) (a : Act) : (shA ds a).eval = a.eval := by
  funext x
  cases x <;> rfl
theorem shA_put (ds : List Deferred) (a : Act) (dst : Option Tmp) (v : Value) : (shA ds a).put dst v = shA ds (a.put dst v) := by cases dst <;> rfl
section
variable {P : Program} {Γ : Nat → Option (List Data)}
theorem upon_shift {ds : List Deferred} {o : Oper} {a : Act} {next : Act → World → Prop} {next' : Act → World → Prop} {Q : Exit → Act → World → Prop} {r : Result Next} (hn : ∀ a w, next a w → next' (shA ds a) w)
    (h : o.upon P a next (fun e a' w' => Q e (shA ds a') w') r) : o.upon P (shA ds a) next' Q r := by
  unfold Oper.upon at h ⊢
  split at h
  · rw [shA_put]; exact hn _ _ h
  · rw [shA_put]; exact hn _ _ h
  · rename_i d w'
    show next' ((shA ds { a with defers := d :: a.defers }).put o.dst undef) w'
    rw [shA_put]; exact hn _ _ h
  · refine h.mono fun e w' he => ?_
    cases e with
    | returned v => simp only at he ⊢; rw [shA_put]; exact hn _ _ he
    | panicked chain => exact he
    | outgrown =>
      obtain ⟨a0, w0, hq⟩ := he
      exact ⟨_, w0, hq⟩
  · intro fr cs
    obtain ⟨v, w', hR, hs⟩ := h fr cs
    refine ⟨v, w', ?_, hs⟩
    show next' ((shA ds a).put o.dst v) w'
    rw [shA_put]; exact hn _ _ hR
  · exact h
  · exact h.elim
theorem wpList_shift {ds : List Deferred} {ops : Array Oper} {Q : Exit → Act → World → Prop} : ∀ (l : List Oper) (a : Act) (w : World), wpList P ops (fun e a' w' => Q e (shA ds a') w') l a w → wpList P ops Q l (shA ds a) w
  | [], a, w, h => h
  | o :: rest, a, w, h => by
    unfold wpList at h ⊢
    have e1 : (shA ds a).tmps = a.tmps := rfl
    rw [e1]
    split at h
    · rename_i hw
      rw [if_pos hw]
      rcases h with h | ⟨h1, a0, w0, h2⟩
      · left
        unfold Oper.wp at h ⊢
        rw [shA_eval]
        exact upon_shift (fun a w h => wpList_shift rest a w h) h
      · right
        refine ⟨?_, _, w0, h2⟩
        unfold Oper.asks at h1 ⊢
        rw [shA_eval]
        exact h1
    · rename_i hw
      rw [if_neg hw, shA_put]
      exact wpList_shift rest _ _ h
/-- What a deferred call recovers. -/
def Recd (u : FrameMode) (d : Data) : Prop := (u = .returning ∧ d = .nili) ∨ ∃ t x v, u = .panicking (pan (.iface t v)) ∧ litV x = some v ∧ d = .ifc t x
/-- A deferred call that recovers, on the caller's numbered rows. -/
def DR (P : Program) (Γ : Nat → Option (List Data)) (g : FuncId) (ds : List D) (d : Data) (H : Nat → Blk) (nx : Nat) (K : (Nat → Blk) → Nat → Prop) : Prop :=
  CallOk P g ∧ ∀ (L0 : Nat → Prop) (w0 : W0) (m : Nat → MB) (w : World) (vs : Array Value) (u : FrameMode), WR Γ L0 w0 m H w → (∀ g, nx ≤ g → m g = .res) → (∀ g, nx ≤ g → H g = .dead) → ds.length = vs.size → (∀ (i : Nat) (d : D) (v : Value), ds[i]? = some d → vs[i]? = some v → VV (Live L0 m H) w m d v) → Recd u d →
    CallsD P g vs u w fun e u' w' => ∃ v0 H' nx' m', e = .returned v0 ∧ settle u' = .returning ∧ WR Γ L0 w0 m' H' w' ∧ Grow (Live L0 m H) w (Live L0 m' H') w' ∧ (∀ g, g < nx → m' g = m g) ∧ (∀ g, nx' ≤ g → m' g = .res) ∧ nx ≤ nx' ∧ K H' nx'
def closQ (K : (Nat → Blk) → Nat → Prop) : Exit → St → Prop
  | .normal, s | .ret, s => K s.hp s.nx
  | _, _ => False
theorem litV_vd {L : Nat → Prop} {w : World} : ∀ {x : Data} {v : Value}, litV x = some v → VD L w x v
  | .bool b, v, e => by simp only [litV, Option.some.injEq] at e; subst e; exact .bool b
  | .int k n, v, e => by simp only [litV, Option.some.injEq] at e; subst e; exact .int k n
  | .str s, v, e => by simp only [litV, Option.some.injEq] at e; subst e; exact .str s
  | .ifc t d, v, e => by
    simp only [litV, Option.map_eq_some_iff] at e
    obtain ⟨y, hy, rfl⟩ := e
    exact .ifc t d y (litV_vd hy)
  | .agg _, _, e => by cases e
  | .sl _ _, _, e => by cases e
  | .tup _, _, e => by cases e
  | .fn _ _, _, e => by cases e
  | .nilf, _, e => by cases e
  | .nili, _, e => by cases e
  | .nilp, _, e => by cases e
  | .nilm, _, e => by cases e
  | .pc _, _, e => by cases e
  | .mp _ _, _, e => by cases e
theorem dr_of (hm : P.follows .mixedOrders = true) {g : FuncId} {fg : Func} {i0 : Nat} {c : Code} {r p : Nat} {ty1 ty2 : TypeId} {ps1 ps2 : String} {af1 af2 : Array Edge} {ds : List D} {d : Data} {H : Nat → Blk} {nx : Nat} {K : (Nat → Blk) → Nat → Prop} (hg : P.funcs[g]? = some fg)
    (hb : fg.body = some ((Code.region i0 #[⟨some r, .call ⟨.builtin .recover, #[], #[]⟩, ty1, ps1, af1, none⟩, ⟨some p, .assign (.tmp r), ty2, ps2, af2, none⟩] false).seq c)) (hres : fg.results = #[]) (hc : CallOk P g) (hr : r < fg.ntmps) (hp : p < fg.ntmps)
    (h : wpF P Γ c (closQ K) ⟨Env.set (Env.set (envArgs ds) r (.data d)) p (.data d), H, nx, nx, ds.length + (fg.ntmps - ds.length)⟩) : DR P Γ g ds d H nx K := by
  refine ⟨hc, fun L0 w0 m w vs u hwr hmr hdead hl hv hu => ?_⟩
  refine callsD_of_wpS hg hb fun c₀ cs hc0 => ?_
  refine wpS_seq (wpS_region ?_)
  obtain ⟨x, cs', u', hx, hcs, hset, hrec⟩ : ∃ (x : Value) (cs' : List Frame) (u' : FrameMode), VD (Live L0 m H) w d x ∧ cs' = { c₀ with mode := u' } :: cs ∧ settle u' = .returning ∧ ((recoverD (c₀ :: cs) = some (x, cs')) ∨ (recoverD (c₀ :: cs) = none ∧ x = .nilIface ∧ cs' = c₀ :: cs)) := by
    rcases hu with ⟨rfl, rfl⟩ | ⟨t, y, v, rfl, hy, rfl⟩
    · refine ⟨.nilIface, c₀ :: cs, .returning, .nili, ?_, rfl, .inr ⟨by simp [recoverD, hc0], rfl, rfl⟩⟩
      rw [← hc0]
    · exact ⟨.iface t v, { c₀ with mode := .panicking [{ v := .iface t v, recovered := true }] } :: cs, .panicking [{ v := .iface t v, recovered := true }], .ifc t y v (litV_vd hy), rfl, rfl, .inl (by simp [recoverD, hc0, pan])⟩
  have hsz : (vs ++ Array.replicate (fg.ntmps - vs.size) undef).size = ds.length + (fg.ntmps - ds.length) := by simp [hl]
  have hlt : ∀ t, t < fg.ntmps → t < (vs ++ Array.replicate (fg.ntmps - vs.size) undef).size := fun t ht => by simp; omega
  let a2 : Act := (Act.put { tmps := vs ++ Array.replicate (fg.ntmps - vs.size) undef, defers := [] } (some r) x).put (some p) x
  have hrel : Rel Γ L0 w0 m ⟨Env.set (Env.set (envArgs ds) r (.data d)) p (.data d), H, nx, nx, ds.length + (fg.ntmps - ds.length)⟩ a2 w := by
    refine ⟨rfl, fun t => ?_, hwr.heap, hmr, hdead, hwr.below, hwr.l0, hwr.glob, Nat.le_refl _, ?_⟩
    · have h1 := fun t => dst_get (e := envArgs ds) (dst := some r) (d := .data d) (v := x) (a := { tmps := vs ++ Array.replicate (fg.ntmps - vs.size) undef, defers := [] }) (L := Live L0 m H) (w := w) (m := m) (fun t ht => by cases ht; exact hlt _ hr) (.data _ _ hx) (fun t => args_env hl hv t) t
      have h2 := dst_get (e := Env.dst (envArgs ds) (some r) (.data d)) (dst := some p) (d := .data d) (v := x) (a := Act.put { tmps := vs ++ Array.replicate (fg.ntmps - vs.size) undef, defers := [] } (some r) x) (L := Live L0 m H) (w := w) (m := m) (fun t ht => by cases ht; rw [put_slots]; exact hlt _ hp) (.data _ _ hx) h1 t
      exact h2
    · show ((Act.put { tmps := vs ++ Array.replicate (fg.ntmps - vs.size) undef, defers := [] } (some r) x).put (some p) x).tmps.size = _
      rw [put_slots, put_slots]; exact hsz
  have fin : Code.wpS P c (bodyPostS P fg c₀ cs fun e u' w' => ∃ v0 H' nx' m', e = .returned v0 ∧ settle u' = .returning ∧ WR Γ L0 w0 m' H' w' ∧ Grow (Live L0 m H) w (Live L0 m' H') w' ∧ (∀ g, g < nx → m' g = m g) ∧ (∀ g, nx' ≤ g → m' g = .res) ∧ nx ≤ nx' ∧ K H' nx') a2 cs' w := by
    refine wpS_of_wp (wp_mono (wp_sound hm c _ _ _ _ _ hrel h) fun e a' w' ⟨m', s', h1, h2, h3⟩ => ?_)
    have hlo : nx ≤ s'.nx := by have := h1.lo; rw [h2.lo] at this; exact this
    have key : K s'.hp s'.nx → a'.defers = [] ∧ ∃ u2, cs' = { c₀ with mode := u2 } :: cs ∧ ∃ v, (results fg a'.tmps).run P w' = .ok v w' ∧ ∃ v0 H' nx' m', Ending.returned v = .returned v0 ∧ settle u2 = .returning ∧ WR Γ L0 w0 m' H' w' ∧ Grow (Live L0 m H) w (Live L0 m' H') w' ∧ (∀ g, g < nx → m' g = (m : Nat → MB) g) ∧ (∀ g, nx' ≤ g → m' g = .res) ∧ nx ≤ nx' ∧ K H' nx' := fun hK =>
      ⟨h1.defers, u', hcs, .tuple #[], by
        have := results_run (P := P) (fn := fg) (a := a') (w := w') (vs := []) (by rw [hres]; rfl)
        exact this, _, s'.hp, s'.nx, m', rfl, hset, h1.wr, h2.grow, h2.keep, h1.res, hlo, hK⟩
    cases e with
    | normal => exact key h3
    | ret => exact key h3
    | _ => exact h3.elim
  have step2 : ∀ cs2, cs2 = cs' → wpOpsS P #[⟨some r, .call ⟨.builtin .recover, #[], #[]⟩, ty1, ps1, af1, none⟩, ⟨some p, .assign (.tmp r), ty2, ps2, af2, none⟩] (Exit.thenS (c.wpS P (bodyPostS P fg c₀ cs fun e u' w' => ∃ v0 H' nx' m', e = .returned v0 ∧ settle u' = .returning ∧ WR Γ L0 w0 m' H' w' ∧ Grow (Live L0 m H) w (Live L0 m' H') w' ∧ (∀ g, g < nx → m' g = m g) ∧ (∀ g, nx' ≤ g → m' g = .res) ∧ nx ≤ nx' ∧ K H' nx')) (bodyPostS P fg c₀ cs fun e u' w' => ∃ v0 H' nx' m', e = .returned v0 ∧ settle u' = .returning ∧ WR Γ L0 w0 m' H' w' ∧ Grow (Live L0 m H) w (Live L0 m' H') w' ∧ (∀ g, g < nx → m' g = m g) ∧ (∀ g, nx' ≤ g → m' g = .res) ∧ nx ≤ nx' ∧ K H' nx')) [1] (Act.put { tmps := vs ++ Array.replicate (fg.ntmps - vs.size) undef, defers := [] } (some r) x) cs2 w := by
    intro cs2 e
    subst e
    have hev : (Act.put { tmps := vs ++ Array.replicate (fg.ntmps - vs.size) undef, defers := [] } (some r) x).eval (.tmp r) = x := by
      have key : ∀ T : Array Value, r < T.size → (Act.put { tmps := T, defers := [] } (some r) x).eval (.tmp r) = x := fun T hT => by simp [Act.eval, Act.put, hT]
      exact key _ (hlt r hr)
    simp only [wpOpsS, Region.wanted, execOp, Oper.upon]
    simp only [List.getElem?_toArray, List.getElem?_cons_succ, List.getElem?_cons_zero, if_true, Sem.run_pure, hev]
    exact fin
  show wpOpsS P _ _ [0, 1] _ _ _
  simp only [wpOpsS, Region.wanted, execOp, resolve, invoke, builtin, Sem.run_bind, Sem.run_pure, Result.andThen_ok]
  simp only [List.getElem?_toArray, List.getElem?_cons_zero, if_true]
  rcases hrec with hrec | ⟨hrec, rfl, hcs2⟩
  · simp only [hrec]
    exact step2 _ rfl
  · simp only [hrec]
    exact step2 _ hcs2.symm
/-- Behind its body a function's deferred call, then what it hands back. -/
def endR (P : Program) (Γ : Nat → Option (List Data)) (fn : Func) (g : FuncId) (dte : D) (r : Data) (d : Data) (s : St) : Prop :=
  DR P Γ g [dte] d s.hp s.nx fun H' nx' => resK P fn.results.toList ⟨s.env, H', nx', s.lo, s.nt⟩ fun ds => ∃ xs, FrzL true H' ds xs ∧ r = tupD xs
def bodyR (P : Program) (Γ : Nat → Option (List Data)) (fn : Func) (g : FuncId) (dte : D) (r : Data) : Exit → St → Prop
  | .normal, s => endR P Γ fn g dte r .nili s
  | .panic ch, s => ∃ t v x, ch = pan (.iface t v) ∧ litV x = some v ∧ endR P Γ fn g dte r (.ifc t x) s
  | _, _ => False
/-- A function whose body runs with a deferred call that recovers. -/
theorem pc_deferred (hm : P.follows .mixedOrders = true) {f g : FuncId} {fn : Func} {A : Code} {i1 i2 : Nat} {l2 : List Oper} {tf te : Nat} {ty1 ty2 : TypeId} {ps1 ps2 : String} {af1 af2 : Array Edge} {xs : List Data} {r : Data} (hf : P.funcs[f]? = some fn)
    (hb : fn.body = some (A.seq ((Code.region i1 #[⟨some tf, .makeFunc (.func g) #[] #[.tmp te], ty1, ps1, af1, none⟩, ⟨none, .defer ⟨.value (.tmp tf), #[], #[]⟩, ty2, ps2, af2, none⟩] false).seq ((Code.region i2 l2.toArray false).seq .ret)))) (hc : CallOk P f) (htf : tf < fn.ntmps)
    (h : wpF P Γ A (fun e s => e = .normal ∧ opsX P Γ l2.toArray l2 ⟨Env.set s.env tf (.fn g [s.env te]), s.hp, s.nx, s.nx, s.nt⟩ (bodyR P Γ fn g (s.env te) r)) ⟨envArgs (xs.map toD), fun _ => .dead, 0, 0, xs.length + (fn.ntmps - xs.length)⟩) : PC P Γ f xs r := by
  refine ⟨hc, fun L w vs hg hL hl hv => calls_of_wp_defers hf hb ?_⟩
  have hlive : ∀ b, Live L (fun _ => .res) (fun _ => Blk.dead) b ↔ L b := fun b => ⟨(fun h => by
    rcases h with h | ⟨g, sz, hg, _⟩
    · exact h
    · cases hg), .inl⟩
  have hrel : Rel Γ L (W0.of w) (fun _ => .res) ⟨envArgs (xs.map toD), fun _ => .dead, 0, 0, xs.length + (fn.ntmps - xs.length)⟩ { tmps := vs ++ Array.replicate (fn.ntmps - vs.size) undef, defers := [] } w := by
    refine ⟨rfl, fun t => ?_, ⟨(fun g rw cells hg => by cases hg), (fun g g' cells rw' cells' b sz sz' hg => by cases hg), (fun g o hg => by cases hg), (fun g g' o o' b sz sz' hg => by cases hg)⟩, fun _ _ => rfl, fun _ _ => rfl, Below.refl _ _, (fun b hb => ⟨hL b hb, rfl⟩), hg.mono (Grow.less w fun b hb => (hlive b).1 hb), Nat.le_refl _, by simp [hl]⟩
    refine args_env (by simpa using hl) (fun i d v hd hvi => ?_) t
    rw [List.getElem?_map, Option.map_eq_some_iff] at hd
    obtain ⟨x, hx, rfl⟩ := hd
    exact toD_ok ((hv i x v hx hvi).mono (Grow.less w fun b hb => (hlive b).1 hb))
  refine wp_seq (wp_mono (wp_sound hm A _ _ _ _ _ hrel h) fun e a1 w1 hlift => ?_)
  obtain ⟨m1, s1, r1, x1, he, hk⟩ := hlift
  subst he
  show Code.wp P _ _ a1 w1
  have hnt : tf < a1.tmps.size := by rw [r1.slots, x1.nt]; show tf < xs.length + (fn.ntmps - xs.length); omega
  -- the deferred call's value
  let fv : Value := .func (.func g) #[] #[a1.tmps.getD te undef]
  have rel2 : Rel Γ L (W0.of w) m1 ⟨Env.set s1.env tf (.fn g [s1.env te]), s1.hp, s1.nx, s1.nx, s1.nt⟩ (a1.put (some tf) fv) w1 := by
    refine ⟨r1.defers, fun t => ?_, r1.heap, r1.res, r1.dead, r1.below, r1.l0, r1.glob, Nat.le_refl _, by rw [put_slots]; exact r1.slots⟩
    exact dst_get (e := s1.env) (dst := some tf) (fun t ht => by cases ht; exact hnt) (.fn g [s1.env te] #[a1.tmps.getD te undef] rfl fun i x v hx hvv => by
      match i with
      | 0 => simp at hx hvv; subst hx; subst hvv; simpa using r1.vals te
      | i + 1 => simp at hx) r1.vals t
  have hev : (a1.put (some tf) fv).eval (.tmp tf) = fv := by simp [Act.eval, Act.put, hnt]
  refine wp_seq (wp_region_list ?_)
  have hq1 : (execOp a1.eval ⟨some tf, .makeFunc (.func g) #[] #[.tmp te], ty1, ps1, af1, none⟩).run P w1 = .ok (.value fv) w1 := by
    simp [execOp, Instr.makeFunc, Act.eval, fv]
  have hq2 : (execOp (a1.put (some tf) fv).eval ⟨none, .defer ⟨.value (.tmp tf), #[], #[]⟩, ty2, ps2, af2, none⟩).run P w1 = .ok (.defer ⟨.fn (.func g) #[a1.tmps.getD te undef], #[]⟩) w1 := by
    simp only [execOp, resolve, Sem.run_bind, hev, fv, Deferred.ofValue, Sem.run_pure, Result.andThen_ok]
    simp
  show wpList P _ _ [_, _] a1 w1
  simp only [wpList, Region.wanted, if_true]
  left
  unfold Oper.wp
  rw [hq1, Oper.upon_value]
  left
  rw [hq2, Oper.upon_defer]
  have hsh : ({ (a1.put (some tf) fv) with defers := (⟨.fn (.func g) #[a1.tmps.getD te undef], #[]⟩ : Deferred) :: (a1.put (some tf) fv).defers } : Act).put none undef = shA [⟨.fn (.func g) #[a1.tmps.getD te undef], #[]⟩] (a1.put (some tf) fv) := by
    have hd : a1.defers = [] := r1.defers
    simp only [shA, Act.put, hd, List.nil_append]
  rw [hsh]
  show Code.wp P _ _ (shA _ _) w1
  refine wp_seq (wp_region_list (wpList_shift _ _ _ ?_))
  -- behind the body
  have ends : ∀ (d : Data) (u : FrameMode) (m2 : Nat → MB) (s2 : St) (a2 : Act) (w2 : World), Rel Γ L (W0.of w) m2 s2 a2 w2 → Ext L m1 ⟨Env.set s1.env tf (.fn g [s1.env te]), s1.hp, s1.nx, s1.nx, s1.nt⟩ w1 m2 s2 w2 → endR P Γ fn g (s1.env te) r d s2 → Recd u d → u ≠ .run →
      Leaves P fn a2.tmps (fun e w' => ∃ v, e = .returned v ∧ VD L w' r v ∧ Below w.heap.size w w') [⟨.fn (.func g) #[a1.tmps.getD te undef], #[]⟩] u w2 := by
    intro d u m2 s2 a2 w2 r2 x2 hend hu hun
    have hsc : Scoped s1.nx (s1.env te) := (r1.vals te).scopd r1.res
    have hvv : VV (Live L m2 s2.hp) w2 m2 (s1.env te) (a1.tmps.getD te undef) := (r1.vals te).mono_below x2.grow (fun g hg => x2.keep g hg) hsc
    obtain ⟨hcg, hdr⟩ := hend
    refine ⟨hun, .func g, #[a1.tmps.getD te undef], g, #[a1.tmps.getD te undef], rfl, ?_, ?_⟩
    · simp only [invoke]
      have := hcg #[a1.tmps.getD te undef] w2
      simpa using this
    refine (hdr L (W0.of w) m2 w2 #[a1.tmps.getD te undef] u r2.wr r2.res r2.dead rfl (fun i d v hd hvi => ?_) hu).mono fun e u' w' hpost => ?_
    · match i with
      | 0 => simp at hd hvi; subst hd; subst hvi; simpa using hvv
      | i + 1 => simp at hd
    obtain ⟨v0, H', nx', m', rfl, hset, k1, k2, k3, k4, k5, hK⟩ := hpost
    simp only
    rw [hset]
    have hmr : ∀ g, m2 g ≠ .res → m' g = m2 g := fun g hg => k3 g (Nat.lt_of_not_le fun hle => hg (r2.res g hle))
    have rel3 : Rel Γ L (W0.of w) m' ⟨s2.env, H', nx', s2.lo, s2.nt⟩ a2 w' :=
      ⟨r2.defers, fun t => (r2.vals t).mono k2 hmr, k1.heap, k4, fun g hg => k1.none (k4 g hg), k1.below, k1.l0, k1.glob, Nat.le_trans r2.lo k5, r2.slots⟩
    obtain ⟨ds, us, ⟨ys, ⟨hyl, hyf⟩, hr⟩, q1, q2, q3⟩ := res_ok rel3 _ _ hK
    subst hr
    refine ⟨_, results_run q3, _, rfl, ?_, rel3.below⟩
    have each : ∀ (i : Nat) (y : Data) (u : Value), ys[i]? = some y → us[i]? = some u → VD L w' y u := fun i y u hy hu => by
      have hi : i < ds.length := by rw [hyl]; exact (List.getElem?_eq_some_iff.1 hy).1
      refine (hyf i _ y (List.getElem?_eq_getElem hi) hy).vd (m := m') (L := Live L m' H') (fun b hb => .inl hb) (fun g rw cells b sz hg _ hm => ?_) (fun g rw cells hg hm => ?_) (fun _ g o b hg hm => ?_) (q2 i _ u (List.getElem?_eq_getElem hi) hu)
      rotate_left 2
      · obtain ⟨b', v', j1, j2, j3, j4⟩ := k1.heap.obj g o hg
        rw [j1] at hm; cases hm
        exact ⟨k1.ltO hg j1, fun hb => by have := hL b hb; have : w.heap.size ≤ _ := j2.1; omega, v', j3, j4⟩
      · obtain ⟨vs, ty, e1, e2, e3, _, e5⟩ := at_of k1 hg hm
        have hbase : w.heap.size ≤ b := by
          rcases k1.heap.blk g rw cells hg with ⟨q, _⟩ | ⟨b', sz', _, _, j1, j2, _⟩
          · rw [q] at hm; cases hm
          · rw [j1] at hm; cases hm; exact j2.1
        exact ⟨k1.lt hg hm, fun hb => by have := hL b hb; omega, vs, ty, e1, fun i d hd => by obtain ⟨v, a1, _, a3⟩ := e5 i d hd; exact ⟨v, a1, a3⟩⟩
      · rcases k1.heap.blk g rw cells hg with ⟨_, q⟩ | ⟨_, _, _, _, q, _⟩
        · exact q
        · rw [hm] at q; cases q
    have hly : ys.length = us.length := by omega
    match ys, us, hly, each with
    | [], [], _, _ => exact .tup [] #[] rfl (fun i x v hx => by simp at hx)
    | [y], [u], _, each => exact each 0 y u rfl rfl
    | y :: y2 :: ys, u :: u2 :: us, hly, each => exact .tup _ _ (by simp at hly ⊢; omega) (fun i x v hx hv => each i x v hx (by simpa using hv))
    | [], u :: us, hly, _ => simp at hly
    | [y], [], hly, _ => simp at hly
    | [y], u :: u2 :: us, hly, _ => simp at hly
    | y :: y2 :: ys, [], hly, _ => simp at hly
    | y :: y2 :: ys, [u], hly, _ => simp at hly
  refine opsX_sound l2 m1 _ _ w1 rel2 hk fun e m2 s2 a2 w2 r2 x2 hbody => ?_
  have hdef : (shA [⟨.fn (.func g) #[a1.tmps.getD te undef], #[]⟩] a2).defers = [⟨.fn (.func g) #[a1.tmps.getD te undef], #[]⟩] := by
    show a2.defers ++ _ = _
    rw [r2.defers]; rfl
  cases e with
  | normal =>
    refine wp_ret ?_
    show Leaves P fn a2.tmps _ (shA _ a2).defers .returning w2
    rw [hdef]
    exact ends .nili .returning m2 s2 a2 w2 r2 x2 hbody (.inl ⟨rfl, rfl⟩) (fun e => by cases e)
  | panic ch =>
    obtain ⟨t, v, x, rfl, hx, hend⟩ := hbody
    show Leaves P fn a2.tmps _ (shA _ a2).defers (.panicking _) w2
    rw [hdef]
    exact ends (.ifc t x) _ m2 s2 a2 w2 r2 x2 hend (.inr ⟨t, x, v, rfl, hx, rfl⟩) (fun e => by cases e)
  | _ => exact hbody.elim
end
end Go.Proofs.Ytdgklbbgbnapoaa
namespace Go.Proofs.Ytdgklbbgbnapoaa
open Go.RowKit
set_option linter.unusedVariables false
set_option linter.unusedSimpArgs false
section
variable {P : Program} {Γ : Nat → Option (List Data)}
theorem eqR_nil {t : TypeId} (hu : P.underlying t = some (.interface #[])) : EqR P t .nili .nili true := by
  intro L w ox oy vx vy h1 h2
  cases h1; cases h2
  have k1 : ∀ k, (Op.equalIn (k + 1) t .nilIface .nilIface).run P w = .ok true w := fun k => by simp [Op.equalIn, run_underlying hu]
  have k2 : ∀ k, (Op.eqGuardIn (k + 1) t .nilIface .nilIface).run P w = .ok false w := fun k => by simp [Op.eqGuardIn, run_underlying hu]
  refine ⟨fun op => ?_, k1 9999⟩
  have hg : (Op.eqGuardIn Op.maxDepth t .nilIface .nilIface).run P w = .ok false w := k2 9999
  unfold eqGuard
  cases op <;> simp [hg]
theorem eqR_ifc {t t' : TypeId} {ms : Array _} {x : Data} (hu : P.underlying t = some (.interface ms)) : EqR P t (.ifc t' x) .nili false := by
  intro L w ox oy vx vy h1 h2
  cases h1 with
  | ifc _ _ v _ =>
  cases h2
  have k1 : ∀ k, (Op.equalIn (k + 1) t (.iface t' v) .nilIface).run P w = .ok false w := fun k => by simp [Op.equalIn, run_underlying hu]
  refine ⟨fun op => ?_, k1 9999⟩
  unfold eqGuard
  cases op <;> simp
theorem eqK_nil {t : TypeId} {K : Bool → Prop} (hu : P.underlying t = some (.interface #[])) (hk : K true) : eqK P t .nili .nili K := ⟨true, eqR_nil hu, hk⟩
theorem eqK_ifc {t t' : TypeId} {ms : Array _} {x : Data} {K : Bool → Prop} (hu : P.underlying t = some (.interface ms)) (hk : K false) : eqK P t (.ifc t' x) .nili K := ⟨false, eqR_ifc hu, hk⟩
theorem meth_ok {name : String} {t : TypeId} {f : FuncId} (h : ∀ x w, (method (P.types.size + Made.depth) t x name).run P w = .ok (f, x) w) (hf : CallOk P f) : MethOk P name t f := by
  intro x args w
  have e1 : (#[Value.iface t x] ++ args)[0]? = some (.iface t x) := by
    rw [Array.getElem?_append_left (by simp)]
    rfl
  have e2 : (#[Value.iface t x] ++ args).extract 1 (#[Value.iface t x] ++ args).size = args := by
    apply Array.ext'
    simp
  have h2 := h x w
  have h3 := hf (#[x] ++ args) w
  have h0 : Sem.run P (Sem.program Sem.pure) w = .ok P w := rfl
  simp only [invoke, e1, e2, callMethod, program, Sem.run_bind, h0, Result.andThen_ok, h2]
  exact h3
@[go_sem] theorem cells_ifc (t : TypeId) (d : Data) : Data.cells (.ifc t d) = [.ifc t d] := rfl
variable (P)
@[go_sem] theorem bin_nneq (t : TypeId) (K : D → Prop) : binK P .neq t (.data .nili) (.data .nili) K = eqK P t .nili .nili fun q => putK (.data (.bool (!q))) K := by simp [binK, putK, boolD]
@[go_sem] theorem bin_ineq (t t' : TypeId) (x : Data) (K : D → Prop) : binK P .neq t (.data (.ifc t' x)) (.data .nili) K = eqK P t (.ifc t' x) .nili fun q => putK (.data (.bool (!q))) K := by simp [binK, putK, boolD]
@[go_sem] theorem closQ_ret (K : (Nat → Blk) → Nat → Prop) (s : St) : closQ K .ret s = K s.hp s.nx := rfl
@[go_sem] theorem closQ_normal (K : (Nat → Blk) → Nat → Prop) (s : St) : closQ K .normal s = K s.hp s.nx := rfl
@[congr] theorem closQ_congr {n0 : Nat} (tk : tick = n0) (K : (Nat → Blk) → Nat → Prop) (e : Exit) (s : St) : closQ K e s = closQ K e s := rfl
variable {P}
theorem dr_by (hm : P.follows .mixedOrders = true) {g : FuncId} {fg : Func} {i0 : Nat} {c : Code} {r p : Nat} {ty1 ty2 : TypeId} {ps1 ps2 : String} {af1 af2 : Array Edge} {ds : List D} {d : Data} {H : Nat → Blk} {nx : Nat} {K : (Nat → Blk) → Nat → Prop} (hg : P.funcs[g]? = some fg)
    (hb : fg.body = some ((Code.region i0 #[⟨some r, .call ⟨.builtin .recover, #[], #[]⟩, ty1, ps1, af1, none⟩, ⟨some p, .assign (.tmp r), ty2, ps2, af2, none⟩] false).seq c)) (hres : fg.results = #[]) (hc : CallOk P g) (hr : r < fg.ntmps) (hp : p < fg.ntmps)
    (h : startK ds (ds.length + (fg.ntmps - ds.length)) fun ds n => wpF P Γ c (closQ K) ⟨Env.dst (Env.dst (envArgs ds) (some r) (.data d)) (some p) (.data d), H, nx, nx, n⟩) : DR P Γ g ds d H nx K := dr_of hm hg hb hres hc hr hp h
theorem pc_def_by (hm : P.follows .mixedOrders = true) {f g : FuncId} {fn : Func} {A : Code} {i1 i2 : Nat} {l2 : List Oper} {tf te : Nat} {ty1 ty2 : TypeId} {ps1 ps2 : String} {af1 af2 : Array Edge} {xs : List Data} {r : Data} (hf : P.funcs[f]? = some fn)
    (hb : fn.body = some (A.seq ((Code.region i1 #[⟨some tf, .makeFunc (.func g) #[] #[.tmp te], ty1, ps1, af1, none⟩, ⟨none, .defer ⟨.value (.tmp tf), #[], #[]⟩, ty2, ps2, af2, none⟩] false).seq ((Code.region i2 l2.toArray false).seq .ret)))) (hc : CallOk P f) (htf : tf < fn.ntmps)
    (h : startK (xs.map toD) (xs.length + (fn.ntmps - xs.length)) fun ds n => wpF P Γ A (fun e s => e = .normal ∧ opsX P Γ l2.toArray l2 ⟨Env.dst s.env (some tf) (.fn g [s.env te]), s.hp, s.nx, s.nx, s.nt⟩ (bodyR P Γ fn g (s.env te) r)) ⟨envArgs ds, fun _ => .dead, 0, 0, n⟩) : PC P Γ f xs r := pc_deferred hm hf hb hc htf h
@[congr] theorem bodyR_congr {n0 : Nat} (tk : tick = n0) (fn : Func) (g : FuncId) (dte : D) (r : Data) (e : Exit) (s : St) : bodyR P Γ fn g dte r e s = bodyR P Γ fn g dte r e s := rfl
@[go_sem] theorem bodyR_normal (fn : Func) (g : FuncId) (dte : D) (r : Data) (s : St) : bodyR P Γ fn g dte r .normal s = DR P Γ g [dte] .nili s.hp s.nx fun H' nx' => resK P fn.results.toList ⟨s.env, H', nx', s.lo, s.nt⟩ fun ds => ∃ xs, FrzL true H' ds xs ∧ r = tupD xs := rfl
theorem bodyR_panic {fn : Func} {g : FuncId} {dte : D} {r : Data} {t : TypeId} {v : Value} {x : Data} {s : St} (hx : litV x = some v) (h : DR P Γ g [dte] (.ifc t x) s.hp s.nx fun H' nx' => resK P fn.results.toList ⟨s.env, H', nx', s.lo, s.nt⟩ fun ds => ∃ xs, FrzL true H' ds xs ∧ r = tupD xs) : bodyR P Γ fn g dte r (.panic (pan (.iface t v))) s := ⟨t, v, x, rfl, hx, h⟩
@[congr] theorem DR_congr {n0 : Nat} (tk : tick = n0) (g : FuncId) {ds ds' : List D} (h : ds = ds') (d : Data) (H : Nat → Blk) (nx : Nat) (K : (Nat → Blk) → Nat → Prop) : DR P Γ g ds d H nx K = DR P Γ g ds' d H nx K := by rw [h]
/-- A call that is lent a row, and doesn't panic. -/
theorem dc_lent {d0 d1 : D} {f : FuncId} {xs : List D} {cells : List Data} {K0 : Data → List Data → Prop}
    (hc : DC P Γ f (d0 :: xs) (hpL [(0, .blk true (cells.map D.data))]) 1 fun d H' _ => ∃ r c, d = .data r ∧ H' 0 = .blk true (c.map D.data) ∧ K0 r c)
    {H : Nat → Blk} {nx g : Nat} {K : D → (Nat → Blk) → Nat → Prop} (hg : H g = .blk true (cells.map D.data)) (hd : Lent g d1 d0) (hxs : ∀ x ∈ xs, (∃ y, x = .data y) ∨ ∃ c, x = .cptr c)
    (hk : ∀ r c, K0 r c → K (.data r) (Hp.upd H [(g, .blk true (c.map D.data))]) nx) : DC P Γ f (d1 :: xs) H nx K :=
  dc_of_dx (dx_lent (X0 := fun _ _ => False) (dx_of_dc hc) hg hd hxs hk fun _ _ h => h.elim)
end
end Go.Proofs.Ytdgklbbgbnapoaa
namespace Go.Proofs.Ytdgklbbgbnapoaa
open Go.RowKit
set_option linter.unusedVariables false
set_option linter.unusedSimpArgs false
/-- What leads to the row that is lent, as the caller has it, and as the call does; and what hangs on no row. -/
inductive Lent2 (g : Nat) : D → D → Prop where
  | data (x : Data) : Lent2 g (.data x) (.data x)
  | cptr (c : List Data) : Lent2 g (.cptr c) (.cptr c)
  | ptr (off : Nat) : Lent2 g (.ptr g off) (.ptr 0 off)
  | ref (off len es : Nat) : Lent2 g (.ref g off len es) (.ref 0 off len es)
  | bnd (f : FuncId) {a b : D} (h : Lent2 g a b) : Lent2 g (.bnd f a) (.bnd f b)
inductive LentL (g : Nat) : List D → List D → Prop where
  | nil : LentL g [] []
  | cons {a b : D} {as bs : List D} (h : Lent2 g a b) (t : LentL g as bs) : LentL g (a :: as) (b :: bs)
theorem LentL.len {g : Nat} : ∀ {as bs : List D}, LentL g as bs → as.length = bs.length
  | [], [], .nil => rfl
  | _ :: _, _ :: _, .cons _ t => by simp [t.len]
theorem lent2_vv {g : Nat} {L0 : Nat → Prop} {m : Nat → MB} {H : Nat → Blk} {w : World} {L : Nat → Prop} {m1 : Nat → MB} (hL : ∀ b, L b → Live L0 m H b) (hm : m1 0 = m g) {a b : D} (h : Lent2 g a b) : ∀ {v : Value}, VV (Live L0 m H) w m a v → VV L w m1 b v := by
  have hg : Grow (Live L0 m H) w L w := Grow.less w hL
  induction h with
  | data x => intro v hv; exact .data _ _ (hv.data_inv.mono hg)
  | cptr c =>
    intro v hv
    cases hv with
    | cptr _ b off us hb hl hc hu => exact .cptr c b off us hb (fun h => hl (hL _ h)) hc fun i x hx => (hu i x hx).mono hg
  | ptr off =>
    intro v hv
    cases hv with
    | ptr _ _ b sz hh => exact .ptr 0 off b sz (by rw [hm]; exact hh)
  | ref off len es =>
    intro v hv
    cases hv with
    | ref _ _ _ _ b sz cap o hh j2 j3 j4 j5 => exact .ref 0 off len es b sz cap o (by rw [hm]; exact hh) j2 j3 j4 j5
    | ref0 _ _ a hh => exact .ref0 0 es a (by rw [hm]; exact hh)
  | bnd f _ ih =>
    intro v hv
    cases hv with
    | bnd _ _ v h => exact .bnd f _ v (ih h)
theorem lentL_args {g : Nat} {L0 : Nat → Prop} {m : Nat → MB} {H : Nat → Blk} {w : World} {L : Nat → Prop} {m1 : Nat → MB} (hL : ∀ b, L b → Live L0 m H b) (hm : m1 0 = m g) {as bs : List D} (h : LentL g as bs) : ∀ {vs : Array Value},
    (∀ (i : Nat) (d : D) (v : Value), as[i]? = some d → vs[i]? = some v → VV (Live L0 m H) w m d v) → ∀ (i : Nat) (d : D) (v : Value), bs[i]? = some d → vs[i]? = some v → VV L w m1 d v := by
  have key : ∀ (i : Nat) (d : D), bs[i]? = some d → ∃ c : D, as[i]? = some c ∧ Lent2 g c d := by
    induction h with
    | nil => intro i d hd; simp at hd
    | @cons a b as bs h t ih =>
      intro i d hd
      cases i with
      | zero =>
        simp only [List.getElem?_cons_zero, Option.some.injEq] at hd
        subst hd
        exact ⟨a, rfl, h⟩
      | succ i => exact ih i d (by simpa using hd)
  intro vs hv i d v hd hvi
  obtain ⟨c, hc, hl⟩ := key i d hd
  exact lent2_vv hL hm hl (hv i c v hc hvi)
section
variable {P : Program} {Γ : Nat → Option (List Data)}
/-- A call that is lent a row of the caller's, by whichever arguments; it hands back plain data, or panics. -/
theorem dx_lentL {f : FuncId} {as bs : List D} {cells : List Data} {K0 : Data → List Data → Prop} {X0 : Value → List Data → Prop}
    (hc : DX P Γ f bs (hpL [(0, .blk true (cells.map D.data))]) 1 (fun d H' _ => ∃ r c, d = .data r ∧ H' 0 = .blk true (c.map D.data) ∧ K0 r c) fun v H' _ => ∃ c, H' 0 = .blk true (c.map D.data) ∧ X0 v c)
    {H : Nat → Blk} {nx g : Nat} {K : D → (Nat → Blk) → Nat → Prop} {X : Value → (Nat → Blk) → Nat → Prop} (hg : H g = .blk true (cells.map D.data)) (hd : LentL g as bs)
    (hk : ∀ r c, K0 r c → K (.data r) (Hp.upd H [(g, .blk true (c.map D.data))]) nx) (hx : ∀ v c, X0 v c → X v (Hp.upd H [(g, .blk true (c.map D.data))]) nx) : DX P Γ f as H nx K X := by
  refine ⟨hc.1, fun L0 w0 m w vs hwr hres hdead hl hv => ?_⟩
  obtain ⟨h1, hlive⟩ := lend hwr hg
  refine (hc.2 _ _ _ w vs h1 (fun q hq => if_neg (by omega)) (fun q hq => by simp [hpL, show q ≠ 0 by omega]) (by rw [← hd.len]; exact hl) (lentL_args (fun b hb => (hlive b).1 hb) (by simp) hd hv)).mono fun e w' ⟨H', nx', m', k1, k2, k3, k4, k5, k6⟩ => ?_
  have hm0 : m' 0 = m g := (k3 0 (by omega)).trans (if_pos rfl)
  have k2' : Grow (Live L0 m H) w (Live (lentL L0 m H g) m' H') w' := ⟨k2.size, fun b hb hL => k2.keep b hb fun h => hL ((hlive b).1 h)⟩
  have same : ∀ c : List Data, lentH H g g c = Hp.upd H [(g, .blk true (c.map D.data))] := fun c => by
    funext q
    unfold lentH Hp.upd
    by_cases e : q = g
    · subst e; simp [Hp.upd, Hp.set]
    · simp [Hp.upd, Hp.set, e, Ne.symm e]
  have back : ∀ c : List Data, H' 0 = .blk true (c.map D.data) → WR Γ L0 w0 m (Hp.upd H [(g, .blk true (c.map D.data))]) w' ∧ Grow (Live L0 m H) w (Live L0 m (Hp.upd H [(g, .blk true (c.map D.data))])) w' ∧ ∀ b, Live L0 m (Hp.upd H [(g, .blk true (c.map D.data))]) b → Live (lentL L0 m H g) m' H' b := fun c h0 => by
    have hM : lentM m m' g 0 = m := by
      funext q
      unfold lentM
      by_cases e : q = g
      · rw [if_pos e, hm0, e]
      · exact if_neg e
    obtain ⟨a, b, c2, _⟩ := lent_back hwr hg k1 k2' hm0 (k := 0) (t := g) (c := c) h0 (.inl ⟨rfl, rfl⟩)
    rw [hM, same c] at a b c2
    exact ⟨a, b, c2⟩
  rcases k6 with ⟨v, d, he, hvv, r, c, rfl, h0, hK⟩ | ⟨x, he, c, h0, hX⟩
  · obtain ⟨a, b, s⟩ := back c h0
    exact ⟨_, nx, m, a, b, fun _ _ => rfl, hres, Nat.le_refl _, .inl ⟨v, .data r, he, .data _ _ (hvv.data_inv.mono (Grow.less w' s)), hk r c hK⟩⟩
  · obtain ⟨a, b, s⟩ := back c h0
    exact ⟨_, nx, m, a, b, fun _ _ => rfl, hres, Nat.le_refl _, .inr ⟨x, he, hx x c hX⟩⟩
end
end Go.Proofs.Ytdgklbbgbnapoaa
