/- What came in, read as plain data: the arguments of a law, the listed variables. -/
import Derived.Test.YtedcnbkhdkchoaaS
import Derived.OpenShut
import Derived.SizedLaws
import Derived.LaidMore
namespace Go.Proofs.Ytedcnbkhdkchoaa
open Go.RowKit
set_option linter.unusedVariables false
set_option linter.unusedSimpArgs false

/-- An element of a type, out of its cells. -/
def mkE (P : Program) (t : TypeId) (ds : List Data) : Data := match P.underlying t with
  | some (.struct _) | some (.array _ _) => .agg ds
  | _ => ds.headD .nilp

/-- Types that are read as plain data. -/
def suppF (P : Program) (s : TypeId → Bool) : Nat → List Field → Option Nat
  | o, [] => some o
  | o, f :: fs => if f.offset = o ∧ s f.type = true then suppF P s (o + P.cellsOf f.type) fs else none
def supp (P : Program) : Nat → TypeId → Bool
  | 0, _ => false
  | n + 1, t => match P.underlying t with
    | some .bool | some .string => true
    | some (.int _) => true
    | some (.slice e) => supp P n e && decide (0 < P.cellsOf e) && decide (0 < P.bytesOf e)
    | some (.struct fs) => suppF P (supp P n) 0 fs.toList == some (P.cellsOf t)
    | some (.array m e) => supp P n e && decide (P.cellsOf t = m * P.cellsOf e)
    | _ => false

/-- The cells that a reading tells. -/
def dDF {H : Type} (r : TypeId → DataW H → List Data) : List Field → List (DataW H) → List Data
  | f :: fs, d :: ds => r f.type d ++ dDF r fs ds
  | _, _ => []
def dD {H : Type} (P : Program) : Nat → TypeId → DataW H → List Data
  | 0, _, _ => []
  | n + 1, t, d => match P.underlying t with
    | some (.slice e) => (match d with
      | .slice elems _ => [.sl (P.cellsOf e) (elems.map fun x => mkE P e (dD P n e x))]
      | _ => [.sl (P.cellsOf e) []])
    | some (.struct fs) => (match d with
      | .agg parts => dDF (dD P n) fs.toList parts
      | _ => [])
    | some (.array _ e) => (match d with
      | .agg parts => parts.flatMap (dD P n e)
      | _ => [])
    | _ => (match d with
      | .lit (.bool b) => [.bool b]
      | .lit (.int k i) => [.int k i]
      | .lit (.string s) => [.str ⟨s.toArray⟩]
      | _ => [])

/-- The form of a type's cells. -/
def okF (o : TypeId → List Data → Prop) : List Field → List Data → Prop
  | [], ds => ds = []
  | f :: fs, ds => ∃ a b, ds = a ++ b ∧ o f.type a ∧ okF o fs b
def okA (o : List Data → Prop) : Nat → List Data → Prop
  | 0, ds => ds = []
  | n + 1, ds => ∃ a b, ds = a ++ b ∧ o a ∧ okA o n b
def okD (P : Program) : Nat → TypeId → List Data → Prop
  | 0, _, _ => False
  | n + 1, t, ds => match P.underlying t with
    | some .bool => ∃ b, ds = [.bool b]
    | some (.int k) => ∃ i, ds = [.int k i] ∧ (Lit.int k i).wf = true
    | some .string => ∃ s, ds = [.str s] ∧ s.size ≤ reachBytes
    | some (.slice e) => ∃ l, ds = [.sl (P.cellsOf e) l] ∧ l.length ≤ reachBytes ∧ ∀ x ∈ l, ∃ es, x = mkE P e es ∧ okD P n e es
    | some (.struct fs) => okF (okD P n) fs.toList ds
    | some (.array m e) => okA (okD P n e) m ds
    | _ => False

/-- Cells, one by one. -/
def VDs (w : World) (cs : List Value) (ds : List Data) : Prop := ds.length = cs.length ∧ ∀ (i : Nat) (x : Data) (v : Value), ds[i]? = some x → cs[i]? = some v → VD (fun _ => False) w x v

theorem VDs.nil (w : World) : VDs w [] [] := ⟨rfl, fun i x v h => by simp at h⟩
theorem VDs.one {w : World} {v : Value} {x : Data} (h : VD (fun _ => False) w x v) : VDs w [v] [x] := ⟨rfl, fun i y u hy hu => by
  match i with
  | 0 => simp at hy hu; subst hy; subst hu; exact h
  | i + 1 => simp at hy⟩
theorem VDs.append {w : World} {a b : List Value} {x y : List Data} (h : VDs w a x) (k : VDs w b y) : VDs w (a ++ b) (x ++ y) := by
  refine ⟨by simp [h.1, k.1], fun i d v hd hv => ?_⟩
  rw [List.getElem?_append] at hd hv
  rw [h.1] at hd
  split at hd
  · rename_i hi; rw [if_pos hi] at hv; exact h.2 i d v hd hv
  · rename_i hi; rw [if_neg hi] at hv; exact k.2 _ d v hd hv

section
variable {H : Type} {enc : TypeId × Value → H} {P : Program} {w : World} {held : Bool} {spare : Nat → Bool}

theorem weights_each {ts : List TypeId} {ds : List (DataW H)} (hz : ∀ x ∈ DataW.weightsEach P ts ds, x ≤ reachBytes) : ∀ (i : Nat) t d, ts[i]? = some t → ds[i]? = some d → ∀ x ∈ DataW.weights P t d, x ≤ reachBytes := by
  induction ts generalizing ds with
  | nil => intro i t d h; simp at h
  | cons t ts ih =>
    cases ds with
    | nil => intro i t d _ h; simp at h
    | cons d ds =>
      simp only [DataW.weightsEach, List.mem_append] at hz
      intro i t' d' ht hd x hx
      match i with
      | 0 => simp at ht hd; subst ht; subst hd; exact hz x (.inl hx)
      | i + 1 => exact ih (fun y hy => hz y (.inr hy)) i t' d' (by simpa using ht) (by simpa using hd) x hx
theorem weights_all {e : TypeId} {ds : List (DataW H)} (hz : ∀ x ∈ DataW.weightsAll P e ds, x ≤ reachBytes) : ∀ d ∈ ds, ∀ x ∈ DataW.weights P e d, x ≤ reachBytes := by
  induction ds with
  | nil => intro d h; simp at h
  | cons d ds ih =>
    simp only [DataW.weightsAll, List.mem_append] at hz
    intro d' hd x hx
    rcases List.mem_cons.1 hd with rfl | hd
    · exact hz x (.inl hx)
    · exact ih (fun y hy => hz y (.inr hy)) d' hd x hx

/-- The cells of a memory row. -/
theorem cells_get {b0 : Nat} {a : Addr} {n : Nat} {cs : List Value} (h : w.cells? b0 a n = some cs) : cs.length = n ∧ ∀ i, i < n → w.cell? (a.add i) = cs[i]? := by
  unfold World.cells? at h
  split at h
  · exact ⟨by simpa using mapM_some_length h, fun i hi => mapM_some_get h i i (by simp [hi])⟩
  · cases h
theorem cell_lt {a : Addr} {v : Value} (h : w.cell? a = some v) : a.block < w.heap.size ∧ a.spot = none := by
  unfold World.cell? at h
  split at h
  · rename_i hb
    exact ⟨(Array.getElem?_eq_some_iff.1 hb).1, by cases hs : a.spot with
      | none => rfl
      | some s => rw [hs] at h; simp at h⟩
  · cases h

theorem mkE_cells {n : Nat} {t : TypeId} {es : List Data} (h : okD P n t es) : (mkE P t es).cells = es := by
  cases n with
  | zero => exact h.elim
  | succ n =>
    unfold okD at h
    unfold mkE
    split at h
    all_goals rename_i hu; simp only [hu]
    · obtain ⟨b, rfl⟩ := h; rfl
    · obtain ⟨i, rfl, _⟩ := h; rfl
    · obtain ⟨s, rfl, _⟩ := h; rfl
    · obtain ⟨l, rfl, _⟩ := h; rfl
    · rfl
    · rfl
    · exact h.elim

/-- The reading of cells: plain data, of the type's form. -/
theorem read_ok : ∀ (n : Nat) (fuel : Nat) (t : TypeId) (cs : List Value) (d : DataW H) (ps : List MemPlace), supp P n t = true → DataW.trod enc P w 0 spare held fuel t cs = some (d, ps) → (∀ x ∈ DataW.weights P t d, x ≤ reachBytes) →
    VDs w cs (dD P n t d) ∧ okD P n t (dD P n t d) := by
  intro n
  induction n with
  | zero => intro fuel t cs d ps hs; simp [supp] at hs
  | succ n ih =>
    intro fuel t cs d ps hs h hz
    unfold supp at hs
    split at hs
    · rename_i hu
      obtain ⟨b, rfl, e⟩ := DataW.trod_bool hu h
      cases e
      simp only [dD, okD, hu]
      exact ⟨.one (.bool b), b, rfl⟩
    · rename_i hu
      obtain ⟨s, rfl, e, _⟩ := DataW.trod_string hu h
      cases e
      simp only [dD, okD, hu]
      refine ⟨.one (.str s), s, rfl, ?_⟩
      have := hz s.data.toList.length (by simp [DataW.weights])
      simpa using this
    · rename_i k hu
      obtain ⟨i, rfl, e, hw⟩ := DataW.trod_int hu h
      cases e
      simp only [dD, okD, hu]
      exact ⟨.one (.int k i), i, rfl, hw⟩
    · rename_i e hu
      simp only [Bool.and_eq_true, decide_eq_true_eq] at hs
      obtain ⟨⟨hse, hc⟩, hb⟩ := hs
      rcases DataW.trod_slice hu h with ⟨rfl, hx⟩ | ⟨a, len, cap, elems, rest, m, rfl, rfl, hx, _, hlc, hcm, hlen, hel, _, _⟩
      · cases hx
        simp only [dD, okD, hu]
        exact ⟨.one (.sl _ [] none 0 0 0 0 (fun _ => .nilIface) rfl (Nat.le_refl _) (by simp [maxLen]) (by simp) (.inr rfl) (fun i x hx => by simp [flat] at hx) (fun i x hx => by simp [flat] at hx)), [], rfl, by simp, by simp⟩
      · cases hx
        simp only [DataW.weights, hu, List.mem_cons, List.mem_append, List.length_map] at hz
        have hw1 := hz _ (.inl rfl)
        have hw2 := weights_all (P := P) (e := e) (ds := elems.map (·.1)) (fun x hx => hz x (.inr (.inl hx)))
        have hlen2 : elems.length ≤ reachBytes := by
          have : elems.length * 1 ≤ (elems.length + rest.length) * P.bytesOf e := Nat.mul_le_mul (by omega) hb
          omega
        have each : ∀ (i : Nat) (y : DataW H × List MemPlace), elems[i]? = some y → ∃ ec, w.cells? 0 (a.add (i * P.cellsOf e)) (P.cellsOf e) = some ec ∧ VDs w ec (dD P n e y.1) ∧ okD P n e (dD P n e y.1) := by
          intro i y hy
          have hi : i < len := by rw [← hlen]; exact (List.getElem?_eq_some_iff.1 hy).1
          have h1 := hel i hi
          rw [hy, Option.bind_eq_some_iff] at h1
          obtain ⟨ec, h2, h3⟩ := h1
          exact ⟨ec, h2, ih m e ec y.1 y.2 hse h3 (hw2 y.1 (List.mem_map.2 ⟨y, List.mem_of_getElem? hy, rfl⟩))⟩
        have hcl : ∀ (i : Nat) (y : DataW H × List MemPlace), elems[i]? = some y → (mkE P e (dD P n e y.1)).cells = dD P n e y.1 ∧ (dD P n e y.1).length = P.cellsOf e := by
          intro i y hy
          obtain ⟨ec, h2, h3, h4⟩ := each i y hy
          exact ⟨mkE_cells h4, by rw [h3.1]; exact (cells_get h2).1⟩
        have hflat : ∀ (l : List Data) (c : Nat), 0 < c → (∀ x ∈ l, x.cells.length = c) → ∀ (i : Nat) (x : Data), (flat l)[i]? = some x → ∃ y, l[i / c]? = some y ∧ y.cells[i % c]? = some x := by
          intro l c hc0
          induction l with
          | nil => intro _ i x hx; simp [flat] at hx
          | cons y l ihl =>
            intro hall i x hx
            have hy : y.cells.length = c := hall y (by simp)
            simp only [flat, List.flatMap_cons, List.getElem?_append] at hx
            rw [hy] at hx
            split at hx
            · rename_i hi
              rw [Nat.div_eq_of_lt hi, Nat.mod_eq_of_lt hi]
              exact ⟨y, rfl, hx⟩
            · rename_i hi
              obtain ⟨z, h1, h2⟩ := ihl (fun x hx => hall x (by simp [hx])) (i - c) x hx
              obtain ⟨q, rfl⟩ : ∃ q, i = q + c := ⟨i - c, by omega⟩
              rw [Nat.add_div_right _ hc0, Nat.add_mod_right]
              rw [Nat.add_sub_cancel] at h1 h2
              exact ⟨z, by simpa using h1, h2⟩
        have hall : ∀ x ∈ (elems.map fun y => mkE P e (dD P n e y.1)), x.cells.length = P.cellsOf e := by
          intro x hx
          obtain ⟨y, hy, rfl⟩ := List.mem_map.1 hx
          obtain ⟨i, hi⟩ := List.getElem?_of_mem hy
          rw [(hcl i y hi).1, (hcl i y hi).2]
        have key : ∀ (i : Nat) (x : Data), (flat (elems.map fun y => mkE P e (dD P n e y.1)))[i]? = some x → ∃ v, w.cell? (a.add i) = some v ∧ VD (fun _ => False) w x v := by
          intro i x hx
          obtain ⟨y, h1, h2⟩ := hflat _ _ hc hall i x hx
          rw [List.getElem?_map, Option.map_eq_some_iff] at h1
          obtain ⟨z, h3, rfl⟩ := h1
          rw [(hcl _ z h3).1] at h2
          obtain ⟨ec, h4, h5, _⟩ := each _ z h3
          obtain ⟨h6, h7⟩ := cells_get h4
          have hlt : i % P.cellsOf e < P.cellsOf e := Nat.mod_lt _ hc
          have hv : ec[i % P.cellsOf e]? = some ec[i % P.cellsOf e] := List.getElem?_eq_getElem (by omega)
          refine ⟨ec[i % P.cellsOf e], ?_, h5.2 _ x _ h2 hv⟩
          have h8 := h7 _ hlt
          rw [hv] at h8
          rw [← h8]
          congr 1
          have hi := Nat.div_add_mod i (P.cellsOf e)
          rw [Nat.mul_comm] at hi
          generalize i / P.cellsOf e * P.cellsOf e = q at hi
          generalize i % P.cellsOf e = r at hi
          subst hi
          unfold Addr.add
          by_cases hq : q = 0
          · subst hq; simp
          · by_cases hr : r = 0
            · subst hr; simp
            · simp [hq, hr, Nat.add_assoc]
        have hdd : dD P (n + 1) t (DataW.slice (elems.map (·.1)) (rest.map (·.1))) = [.sl (P.cellsOf e) (elems.map fun y => mkE P e (dD P n e y.1))] := by
          simp [dD, hu, Function.comp_def]
        rw [hdd]
        refine ⟨.one ?_, ?_⟩
        · have spot : ∀ (i : Nat) (x : Data), (flat (elems.map fun y => mkE P e (dD P n e y.1)))[i]? = some x → a.spot = none := by
            intro i x hx
            have h0 : 0 < (flat (elems.map fun y => mkE P e (dD P n e y.1))).length := by
              have := (List.getElem?_eq_some_iff.1 hx).1; omega
            obtain ⟨v, hv, _⟩ := key 0 _ (List.getElem?_eq_getElem h0)
            simpa [Addr.add] using (cell_lt hv).2
          refine .sl _ _ (some a) len cap a.block a.off (fun i => (w.cell? ⟨a.block, a.off + i, none⟩).getD .nilIface) (by simp [hlen]) hlc hcm hall ?_ ?_ ?_
          · by_cases he : elems = []
            · exact .inr (by simp [he])
            · refine .inl ?_
              have h0 : 0 < elems.length := List.length_pos_iff.2 he
              obtain ⟨ec, h4, _, _⟩ := each 0 elems[0] (List.getElem?_eq_getElem h0)
              obtain ⟨h6, h7⟩ := cells_get h4
              have h8 := h7 0 hc
              rw [List.getElem?_eq_getElem (by omega)] at h8
              have h9 := cell_lt h8
              simp [Addr.add] at h9
              obtain ⟨ab, ao, as⟩ := a
              simp at h9
              exact ⟨by rw [h9.2], h9.1, fun h => h⟩
          · intro i x hx
            obtain ⟨v, hv, _⟩ := key i x hx
            have hsp := spot i x hx
            have : a.add i = ⟨a.block, a.off + i, none⟩ := by
              unfold Addr.add
              split
              · rename_i e0; subst e0; obtain ⟨ab, ao, as⟩ := a; simp at hsp ⊢; exact hsp
              · rfl
            rw [this] at hv
            simp only [hv, Option.getD_some]
          · intro i x hx
            obtain ⟨v, hv, hvd⟩ := key i x hx
            have hsp := spot i x hx
            have : a.add i = ⟨a.block, a.off + i, none⟩ := by
              unfold Addr.add
              split
              · rename_i e0; subst e0; obtain ⟨ab, ao, as⟩ := a; simp at hsp ⊢; exact hsp
              · rfl
            rw [this] at hv
            simp only [hv, Option.getD_some]
            exact hvd
        · simp only [okD, hu]
          refine ⟨_, rfl, by simpa using hlen2, fun x hx => ?_⟩
          obtain ⟨y, hy, rfl⟩ := List.mem_map.1 hx
          obtain ⟨i, hi⟩ := List.getElem?_of_mem hy
          obtain ⟨ec, _, _, h4⟩ := each i y hi
          exact ⟨_, rfl, h4⟩
    · rename_i fs hu
      obtain ⟨xs, m, rfl, hx, hcl, hxl, hf⟩ := DataW.trod_struct hu h
      cases hx
      simp only [DataW.weights, hu] at hz
      have hw := weights_each hz
      have hdd : dD P (n + 1) t (DataW.agg (xs.map (·.1))) = dDF (dD P n) fs.toList (xs.map (·.1)) := by simp [dD, hu]
      rw [hdd]
      have hs2 : suppF P (supp P n) 0 fs.toList = some (P.cellsOf t) := by simpa using hs
      have go : ∀ (l : List Field) (ys : List (DataW H × List MemPlace)) (o : Nat), l.length = ys.length → suppF P (supp P n) o l = some (P.cellsOf t) →
          (∀ (i : Nat) (f : Field), l[i]? = some f → DataW.trod enc P w 0 spare held m f.type ((cs.drop f.offset).take (P.cellsOf f.type)) = ys[i]?) →
          (∀ (i : Nat) (f : Field) (y : DataW H × List MemPlace), l[i]? = some f → ys[i]? = some y → ∀ x ∈ DataW.weights P f.type y.1, x ≤ reachBytes) → o ≤ P.cellsOf t ∧ VDs w (cs.drop o) (dDF (dD P n) l (ys.map (·.1))) ∧ okF (okD P n) l (dDF (dD P n) l (ys.map (·.1))) := by
        intro l
        induction l with
        | nil =>
          intro ys o hl hs3 _ _
          simp only [suppF, Option.some.injEq] at hs3
          subst hs3
          rw [← hcl]
          simp only [List.drop_length, dDF]
          exact ⟨Nat.le_refl _, .nil w, rfl⟩
        | cons f l ihl =>
          intro ys o hl hs3 hf3 hw3
          cases ys with
          | nil => simp at hl
          | cons y ys =>
            simp only [suppF] at hs3
            split at hs3
            · rename_i ho
              obtain ⟨rfl, hsf⟩ := ho
              have h0 := hf3 0 f rfl
              simp only [List.getElem?_cons_zero] at h0
              obtain ⟨h1, h2⟩ := ih m f.type _ y.1 y.2 hsf h0 (hw3 0 f y rfl rfl)
              obtain ⟨h3, h4, h5⟩ := ihl ys (f.offset + P.cellsOf f.type) (by simpa using hl) hs3 (fun i g hg => by simpa using hf3 (i + 1) g (by simpa using hg)) (fun i g z hg hz' => hw3 (i + 1) g z (by simpa using hg) (by simpa using hz'))
              refine ⟨by omega, ?_, _, _, rfl, h2, h5⟩
              have : cs.drop f.offset = (cs.drop f.offset).take (P.cellsOf f.type) ++ cs.drop (f.offset + P.cellsOf f.type) := by
                rw [← List.drop_drop, List.take_append_drop]
              rw [this]
              exact h1.append h4
            · cases hs3
      obtain ⟨_, h1, h2⟩ := go fs.toList xs 0 (by simp [hxl]) hs2 (fun i f hg => hf i f (by simpa using hg)) (fun i f y hg hy => hw i f.type y.1 (by simp at hg ⊢; exact ⟨f, hg, rfl⟩) (by simp [hy]))
      refine ⟨by simpa using h1, ?_⟩
      simp only [okD, hu]
      exact h2
    · rename_i m e hu
      simp only [Bool.and_eq_true, decide_eq_true_eq] at hs
      obtain ⟨hse, hsz⟩ := hs
      obtain ⟨xs, k, rfl, hx, hcl, hxl, hf⟩ := DataW.trod_array hu h
      cases hx
      simp only [DataW.weights, hu] at hz
      have hw := weights_all hz
      have hdd : dD P (n + 1) t (DataW.agg (xs.map (·.1))) = (xs.map (·.1)).flatMap (dD P n e) := by simp [dD, hu]
      rw [hdd]
      have go : ∀ (j : Nat), j ≤ m → VDs w (cs.drop ((m - j) * P.cellsOf e)) (((xs.drop (m - j)).map (·.1)).flatMap (dD P n e)) ∧ okA (okD P n e) j (((xs.drop (m - j)).map (·.1)).flatMap (dD P n e)) := by
        intro j
        induction j with
        | zero =>
          intro _
          rw [Nat.sub_zero, ← hsz, ← hcl, ← hxl]
          simp only [List.drop_length, List.map_nil, List.flatMap_nil]
          exact ⟨.nil w, rfl⟩
        | succ j ihj =>
          intro hj
          obtain ⟨h1, h2⟩ := ihj (by omega)
          have hi : m - (j + 1) < m := by omega
          have hxi : m - (j + 1) < xs.length := by omega
          have h0 := hf (m - (j + 1)) hi
          rw [List.getElem?_eq_getElem hxi] at h0
          obtain ⟨h3, h4⟩ := ih k e _ xs[m - (j + 1)].1 xs[m - (j + 1)].2 hse h0 (hw _ (List.mem_map.2 ⟨_, List.getElem_mem hxi, rfl⟩))
          have e1 : m - (j + 1) + 1 = m - j := by omega
          rw [List.drop_eq_getElem_cons hxi, e1]
          simp only [List.map_cons, List.flatMap_cons]
          refine ⟨?_, _, _, rfl, h4, h2⟩
          have e2 : cs.drop ((m - (j + 1)) * P.cellsOf e) = (cs.drop ((m - (j + 1)) * P.cellsOf e)).take (P.cellsOf e) ++ cs.drop ((m - j) * P.cellsOf e) := by
            have : (m - j) * P.cellsOf e = (m - (j + 1)) * P.cellsOf e + P.cellsOf e := by rw [← e1, Nat.add_mul, Nat.one_mul]
            rw [this, ← List.drop_drop, List.take_append_drop]
          rw [e2]
          exact h3.append h1
      have := go m (Nat.le_refl _)
      simp only [Nat.sub_self, Nat.zero_mul, List.drop_zero] at this
      refine ⟨this.1, ?_⟩
      simp only [okD, hu]
      exact this.2
    · cases hs
/-- An argument. -/
def argD (P : Program) (n : Nat) (t : TypeId) (x : Data) : Prop := ∃ ds, x = mkE P t ds ∧ okD P n t ds

theorem read_arg {n : Nat} {base : Nat} {t : TypeId} {v : Value} {d : DataW H} {ps : List MemPlace} (hs : supp P n t = true) (hv : Value.okWide P w .any base t v) (k : DataW.Trod enc P w 0 spare held t v d ps) (hz : (DataW.weights P t d).all (fun x => decide (x ≤ reachBytes)) = true) :
    ∃ x, VD (fun _ => False) w x v ∧ argD P n t x := by
  obtain ⟨fuel, hf⟩ := k
  obtain ⟨h1, h2⟩ := read_ok n fuel t _ d ps hs hf (fun x hx => by simpa using List.all_eq_true.1 hz x hx)
  refine ⟨mkE P t (dD P n t d), ?_, _, rfl, h2⟩
  generalize dD P n t d = ds at h1 h2
  cases n with
  | zero => exact h2.elim
  | succ n =>
    have one : ∀ x, (∀ cs, v ≠ .agg cs) → ds = [x] → VD (fun _ => False) w x v := by
      intro x hna hds
      subst hds
      have : v.cells.toList = [v] := by
        cases v with
        | agg cs => exact absurd rfl (hna cs)
        | _ => rfl
      rw [this] at h1
      exact h1.2 0 x v rfl rfl
    unfold Value.okWide at hv
    unfold okD at h2
    unfold mkE
    split at h2
    all_goals rename_i hu; simp only [hu] at hv ⊢
    · obtain ⟨b, rfl⟩ := h2
      exact one _ (fun cs e => by subst e; simp [Cell.okWide, Cell.ok, hu] at hv) rfl
    · obtain ⟨i, rfl, _⟩ := h2
      exact one _ (fun cs e => by subst e; simp [Cell.okWide, Cell.ok, hu] at hv) rfl
    · obtain ⟨s, rfl, _⟩ := h2
      exact one _ (fun cs e => by subst e; simp [Cell.okWide, Cell.ok, hu] at hv) rfl
    · obtain ⟨l, rfl, _⟩ := h2
      exact one _ (fun cs e => by subst e; simp [Cell.okWide, Cell.ok, hu] at hv) rfl
    · obtain ⟨cs, rfl, _⟩ := hv
      exact .agg _ _ (by simpa [Value.cells] using h1.1) (fun i x u hx hu => h1.2 i x u hx (by simpa [Value.cells] using hu))
    · obtain ⟨cs, rfl, _⟩ := hv
      exact .agg _ _ (by simpa [Value.cells] using h1.1) (fun i x u hx hu => h1.2 i x u hx (by simpa [Value.cells] using hu))
    · exact h2.elim

/-- A law by its contract on plain data. -/
theorem calls_of_pc {Γ : Nat → Option (List Data)} {f : FuncId} {xs : List Data} {vs : Array Value} (hg : Glob Γ (fun _ => False) w) (h : PC P Γ f xs (.bool true)) (hl : xs.length = vs.size)
    (hv : ∀ (i : Nat) (x : Data) (v : Value), xs[i]? = some x → vs[i]? = some v → VD (fun _ => False) w x v) :
    Calls P f vs w fun e w' => e = .returned (.bool true) ∧ Below w.heap.size w w' := by
  refine (h.2 (fun _ => False) w vs hg (fun b hb => hb.elim) hl hv).mono fun e w' ⟨v, he, hvd, hb⟩ => ?_
  cases hvd
  exact ⟨he, hb⟩
theorem vd1 {x0 : Data} {v0 : Value} (h0 : VD (fun _ => False) w x0 v0) : ∀ (i : Nat) (x : Data) (v : Value), [x0][i]? = some x → #[v0][i]? = some v → VD (fun _ => False) w x v := fun i x v hx hv => by
  match i with
  | 0 => simp at hx hv; subst hx; subst hv; exact h0
  | i + 1 => simp at hx
theorem vdl {x0 : Data} {v0 : Value} {xs : List Data} {vs : List Value} (h0 : VD (fun _ => False) w x0 v0) (h : ∀ (i : Nat) (x : Data) (v : Value), xs[i]? = some x → vs[i]? = some v → VD (fun _ => False) w x v) :
    ∀ (i : Nat) (x : Data) (v : Value), (x0 :: xs)[i]? = some x → (v0 :: vs)[i]? = some v → VD (fun _ => False) w x v := fun i x v hx hv => by
  match i with
  | 0 => simp at hx hv; subst hx; subst hv; exact h0
  | i + 1 => exact h i x v (by simpa using hx) (by simpa using hv)
/-- A listed variable. -/
theorem glob_of {n : Nat} {nm : String} {g : Nat} {t : TypeId} {cs : Array Value} {fuel : Nat} {d : DataW H} {ps : List MemPlace} (hs : supp P n t = true) (hg : P.globalNamed nm = some g) (hv : w.var? P nm = some cs)
    (hd : DataW.trod enc P w 0 spare held fuel t cs.toList = some (d, ps)) (hz : (DataW.weights P t d).all (fun x => decide (x ≤ reachBytes)) = true) (hne : dD P n t d ≠ []) :
    VV (fun _ => False) w (fun _ => .res) (.cptr (dD P n t d)) (.pointer (some ⟨g, 0, none⟩)) := by
  obtain ⟨h1, h2⟩ := read_ok n fuel t _ d ps hs hd (fun x hx => by simpa using List.all_eq_true.1 hz x hx)
  have hc : ∀ (i : Nat) (x : Data), (dD P n t d)[i]? = some x → ∃ v, w.cell? ⟨g, 0 + i, none⟩ = some v ∧ VD (fun _ => False) w x v := by
    intro i x hx
    have hi : i < cs.size := by
      have := (List.getElem?_eq_some_iff.1 hx).1
      rw [h1.1] at this; simpa using this
    have hcell := World.var?_cell hg hv i
    rw [Array.getElem?_eq_getElem hi] at hcell
    refine ⟨cs[i], by simpa using hcell, h1.2 i x _ hx (by simp [hi])⟩
  have h0 : 0 < (dD P n t d).length := List.length_pos_iff.2 hne
  obtain ⟨v, hv0, _⟩ := hc 0 _ (List.getElem?_eq_getElem h0)
  refine .cptr _ g 0 (fun i => (w.cell? ⟨g, 0 + i, none⟩).getD .nilIface) (cell_lt hv0).1 (fun h => h) (fun i x hx => ?_) (fun i x hx => ?_)
  · obtain ⟨v, hv, _⟩ := hc i x hx
    simp only [hv, Option.getD_some]
  · obtain ⟨v, hv, hvd⟩ := hc i x hx
    simp only [hv, Option.getD_some]
    exact hvd
end
end Go.Proofs.Ytedcnbkhdkchoaa
