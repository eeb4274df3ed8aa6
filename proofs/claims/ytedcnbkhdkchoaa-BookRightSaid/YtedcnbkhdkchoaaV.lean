/- Rows of bytes; what arguments are. -/
import Derived.Test.YtedcnbkhdkchoaaU
import Derived.Test.YtedcnbkhdkchoaaW
import Derived.Test.YtedcnbkhdkchoaaX
import Derived.KernelRfl
namespace Go.Proofs.Ytedcnbkhdkchoaa
open Go.RowKit
set_option linter.unusedVariables false
set_option linter.unusedSimpArgs false
def u8 (n : Nat) : Data := .int .u8 n
/-- A row of bytes. -/
def bys (l : List Nat) : List Data := l.map u8
@[go_sem] theorem flat_bys (l : List Nat) : flat (bys l) = bys l := by
  induction l with
  | nil => rfl
  | cons x l ih => simp [bys, flat, u8, Data.cells] at ih ⊢; simpa [u8] using ih
@[go_sem] theorem bys_nil : bys [] = [] := rfl
@[go_sem] theorem bys_length (l : List Nat) : (bys l).length = l.length := by simp [bys]
theorem bys_cell' (l : List Nat) : ∀ x ∈ bys l, x.cell = true := fun x hx => by
  obtain ⟨n, _, rfl⟩ := List.mem_map.1 hx
  rfl
@[go_sem] theorem bys_cell (l : List Nat) : (∀ x ∈ bys l, x.cell = true) ↔ True := iff_true_intro (bys_cell' l)
theorem bys_cells (l : List Nat) : ∀ x ∈ bys l, x.cells.length = 1 := fun x hx => by
  obtain ⟨n, _, rfl⟩ := List.mem_map.1 hx
  rfl
@[go_sem] theorem bys_take (l : List Nat) (n : Nat) : (bys l).take n = bys (l.take n) := by simp [bys, List.map_take]
@[go_sem] theorem bys_drop (l : List Nat) (n : Nat) : (bys l).drop n = bys (l.drop n) := by simp [bys, List.map_drop]
@[go_sem] theorem bys_get (l : List Nat) (i : Nat) : (bys l)[i]? = (l[i]?).map u8 := by simp [bys]
@[go_sem] theorem bysd_take (l : List Nat) (n : Nat) : ((bys l).map D.data).take n = (bys (l.take n)).map D.data := by rw [← bys_take, List.map_take]
@[go_sem] theorem bysd_drop (l : List Nat) (n : Nat) : ((bys l).map D.data).drop n = (bys (l.drop n)).map D.data := by rw [← bys_drop, List.map_drop]
@[go_sem] theorem bysd_append (a b : List Nat) : (bys a).map D.data ++ (bys b).map D.data = (bys (a ++ b)).map D.data := by simp [bys]
@[go_sem] theorem bysd_rep (n : Nat) : List.replicate n (D.data (.int .u8 0)) = (bys (List.replicate n 0)).map D.data := by simp [bys, u8]
@[go_sem] theorem data_u8 (n : Nat) : D.data (u8 n) = .data (.int .u8 n) := rfl
@[go_sem] theorem u8_cell (n : Nat) : (u8 n).cell = true := rfl
@[go_sem] theorem u8_cells (n : Nat) : (u8 n).cells = [u8 n] := rfl
/-- A row of bytes of the call's own, handed to a callee that keeps it. -/
theorem call_kept {P : Program} {Γ : Nat → Option (List Data)} {f : FuncId} {H : Nat → Blk} {K : D → List Nat → List (Nat × Blk) → Prop} (g n : Nat) (l : List Nat) {r : Data} (h : PC P Γ f [.sl 1 (bys l)] r) (hg : H g = .blk true ((bys l).map D.data)) (hn : l.length = n)
    (k : K (.data r) [g] [(g, .blk false ((bys l).map D.data))]) : callK P Γ f [.ref g 0 n 1] H K := by
  refine call_frz [g] [g] (fun q hq => ⟨true, _, by simp at hq; subst hq; exact hg⟩) h (fun H' hH' => ?_) ?_
  · refine frzL_c (frz_ref (rw := false) (cells := (bys l).map D.data) ?_ (.inr rfl) (by rw [bys_length, hn]) (bys_cells _) (by rw [flat_bys])) frzL_n
    simp [Hp.upd, Hp.set, hg, fz]
  · simp only [List.map_cons, List.map_nil, hg, fz]
    exact k
theorem call_read {P : Program} {Γ : Nat → Option (List Data)} {f : FuncId} {H : Nat → Blk} {K : D → List Nat → List (Nat × Blk) → Prop} (g n : Nat) (l : List Nat) {rw : Bool} {r : Data} (h : PC P Γ f [.sl 1 (bys l)] r) (hb : Bare r) (hg : H g = .blk rw ((bys l).map D.data)) (hn : l.length = n)
    (k : K (.data r) [g] []) : callK P Γ f [.ref g 0 n 1] H K := by
  refine call_bare [g] h hb (fun H' hH' => ?_) k
  refine frzL_c (frz_ref (rw := rw) (cells := (bys l).map D.data) ?_ (.inl rfl) (by rw [bys_length, hn]) (bys_cells _) (by rw [flat_bys])) frzL_n
  rw [hH' g (by simp), hg]
theorem frz_bys {ok : Bool} {H : Nat → Blk} {g n : Nat} {l : List Nat} {rw : Bool} (hg : H g = .blk rw ((bys l).map D.data)) (hrw : ok = true ∨ rw = false) (hn : l.length = n) : Frz ok H (.ref g 0 n 1) (.sl 1 (bys l)) :=
  frz_ref hg hrw (by rw [bys_length, hn]) (bys_cells l) (by rw [flat_bys])
/-- A row that is filled element by element: i of F, then noughts z. -/
def rowc (F : List Data) (z : List D) (i : Nat) : List D := (flat (F.take i)).map D.data ++ (List.replicate (F.length - i) z).flatten
theorem rowc_zero (F : List Data) (z : List D) : rowc F z 0 = (List.replicate F.length z).flatten := by simp [rowc, flat]
theorem rowc_end (F : List Data) (z : List D) : rowc F z F.length = (flat F).map D.data := by simp [rowc]
theorem flat_len {es : Nat} : ∀ {l : List Data}, (∀ x ∈ l, x.cells.length = es) → (flat l).length = l.length * es
  | [], _ => by simp [flat]
  | x :: l, h => by
    have ih := flat_len (l := l) fun y hy => h y (by simp [hy])
    have hx := h x (by simp)
    simp only [flat, List.flatMap_cons, List.length_append, List.length_cons] at ih ⊢
    rw [ih, hx, Nat.add_mul]; omega
theorem reps_len (z : List D) (n : Nat) : (List.replicate n z).flatten.length = n * z.length := by simp
theorem rowc_length {F : List Data} {z : List D} (hF : ∀ x ∈ F, x.cells.length = z.length) (i : Nat) (h : i ≤ F.length) : (rowc F z i).length = F.length * z.length := by
  simp only [rowc, List.length_append, List.length_map, reps_len]
  rw [flat_len (es := z.length) fun x hx => hF x (List.mem_of_mem_take hx), List.length_take, Nat.min_eq_left h, ← Nat.add_mul]
  congr 1; omega
theorem over_mid {A old new rest : List D} (h : old.length = new.length) : over (A ++ (old ++ rest)) A.length new = A ++ (new ++ rest) := by
  have gen : (A ++ (old ++ rest)).take A.length ++ new ++ (A ++ (old ++ rest)).drop (A.length + new.length) = A ++ (new ++ rest) := by
    rw [List.take_left, ← h, ← List.drop_drop, List.drop_left, List.drop_left, List.append_assoc]
  match new, h with
  | [], h => exact gen
  | [d], h =>
    match old, h with
    | [o], _ => simp [over]
  | a :: b :: new, h => exact gen
theorem rowc_over {F : List Data} {z : List D} (hF : ∀ x ∈ F, x.cells.length = z.length) {i : Nat} (h : i < F.length) : over (rowc F z i) (i * z.length) (F[i].cells.map D.data) = rowc F z (i + 1) := by
  have e1 : F.length - i = (F.length - (i + 1)) + 1 := by omega
  have hA : ((flat (F.take i)).map D.data).length = i * z.length := by
    rw [List.length_map, flat_len (es := z.length) fun x hx => hF x (List.mem_of_mem_take hx), List.length_take, Nat.min_eq_left (by omega)]
  have e2 : flat (F.take (i + 1)) = flat (F.take i) ++ F[i].cells := by
    rw [List.take_add_one, List.getElem?_eq_getElem h, Option.toList_some]
    unfold flat
    rw [List.flatMap_append, List.flatMap_cons, List.flatMap_nil, List.append_nil]
  unfold rowc
  rw [e1, List.replicate_succ, List.flatten_cons, ← hA, over_mid (by rw [List.length_map, hF _ (List.getElem_mem h)]), e2, List.map_append, List.append_assoc]
def plainD : D → Bool
  | .data _ | .emp _ => true
  | _ => false
theorem renCells_plain {n : Nat} {ρ : Nat → Option Nat} {H : Nat → Blk} {cs ds : List D} (e : cs = ds) (h : cs.all plainD = true) : RenCells n ρ H cs ds := by
  subst e
  refine ⟨Nat.le_refl _, fun i c d hc hd => ?_⟩
  rw [hc] at hd; cases hd
  have := List.all_eq_true.1 h c (List.mem_of_getElem? hc)
  cases c with
  | data x => exact .data x
  | emp es => exact .emp es es
  | _ => cases this
theorem rowc_plain {F : List Data} {z : List D} (hz : z.all plainD = true) (i : Nat) : (rowc F z i).all plainD = true := by
  rw [List.all_eq_true] at hz ⊢
  intro c hc
  rcases List.mem_append.1 hc with hc | hc
  · obtain ⟨x, _, rfl⟩ := List.mem_map.1 hc
    rfl
  · obtain ⟨l, hl, hc⟩ := List.mem_flatten.1 hc
    rw [(List.mem_replicate.1 hl).2] at hc
    exact hz c hc
theorem renCells_rowc {n : Nat} {ρ : Nat → Option Nat} {H : Nat → Blk} {F : List Data} {z : List D} {i : Nat} {ds : List D} (hz : z.all plainD = true) (e : rowc F z i = ds) : RenCells n ρ H (rowc F z i) ds := renCells_plain e (rowc_plain hz i)
theorem renCells_set {n : Nat} {ρ : Nat → Option Nat} {H : Nat → Blk} {cs : List D} {i : Nat} {c d : D} (hp : cs.all plainD = true) (h : Ren n ρ H c d) : RenCells n ρ H (cs.set i c) (cs.set i d) := by
  refine ⟨by simp, fun j c' d' hc hd => ?_⟩
  rw [List.getElem?_set] at hc hd
  by_cases e : i = j
  · subst e
    by_cases hi : i < cs.length
    · simp [hi] at hc hd; subst hc; subst hd; exact h
    · simp [hi] at hc
  · simp only [e, if_false] at hc hd
    rw [hc] at hd; cases hd
    have := List.all_eq_true.1 hp c' (List.mem_of_getElem? hc)
    cases c' with
    | data x => exact .data x
    | emp es => exact .emp es es
    | _ => cases this
theorem over1 (cells : List D) (off : Nat) (a : D) : over cells off [a] = cells.set off a := rfl
theorem over2 (cells : List D) (off : Nat) (a b : D) : over cells off [a, b] = cells.take off ++ a :: b :: cells.drop (off + 2) := by simp [over]
theorem over3 (cells : List D) (off : Nat) (a b c : D) : over cells off [a, b, c] = cells.take off ++ a :: b :: c :: cells.drop (off + 3) := by simp [over]
theorem frz_aggL {ok : Bool} {H : Nat → Blk} {cs : List D} {xs : List Data} (h : FrzL ok H cs xs) : Frz ok H (.agg cs) (.agg xs) := .agg cs xs h.1 h.2
/-- A row of the call's own, handed to a callee that keeps it. -/
theorem call_keep {P : Program} {Γ : Nat → Option (List Data)} {f : FuncId} {ds : List D} {H : Nat → Blk} {K : D → List Nat → List (Nat × Blk) → Prop} (g : Nat) {rw : Bool} {cells : List D} {xs : List Data} {r : Data} (h : PC P Γ f xs r) (hg : H g = .blk rw cells)
    (hx : ∀ H' : Nat → Blk, H' g = .blk false cells → FrzL false H' ds xs) (k : K (.data r) [g] [(g, .blk false cells)]) : callK P Γ f ds H K := by
  refine call_frz [g] [g] (fun q hq => ⟨rw, cells, by simp at hq; subst hq; exact hg⟩) h (fun H' hH' => ?_) ?_
  · exact hx _ (by simp [Hp.upd, Hp.set, hg, fz])
  · simp only [List.map_cons, List.map_nil, hg, fz]
    exact k
/-- Bytes as a string. -/
def toStr (l : List Nat) : ByteArray := ⟨(l.map UInt8.ofNat).toArray⟩
theorem bys_u8 {l : List Nat} (h : ∀ x ∈ l, x < 256) : bys l = (l.map UInt8.ofNat).map (fun b => Data.int .u8 (b.toNat : Int)) := by
  unfold bys u8
  rw [List.map_map]
  refine List.map_congr_left fun x hx => ?_
  have := h x hx
  simp only [Function.comp, UInt8.toNat_ofNat']
  congr 1
  omega
theorem toStr_inj {l m : List Nat} (hl : ∀ x ∈ l, x < 256) (hm : ∀ x ∈ m, x < 256) : toStr l = toStr m ↔ l = m := by
  constructor
  · intro e
    have e2 : l.map UInt8.ofNat = m.map UInt8.ofNat := by simpa [toStr] using e
    have e3 := congrArg (List.map fun b : UInt8 => b.toNat) e2
    rw [List.map_map, List.map_map] at e3
    have k : ∀ q : List Nat, (∀ x ∈ q, x < 256) → q.map ((fun b : UInt8 => b.toNat) ∘ UInt8.ofNat) = q := fun q hq => by
      have : q.map ((fun b : UInt8 => b.toNat) ∘ UInt8.ofNat) = q.map id := List.map_congr_left fun x hx => by
        have := hq x hx
        simp only [Function.comp, UInt8.toNat_ofNat', id]
        omega
      rw [this, List.map_id]
    rwa [k l hl, k m hm] at e3
  · rintro rfl; rfl
theorem conv_bys {P : Program} {s d e : TypeId} {l : List Nat} {K : D → Prop} (hb : ∀ x ∈ l, x < 256) (ht : strT P d = true) (hs : sliceT P s = some e) (he : intT P e = some .u8) (k : K (.data (.str (toStr l)))) : convK P s d (.data (.sl 1 (bys l))) K :=
  ⟨rfl, ht, by simp only [hs]; exact he, _, bys_u8 hb, k⟩
theorem wf_nat {k : IntKind} {i : Int} (h : (Lit.int k i).wf = true) : k.min ≤ i ∧ i ≤ k.max := by simpa [Lit.wf] using h
section
variable {P : Program} {n : Nat} {t e : TypeId} {x : Data}
theorem arg_int {k : IntKind} (hu : P.underlying t = some (.int k)) (a : argD P (n + 1) t x) : ∃ i : Int, k.min ≤ i ∧ i ≤ k.max ∧ x = .int k i := by
  obtain ⟨ds, rfl, h⟩ := a
  simp only [okD, hu] at h
  obtain ⟨i, rfl, hw⟩ := h
  have := wf_nat hw
  exact ⟨i, this.1, this.2, by simp [mkE, hu]⟩
theorem arg_i64 (hu : P.underlying t = some (.int .i64)) (a : argD P (n + 1) t x) : ∃ i : Int, -9223372036854775808 ≤ i ∧ i ≤ 9223372036854775807 ∧ x = .int .i64 i := by
  obtain ⟨i, h1, h2, rfl⟩ := arg_int hu a
  simp [IntKind.min, IntKind.max, IntKind.signed, IntKind.bits] at h1 h2
  exact ⟨i, h1, h2, rfl⟩
theorem arg_nat {k : IntKind} (hk : k.signed = false) (hu : P.underlying t = some (.int k)) (a : argD P (n + 1) t x) : ∃ i : Nat, i < 2 ^ k.bits ∧ x = .int k i := by
  obtain ⟨i, h1, h2, rfl⟩ := arg_int hu a
  simp [IntKind.min, IntKind.max, hk] at h1 h2
  obtain ⟨j, rfl⟩ := Int.eq_ofNat_of_zero_le h1
  have : ((2 ^ k.bits : Nat) : Int) = 2 ^ k.bits := by simp
  exact ⟨j, by omega, rfl⟩
theorem arg_u8 (hu : P.underlying t = some (.int .u8)) (a : argD P (n + 1) t x) : ∃ i : Nat, i < 256 ∧ x = .int .u8 i := arg_nat rfl hu a
theorem arg_u16 (hu : P.underlying t = some (.int .u16)) (a : argD P (n + 1) t x) : ∃ i : Nat, i < 65536 ∧ x = .int .u16 i := arg_nat rfl hu a
theorem arg_u32 (hu : P.underlying t = some (.int .u32)) (a : argD P (n + 1) t x) : ∃ i : Nat, i < 4294967296 ∧ x = .int .u32 i := arg_nat rfl hu a
theorem arg_bool (hu : P.underlying t = some .bool) (a : argD P (n + 1) t x) : ∃ b : Bool, x = .bool b := by
  obtain ⟨ds, rfl, h⟩ := a
  simp only [okD, hu] at h
  obtain ⟨b, rfl⟩ := h
  exact ⟨b, by simp [mkE, hu]⟩
theorem nums_of {k : IntKind} (hk : k.signed = false) (hu : P.underlying e = some (.int k)) : ∀ l : List Data, (∀ x ∈ l, ∃ es, x = mkE P e es ∧ okD P (n + 1) e es) → ∃ m : List Nat, l = m.map (fun i : Nat => Data.int k i) ∧ ∀ b ∈ m, b < 2 ^ k.bits
  | [], _ => ⟨[], rfl, by simp⟩
  | y :: l, h => by
    obtain ⟨m, rfl, hm⟩ := nums_of hk hu l fun x hx => h x (by simp [hx])
    obtain ⟨i, hi, rfl⟩ := arg_nat hk hu (h y (by simp))
    exact ⟨i :: m, rfl, by simpa using ⟨hi, hm⟩⟩
theorem arg_bytes (hu : P.underlying t = some (.slice e)) (he : P.underlying e = some (.int .u8)) (hc : P.cellsOf e = 1) (a : argD P (n + 2) t x) : ∃ l : List Nat, (∀ b ∈ l, b < 256) ∧ l.length ≤ 140737488351232 ∧ x = .sl 1 (bys l) := by
  obtain ⟨ds, rfl, h⟩ := a
  simp only [okD, hu, hc] at h
  obtain ⟨l, rfl, hl, hx⟩ := h
  obtain ⟨m, rfl, hm⟩ := nums_of (n := n) (k := .u8) rfl he l hx
  exact ⟨m, hm, by simpa [reachBytes] using hl, by simp [mkE, hu, bys]; intro a _; rfl⟩
/-- An array of numbers. -/
theorem okA_nums {k : IntKind} (hk : k.signed = false) (hu : P.underlying e = some (.int k)) : ∀ (m : Nat) (ds : List Data), okA (okD P (n + 1) e) m ds → ∃ l : List Nat, l.length = m ∧ ds = l.map (fun i : Nat => Data.int k i) ∧ ∀ b ∈ l, b < 2 ^ k.bits
  | 0, ds, h => ⟨[], rfl, h, by simp⟩
  | m + 1, ds, h => by
    obtain ⟨a, b, rfl, h1, h2⟩ := h
    obtain ⟨l, rfl, rfl, hl⟩ := okA_nums hk hu m b h2
    simp only [okD, hu] at h1
    obtain ⟨i, rfl, hw⟩ := h1
    have := wf_nat hw
    simp [IntKind.min, IntKind.max, hk] at this
    obtain ⟨j, rfl⟩ := Int.eq_ofNat_of_zero_le this.1
    have e2 : ((2 ^ k.bits : Nat) : Int) = 2 ^ k.bits := by simp
    exact ⟨j :: l, rfl, rfl, by simpa using ⟨by omega, hl⟩⟩
theorem okA_bytes (hu : P.underlying e = some (.int .u8)) (m : Nat) (ds : List Data) (h : okA (okD P (n + 1) e) m ds) : ∃ l : List Nat, l.length = m ∧ (∀ b ∈ l, b < 256) ∧ ds = bys l := by
  obtain ⟨l, h1, rfl, h2⟩ := okA_nums (n := n) (k := .u8) rfl hu m ds h
  exact ⟨l, h1, h2, by simp [bys]; intro a _; rfl⟩
/-- An array of bytes. -/
theorem arg_abytes {m : Nat} (hu : P.underlying t = some (.array m e)) (he : P.underlying e = some (.int .u8)) (a : argD P (n + 2) t x) : ∃ l : List Nat, l.length = m ∧ (∀ b ∈ l, b < 256) ∧ x = .agg (bys l) := by
  obtain ⟨ds, rfl, h⟩ := a
  simp only [okD, hu] at h
  obtain ⟨l, h1, h2, rfl⟩ := okA_bytes (n := n) he m ds h
  exact ⟨l, h1, h2, by simp [mkE, hu]⟩
theorem arg_struct {fs : Array Field} (hu : P.underlying t = some (.struct fs)) (a : argD P (n + 1) t x) : ∃ ds, x = .agg ds ∧ okF (okD P n) fs.toList ds := by
  obtain ⟨ds, rfl, h⟩ := a
  simp only [okD, hu] at h
  exact ⟨ds, by simp [mkE, hu], h⟩
theorem okF_cons {o : TypeId → List Data → Prop} {f : Field} {fs : List Field} {ds : List Data} (h : okF o (f :: fs) ds) : ∃ a b, ds = a ++ b ∧ o f.type a ∧ okF o fs b := h
theorem okF_nil {o : TypeId → List Data → Prop} {ds : List Data} (h : okF o [] ds) : ds = [] := h
theorem ok_bytes {ds : List Data} (hu : P.underlying t = some (.slice e)) (he : P.underlying e = some (.int .u8)) (hc : P.cellsOf e = 1) (h : okD P (n + 2) t ds) : ∃ l : List Nat, (∀ b ∈ l, b < 256) ∧ l.length ≤ 140737488351232 ∧ ds = [.sl 1 (bys l)] := by
  unfold okD at h
  simp only [hu, hc] at h
  obtain ⟨l, rfl, hl, hx⟩ := h
  obtain ⟨m, rfl, hm⟩ := nums_of (n := n) (k := .u8) rfl he l hx
  exact ⟨m, hm, by simpa [reachBytes] using hl, by simp [bys]; intro a _; rfl⟩
theorem ok_abytes {m : Nat} {ds : List Data} (hu : P.underlying t = some (.array m e)) (he : P.underlying e = some (.int .u8)) (h : okD P (n + 2) t ds) : ∃ l : List Nat, l.length = m ∧ (∀ b ∈ l, b < 256) ∧ ds = bys l := by
  unfold okD at h
  simp only [hu] at h
  exact okA_bytes (n := n) he m ds h
theorem ok_anums {m : Nat} {k : IntKind} (hk : k.signed = false) {ds : List Data} (hu : P.underlying t = some (.array m e)) (he : P.underlying e = some (.int k)) (h : okD P (n + 2) t ds) : ∃ l : List Nat, l.length = m ∧ ds = l.map (fun i : Nat => Data.int k i) ∧ ∀ b ∈ l, b < 2 ^ k.bits := by
  unfold okD at h
  simp only [hu] at h
  exact okA_nums (n := n) hk he m ds h
theorem ok_int {k : IntKind} {ds : List Data} (hu : P.underlying t = some (.int k)) (h : okD P (n + 1) t ds) : ∃ i : Int, k.min ≤ i ∧ i ≤ k.max ∧ ds = [.int k i] := by
  unfold okD at h
  simp only [hu] at h
  obtain ⟨i, rfl, hw⟩ := h
  have := wf_nat hw
  exact ⟨i, this.1, this.2, rfl⟩
theorem ok_i64 {ds : List Data} (hu : P.underlying t = some (.int .i64)) (h : okD P (n + 1) t ds) : ∃ i : Int, -9223372036854775808 ≤ i ∧ i ≤ 9223372036854775807 ∧ ds = [.int .i64 i] := by
  obtain ⟨i, h1, h2, rfl⟩ := ok_int hu h
  simp [IntKind.min, IntKind.max, IntKind.signed, IntKind.bits] at h1 h2
  exact ⟨i, h1, h2, rfl⟩
/-- A slice, element by element. -/
theorem ok_slice {ds : List Data} (hu : P.underlying t = some (.slice e)) (h : okD P (n + 1) t ds) : ∃ l, ds = [.sl (P.cellsOf e) l] ∧ l.length ≤ 140737488351232 ∧ ∀ x ∈ l, argD P n e x := by
  unfold okD at h
  simp only [hu] at h
  obtain ⟨l, h1, h2, h3⟩ := h
  exact ⟨l, h1, by simpa [reachBytes] using h2, h3⟩
theorem arg_slice (hu : P.underlying t = some (.slice e)) (a : argD P (n + 1) t x) : ∃ l, x = .sl (P.cellsOf e) l ∧ l.length ≤ 140737488351232 ∧ ∀ x ∈ l, argD P n e x := by
  obtain ⟨ds, rfl, h⟩ := a
  obtain ⟨l, rfl, h1, h2⟩ := ok_slice hu h
  exact ⟨l, by simp [mkE, hu], h1, h2⟩
end
end Go.Proofs.Ytedcnbkhdkchoaa
