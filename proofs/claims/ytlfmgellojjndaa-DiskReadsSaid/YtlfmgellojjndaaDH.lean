/- Disks: what comes in; DiskDoes, DiskTwice. -/
import Derived.Test.YtlfmgellojjndaaDG
namespace Go.Proofs.Ytlfmgellojjndaa
open Go.RowKit
set_option linter.unusedVariables false
set_option linter.unusedSimpArgs false
theorem lift_list {α : Type} {f : α → Data} {p : α → Prop} : ∀ {l : List Data}, (∀ x ∈ l, ∃ a, p a ∧ x = f a) → ∃ m : List α, l = m.map f ∧ ∀ a ∈ m, p a
  | [], _ => ⟨[], rfl, by simp⟩
  | x :: l, h => by
    obtain ⟨a, ha, rfl⟩ := h x (by simp)
    obtain ⟨m, rfl, hm⟩ := lift_list (l := l) fun y hy => h y (by simp [hy])
    exact ⟨a :: m, rfl, by simpa using ⟨ha, hm⟩⟩
/-- What is known of a disk that comes in. -/
structure Din (s : List (List Nat)) (w : List Wr) : Prop where
  sn : s.length ≤ 140737488351232
  wn : w.length ≤ 140737488351232
  lt : ∀ b ∈ s, ∀ x ∈ b, x < 256
  wlt : ∀ p ∈ w, ∀ x ∈ p.2, x < 256
theorem ok_disk {n : Nat} {ds : List Data} (h : okD Try.prog (n + 5) 25 ds) : ∃ s w, Din s w ∧ ds = [.sl 1 (secs s), .sl 2 (wrs w)] := by
  unfold okD at h
  simp only [Try.underlying25] at h
  obtain ⟨d1, r1, rfl, h1, h⟩ := okF_cons h
  obtain ⟨d2, r2, rfl, h2, h⟩ := okF_cons h
  obtain rfl := okF_nil h
  obtain ⟨l, rfl, hl, he⟩ := ok_slice Try.underlying22 h1
  obtain ⟨v, rfl, hv, hf⟩ := ok_slice Try.underlying23 h2
  obtain ⟨s, rfl, hs⟩ := lift_list (f := sec) (p := fun b : List Nat => ∀ x ∈ b, x < 256) fun x hx => by
    obtain ⟨b, hb, _, rfl⟩ := arg_bytes Try.underlying26 Try.underlying5 (by kernel_rfl) (he x hx)
    exact ⟨b, hb, rfl⟩
  obtain ⟨w, rfl, hw⟩ := lift_list (f := wr) (p := fun q : Wr => ∀ x ∈ q.2, x < 256) fun x hx => by
    obtain ⟨ds, rfl, h⟩ := arg_struct Try.underlying47 (hf x hx)
    obtain ⟨d1, r1, rfl, h1, h⟩ := okF_cons h
    obtain ⟨d2, r2, rfl, h2, h⟩ := okF_cons h
    obtain rfl := okF_nil h
    obtain ⟨i, _, _, rfl⟩ := ok_i64 Try.underlying3 h1
    obtain ⟨b, hb, _, rfl⟩ := ok_bytes Try.underlying26 Try.underlying5 (by kernel_rfl) h2
    exact ⟨(i, b), hb, rfl⟩
  exact ⟨s, w, ⟨by simpa using hl, by simpa using hv, hs, hw⟩, by rw [show Try.prog.cellsOf 26 = 1 by kernel_rfl, show Try.prog.cellsOf 47 = 2 by kernel_rfl]; rfl⟩
theorem arg_disk {n : Nat} {x : Data} (a : argD Try.prog (n + 5) 25 x) : ∃ s w, Din s w ∧ x = dk s w := by
  obtain ⟨ds, rfl, h⟩ := a
  obtain ⟨s, w, hd, rfl⟩ := ok_disk h
  exact ⟨s, w, hd, by simp [mkE, Try.underlying25, dk]⟩
theorem ok_bools {n : Nat} {ds : List Data} (h : okD Try.prog (n + 2) 27 ds) : ∃ k : List Bool, k.length ≤ 140737488351232 ∧ ds = [.sl 1 (bools k)] := by
  obtain ⟨l, rfl, hl, he⟩ := ok_slice Try.underlying27 h
  obtain ⟨k, rfl, _⟩ := lift_list (f := Data.bool) (p := fun _ => True) fun x hx => by
    obtain ⟨b, rfl⟩ := arg_bool Try.underlying4 (he x hx)
    exact ⟨b, trivial, rfl⟩
  exact ⟨k, by simpa using hl, by rw [show Try.prog.cellsOf 4 = 1 by kernel_rfl]; rfl⟩
theorem arg_bools {n : Nat} {x : Data} (a : argD Try.prog (n + 2) 27 x) : ∃ k : List Bool, k.length ≤ 140737488351232 ∧ x = .sl 1 (bools k) := by
  obtain ⟨ds, rfl, h⟩ := a
  obtain ⟨k, hk, rfl⟩ := ok_bools h
  exact ⟨k, hk, by simp [mkE, Try.underlying27]⟩
theorem dok_of {s : List (List Nat)} {w : List Wr} (d : Din s w) (h1 : Sm s w) (h2 : Rt s w) : Dok s w where
  n := h2.1
  len := h2.2.1
  lt := d.lt
  wlen := fun p hp => (h2.2.2 p hp).2.2
  wat := fun p hp => by have := h2.2.2 p hp; omega
  wlt := d.wlt
  wn := by have := h1.2.1; omega
/-- A write's disk, and what is told. -/
theorem wrote_is {s : List (List Nat)} {w : List Wr} (h : Dok s w) (hn : w.length < 200) (a : Int) (b : List Nat) (hlt : ∀ x ∈ b, x < 256) : ∃ w' e, Dok s w' ∧ wrote s w a b = .tup [dk s w', .int .i64 e] := by
  unfold wrote
  cases hf : wrOk (a, b) with
  | true =>
    have hb : (0 ≤ a ∧ a < 64) ∧ b.length = 128 := by simpa [wrOk] using hf
    exact ⟨w ++ [(a, b)], 0, dok_add h hb.1 hb.2 hlt hn, by rw [if_pos rfl]⟩
  | false => exact ⟨w, 1, h, by rw [if_neg (by simp)]⟩
theorem readis {s : List (List Nat)} {w : List Wr} (h : Dok s w) (a : Int) : ∃ r e, r.length ≤ 128 ∧ (if 0 ≤ a ∧ a < 64 then Data.tup [.sl 1 (bys (std a (s.getD a.toNat []) w)), .int .i64 0] else .tup [.sl 1 [], .int .i64 1]) = Data.tup [.sl 1 (bys r), .int .i64 e] := by
  by_cases ha : 0 ≤ a ∧ a < 64
  · have hlt : a.toNat < s.length := by have := h.n; omega
    refine ⟨std a (s.getD a.toNat []) w, 0, Nat.le_of_eq (std_len ?_ h.wlen), by rw [if_pos ha]⟩
    rw [List.getD_eq_getElem?_getD, List.getElem?_eq_getElem hlt]
    exact h.len _ (List.getElem_mem hlt)
  · exact ⟨[], 1, by simp, by rw [if_neg ha]; rfl⟩
set_option maxRecDepth 100000 in
theorem does_pc (Γ : Nat → Option (List Data)) (s : List (List Nat)) (w : List Wr) (d : Din s w) (a : Int) (b : List Nat) (hlt : ∀ x ∈ b, x < 256) (hbl : b.length ≤ 140737488351232) (k : List Bool) (hkl : k.length ≤ 140737488351232) :
    PC Try.prog Γ 3 [.agg [.sl 1 (secs s), .sl 2 (wrs w), .int .i64 a, .sl 1 (bys b), .sl 1 (bools k)]] (.bool true) := by
  refine pc_by mixed Try.func3 rfl (fun args w => Try.call3 args w) ?_
  have hsm := rsmall_pc Γ s w d.sn d.wn
  have hrt := rright_pc Γ s w d.sn d.wn
  simp -implicitDefEqProofs (disch := omega) [go_sem]
  refine .inl (call_data (shown_pc Γ) (by simp [go_sem]) ?_)
  simp -implicitDefEqProofs (disch := omega) [go_sem]
  refine .inl (call_data hsm (by simp [go_sem, dk]) ?_)
  by_cases h1 : Sm s w
  · simp -implicitDefEqProofs (disch := omega) [go_sem, h1]
    refine .inl (call_data hrt (by simp [go_sem, dk]) ?_)
    by_cases h2 : Rt s w
    · by_cases h3 : b.length ≤ 200
      · by_cases h4 : k.length ≤ 100
        · have hok := dok_of d h1 h2
          have hwn := h1.2.1
          obtain ⟨w', e, hok', hw'⟩ := wrote_is hok (by omega) a b hlt
          obtain ⟨r, q, hrl, hr⟩ := readis hok a
          have c1 := write_pc Γ s w hok a b hbl
          have c2 := rwrite_pc Γ s w (by omega) a b hbl
          have c3 := read_pc Γ s w hok a
          have c4 := rread_pc Γ s w hok a
          rw [hw'] at c1 c2
          rw [hr] at c3 c4
          have c5 := rsame_pc Γ s s w' w' hok' hok'
          have c6 := row_pc Γ r r (by omega) (by omega)
          have c7 := flushes_pc Γ s w hok
          have c8 := rflush_pc Γ s w hok
          have okf := flush_ok hok (ws := w) (fun p hp => hp)
          have c9 := rsame_pc Γ _ _ _ _ okf okf
          have c10 := crash_pc Γ s w hok k (by omega)
          have c11 := rcrash_pc Γ s w hok k (by omega)
          have okc := flush_ok hok (ws := kept k 0 w) (kept_sub k w 0)
          have c12 := rsame_pc Γ _ _ _ _ okc okc
          simp only [and_self, decide_true] at c5 c6 c9 c12
          simp -implicitDefEqProofs (disch := omega) [go_sem, h2]
          refine .inl (call_data c1 (by simp [go_sem, dk]) ?_)
          simp -implicitDefEqProofs (disch := omega) [go_sem, dk]
          refine .inl (call_data c2 (by simp [go_sem, dk]) ?_)
          simp -implicitDefEqProofs (disch := omega) [go_sem, dk]
          refine .inl (call_data c3 (by simp [go_sem, dk]) ?_)
          simp -implicitDefEqProofs (disch := omega) [go_sem]
          refine .inl (call_data c4 (by simp [go_sem, dk]) ?_)
          simp -implicitDefEqProofs (disch := omega) [go_sem]
          refine .inl (call_data c5 (by simp [go_sem, dk]) ?_)
          simp -implicitDefEqProofs (disch := omega) [go_sem]
          refine .inl (call_data c6 (by simp [go_sem, dk]) ?_)
          simp -implicitDefEqProofs (disch := omega) [go_sem]
          refine call_data c7 (by simp [go_sem, dk]) ?_
          simp -implicitDefEqProofs (disch := omega) [go_sem]
          refine call_data c8 (by simp [go_sem, dk]) ?_
          simp -implicitDefEqProofs (disch := omega) [go_sem]
          refine call_data c9 (by simp [go_sem, dk]) ?_
          simp -implicitDefEqProofs (disch := omega) [go_sem]
          refine call_data c10 (by simp [go_sem, dk]) ?_
          simp -implicitDefEqProofs (disch := omega) [go_sem]
          refine call_data c11 (by simp [go_sem, dk]) ?_
          simp -implicitDefEqProofs (disch := omega) [go_sem]
          refine call_data c12 (by simp [go_sem, dk]) ?_
          simp -implicitDefEqProofs (disch := omega) [go_sem]
          refine side (by kernel_rfl) ?_
          simp -implicitDefEqProofs (disch := omega) [go_sem, Try.f3]
        · simp -implicitDefEqProofs (disch := omega) [go_sem, h2, Try.f3]
      · simp -implicitDefEqProofs (disch := omega) [go_sem, h2, Try.f3]
    · simp -implicitDefEqProofs (disch := omega) [go_sem, h2, Try.f3]
  · simp -implicitDefEqProofs (disch := omega) [go_sem, h1, Try.f3]
theorem law_DiskDoes (Γ : Nat → Option (List Data)) {x0 : Data} (a0 : argD Try.prog 8 29 x0) : PC Try.prog Γ 3 [x0] (.bool true) := by
  obtain ⟨ds, rfl, h⟩ := arg_struct Try.underlying29 a0
  obtain ⟨d1, r1, rfl, h1, h⟩ := okF_cons h
  obtain ⟨d2, r2, rfl, h2, h⟩ := okF_cons h
  obtain ⟨d3, r3, rfl, h3, h⟩ := okF_cons h
  obtain ⟨d4, r4, rfl, h4, h⟩ := okF_cons h
  obtain rfl := okF_nil h
  obtain ⟨s, w, d, rfl⟩ := ok_disk h1
  obtain ⟨a, _, _, rfl⟩ := ok_i64 Try.underlying3 h2
  obtain ⟨b, hb, lb, rfl⟩ := ok_bytes Try.underlying26 Try.underlying5 (by kernel_rfl) h3
  obtain ⟨k, hk, rfl⟩ := ok_bools h4
  exact does_pc Γ s w d a b hb lb k hk
end Go.Proofs.Ytlfmgellojjndaa
