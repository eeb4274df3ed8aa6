/- Code: a snapshot, read. Code: the document's own bound of books. Code: snapshots as the document writes them. (By genQF.py.) Code: names and records as the document reads them. Code: records as the document reads them. (By genQE.py.) Books: what the program asks of a book's sessions and users. (By genY.py.) Books: the last lines of all sessions, as a map has them; the ledger of a right book. Books: what the program says of any book, right or not. Code: many things read; snapshots read. (By genQB.py.) -/
import Derived.Test.YtdgklbbgbnapoaaPk11
namespace Go.Proofs.Ytdgklbbgbnapoaa
open Go.RowKit
set_option linter.unusedVariables false
set_option linter.unusedSimpArgs false
set_option maxRecDepth 100000
namespace Bk
/-- What a snapshot's bytes tell, whether right or not. -/
def bookQ (l : List Nat) : Option (Book × List Nat) := if l.length = 2048 then bnd (numP 4 l) fun next l => bnd (numP 1 l) fun no l => bnd (numP 1 l) fun ni l => bnd (numP 1 l) fun nl l =>
  bnd (manyP sessP no l) fun os l => bnd (manyP itemP ni l) fun is l => bnd (manyP lockP nl l) fun ls l => some (⟨next, os, is, ls⟩, l) else none
theorem bookB_split (b : Book) (y : List Nat) : bookB b ++ y = be 4 b.next.toNat ++ (be 1 b.opn.length ++ (be 1 b.items.length ++ (be 1 b.locks.length ++ (b.opn.flatMap sessB ++ (b.items.flatMap itemB ++ (b.locks.flatMap lockB ++ y)))))) := by
  simp only [bookB, List.append_assoc]
theorem bookQ_iff {l : List Nat} (hl : Bytes l) (b : Book) (r : List Nat) : bookQ l = some (b, r) ↔ l.length = 2048 ∧ l = bookB b ++ r ∧ BookFit b := by
  unfold bookQ
  constructor
  · intro h
    split at h
    rotate_left
    · cases h
    rename_i hlen
    simp only [bnd_some, Option.some.injEq, Prod.mk.injEq] at h
    obtain ⟨next, l1, h1, no, l2, h2, ni, l3, h3, nl, l4, h4, os, l5, h5, is, l6, h6, ls, l7, h7, rfl, rfl⟩ := h
    obtain ⟨e1, q1⟩ := (numP_iff hl _ _).1 h1
    subst e1
    have b1 := (bytes_app.1 hl).2
    obtain ⟨e2, q2⟩ := (numP_iff b1 _ _).1 h2
    subst e2
    have b2 := (bytes_app.1 b1).2
    obtain ⟨e3, q3⟩ := (numP_iff b2 _ _).1 h3
    subst e3
    have b3 := (bytes_app.1 b2).2
    obtain ⟨e4, q4⟩ := (numP_iff b3 _ _).1 h4
    subst e4
    have b4 := (bytes_app.1 b3).2
    obtain ⟨e5, q5, q5'⟩ := (manyP_iff (enc := sessB) (ok := SessFit) (fun h x r => sessP_iff h x r) no b4 _ _).1 h5
    subst e5
    have b5 := (bytes_app.1 b4).2
    obtain ⟨e6, q6, q6'⟩ := (manyP_iff (enc := itemB) (ok := ItemFit) (fun h x r => itemP_iff h x r) ni b5 _ _).1 h6
    subst e6
    have b6 := (bytes_app.1 b5).2
    obtain ⟨e7, q7, q7'⟩ := (manyP_iff (enc := lockB) (ok := LockFit) (fun h x r => lockP_iff h x r) nl b6 _ _).1 h7
    subst e7
    subst q5
    subst q6
    subst q7
    refine ⟨hlen, ?_, fit_nat q1, by omega, by omega, by omega, q5', q6', q7'⟩
    rw [bookB_split]
    rfl
  · rintro ⟨hlen, rfl, hf⟩
    rw [if_pos hlen]
    rw [bookB_split] at hl ⊢
    obtain ⟨f1, f2, f3, f4, f5, f6, f7⟩ := hf
    have b1 := (bytes_app.1 hl).2
    have b2 := (bytes_app.1 b1).2
    have b3 := (bytes_app.1 b2).2
    have b4 := (bytes_app.1 b3).2
    have b5 := (bytes_app.1 b4).2
    have b6 := (bytes_app.1 b5).2
    have e1 := f1.eq
    rw [(numP_iff hl _ _).2 ⟨rfl, f1.lt⟩]
    simp only [bnd]
    rw [(numP_iff b1 _ _).2 ⟨rfl, by omega⟩]
    simp only
    rw [(numP_iff b2 _ _).2 ⟨rfl, by omega⟩]
    simp only
    rw [(numP_iff b3 _ _).2 ⟨rfl, by omega⟩]
    simp only
    rw [(manyP_iff (enc := sessB) (ok := SessFit) (fun h x r => sessP_iff h x r) _ b4 _ _).2 ⟨rfl, rfl, f5⟩]
    simp only
    rw [(manyP_iff (enc := itemB) (ok := ItemFit) (fun h x r => itemP_iff h x r) _ b5 _ _).2 ⟨rfl, rfl, f6⟩]
    simp only
    rw [(manyP_iff (enc := lockB) (ok := LockFit) (fun h x r => lockP_iff h x r) _ b6 _ _).2 ⟨rfl, rfl, f7⟩]
    simp only
    rw [e1]
/-- A snapshot is bytes. -/
theorem sessB_bytes {s : Sess} (h : s.user.size ≤ 16) : Bytes (sessB s) := by
  unfold sessB
  simp only [bytes_app]
  exact ⟨be_bytes _ _, be_bytes _ _, be_bytes _ _, nameB_bytes h, be_bytes _ _, be_bytes _ _⟩
theorem itemB_bytes (s : Item) : Bytes (itemB s) := by
  unfold itemB
  simp only [bytes_app]
  exact ⟨be_bytes _ _, be_bytes _ _, be_bytes _ _, be_bytes _ _, be_bytes _ _⟩
theorem lockB_bytes {s : Lock} (h : s.user.size ≤ 16) : Bytes (lockB s) := by
  unfold lockB
  simp only [bytes_app]
  exact ⟨nameB_bytes h, be_bytes _ _, be_bytes _ _⟩
theorem bookB_bytes {b : Book} (h : BookFit b) : Bytes (bookB b) := by
  unfold bookB
  simp only [bytes_app]
  refine ⟨be_bytes _ _, be_bytes _ _, be_bytes _ _, be_bytes _ _, fun x hx => ?_, fun x hx => ?_, fun x hx => ?_⟩
  · obtain ⟨s, hs, hx⟩ := List.mem_flatMap.1 hx
    exact sessB_bytes (h.opn s hs).user x hx
  · obtain ⟨s, hs, hx⟩ := List.mem_flatMap.1 hx
    exact itemB_bytes s x hx
  · obtain ⟨s, hs, hx⟩ := List.mem_flatMap.1 hx
    exact lockB_bytes (h.locks s hs).user x hx
/-- What is written as a snapshot is read as that book. -/
theorem book_back {b : Book} (h : BookFit b) (h2 : (bookB b).length ≤ 2048) : bookQ (padB 2048 (bookB b)) = some (b, List.replicate (2048 - (bookB b).length) 0) :=
  (bookQ_iff (padB_bytes (bookB_bytes h)) _ _).2 ⟨padB_length h2, rfl, h⟩
/-- A snapshot's bytes tell the book. -/
theorem book_apart {b c : Book} (hb : BookFit b) (hb2 : (bookB b).length ≤ 2048) (hc : BookFit c) (hc2 : (bookB c).length ≤ 2048) (e : padB 2048 (bookB b) = padB 2048 (bookB c)) : b = c := by
  have e1 := book_back hb hb2
  have e2 := book_back hc hc2
  rw [e, e2] at e1
  simp only [Option.some.injEq, Prod.mk.injEq] at e1
  exact e1.1.symm
/-- What a snapshot's bytes tell, with noughts behind it, has these bytes. -/
theorem book_forth {l : List Nat} (hl : Bytes l) {b : Book} {r : List Nat} (h : bookQ l = some (b, r)) (hz : ∀ x ∈ r, x = 0) : l = padB 2048 (bookB b) := by
  obtain ⟨h1, h2, h3⟩ := (bookQ_iff hl _ _).1 h
  rw [zeros_eq] at hz
  rw [h2, List.length_append] at h1
  rw [h2]
  unfold padB
  rw [hz, show 2048 - (bookB b).length = r.length by omega]
end Bk
end Go.Proofs.Ytdgklbbgbnapoaa
namespace Go.Proofs.Ytdgklbbgbnapoaa
open Go.RowKit
set_option linter.unusedVariables false
set_option linter.unusedSimpArgs false
set_option maxRecDepth 100000
namespace Bk
structure SmallP (b : Book) : Prop where
  o : b.opn.length ≤ 70
  i : b.items.length ≤ 70
  l : b.locks.length ≤ 70
  ou : ∀ (j : Nat) (h : j < b.opn.length), b.opn[j].user.size ≤ 50
  lu : ∀ (j : Nat) (h : j < b.locks.length), b.locks[j].user.size ≤ 50
section
variable (Γ : Nat → Option (List Data))
set_option maxHeartbeats 4000000 in
theorem small_pc (b : Book) (hb : Fits b) {q : Bool} (hq : q = true ↔ SmallP b) : PC Try.prog Γ 16 [book b] (.bool q) := by
  refine pc_by mixed Try.func16 rfl (fun args w => Try.call16 args w) ?_
  obtain ⟨b1, b2, b3, b4, b5⟩ := hb
  have no : ¬ SmallP b → q = false := fun h => by
    cases q
    · rfl
    · exact absurd (hq.1 rfl) h
  have yes : SmallP b → q = true := hq.2
  clear hq
  unfold book
  by_cases h1 : 70 < b.opn.length
  · have hv := no fun h => by have := h.o; omega
    simp -implicitDefEqProofs (disch := omega) [go_sem, h1, hv, Try.f16]
  by_cases h2 : 70 < b.items.length
  · have hv := no fun h => by have := h.i; omega
    simp -implicitDefEqProofs (disch := omega) [go_sem, h1, h2, hv, Try.f16]
  by_cases h3 : 70 < b.locks.length
  · have hv := no fun h => by have := h.l; omega
    simp -implicitDefEqProofs (disch := omega) [go_sem, h1, h2, h3, hv, Try.f16]
  simp -implicitDefEqProofs (disch := omega) [go_sem, h1, h2, h3]
  refine loop_ren (σ := { i : Nat // i ≤ b.opn.length ∧ ∀ (j : Nat) (h : j < b.opn.length), j < i → b.opn[j].user.size ≤ 50 }) (fun i => ⟨envL [(1, .ptr 0 0), (3, .data (.int .i64 i.1))], hpL [(0, .blk true [.data (.int .i64 b.next), .data (.sl 6 (sesss b.opn)), .data (.sl 5 (items b.items)), .data (.sl 3 (locks b.locks))])], 1, 0, 51⟩) (fun i => b.opn.length - i.1) ⟨0, by omega, by omega⟩ [] (rhoL [(0, some 0)]) ?_ ?_
  · apply ren_lists <;> simp -implicitDefEqProofs [go_sem]
    all_goals exact renCells_plain rfl (by simp [plainD])
  rintro ⟨i, hi, hall⟩
  by_cases h : i < b.opn.length
  · have hu := b4 _ (List.getElem_mem h)
    by_cases e : 50 < b.opn[i].user.size
    · have hv := no fun k => by have := k.ou i h; omega
      generalize hsi : b.opn[i] = s at *
      simp -implicitDefEqProofs (disch := omega) [go_sem, hsi, sess, e, hv, Try.f16]
    · have hall2 : ∀ (j : Nat) (hj : j < b.opn.length), j < i + 1 → b.opn[j].user.size ≤ 50 := fun j hj hl => if e2 : j = i then by subst e2; omega else hall j hj (by omega)
      generalize hsi : b.opn[i] = s at *
      simp -implicitDefEqProofs (disch := omega) [go_sem, hsi, sess, e]
      refine next_ren ⟨i + 1, by omega, hall2⟩ (by simp only; omega) [] (rhoL [(0, some 0)]) ?_
      apply ren_lists <;> simp -implicitDefEqProofs [go_sem]
      all_goals exact renCells_plain rfl (by simp [plainD])
  have hi2 : i = b.opn.length := by omega
  subst hi2
  have ho : ∀ (j : Nat) (h : j < b.opn.length), b.opn[j].user.size ≤ 50 := fun j hj => hall j hj hj
  simp -implicitDefEqProofs (disch := omega) [go_sem]
  refine loop_ren (σ := { i : Nat // i ≤ b.locks.length ∧ ∀ (j : Nat) (h : j < b.locks.length), j < i → b.locks[j].user.size ≤ 50 }) (fun i => ⟨envL [(1, .ptr 0 0), (4, .data (.int .i64 i.1))], hpL [(0, .blk true [.data (.int .i64 b.next), .data (.sl 6 (sesss b.opn)), .data (.sl 5 (items b.items)), .data (.sl 3 (locks b.locks))])], 1, 0, 51⟩) (fun i => b.locks.length - i.1) ⟨0, by omega, by omega⟩ [] (rhoL [(0, some 0)]) ?_ ?_
  · apply ren_lists <;> simp -implicitDefEqProofs [go_sem]
    all_goals exact renCells_plain rfl (by simp [plainD])
  rintro ⟨i, hi, hall⟩
  by_cases h : i < b.locks.length
  · have hu := b5 _ (List.getElem_mem h)
    by_cases e : 50 < b.locks[i].user.size
    · have hv := no fun k => by have := k.lu i h; omega
      generalize hsi : b.locks[i] = s at *
      simp -implicitDefEqProofs (disch := omega) [go_sem, hsi, lock, e, hv, Try.f16]
    · have hall2 : ∀ (j : Nat) (hj : j < b.locks.length), j < i + 1 → b.locks[j].user.size ≤ 50 := fun j hj hl => if e2 : j = i then by subst e2; omega else hall j hj (by omega)
      generalize hsi : b.locks[i] = s at *
      simp -implicitDefEqProofs (disch := omega) [go_sem, hsi, lock, e]
      refine next_ren ⟨i + 1, by omega, hall2⟩ (by simp only; omega) [] (rhoL [(0, some 0)]) ?_
      apply ren_lists <;> simp -implicitDefEqProofs [go_sem]
      all_goals exact renCells_plain rfl (by simp [plainD])
  have hi2 : i = b.locks.length := by omega
  subst hi2
  have hv := yes ⟨by omega, by omega, by omega, ho, fun j hj => hall j hj hj⟩
  simp -implicitDefEqProofs (disch := omega) [go_sem, hv, Try.f16]
end
end Bk
end Go.Proofs.Ytdgklbbgbnapoaa
namespace Go.Proofs.Ytdgklbbgbnapoaa
open Go.RowKit
set_option linter.unusedVariables false
set_option linter.unusedSimpArgs false
set_option maxRecDepth 100000
namespace Bk
section
variable (Γ : Nat → Option (List Data))
theorem named_eff {q : List Nat} {u : ByteArray} (hq : q.length ≤ 1000000) (hu : u.size ≤ 16) {H : Nat → Blk} {fr g : Nat} {K : D → List Nat → List (Nat × Blk) → Nat → Prop} {m : Nat} (hm : m = q.length) (hg : H g = .blk true ((bys q).map D.data)) (hgn : g ≠ fr)
    (h : K (.ref fr 0 (q.length + 17) 1) [] [(g, .dead), (fr, .blk true ((bys (q ++ nameB u)).map D.data))] 1) : effC Try.prog Γ 32 [.ref g 0 m 1, .data (.str u)] H fr K := by
  subst hm
  exact eff_given (cells := bys q) (rnamed_dc Γ q u hq hu) hg hgn (by simp) h
theorem flat_snoc {α : Type} (e : α → List Nat) (l : List α) (i : Nat) (h : i < l.length) : (l.take (i + 1)).flatMap e = (l.take i).flatMap e ++ e l[i] := by
  rw [List.take_succ_eq_append_getElem h, List.flatMap_append]
  simp
theorem flat_len_le {α : Type} {e : α → List Nat} {n : Nat} {l : List α} (h : ∀ x ∈ l, (e x).length = n) (i : Nat) : ((l.take i).flatMap e).length ≤ n * l.length := by
  rw [flatMap_length (n := n) fun x hx => h x (List.mem_of_mem_take hx), List.length_take]
  exact Nat.mul_le_mul_left _ (Nat.min_le_right _ _)
def cntB (b : Book) : List Nat := be 4 b.next.toNat ++ [b.opn.length, b.items.length, b.locks.length]
theorem bookB_parts {b : Book} (h1 : b.opn.length < 256) (h2 : b.items.length < 256) (h3 : b.locks.length < 256) : bookB b = cntB b ++ b.opn.flatMap sessB ++ b.items.flatMap itemB ++ b.locks.flatMap lockB := by
  unfold bookB cntB
  rw [be_one h1, be_one h2, be_one h3]
  simp
set_option maxHeartbeats 16000000 in
theorem rbookBytes_pc (b : Book) (hb : Fits b) (ht : b.Ty) {q : Bool} (hq : q = true ↔ RightP b) : PC Try.prog Γ 18 [book b] (if q = true then .tup [.sl 1 (bys (padB 2048 (bookB b))), .int .i64 0] else .tup [.sl 1 [], .int .i64 1]) := by
  have cr := right_pc Γ b hb hq
  refine pc_by mixed Try.func18 rfl (fun args w => Try.call18 args w) ?_
  unfold book at cr ⊢
  simp -implicitDefEqProofs (disch := omega) [go_sem]
  refine .inl (call_data cr (by simp [go_sem]) ?_)
  cases q with
  | false =>
    simp -implicitDefEqProofs (disch := omega) [go_sem, Try.f18]
    exact ⟨_, ⟨_, rfl, .emp ..⟩, rfl⟩
  | true =>
  have hr := hq.1 rfl
  have hf := hr.bfit ht
  have h8 := hr.opn8
  have hl1 := hr.len
  have hl2 := hr.ll
  have hlen := bookB_length hf
  have hparts := bookB_parts hf.nopn hf.nitems hf.nlocks
  obtain ⟨q0, q1, q2, q3, q4, q5, q6⟩ := hf
  clear hq hr hb ht cr
  obtain ⟨n, hn⟩ : ∃ n : Nat, b.next = n := ⟨b.next.toNat, by unfold Fit at q0; omega⟩
  have hnt : b.next.toNat = n := by omega
  have e0 : (b.next % 18446744073709551616) = (n : Int) := by unfold Fit at q0; omega
  have en : n < 18446744073709551616 := by unfold Fit at q0; omega
  have eo : ((b.opn.length : Int) % 256) = b.opn.length := by omega
  have ei : ((b.items.length : Int) % 256) = b.items.length := by omega
  have el : ((b.locks.length : Int) % 256) = b.locks.length := by omega
  simp -implicitDefEqProofs (disch := omega) [go_sem, e0]
  refine .inr (dc_nil (es := 1) ?_ (by simp))
  refine put_given Γ (q := []) (k := 4) (by simp) (by omega) en rfl (by simp [go_sem, bys]) (by simp) ?_
  simp -implicitDefEqProofs (disch := omega) [go_sem, be_length, eo, ei, el]
  have hw1 : ∀ i : Nat, (cntB b ++ (b.opn.take i).flatMap sessB).length ≤ 7 + 42 * 8 := fun i => by
    have := flat_len_le (e := sessB) (n := 42) (l := b.opn) (fun s hs => sessB_length (q4 s hs)) i
    simp only [cntB, List.length_append, be_length, List.length_cons, List.length_nil]
    omega

  refine loop_ren (σ := { i : Nat // i ≤ b.opn.length }) (fun i => ⟨envL [(1, .ptr 0 0), (5, .ref 1 0 (cntB b ++ (b.opn.take i.1).flatMap sessB).length 1), (6, .data (.int .i64 i.1))], hpL [(0, .blk true [.data (.int .i64 b.next), .data (.sl 6 (sesss b.opn)), .data (.sl 5 (items b.items)), .data (.sl 3 (locks b.locks))]), (1, .blk true ((bys (cntB b ++ (b.opn.take i.1).flatMap sessB)).map D.data))], 2, 0, 128⟩) (fun i => b.opn.length - i.1) ⟨0, by omega⟩ [] (rhoL [(0, some 0), (1, some 28)]) ?_ ?_
  · apply ren_lists <;> simp -implicitDefEqProofs [go_sem, cntB, be_length, hnt]
    all_goals exact renCells_plain (by simp [bys, u8]) (by simp [plainD])
  rintro ⟨i, hi⟩
  by_cases h : i < b.opn.length
  · have hwi := hw1 i
    have hs := flat_snoc sessB b.opn i h
    have hs2 : cntB b ++ (b.opn.take (i + 1)).flatMap sessB = (cntB b ++ (b.opn.take i).flatMap sessB) ++ sessB b.opn[i] := by rw [hs, List.append_assoc]
    clear hs
    have hfi := q4 _ (List.getElem_mem h)
    generalize hqw : cntB b ++ (b.opn.take i).flatMap sessB = pw at *
    generalize hsi : b.opn[i] = s at *
    obtain ⟨id, link, addr, user, inn, out⟩ := s
    obtain ⟨f_id, f_link, f_addr, f_user, f_inn, f_out⟩ := hfi
    simp only [Fit] at f_id f_link f_addr f_user f_inn f_out
    obtain ⟨id, rfl⟩ : ∃ y : Nat, id = y := ⟨id.toNat, by omega⟩
    have e_id : (id : Int) % 18446744073709551616 = id := by omega
    obtain ⟨link, rfl⟩ : ∃ y : Nat, link = y := ⟨link.toNat, by omega⟩
    have e_link : (link : Int) % 18446744073709551616 = link := by omega
    obtain ⟨addr, rfl⟩ : ∃ y : Nat, addr = y := ⟨addr.toNat, by omega⟩
    have e_addr : (addr : Int) % 18446744073709551616 = addr := by omega
    obtain ⟨inn, rfl⟩ : ∃ y : Nat, inn = y := ⟨inn.toNat, by omega⟩
    have e_inn : (inn : Int) % 18446744073709551616 = inn := by omega
    obtain ⟨out, rfl⟩ : ∃ y : Nat, out = y := ⟨out.toNat, by omega⟩
    have e_out : (out : Int) % 18446744073709551616 = out := by omega
    simp -implicitDefEqProofs (disch := omega) [go_sem, hsi, sess, e_id, e_link, e_addr, e_inn, e_out]
    refine .inr (put_eff Γ (q := pw) (n := id) (k := 4) (by omega) (by omega) (by omega) rfl (by simp [go_sem, bys]) (by simp) ?_)
    simp -implicitDefEqProofs (disch := omega) [go_sem, e_id, e_link, e_addr, e_inn, e_out]
    refine .inr (put_eff Γ (q := pw ++ be 4 id) (n := link) (k := 1) (by simp [be_length, nameB_length f_user]; omega) (by omega) (by omega) (by simp [be_length, nameB_length f_user]) (by simp [go_sem, bys]) (by simp) ?_)
    simp -implicitDefEqProofs (disch := omega) [go_sem, e_id, e_link, e_addr, e_inn, e_out]
    refine .inr (put_eff Γ (q := pw ++ be 4 id ++ be 1 link) (n := addr) (k := 4) (by simp [be_length, nameB_length f_user]; omega) (by omega) (by omega) (by simp [be_length, nameB_length f_user]) (by simp [go_sem, bys]) (by simp) ?_)
    simp -implicitDefEqProofs (disch := omega) [go_sem, e_id, e_link, e_addr, e_inn, e_out]
    refine side (by kernel_rfl) ?_
    simp -implicitDefEqProofs (disch := omega) [go_sem, e_id, e_link, e_addr, e_inn, e_out]
    refine .inr (named_eff Γ (q := pw ++ be 4 id ++ be 1 link ++ be 4 addr) (u := user) (by simp [be_length, nameB_length f_user]; omega) f_user (by simp [be_length, nameB_length f_user]) (by simp [go_sem, bys]) (by simp) ?_)
    simp -implicitDefEqProofs (disch := omega) [go_sem, e_id, e_link, e_addr, e_inn, e_out]
    refine .inr (put_eff Γ (q := pw ++ be 4 id ++ be 1 link ++ be 4 addr ++ nameB user) (n := inn) (k := 8) (by simp [be_length, nameB_length f_user]; omega) (by omega) (by omega) (by simp [be_length, nameB_length f_user]) (by simp [go_sem, bys]) (by simp) ?_)
    simp -implicitDefEqProofs (disch := omega) [go_sem, e_id, e_link, e_addr, e_inn, e_out]
    refine .inr (put_eff Γ (q := pw ++ be 4 id ++ be 1 link ++ be 4 addr ++ nameB user ++ be 8 inn) (n := out) (k := 8) (by simp [be_length, nameB_length f_user]; omega) (by omega) (by omega) (by simp [be_length, nameB_length f_user]) (by simp [go_sem, bys]) (by simp) ?_)
    simp -implicitDefEqProofs (disch := omega) [go_sem, e_id, e_link, e_addr, e_inn, e_out]
    refine side (by kernel_rfl) ?_
    simp -implicitDefEqProofs (disch := omega) [go_sem, e_id, e_link, e_addr, e_inn, e_out]
    have hend : pw ++ be 4 id ++ be 1 link ++ be 4 addr ++ nameB user ++ be 8 inn ++ be 8 out = pw ++ sessB ⟨(id : Nat), (link : Nat), (addr : Nat), user, (inn : Nat), (out : Nat)⟩ := by simp [sessB]
    refine next_ren ⟨i + 1, by omega⟩ (by simp only; omega) [] (rhoL [(0, some 0), (1, some 37)]) ?_
    rw [hend]
    apply ren_lists <;> simp -implicitDefEqProofs [go_sem, hs2]
    all_goals simp [be_length, sessB, nameB_length f_user]
  obtain rfl : i = b.opn.length := by omega
  have hwi := hw1 b.opn.length
  rw [List.take_length] at hwi
  simp only [List.take_length]
  generalize hp1 : cntB b ++ b.opn.flatMap sessB = p1 at *
  simp -implicitDefEqProofs (disch := omega) [go_sem]
  have hw2 : ∀ i : Nat, (p1 ++ (b.items.take i).flatMap itemB).length ≤ 7 + 42 * 8 + 22 * 60 := fun i => by
    have := flat_len_le (e := itemB) (n := 22) (l := b.items) (fun s hs => itemB_length s) i
    simp only [List.length_append]
    omega

  refine loop_ren (σ := { i : Nat // i ≤ b.items.length }) (fun i => ⟨envL [(1, .ptr 0 0), (5, .ref 1 0 (p1 ++ (b.items.take i.1).flatMap itemB).length 1), (8, .data (.int .i64 i.1))], hpL [(0, .blk true [.data (.int .i64 b.next), .data (.sl 6 (sesss b.opn)), .data (.sl 5 (items b.items)), .data (.sl 3 (locks b.locks))]), (1, .blk true ((bys (p1 ++ (b.items.take i.1).flatMap itemB)).map D.data))], 2, 0, 128⟩) (fun i => b.items.length - i.1) ⟨0, by omega⟩ [] (rhoL [(0, some 0), (1, some 1)]) ?_ ?_
  · apply ren_lists <;> simp -implicitDefEqProofs [go_sem]
    all_goals exact renCells_plain (by simp [bys, u8]) (by simp [plainD])
  rintro ⟨i, hi⟩
  by_cases h : i < b.items.length
  · have hwi := hw2 i
    have hs := flat_snoc itemB b.items i h
    have hs2 : p1 ++ (b.items.take (i + 1)).flatMap itemB = (p1 ++ (b.items.take i).flatMap itemB) ++ itemB b.items[i] := by rw [hs, List.append_assoc]
    clear hs
    have hfi := q5 _ (List.getElem_mem h)
    generalize hqw : p1 ++ (b.items.take i).flatMap itemB = pw at *
    generalize hsi : b.items[i] = s at *
    obtain ⟨kind, id, inn, out, cause⟩ := s
    obtain ⟨f_kind, f_id, f_inn, f_out, f_cause⟩ := hfi
    simp only [Fit] at f_kind f_id f_inn f_out f_cause
    obtain ⟨kind, rfl⟩ : ∃ y : Nat, kind = y := ⟨kind.toNat, by omega⟩
    have e_kind : (kind : Int) % 18446744073709551616 = kind := by omega
    obtain ⟨id, rfl⟩ : ∃ y : Nat, id = y := ⟨id.toNat, by omega⟩
    have e_id : (id : Int) % 18446744073709551616 = id := by omega
    obtain ⟨inn, rfl⟩ : ∃ y : Nat, inn = y := ⟨inn.toNat, by omega⟩
    have e_inn : (inn : Int) % 18446744073709551616 = inn := by omega
    obtain ⟨out, rfl⟩ : ∃ y : Nat, out = y := ⟨out.toNat, by omega⟩
    have e_out : (out : Int) % 18446744073709551616 = out := by omega
    obtain ⟨cause, rfl⟩ : ∃ y : Nat, cause = y := ⟨cause.toNat, by omega⟩
    have e_cause : (cause : Int) % 18446744073709551616 = cause := by omega
    simp -implicitDefEqProofs (disch := omega) [go_sem, hsi, item, e_kind, e_id, e_inn, e_out, e_cause]
    refine .inr (put_eff Γ (q := pw) (n := kind) (k := 1) (by omega) (by omega) (by omega) rfl (by simp [go_sem, bys]) (by simp) ?_)
    simp -implicitDefEqProofs (disch := omega) [go_sem, e_kind, e_id, e_inn, e_out, e_cause]
    refine .inr (put_eff Γ (q := pw ++ be 1 kind) (n := id) (k := 4) (by simp [be_length]; omega) (by omega) (by omega) (by simp [be_length]) (by simp [go_sem, bys]) (by simp) ?_)
    simp -implicitDefEqProofs (disch := omega) [go_sem, e_kind, e_id, e_inn, e_out, e_cause]
    refine side (by kernel_rfl) ?_
    simp -implicitDefEqProofs (disch := omega) [go_sem, e_kind, e_id, e_inn, e_out, e_cause]
    refine .inr (put_eff Γ (q := pw ++ be 1 kind ++ be 4 id) (n := inn) (k := 8) (by simp [be_length]; omega) (by omega) (by omega) (by simp [be_length]) (by simp [go_sem, bys]) (by simp) ?_)
    simp -implicitDefEqProofs (disch := omega) [go_sem, e_kind, e_id, e_inn, e_out, e_cause]
    refine .inr (put_eff Γ (q := pw ++ be 1 kind ++ be 4 id ++ be 8 inn) (n := out) (k := 8) (by simp [be_length]; omega) (by omega) (by omega) (by simp [be_length]) (by simp [go_sem, bys]) (by simp) ?_)
    simp -implicitDefEqProofs (disch := omega) [go_sem, e_kind, e_id, e_inn, e_out, e_cause]
    refine .inr (put_eff Γ (q := pw ++ be 1 kind ++ be 4 id ++ be 8 inn ++ be 8 out) (n := cause) (k := 1) (by simp [be_length]; omega) (by omega) (by omega) (by simp [be_length]) (by simp [go_sem, bys]) (by simp) ?_)
    simp -implicitDefEqProofs (disch := omega) [go_sem, e_kind, e_id, e_inn, e_out, e_cause]
    refine side (by kernel_rfl) ?_
    simp -implicitDefEqProofs (disch := omega) [go_sem, e_kind, e_id, e_inn, e_out, e_cause]
    have hend : pw ++ be 1 kind ++ be 4 id ++ be 8 inn ++ be 8 out ++ be 1 cause = pw ++ itemB ⟨(kind : Nat), (id : Nat), (inn : Nat), (out : Nat), (cause : Nat)⟩ := by simp [itemB]
    refine next_ren ⟨i + 1, by omega⟩ (by simp only; omega) [] (rhoL [(0, some 0), (1, some 34)]) ?_
    rw [hend]
    apply ren_lists <;> simp -implicitDefEqProofs [go_sem, hs2]
    all_goals simp [be_length, itemB]
  obtain rfl : i = b.items.length := by omega
  have hwi := hw2 b.items.length
  rw [List.take_length] at hwi
  simp only [List.take_length]
  generalize hp2 : p1 ++ b.items.flatMap itemB = p2 at *
  simp -implicitDefEqProofs (disch := omega) [go_sem]
  have hw3 : ∀ i : Nat, (p2 ++ (b.locks.take i).flatMap lockB).length ≤ 7 + 42 * 8 + 22 * 60 + 22 * 8 := fun i => by
    have := flat_len_le (e := lockB) (n := 22) (l := b.locks) (fun s hs => lockB_length (q6 s hs)) i
    simp only [List.length_append]
    omega

  refine loop_ren (σ := { i : Nat // i ≤ b.locks.length }) (fun i => ⟨envL [(1, .ptr 0 0), (5, .ref 1 0 (p2 ++ (b.locks.take i.1).flatMap lockB).length 1), (10, .data (.int .i64 i.1))], hpL [(0, .blk true [.data (.int .i64 b.next), .data (.sl 6 (sesss b.opn)), .data (.sl 5 (items b.items)), .data (.sl 3 (locks b.locks))]), (1, .blk true ((bys (p2 ++ (b.locks.take i.1).flatMap lockB)).map D.data))], 2, 0, 128⟩) (fun i => b.locks.length - i.1) ⟨0, by omega⟩ [] (rhoL [(0, some 0), (1, some 1)]) ?_ ?_
  · apply ren_lists <;> simp -implicitDefEqProofs [go_sem]
    all_goals exact renCells_plain (by simp [bys, u8]) (by simp [plainD])
  rintro ⟨i, hi⟩
  by_cases h : i < b.locks.length
  · have hwi := hw3 i
    have hs := flat_snoc lockB b.locks i h
    have hs2 : p2 ++ (b.locks.take (i + 1)).flatMap lockB = (p2 ++ (b.locks.take i).flatMap lockB) ++ lockB b.locks[i] := by rw [hs, List.append_assoc]
    clear hs
    have hfi := q6 _ (List.getElem_mem h)
    generalize hqw : p2 ++ (b.locks.take i).flatMap lockB = pw at *
    generalize hsi : b.locks[i] = s at *
    obtain ⟨user, n, at_⟩ := s
    obtain ⟨f_user, f_n, f_at_⟩ := hfi
    simp only [Fit] at f_user f_n f_at_
    obtain ⟨n, rfl⟩ : ∃ y : Nat, n = y := ⟨n.toNat, by omega⟩
    have e_n : (n : Int) % 18446744073709551616 = n := by omega
    obtain ⟨at_, rfl⟩ : ∃ y : Nat, at_ = y := ⟨at_.toNat, by omega⟩
    have e_at_ : (at_ : Int) % 18446744073709551616 = at_ := by omega
    simp -implicitDefEqProofs (disch := omega) [go_sem, hsi, lock, e_n, e_at_]
    refine .inr (named_eff Γ (q := pw) (u := user) (by omega) f_user rfl (by simp [go_sem, bys]) (by simp) ?_)
    simp -implicitDefEqProofs (disch := omega) [go_sem, e_n, e_at_]
    refine .inr (put_eff Γ (q := pw ++ nameB user) (n := n) (k := 1) (by simp [be_length, nameB_length f_user]; omega) (by omega) (by omega) (by simp [be_length, nameB_length f_user]) (by simp [go_sem, bys]) (by simp) ?_)
    simp -implicitDefEqProofs (disch := omega) [go_sem, e_n, e_at_]
    refine .inr (put_eff Γ (q := pw ++ nameB user ++ be 1 n) (n := at_) (k := 4) (by simp [be_length, nameB_length f_user]; omega) (by omega) (by omega) (by simp [be_length, nameB_length f_user]) (by simp [go_sem, bys]) (by simp) ?_)
    simp -implicitDefEqProofs (disch := omega) [go_sem, e_n, e_at_]
    refine side (by kernel_rfl) ?_
    simp -implicitDefEqProofs (disch := omega) [go_sem, e_n, e_at_]
    have hend : pw ++ nameB user ++ be 1 n ++ be 4 at_ = pw ++ lockB ⟨user, (n : Nat), (at_ : Nat)⟩ := by simp [lockB]
    refine next_ren ⟨i + 1, by omega⟩ (by simp only; omega) [] (rhoL [(0, some 0), (1, some 25)]) ?_
    rw [hend]
    apply ren_lists <;> simp -implicitDefEqProofs [go_sem, hs2]
    all_goals simp [be_length, lockB, nameB_length f_user]
  obtain rfl : i = b.locks.length := by omega
  have hwi := hw3 b.locks.length
  rw [List.take_length] at hwi
  simp only [List.take_length]
  rw [← hparts]
  simp -implicitDefEqProofs (disch := omega) [go_sem]
  refine .inr (filled_given Γ (q := bookB b) (n := 2048) (by omega) (by omega) rfl (by simp [go_sem]) (by simp) ?_)
  simp -implicitDefEqProofs (disch := omega) [go_sem, Try.f18]
  exact ⟨_, ⟨_, rfl, frz_bys (l := padB 2048 (bookB b)) rfl (.inl rfl) (padB_length (by omega))⟩, rfl⟩
end
end Bk
end Go.Proofs.Ytdgklbbgbnapoaa
namespace Go.Proofs.Ytdgklbbgbnapoaa
open Go.RowKit
set_option linter.unusedVariables false
set_option linter.unusedSimpArgs false
set_option maxRecDepth 100000
namespace Bk
def userB (l : List Nat) (a n : Nat) : List Nat := (List.range n).map fun i => getR l (a + 1 + i) 1
def userR (l : List Nat) (a : Nat) : ByteArray := toStr (userB l a (min (getR l a 1) 16))
theorem userB_succ (l : List Nat) (a n : Nat) : userB l a (n + 1) = userB l a n ++ [getR l (a + 1 + n) 1] := by simp [userB, List.range_succ]
theorem userB_length (l : List Nat) (a n : Nat) : (userB l a n).length = n := by simp [userB]
theorem userB_lt {l : List Nat} (hl : Bytes l) (a n : Nat) : Bytes (userB l a n) := by
  intro x hx
  obtain ⟨i, _, rfl⟩ := List.mem_map.1 hx
  exact getR_lt hl _ 1
theorem toStr_size (l : List Nat) : (toStr l).size = l.length := by simp [toStr, ByteArray.size]
theorem userR_size (l : List Nat) (a : Nat) : (userR l a).size ≤ 16 := by
  unfold userR
  rw [toStr_size, userB_length]
  omega
section
variable (Γ : Nat → Option (List Data))
set_option maxHeartbeats 8000000 in
theorem user_pc (l : List Nat) (hl : l.length ≤ 1000000) (hb : Bytes l) (a : Nat) (ha : a ≤ 900000) : PC Try.prog Γ 37 [.sl 1 (bys l), .int .i64 a] (.str (userR l a)) := by
  refine pc_by mixed Try.func37 rfl (fun args w => Try.call37 args w) ?_
  have c0 := rget_pc Γ l hl hb a 1 (by omega) (by omega)
  have hn : getR l a 1 < 256 := getR_lt hb a 1
  have hm : userR l a = toStr (userB l a (min (getR l a 1) 16)) := rfl
  generalize getR l a 1 = n at *
  have hm1 : min n 16 ≤ n := Nat.min_le_left _ _
  have hm2 : min n 16 ≤ 16 := Nat.min_le_right _ _
  have hm3 : min n 16 = n ∨ min n 16 = 16 := by omega
  generalize min n 16 = m at *
  have e1 : IntKind.i64.wrap (n : Int) = n := by rw [IntKind.wrap_i64]; omega
  rw [hm]
  simp -implicitDefEqProofs (disch := omega) [go_sem]
  refine .inl (call_data c0 (by simp [go_sem]) ?_)
  simp -implicitDefEqProofs (disch := omega) [go_sem, e1]
  refine loop_ren (σ := { i : Nat // i ≤ m }) (fun i => if i.1 < m then ⟨envL [(0, .data (.sl 1 (bys l))), (1, .data (.int .i64 a)), (5, .data (.int .i64 n)), (6, .ref 0 0 i.1 1), (7, .data (.int .i64 i.1))], hpL [(0, .blk true ((bys (userB l a i.1)).map D.data))], 1, 0, 33⟩ else ⟨envL [(5, .data (.int .i64 n)), (6, .data (.sl 1 (bys (userB l a i.1)))), (7, .data (.int .i64 i.1))], hpL [], 1, 0, 33⟩) (fun i => m - i.1) ⟨0, by omega⟩ [] (rhoL [(0, none)]) ?_ ?_
  · by_cases h0 : 0 < m
    · simp only [h0, if_true]
      apply ren_lists <;> simp -implicitDefEqProofs [go_sem, userB]
    · simp only [h0, if_false]
      apply ren_lists <;> simp -implicitDefEqProofs [go_sem, userB]
  rintro ⟨i, hi⟩
  simp only
  by_cases h : i < m
  rotate_left
  · rw [if_neg h]
    obtain rfl : i = m := by omega
    have hul := userB_lt hb a i
    generalize userB l a i = q at *
    rcases hm3 with e | e
    · subst e
      simp -implicitDefEqProofs (disch := omega) [go_sem]
      refine conv_bys (e := 5) hul (by simp [go_sem]) (by simp [go_sem]) (by simp [go_sem]) ?_
      simp -implicitDefEqProofs (disch := omega) [go_sem, Try.f37]
    · subst e
      by_cases e : 16 < n
      · simp -implicitDefEqProofs (disch := omega) [go_sem]
        refine conv_bys (e := 5) hul (by simp [go_sem]) (by simp [go_sem]) (by simp [go_sem]) ?_
        simp -implicitDefEqProofs (disch := omega) [go_sem, Try.f37]
      · obtain rfl : n = 16 := by omega
        simp -implicitDefEqProofs (disch := omega) [go_sem]
        refine conv_bys (e := 5) hul (by simp [go_sem]) (by simp [go_sem]) (by simp [go_sem]) ?_
        simp -implicitDefEqProofs (disch := omega) [go_sem, Try.f37]
  rw [if_pos h]
  have ci := rget_pc Γ l hl hb (a + 1 + i) 1 (by omega) (by omega)
  have hx : getR l (a + 1 + i) 1 < 256 := getR_lt hb (a + 1 + i) 1
  have hs := userB_succ l a i
  have hql := userB_length l a i
  generalize getR l (a + 1 + i) 1 = x at *
  generalize userB l a i = q at *
  have e2 : IntKind.u8.wrap (x : Int) = x := by rw [IntKind.wrap_u8]; omega
  simp -implicitDefEqProofs (disch := omega) [go_sem]
  refine .inl (call_data ci (by simp [go_sem]) ?_)
  simp -implicitDefEqProofs (disch := omega) [go_sem, e2]
  refine next_ren ⟨i + 1, by omega⟩ (by simp only; omega) (if i + 1 < m then [] else [17]) (rhoL [(0, some 17)]) ?_
  by_cases h1 : i + 1 < m
  · simp only [h1, if_true]
    apply ren_lists <;> simp -implicitDefEqProofs [go_sem, hs]
    all_goals exact renCells_plain (by simp [bys, u8]) (by simp [plainD])
  · simp only [h1, if_false]
    apply ren_lists <;> simp -implicitDefEqProofs [go_sem]
    all_goals exact frz_bys (rw := false) (by rw [hs]; simp [go_sem, bys, u8]; rfl) (.inr rfl) (by rw [hs]; simp [hql])
end
end Bk
end Go.Proofs.Ytdgklbbgbnapoaa
namespace Go.Proofs.Ytdgklbbgbnapoaa
open Go.RowKit
set_option linter.unusedVariables false
set_option linter.unusedSimpArgs false
set_option maxRecDepth 100000
namespace Bk
def opR (l : List Nat) : Op := ⟨getR l 7 1, getR l 8 4, getR l 12 1, getR l 13 4, userR l 17, getR l 34 8, getR l 42 8, getR l 50 1, getR l 51 4⟩
def RecIs (l : List Nat) : Prop := RecP (getR l 2 4 : Nat) (getR l 6 1 : Nat) (opR l) ∧ l = padB 128 (recB (getR l 2 4 : Nat) (getR l 6 1 : Nat) (opR l))
section
variable (Γ : Nat → Option (List Data))
set_option maxHeartbeats 16000000 in
theorem rreadOp_pc (l : List Nat) (hl : l.length ≤ 1000000) (hb : Bytes l) {q : Bool} (hq : q = true ↔ RecIs l) : PC Try.prog Γ 14 [.sl 1 (bys l)] (if q = true then .tup [.int .i64 (getR l 2 4), .int .i64 (getR l 6 1), op (opR l), .int .i64 0] else .tup [.int .i64 0, .int .i64 0, op noOp, .int .i64 2]) := by
  refine pc_by mixed Try.func14 rfl (fun args w => Try.call14 args w) ?_
  have ho : opR l = ⟨getR l 7 1, getR l 8 4, getR l 12 1, getR l 13 4, userR l 17, getR l 34 8, getR l 42 8, getR l 50 1, getR l 51 4⟩ := rfl
  unfold RecIs at hq
  have ck := rget_pc Γ l hl hb 7 1 (by omega) (by omega)
  have bk : getR l 7 1 < 256 := getR_lt hb 7 1
  have ci := rget_pc Γ l hl hb 8 4 (by omega) (by omega)
  have bi : getR l 8 4 < 4294967296 := getR_lt hb 8 4
  have ce := rget_pc Γ l hl hb 12 1 (by omega) (by omega)
  have be : getR l 12 1 < 256 := getR_lt hb 12 1
  have ca := rget_pc Γ l hl hb 13 4 (by omega) (by omega)
  have ba : getR l 13 4 < 4294967296 := getR_lt hb 13 4
  have cu := user_pc Γ l hl hb 17 (by omega)
  have bu := userR_size l 17
  have cn := rget_pc Γ l hl hb 34 8 (by omega) (by omega)
  have bn : getR l 34 8 < 18446744073709551616 := getR_lt hb 34 8
  have ct := rget_pc Γ l hl hb 42 8 (by omega) (by omega)
  have bt : getR l 42 8 < 18446744073709551616 := getR_lt hb 42 8
  have cc := rget_pc Γ l hl hb 50 1 (by omega) (by omega)
  have bc : getR l 50 1 < 256 := getR_lt hb 50 1
  have cz := rget_pc Γ l hl hb 51 4 (by omega) (by omega)
  have bz : getR l 51 4 < 4294967296 := getR_lt hb 51 4
  have cg := rget_pc Γ l hl hb 2 4 (by omega) (by omega)
  have bg : getR l 2 4 < 4294967296 := getR_lt hb 2 4
  have cs := rget_pc Γ l hl hb 6 1 (by omega) (by omega)
  have bs : getR l 6 1 < 256 := getR_lt hb 6 1
  generalize getR l 7 1 = k at *
  generalize getR l 8 4 = i at *
  generalize getR l 12 1 = e at *
  generalize getR l 13 4 = a at *
  generalize userR l 17 = u at *
  generalize getR l 34 8 = n at *
  generalize getR l 42 8 = t at *
  generalize getR l 50 1 = c at *
  generalize getR l 51 4 = z at *
  generalize getR l 2 4 = g at *
  generalize getR l 6 1 = s at *
  have ek : IntKind.i64.wrap (k : Int) = k := by rw [IntKind.wrap_i64]; omega
  have ei : IntKind.i64.wrap (i : Int) = i := by rw [IntKind.wrap_i64]; omega
  have ee : IntKind.i64.wrap (e : Int) = e := by rw [IntKind.wrap_i64]; omega
  have ec : IntKind.i64.wrap (c : Int) = c := by rw [IntKind.wrap_i64]; omega
  have ez : IntKind.i64.wrap (z : Int) = z := by rw [IntKind.wrap_i64]; omega
  have eg : IntKind.i64.wrap (g : Int) = g := by rw [IntKind.wrap_i64]; omega
  have es : IntKind.i64.wrap (s : Int) = s := by rw [IntKind.wrap_i64]; omega
  have ea : IntKind.u32.wrap (a : Int) = a := by rw [IntKind.wrap_u32]; omega
  have cb := ropBytes_pc Γ g s (opR l) (by rw [ho]; exact ⟨⟨by simp only; omega, by simp only; omega⟩, ⟨by simp only; omega, by simp only; omega⟩, ⟨by simp only; omega, by simp only; omega⟩⟩) (by rw [ho]; simp only; omega)
  rw [ho] at hq cb ⊢
  unfold op at cb
  simp only at cb
  simp -implicitDefEqProofs (disch := omega) [go_sem, ek, ei, ee, ec, ez, eg, es, ea]
  refine .inl (call_data ck (by simp [go_sem]) ?_)
  simp -implicitDefEqProofs (disch := omega) [go_sem, ek, ei, ee, ec, ez, eg, es, ea]
  refine .inl (call_data ci (by simp [go_sem]) ?_)
  simp -implicitDefEqProofs (disch := omega) [go_sem, ek, ei, ee, ec, ez, eg, es, ea]
  refine .inl (call_data ce (by simp [go_sem]) ?_)
  simp -implicitDefEqProofs (disch := omega) [go_sem, ek, ei, ee, ec, ez, eg, es, ea]
  refine .inl (call_data ca (by simp [go_sem]) ?_)
  simp -implicitDefEqProofs (disch := omega) [go_sem, ek, ei, ee, ec, ez, eg, es, ea]
  refine .inl (call_data cu (by simp [go_sem]) ?_)
  simp -implicitDefEqProofs (disch := omega) [go_sem, ek, ei, ee, ec, ez, eg, es, ea]
  refine .inl (call_data cn (by simp [go_sem]) ?_)
  simp -implicitDefEqProofs (disch := omega) [go_sem, ek, ei, ee, ec, ez, eg, es, ea]
  refine .inl (call_data ct (by simp [go_sem]) ?_)
  simp -implicitDefEqProofs (disch := omega) [go_sem, ek, ei, ee, ec, ez, eg, es, ea]
  refine .inl (call_data cc (by simp [go_sem]) ?_)
  simp -implicitDefEqProofs (disch := omega) [go_sem, ek, ei, ee, ec, ez, eg, es, ea]
  refine .inl (call_data cz (by simp [go_sem]) ?_)
  simp -implicitDefEqProofs (disch := omega) [go_sem, ek, ei, ee, ec, ez, eg, es, ea]
  refine .inl (call_data cg (by simp [go_sem]) ?_)
  simp -implicitDefEqProofs (disch := omega) [go_sem, ek, ei, ee, ec, ez, eg, es, ea]
  refine .inl (call_data cs (by simp [go_sem]) ?_)
  simp -implicitDefEqProofs (disch := omega) [go_sem, ek, ei, ee, ec, ez, eg, es, ea]
  by_cases hP : RecP g s ⟨k, i, e, a, u, n, t, c, z⟩
  · rw [if_pos hP] at cb
    have hf := hP.fit ⟨by simp only; omega, by simp only; omega, by simp only; omega⟩
    have hlen : (padB 128 (recB g s ⟨k, i, e, a, u, n, t, c, z⟩)).length = 128 := padB_length (by rw [recB_length hf]; omega)
    refine .inl (call_data cb (by simp [go_sem]) ?_)
    simp -implicitDefEqProofs (disch := omega) [go_sem, ek, ei, ee, ec, ez, eg, es, ea]
    have cr := row_pc Γ l (padB 128 (recB g s ⟨k, i, e, a, u, n, t, c, z⟩)) (by omega) (by omega)
    refine .inl (call_data cr (by simp [go_sem]) ?_)
    by_cases h2 : l = padB 128 (recB g s ⟨k, i, e, a, u, n, t, c, z⟩)
    · have hqt : q = true := hq.2 ⟨hP, h2⟩
      rw [decide_eq_true h2, if_pos hqt]
      simp -implicitDefEqProofs (disch := omega) [go_sem, ek, ei, ee, ec, ez, eg, es, ea]
      refine side (by kernel_rfl) ?_
      simp -implicitDefEqProofs (disch := omega) [go_sem, op, Try.f14]
    · have hqf : ¬ q = true := fun h => h2 (hq.1 h).2
      rw [decide_eq_false h2, if_neg hqf]
      simp -implicitDefEqProofs (disch := omega) [go_sem, op, noOp, Try.f14]
  · rw [if_neg hP] at cb
    have hqf : ¬ q = true := fun h => hP (hq.1 h).1
    rw [if_neg hqf]
    refine .inl (call_data cb (by simp [go_sem]) ?_)
    simp -implicitDefEqProofs (disch := omega) [go_sem, ek, ei, ee, ec, ez, eg, es, ea]
    have cr := row_pc Γ l [] (by omega) (by simp)
    refine .inl (call_data cr (by simp [go_sem]) ?_)
    simp -implicitDefEqProofs (disch := omega) [go_sem, op, noOp, Try.f14]
end
end Bk
end Go.Proofs.Ytdgklbbgbnapoaa
namespace Go.Proofs.Ytdgklbbgbnapoaa
open Go.RowKit
set_option linter.unusedVariables false
set_option linter.unusedSimpArgs false
namespace Bk
variable (Γ : Nat → Option (List Data))
theorem first_lt0 {α : Type} {p : α → Bool} {l : List α} : first p 0 l < 0 → ∀ a ∈ l, p a = false := by
  intro h
  by_cases hx : ∀ a ∈ l, p a = false
  · exact hx
  exfalso
  have : ∀ (l : List α) (n : Nat), (¬ ∀ a ∈ l, p a = false) → (n : Int) ≤ first p n l := by
    intro l
    induction l with
    | nil => intro n h; exact absurd (fun a ha => by cases ha) h
    | cons a t ih =>
      intro n h
      unfold first
      by_cases e : p a = true
      · rw [if_pos e]; omega
      · rw [if_neg e]
        have := ih (n + 1) (fun ht => h fun x hx => by
          rcases List.mem_cons.1 hx with rfl | hx
          · simpa using e
          · exact ht x hx)
        omega
  have := this l 0 hx
  omega
theorem first_pos {α : Type} {p : α → Bool} {l : List α} (h : 0 ≤ first p 0 l) : ∃ a ∈ l, p a = true := by
  by_cases hx : ∀ a ∈ l, p a = false
  · rw [first_none hx] at h; omega
  · simpa using hx
def leastAt (b : Book) (i : Nat) : Int := if i = 0 then 0 else (b.opn.getD (i - 1) default).id + 1
set_option maxHeartbeats 8000000 in
set_option maxRecDepth 100000 in
theorem rightOpen_pc (b : Book) (ho : b.opn.length ≤ 140737488351232) (n0 : 0 ≤ b.next) (n1 : b.next ≤ 1000000000) {q : Bool} (hq : q = true ↔ OpenOk b) : PC Try.prog Γ 66 [.sl 6 (sesss b.opn), .int .i64 b.next] (.bool q) := by
  refine pc_by mixed Try.func66 rfl (fun args w => Try.call66 args w) ?_
  have no : ¬ OpenOk b → q = false := fun h => by
    cases q
    · rfl
    · exact absurd (hq.1 rfl) h
  have yes : OpenOk b → q = true := hq.2
  clear hq
  simp -implicitDefEqProofs (disch := omega) [go_sem]
  refine loop_ren (σ := { i : Nat // i ≤ b.opn.length ∧ ∀ (j : Nat) (h : j < b.opn.length), j < i → SessAt b j h }) (fun i => ⟨envL [(0, .data (.sl 6 (sesss b.opn))), (1, .data (.int .i64 b.next)), (5, .data (.int .i64 (leastAt b i.1))), (8, .data (.sl 6 (sesss b.opn))), (9, .data (.int .i64 b.opn.length)), (10, .data (.int .i64 i.1))], hpL [], 0, 0, 58⟩) (fun i => b.opn.length - i.1) ⟨0, by omega, fun j h hj => absurd hj (by omega)⟩ [] (rhoL []) ?_ ?_
  · apply ren_lists <;> simp -implicitDefEqProofs [go_sem, leastAt]
  rintro ⟨i, hi, hall⟩
  by_cases h : i < b.opn.length
  rotate_left
  · obtain rfl : i = b.opn.length := by omega
    have hqt : q = true := yes fun i h => hall i h h
    simp -implicitDefEqProofs (disch := omega) [go_sem, hqt, Try.results66]
  have c1 := isFrom_pc Γ b.opn[i].id (leastAt b i) (b.next - 1)
  have c2 := isLink_pc Γ b.opn[i].link
  have c3 := isOfPool_pc Γ b.opn[i].addr
  have c4 := isUser_pc Γ b.opn[i].user
  have c5 := hasLink_pc Γ (b.opn.take i) (by rw [List.length_take]; omega) b.opn[i].link
  have c6 := hasAddr_pc Γ (b.opn.take i) (by rw [List.length_take]; omega) b.opn[i].addr
  have hl0 : 0 ≤ leastAt b i ∧ ((0 < i → (b.opn.getD (i - 1) default).id < b.opn[i].id) ∧ 0 ≤ b.opn[i].id ↔ leastAt b i ≤ b.opn[i].id) := by
    unfold leastAt
    by_cases e : i = 0
    · rw [if_pos e]; exact ⟨Int.le_refl _, ⟨fun h => h.2, fun h => ⟨fun h0 => absurd e (by omega), h⟩⟩⟩
    · rw [if_neg e]
      have hp := (hall (i - 1) (by omega) (by omega)).1.id0
      have hg : b.opn.getD (i - 1) default = b.opn[i - 1]'(by omega) := by rw [List.getD_eq_getElem?_getD, List.getElem?_eq_getElem (by omega)]; rfl
      rw [hg]
      exact ⟨by omega, ⟨fun h => by have := h.1 (by omega); omega, fun h => ⟨fun _ => by omega, by omega⟩⟩⟩
  obtain ⟨l0, hleast⟩ := hl0
  have hsucc : leastAt b (i + 1) = b.opn[i].id + 1 := by
    have hg : b.opn.getD i default = b.opn[i] := by rw [List.getD_eq_getElem?_getD, List.getElem?_eq_getElem h]; rfl
    unfold leastAt; rw [if_neg (by omega), Nat.add_sub_cancel, hg]
  have hno : ¬ SessOk b i b.opn[i] → q = false := fun hk => no fun ha => hk (ha i h).1
  simp -implicitDefEqProofs (disch := omega) [go_sem]
  refine .inl (call_data c1 (by simp [go_sem]) ?_)
  by_cases g1 : leastAt b i ≤ b.opn[i].id ∧ b.opn[i].id ≤ b.next - 1
  rotate_left
  · have hqf : q = false := hno (fun r => absurd (hleast.1 ⟨r.up, r.id0⟩) (fun h2 => g1 ⟨h2, by have := r.id1; omega⟩))
    rw [decide_eq_false g1]
    simp -implicitDefEqProofs (disch := omega) [go_sem, hqf, Try.results66]
  rw [decide_eq_true g1]
  simp -implicitDefEqProofs (disch := omega) [go_sem]
  refine .inl (call_data c2 (by simp [go_sem]) ?_)
  by_cases g2 : 0 ≤ b.opn[i].link ∧ b.opn[i].link ≤ 7
  rotate_left
  · have hqf : q = false := hno (fun r => g2 ((fun r => ⟨r.l0, r.l1⟩) r))
    rw [decide_eq_false g2]
    simp -implicitDefEqProofs (disch := omega) [go_sem, hqf, Try.results66]
  rw [decide_eq_true g2]
  simp -implicitDefEqProofs (disch := omega) [go_sem]
  refine .inl (call_data c3 (by simp [go_sem]) ?_)
  by_cases g3 : poolOk b.opn[i].addr
  rotate_left
  · have hqf : q = false := hno (fun r => g3 ((fun r => r.addr) r))
    rw [decide_eq_false g3]
    simp -implicitDefEqProofs (disch := omega) [go_sem, hqf, Try.results66]
  rw [decide_eq_true g3]
  simp -implicitDefEqProofs (disch := omega) [go_sem]
  refine .inl (call_data c4 (by simp [go_sem]) ?_)
  by_cases g4 : nameOk b.opn[i].user
  rotate_left
  · have hqf : q = false := hno (fun r => g4 ((fun r => r.user) r))
    rw [decide_eq_false g4]
    simp -implicitDefEqProofs (disch := omega) [go_sem, hqf, Try.results66]
  rw [decide_eq_true g4]
  simp -implicitDefEqProofs (disch := omega) [go_sem]
  have hsok : SessOk b i b.opn[i] := ⟨(hleast.2 g1.1).2, by omega, (hleast.2 g1.1).1, g2.1, g2.2, g4, g3⟩
  refine .inl (call_data c5 (by simp [go_sem]) ?_)
  by_cases g5 : 0 ≤ first (fun s : Sess => decide (s.link = b.opn[i].link)) 0 (b.opn.take i)
  · have hqf : q = false := by
      obtain ⟨s, hs, e⟩ := first_pos g5
      obtain ⟨j, hj, rfl⟩ := List.getElem_of_mem hs
      rw [List.length_take] at hj
      rw [List.getElem_take] at e
      exact no fun ha => ((ha i h).2 j (by omega)).1 (by simpa using e)
    rw [decide_eq_true g5]
    simp -implicitDefEqProofs (disch := omega) [go_sem, hqf]
    refine side (by kernel_rfl) ?_
    simp -implicitDefEqProofs (disch := omega) [go_sem, hqf, Try.results66]
  rw [decide_eq_false g5]
  simp -implicitDefEqProofs (disch := omega) [go_sem]
  refine .inl (call_data c6 (by simp [go_sem]) ?_)
  by_cases g6 : 0 ≤ first (fun s : Sess => decide (s.addr = b.opn[i].addr)) 0 (b.opn.take i)
  · have hqf : q = false := by
      obtain ⟨s, hs, e⟩ := first_pos g6
      obtain ⟨j, hj, rfl⟩ := List.getElem_of_mem hs
      rw [List.length_take] at hj
      rw [List.getElem_take] at e
      exact no fun ha => ((ha i h).2 j (by omega)).2 (by simpa using e)
    rw [decide_eq_true g6]
    simp -implicitDefEqProofs (disch := omega) [go_sem, hqf]
    refine side (by kernel_rfl) ?_
    simp -implicitDefEqProofs (disch := omega) [go_sem, hqf, Try.results66]
  rw [decide_eq_false g6]
  simp -implicitDefEqProofs (disch := omega) [go_sem]
  refine side (by kernel_rfl) ?_
  simp -implicitDefEqProofs (disch := omega) [go_sem]
  have hin : SessAt b i h := ⟨hsok, fun k hk => by
    have hm : b.opn[k] ∈ b.opn.take i := by
      rw [show b.opn[k] = (b.opn.take i)[k]'(by rw [List.length_take]; omega) from (List.getElem_take).symm]
      exact List.getElem_mem _
    exact ⟨by simpa using first_lt0 (Int.not_le.1 g5) _ hm, by simpa using first_lt0 (Int.not_le.1 g6) _ hm⟩⟩
  refine next_ren ⟨i + 1, by omega, fun j hj hji => ?_⟩ (by simp only; omega) [] (rhoL []) ?_
  · by_cases e : j = i
    · subst e; exact hin
    · exact hall j hj (by omega)
  apply ren_lists <;> simp -implicitDefEqProofs [go_sem, hsucc]
theorem first_le {α : Type} {p : α → Bool} : ∀ {l : List α} {n j : Nat} (hj : j < l.length), p l[j] = true → first p n l ≤ ((n + j : Nat) : Int)
  | a :: t, n, 0, hj, h => by
    unfold first
    rw [if_pos (by simpa using h)]; simp
  | a :: t, n, j + 1, hj, h => by
    unfold first
    by_cases e : p a = true
    · rw [if_pos e]; omega
    · rw [if_neg e]
      have := first_le (p := p) (l := t) (n := n + 1) (j := j) (by simpa using hj) (by simpa using h)
      omega
set_option maxHeartbeats 8000000 in
set_option maxRecDepth 100000 in
theorem rightLocks_pc (b : Book) (ho : b.locks.length ≤ 140737488351232) {q : Bool} (hq : q = true ↔ ∀ (i : Nat) (h : i < b.locks.length), LockAt b i h) : PC Try.prog Γ 68 [.sl 3 (locks b.locks)] (.bool q) := by
  refine pc_by mixed Try.func68 rfl (fun args w => Try.call68 args w) ?_
  have no : ∀ (i : Nat) (h : i < b.locks.length), ¬ LockAt b i h → q = false := fun i h hn => by
    cases q
    · rfl
    · exact absurd (hq.1 rfl i h) hn
  have yes : (∀ (i : Nat) (h : i < b.locks.length), LockAt b i h) → q = true := hq.2
  clear hq
  simp -implicitDefEqProofs (disch := omega) [go_sem]
  refine loop_ren (σ := { i : Nat // i ≤ b.locks.length ∧ ∀ (j : Nat) (h : j < b.locks.length), j < i → LockAt b j h }) (fun i => ⟨envL [(0, .data (.sl 3 (locks b.locks))), (5, .data (.sl 3 (locks b.locks))), (6, .data (.int .i64 b.locks.length)), (7, .data (.int .i64 i.1))], hpL [], 0, 0, 36⟩) (fun i => b.locks.length - i.1) ⟨0, by omega, fun j h hj => absurd hj (by omega)⟩ [] (rhoL []) ?_ ?_
  · apply ren_lists <;> simp -implicitDefEqProofs [go_sem]
  rintro ⟨i, hi, hall⟩
  by_cases h : i < b.locks.length
  rotate_left
  · obtain rfl : i = b.locks.length := by omega
    have hqt : q = true := yes fun i h => hall i h h
    simp -implicitDefEqProofs (disch := omega) [go_sem, hqt, Try.results68]
  have c1 := isUser_pc Γ b.locks[i].user
  have c2 := isFrom_pc Γ b.locks[i].n 1 255
  have c3 := isFrom_pc Γ b.locks[i].at_ 0 1000000000
  have c4 := placeOfUser_pc Γ (b.locks.take i) (by rw [List.length_take]; omega) b.locks[i].user
  simp -implicitDefEqProofs (disch := omega) [go_sem]
  refine .inl (call_data c1 (by simp [go_sem]) ?_)
  by_cases g1 : nameOk b.locks[i].user
  rotate_left
  · have hqf : q = false := no i h fun r => g1 r.user
    rw [decide_eq_false g1]
    simp -implicitDefEqProofs (disch := omega) [go_sem, hqf, Try.results68]
  rw [decide_eq_true g1]
  simp -implicitDefEqProofs (disch := omega) [go_sem]
  refine .inl (call_data c2 (by simp [go_sem]) ?_)
  by_cases g2 : 1 ≤ b.locks[i].n ∧ b.locks[i].n ≤ 255
  rotate_left
  · have hqf : q = false := no i h fun r => g2 ⟨r.n0, r.n1⟩
    rw [decide_eq_false g2]
    simp -implicitDefEqProofs (disch := omega) [go_sem, hqf, Try.results68]
  rw [decide_eq_true g2]
  simp -implicitDefEqProofs (disch := omega) [go_sem]
  refine .inl (call_data c3 (by simp [go_sem]) ?_)
  by_cases g3 : 0 ≤ b.locks[i].at_ ∧ b.locks[i].at_ ≤ 1000000000
  rotate_left
  · have hqf : q = false := no i h fun r => g3 ⟨r.t0, r.t1⟩
    rw [decide_eq_false g3]
    simp -implicitDefEqProofs (disch := omega) [go_sem, hqf, Try.results68]
  rw [decide_eq_true g3]
  simp -implicitDefEqProofs (disch := omega) [go_sem]
  refine .inl (call_data c4 (by simp [go_sem]) ?_)
  by_cases g5 : 0 ≤ first (fun s : Lock => decide (s.user = b.locks[i].user)) 0 (b.locks.take i)
  · have hqf : q = false := by
      obtain ⟨s, hs, e⟩ := first_pos g5
      obtain ⟨j, hj, rfl⟩ := List.getElem_of_mem hs
      rw [List.length_take] at hj
      rw [List.getElem_take] at e
      refine no i h fun r => ?_
      have := first_le (p := fun l : Lock => decide (l.user = b.locks[i].user)) (l := b.locks) (n := 0) (j := j) (by omega) e
      have hf := r.f
      unfold failed at hf
      omega
    simp -implicitDefEqProofs (disch := omega) [go_sem, hqf]
    refine side (by kernel_rfl) ?_
    simp -implicitDefEqProofs (disch := omega) [go_sem, hqf, Try.results68]
  simp -implicitDefEqProofs (disch := omega) [go_sem]
  refine side (by kernel_rfl) ?_
  simp -implicitDefEqProofs (disch := omega) [go_sem]
  have hin : LockAt b i h := ⟨g1, g2.1, g2.2, g3.1, g3.2, by
    have := first_at (p := fun l : Lock => decide (l.user = b.locks[i].user)) (n := 0) h (by simp) (fun k hk => by
      have hm : b.locks[k]'(by omega) ∈ b.locks.take i := by
        rw [show b.locks[k]'(by omega) = (b.locks.take i)[k]'(by rw [List.length_take]; omega) from (List.getElem_take).symm]
        exact List.getElem_mem _
      exact first_lt0 (Int.not_le.1 g5) _ hm)
    simpa [failed] using this⟩
  refine next_ren ⟨i + 1, by omega, fun j hj hji => ?_⟩ (by simp only; omega) [] (rhoL []) ?_
  · by_cases e : j = i
    · subst e; exact hin
    · exact hall j hj (by omega)
  apply ren_lists <;> simp -implicitDefEqProofs [go_sem]
/-- May a line be a session's first? -/
def FirstOk (x : Item) : Prop := x.kind = 1 ∧ x.inn = 0 ∧ x.out = 0 ∧ x.cause = 0
instance (x : Item) : Decidable (FirstOk x) := by unfold FirstOk; exact inferInstance
/-- May a line follow that one? -/
def NextOk (y x : Item) : Prop := y.kind ≠ 3 ∧ y.inn ≤ x.inn ∧ y.out ≤ x.out ∧ (x.kind = 2 ∧ x.cause = 0 ∨ x.kind = 3 ∧ 0 ≤ x.cause ∧ x.cause ≤ 255)
instance (y x : Item) : Decidable (NextOk y x) := by unfold NextOk; exact inferInstance
set_option maxHeartbeats 4000000 in
set_option maxRecDepth 100000 in
theorem mayBegin_pc (x : Item) (hx : x.Ty) : PC Try.prog Γ 93 [item x] (.bool (decide (FirstOk x))) := by
  refine pc_by mixed Try.func93 rfl (fun args w => Try.call93 args w) ?_
  have hc : Item.Ty ⟨1, x.id, 0, 0, 0⟩ := by
    obtain ⟨h1, h2, h3, h4, h5⟩ := hx
    constructor <;> first | assumption | (unfold R64; omega) | (unfold U64; omega) | (simp [R64, U64])
  have he : decide (FirstOk x) = decide (x = ⟨1, x.id, 0, 0, 0⟩) := by
    refine decide_eq_decide.2 ?_
    cases x
    simp [FirstOk]
  rw [he]
  simp -implicitDefEqProofs (disch := omega) [go_sem, item]
  refine eqK_item hx hc ?_
  by_cases e : x = ⟨1, x.id, 0, 0, 0⟩
  · simp -implicitDefEqProofs (disch := omega) [go_sem, decide_eq_true e, Try.results93]
  · simp -implicitDefEqProofs (disch := omega) [go_sem, decide_eq_false e, Try.results93]
set_option maxHeartbeats 4000000 in
set_option maxRecDepth 100000 in
theorem mayFollow_pc (y x : Item) : PC Try.prog Γ 94 [item y, item x] (.bool (decide (NextOk y x))) := by
  refine pc_by mixed Try.func94 rfl (fun args w => Try.call94 args w) ?_
  have c1 := isFrom_pc Γ x.cause 0 255
  obtain ⟨v, hv⟩ : ∃ v, decide (NextOk y x) = v := ⟨_, rfl⟩
  rw [hv]
  have no : ¬ NextOk y x → v = false := fun h => by rw [← hv]; exact decide_eq_false h
  have yes : NextOk y x → v = true := fun h => by rw [← hv]; exact decide_eq_true h
  clear hv
  by_cases g1 : y.kind ≠ 3
  rotate_left
  · have hvf : v = false := no fun r => g1 r.1
    have g1 : y.kind = 3 := by omega
    simp -implicitDefEqProofs (disch := omega) [go_sem, item, hvf, Try.results94]
  by_cases g2 : y.inn ≤ x.inn
  rotate_left
  · have hvf : v = false := no fun r => g2 r.2.1
    simp -implicitDefEqProofs (disch := omega) [go_sem, item, hvf, Try.results94]
  by_cases g3 : y.out ≤ x.out
  rotate_left
  · have hvf : v = false := no fun r => g3 r.2.2.1
    simp -implicitDefEqProofs (disch := omega) [go_sem, item, hvf, Try.results94]
  by_cases k2 : x.kind = 2
  · by_cases z : x.cause = 0
    · have hvt : v = true := yes ⟨g1, g2, g3, .inl ⟨k2, z⟩⟩
      simp -implicitDefEqProofs (disch := omega) [go_sem, item, hvt, Try.results94]
    · have hvf : v = false := no fun r => by have := r.2.2.2; omega
      simp -implicitDefEqProofs (disch := omega) [go_sem, item, hvf, Try.results94]
  by_cases k3 : x.kind = 3
  · simp -implicitDefEqProofs (disch := omega) [go_sem, item]
    refine .inl (call_data c1 (by simp [go_sem]) ?_)
    by_cases z : 0 ≤ x.cause ∧ x.cause ≤ 255
    · have hvt : v = true := yes ⟨g1, g2, g3, .inr ⟨k3, z⟩⟩
      rw [decide_eq_true z]
      simp -implicitDefEqProofs (disch := omega) [go_sem, hvt, Try.results94]
    · have hvf : v = false := no fun r => by have := r.2.2.2; omega
      rw [decide_eq_false z]
      simp -implicitDefEqProofs (disch := omega) [go_sem, hvf, Try.results94]
  have hvf : v = false := no fun r => by have := r.2.2.2; omega
  simp -implicitDefEqProofs (disch := omega) [go_sem, item, hvf, Try.results94]
end Bk
end Go.Proofs.Ytdgklbbgbnapoaa
namespace Go.Proofs.Ytdgklbbgbnapoaa
open Go.RowKit
set_option linter.unusedVariables false
set_option linter.unusedSimpArgs false
namespace Bk
variable (Γ : Nat → Option (List Data))
def ids (m : List Item) : List Data := m.map fun y => .int .i64 y.id
def itsD (m : List Item) : List D := m.map fun y => .data (item y)
def slot (m : List Item) (id : Int) : Int := first (fun y : Item => decide (y.id = id)) 0 m
theorem findD_ids (id : Int) : ∀ (m : List Item) (n : Nat), findD (.int .i64 id) (ids m) n = some (if first (fun y : Item => decide (y.id = id)) n m < 0 then none else some (first (fun y : Item => decide (y.id = id)) n m).toNat)
  | [], n => by simp [ids, findD, first]
  | y :: t, n => by
    have ih := findD_ids id t (n + 1)
    have e0 : ids (y :: t) = .int .i64 y.id :: ids t := rfl
    rw [e0]
    unfold findD first
    by_cases e : y.id = id
    · subst e
      simp [keyEq]
    · simp only [keyEq, if_pos, decide_eq_true_eq, if_neg e]
      have : (id == y.id) = false := by simpa using fun h => e h.symm
      rw [this]
      simp only [ih]
theorem findD_slot (m : List Item) (id : Int) : findD (.int .i64 id) (ids m) 0 = some (if slot m id < 0 then none else some (slot m id).toNat) := findD_ids id m 0
def putI (m : List Item) (x : Item) : List Item := if slot m x.id < 0 then m ++ [x] else m.set (slot m x.id).toNat x
def linesM (l : List Item) : List Item := l.foldl putI []
theorem linesM_snoc (l : List Item) (x : Item) : linesM (l ++ [x]) = putI (linesM l) x := by simp [linesM]
theorem first_spec {α : Type} {p : α → Bool} : ∀ (l : List α) (n : Nat), (first p n l = -1 ∧ ∀ a ∈ l, p a = false) ∨ ∃ (j : Nat) (hj : j < l.length), first p n l = ((n + j : Nat) : Int) ∧ p l[j] = true ∧ ∀ (k : Nat) (hk : k < j), p (l[k]'(by omega)) = false
  | [], n => .inl ⟨rfl, fun a ha => by cases ha⟩
  | a :: t, n => by
    unfold first
    by_cases e : p a = true
    · exact .inr ⟨0, by simp, by rw [if_pos e]; simp, by simpa using e, fun k hk => absurd hk (by omega)⟩
    · rw [if_neg e]
      rcases first_spec (p := p) t (n + 1) with ⟨h1, h2⟩ | ⟨j, hj, h1, h2, h3⟩
      · exact .inl ⟨h1, fun x hx => by
          rcases List.mem_cons.1 hx with rfl | hx
          · simpa using e
          · exact h2 x hx⟩
      · refine .inr ⟨j + 1, by simp; omega, by rw [h1]; omega, by simpa using h2, fun k hk => ?_⟩
        cases k with
        | zero => simpa using e
        | succ k => simpa using h3 k (by omega)
/-- Either a number has no line, or one place. -/
theorem slot_spec (m : List Item) (id : Int) : (slot m id = -1 ∧ ∀ y ∈ m, y.id ≠ id) ∨ ∃ (j : Nat) (hj : j < m.length), slot m id = (j : Int) ∧ m[j].id = id := by
  rcases first_spec (p := fun y : Item => decide (y.id = id)) m 0 with ⟨h1, h2⟩ | ⟨j, hj, h1, h2, _⟩
  · exact .inl ⟨h1, fun y hy => by simpa using h2 y hy⟩
  · exact .inr ⟨j, hj, by unfold slot; rw [h1]; simp, by simpa using h2⟩
/-- What the map has for a number is its last line. -/
def HasLast (l m : List Item) (n : Nat) : Prop := ∀ id, (last l id n < 0 ∧ slot m id < 0) ∨ ∃ (k j : Nat) (hk : k < l.length) (hj : j < m.length), last l id n = (k : Int) ∧ slot m id = (j : Int) ∧ m[j] = l[k]
theorem hasLast_zero (l : List Item) : HasLast l [] 0 := fun id => .inl ⟨by simp [last], by simp [slot, first]⟩
theorem slot_ne {m : List Item} {x : Item} {id : Int} (h : x.id ≠ id) : slot (m ++ [x]) id = slot m id := by
  unfold slot
  have : ∀ (m : List Item) (n : Nat), first (fun y : Item => decide (y.id = id)) n (m ++ [x]) = first (fun y : Item => decide (y.id = id)) n m := by
    intro m
    induction m with
    | nil => intro n; simp [first, h]
    | cons a t ih => intro n; simp only [List.cons_append]; unfold first; rw [ih]
  exact this m 0
theorem slot_new {m : List Item} {x : Item} (h : ∀ y ∈ m, y.id ≠ x.id) : slot (m ++ [x]) x.id = (m.length : Int) := by
  have := first_at (p := fun y : Item => decide (y.id = x.id)) (l := m ++ [x]) (n := 0) (i := m.length) (by simp) (by simp) (fun k hk => by
    rw [List.getElem_append_left hk]
    simpa using h _ (List.getElem_mem hk))
  simpa [slot] using this
theorem slot_set {m : List Item} {x : Item} {j : Nat} (hj : j < m.length) (he : m[j].id = x.id) (id : Int) : slot (m.set j x) id = slot m id := by
  unfold slot
  have : ∀ (m : List Item) (n j : Nat) (hj : j < m.length), m[j].id = x.id → first (fun y : Item => decide (y.id = id)) n (m.set j x) = first (fun y : Item => decide (y.id = id)) n m := by
    intro m
    induction m with
    | nil => intro n j hj; exact absurd hj (by simp)
    | cons a t ih =>
      intro n j hj he
      cases j with
      | zero => simp only [List.set_cons_zero]; unfold first; simp only [List.getElem_cons_zero] at he; rw [he]
      | succ j => simp only [List.set_cons_succ]; unfold first; rw [ih (n + 1) j (by simpa using hj) (by simpa using he)]
  exact this m 0 j hj he
theorem last_succ (l : List Item) (id : Int) (i : Nat) (h : i < l.length) : last l id (i + 1) = if l[i].id = id then (i : Int) else last l id i := by
  have hg : l.getD i ⟨0, 0, 0, 0, 0⟩ = l[i] := by simp [List.getD_eq_getElem?_getD, h]
  simp only [last, hg]
theorem hasLast_succ {l m : List Item} {i : Nat} (h : i < l.length) (hm : HasLast l m i) : HasLast l (putI m l[i]) (i + 1) := by
  intro id
  rw [last_succ l id i h]
  rcases slot_spec m l[i].id with ⟨s1, s2⟩ | ⟨j, hj, s1, s2⟩
  · have hp : putI m l[i] = m ++ [l[i]] := by unfold putI; rw [if_pos (by omega)]
    rw [hp]
    by_cases e : l[i].id = id
    · subst e
      rw [if_pos rfl, slot_new s2]
      exact .inr ⟨i, m.length, h, by simp, rfl, rfl, by simp⟩
    · rw [if_neg e, slot_ne e]
      rcases hm id with ⟨h1, h2⟩ | ⟨k, j, hk, hj, h1, h2, h3⟩
      · exact .inl ⟨h1, h2⟩
      · exact .inr ⟨k, j, hk, by simp; omega, h1, h2, by rw [List.getElem_append_left hj]; exact h3⟩
  · have ej : (slot m l[i].id).toNat = j := by omega
    have hp : putI m l[i] = m.set j l[i] := by unfold putI; rw [if_neg (by omega), ej]
    rw [hp, slot_set hj s2]
    by_cases e : l[i].id = id
    · subst e
      rw [if_pos rfl]
      exact .inr ⟨i, j, h, by simp; omega, rfl, s1, by simp⟩
    · rw [if_neg e]
      rcases hm id with ⟨h1, h2⟩ | ⟨k, j2, hk, hj2, h1, h2, h3⟩
      · exact .inl ⟨h1, h2⟩
      · have hne : j ≠ j2 := by
          rintro rfl
          rcases slot_spec m id with ⟨t1, _⟩ | ⟨j3, hj3, t1, t2⟩
          · omega
          · have : j3 = j := by omega
            subst this
            exact e (s2.symm.trans t2)
        exact .inr ⟨k, j2, hk, by simp; omega, h1, h2, by rw [List.getElem_set_ne hne]; exact h3⟩
theorem ids_app (m : List Item) (x : Item) : ids (m ++ [x]) = ids m ++ [.int .i64 x.id] := by simp [ids]
theorem itsD_app (m : List Item) (x : Item) : itsD (m ++ [x]) = itsD m ++ [.data (item x)] := by simp [itsD]
theorem itsD_set (m : List Item) (x : Item) (j : Nat) : itsD (m.set j x) = (itsD m).set j (.data (item x)) := by simp [itsD, List.map_set]
theorem ids_set {m : List Item} {x : Item} {j : Nat} (hj : j < m.length) (he : m[j].id = x.id) : ids (m.set j x) = ids m := by
  unfold ids
  rw [List.map_set]
  apply List.ext_getElem
  · simp
  intro k h1 h2
  by_cases e : j = k
  · subst e; simp [he]
  · rw [List.getElem_set_ne e]
theorem itsD_get {m : List Item} {j : Nat} (hj : j < m.length) : (itsD m)[j]? = some (.data (item m[j])) := by simp [itsD, hj]
set_option maxHeartbeats 8000000 in
set_option maxRecDepth 100000 in
theorem lastLines_pc (b : Book) (hi : b.items.length ≤ 140737488351232) (ht : ∀ x ∈ b.items, x.Ty) (n0 : 0 ≤ b.next) (n1 : b.next ≤ 1000000000) (hall : ∀ (i : Nat) (h : i < b.items.length), LineOk b i b.items[i]) : PC Try.prog Γ 87 [.sl 5 (items b.items), .int .i64 b.next] (.tup [.mp (ids (linesM b.items)) (items (linesM b.items)), .bool true]) := by
  refine pc_by mixed Try.func87 rfl (fun args w => Try.call87 args w) ?_
  simp -implicitDefEqProofs (disch := omega) [go_sem]
  refine loop_ren (σ := { i : Nat // i ≤ b.items.length ∧ HasLast b.items (linesM (b.items.take i)) i }) (fun i => ⟨envL [(1, .data (.int .i64 b.next)), (6, .mref 0), (12, .data (.sl 5 (items b.items))), (13, .data (.int .i64 b.items.length)), (14, .data (.int .i64 i.1))], hpL [(0, .obj (.mp (ids (linesM (b.items.take i.1))) (itsD (linesM (b.items.take i.1)))))], 1, 0, 55⟩) (fun i => b.items.length - i.1) ⟨0, by omega, hasLast_zero _⟩ [] (rhoL [(0, some 2)]) ?_ ?_
  · apply ren_lists <;> simp -implicitDefEqProofs [go_sem, linesM, ids, itsD]
  rintro ⟨i, hi2, hm⟩
  by_cases h : i < b.items.length
  rotate_left
  · obtain rfl : i = b.items.length := by omega
    simp -implicitDefEqProofs (disch := omega) [go_sem, List.take_length, Try.results87]
    refine ⟨_, ⟨_, rfl, .mref _ (ids (linesM b.items)) (items (linesM b.items)) (itsD (linesM b.items)) rfl rfl (by simp [itsD, items]) ?_⟩, ?_⟩
    · intro j d x hd hx
      simp [itsD] at hd
      simp [items] at hx
      obtain ⟨y, hy, rfl⟩ := hd
      rw [hy] at hx
      obtain rfl : item y = x := by simpa using hx
      exact .data _
    rfl
  have hline := hall i h
  have hty := ht _ (List.getElem_mem h)
  have c1 := isFrom_pc Γ b.items[i].id 0 (b.next - 1)
  have e1 : decide (0 ≤ b.items[i].id ∧ b.items[i].id ≤ b.next - 1) = true := decide_eq_true (by unfold LineOk LineAt at hline; omega)
  rw [e1] at c1
  have c2 := mayBegin_pc Γ b.items[i] hty
  have htk : linesM (b.items.take (i + 1)) = putI (linesM (b.items.take i)) b.items[i] := by rw [← linesM_snoc, List.take_append_getElem]
  have hm2 := hasLast_succ h hm
  rw [← htk] at hm2
  have hfd := findD_slot (linesM (b.items.take i)) b.items[i].id
  have hcase := hm b.items[i].id
  obtain ⟨m, em⟩ : ∃ m, linesM (b.items.take i) = m := ⟨_, rfl⟩
  obtain ⟨m2, em2⟩ : ∃ m, linesM (b.items.take (i + 1)) = m := ⟨_, rfl⟩
  rw [em] at hfd hcase
  rw [em, em2] at htk
  rcases hcase with ⟨h1, h2⟩ | ⟨k, j, hk, hj, h1, h2, h3⟩
  · rw [if_pos h2] at hfd
    have hf : FirstOk b.items[i] := by unfold LineOk LineAt at hline; unfold FirstOk; omega
    rw [decide_eq_true hf] at c2
    have hp : m2 = m ++ [b.items[i]] := by rw [htk]; unfold putI; rw [if_pos h2]
    have hi1 : ids m ++ [.int .i64 b.items[i].id] = ids m2 := by rw [hp, ids_app]
    have hi2 : itsD m ++ [.data (item b.items[i])] = itsD m2 := by rw [hp, itsD_app]
    unfold item at hi2 c2
    simp -implicitDefEqProofs (disch := omega) [go_sem, em, hfd]
    refine .inl (call_data c1 (by simp [go_sem]) ?_)
    simp -implicitDefEqProofs (disch := omega) [go_sem]
    refine .inl (call_data c2 (by simp [go_sem]) ?_)
    simp -implicitDefEqProofs (disch := omega) [go_sem, em, hfd]
    refine next_ren ⟨i + 1, by omega, hm2⟩ (by simp only; omega) [] (rhoL [(0, some 0)]) ?_
    apply ren_lists <;> simp -implicitDefEqProofs [go_sem, em2, ← hi1, ← hi2]
    rw [hi2]
    exact renCells_plain rfl (by simp [itsD, plainD])
  · have ej : (slot m b.items[i].id).toNat = j := by omega
    rw [if_neg (by omega), ej] at hfd
    have hg := itsD_get hj
    have hmid : m[j].id = b.items[i].id := by
      rcases slot_spec m b.items[i].id with ⟨t1, _⟩ | ⟨j2, hj2, t1, t2⟩
      · omega
      · obtain rfl : j2 = j := by omega
        exact t2
    have hnx : NextOk m[j] b.items[i] := by
      have hgd : b.items.getD k default = b.items[k] := by rw [List.getD_eq_getElem?_getD, List.getElem?_eq_getElem hk]; rfl
      unfold LineOk at hline
      rw [h1] at hline
      unfold LineAt at hline
      rw [Int.toNat_natCast, hgd, ← h3] at hline
      unfold NextOk
      omega
    have c3 := mayFollow_pc Γ m[j] b.items[i]
    rw [decide_eq_true hnx] at c3
    have hp : m2 = m.set j b.items[i] := by rw [htk]; unfold putI; rw [if_neg (by omega), ej]
    have hi1 : ids m = ids m2 := by rw [hp, ids_set hj hmid]
    have hi2 : (itsD m).set j (.data (item b.items[i])) = itsD m2 := by rw [hp, itsD_set]
    unfold item at hi2 c3 hg
    simp -implicitDefEqProofs (disch := omega) [go_sem, em, hfd, hg]
    refine .inl (call_data c1 (by simp [go_sem]) ?_)
    simp -implicitDefEqProofs (disch := omega) [go_sem]
    refine .inl (call_data c3 (by simp [go_sem]) ?_)
    simp -implicitDefEqProofs (disch := omega) [go_sem, em, hfd, hg]
    refine next_ren ⟨i + 1, by omega, hm2⟩ (by simp only; omega) [] (rhoL [(0, some 0)]) ?_
    apply ren_lists <;> simp -implicitDefEqProofs [go_sem, em2, ← hi1, ← hi2]
    rw [hi2]
    exact renCells_plain rfl (by simp [itsD, plainD])
/-- Each number once. -/
def Uniq (m : List Item) : Prop := ∀ (i : Nat) (h : i < m.length), slot m m[i].id = i
theorem uniq_put {m : List Item} (x : Item) (hm : Uniq m) : Uniq (putI m x) := by
  rcases slot_spec m x.id with ⟨s1, s2⟩ | ⟨j, hj, s1, s2⟩
  · have hp : putI m x = m ++ [x] := by unfold putI; rw [if_pos (by omega)]
    rw [hp]
    intro i h
    by_cases e : i < m.length
    · rw [List.getElem_append_left e, slot_ne (fun h => s2 _ (List.getElem_mem e) h.symm)]
      exact hm i e
    · have : i = m.length := by simp at h; omega
      subst this
      simp only [List.getElem_concat_length]
      exact slot_new s2
  · have ej : (slot m x.id).toNat = j := by omega
    have hp : putI m x = m.set j x := by unfold putI; rw [if_neg (by omega), ej]
    rw [hp]
    intro i h
    rw [slot_set hj s2]
    have hi : i < m.length := by simpa using h
    by_cases e : j = i
    · subst e; simp only [List.getElem_set_self]; exact s1
    · rw [List.getElem_set_ne e]; exact hm i hi
theorem uniq_lines (l : List Item) : Uniq (linesM l) := by
  have : ∀ (l m : List Item), Uniq m → Uniq (l.foldl putI m) := by
    intro l
    induction l with
    | nil => intro m h; exact h
    | cons x t ih => intro m h; exact ih _ (uniq_put x h)
  exact this l [] (fun i h => absurd h (by simp))
theorem hasLast_all (l : List Item) : HasLast l (linesM l) l.length := by
  have : ∀ i, i ≤ l.length → HasLast l (linesM (l.take i)) i := by
    intro i
    induction i with
    | zero => intro _; exact hasLast_zero l
    | succ i ih =>
      intro h
      have := hasLast_succ (by omega : i < l.length) (ih (by omega))
      rw [← linesM_snoc, List.take_append_getElem] at this
      exact this
  have := this l.length (Nat.le_refl _)
  rwa [List.take_length] at this
theorem last_id (l : List Item) (id : Int) : ∀ (n : Nat), n ≤ l.length → ∀ (k : Nat), last l id n = (k : Int) → ∀ (hk : k < l.length), l[k].id = id
  | 0, _, k, h, _ => by simp only [last] at h; omega
  | n + 1, hn, k, h, hk => by
    rw [last_succ l id n (by omega)] at h
    by_cases e : l[n].id = id
    · rw [if_pos e] at h
      obtain rfl : n = k := by omega
      exact e
    · rw [if_neg e] at h
      exact last_id l id n (by omega) k h hk
/-- What the map has of a session that is open. -/
theorem led_open {b : Book} (hr : RightP b) {i : Nat} (h : i < b.opn.length) : ∃ (j : Nat) (hj : j < (linesM b.items).length), slot (linesM b.items) b.opn[i].id = (j : Int) ∧ (linesM b.items)[j].kind ≠ 3 ∧ (linesM b.items)[j].inn = b.opn[i].inn ∧ (linesM b.items)[j].out = b.opn[i].out := by
  obtain ⟨k0, ki, ko⟩ := hr.ends i h
  rcases hasLast_all b.items b.opn[i].id with ⟨h1, _⟩ | ⟨k, j, hk, hj, h1, h2, h3⟩
  · omega
  · rw [h1, Int.toNat_natCast] at ki ko
    have hgd : b.items.getD k default = b.items[k] := by rw [List.getD_eq_getElem?_getD, List.getElem?_eq_getElem hk]; rfl
    rw [hgd] at ki ko
    have hid := last_id b.items b.opn[i].id _ (Nat.le_refl _) k h1 hk
    refine ⟨j, hj, h2, ?_, h3 ▸ ki, h3 ▸ ko⟩
    rw [h3]
    intro e3
    have he := (hr.items k hk).ends (by rw [hid]; exact h1)
    refine he ⟨fun _ => e3, fun _ => ?_⟩
    rw [hid]
    rcases first_spec (p := fun s : Sess => decide (s.id = b.opn[i].id)) b.opn 0 with ⟨_, t2⟩ | ⟨j2, hj2, t1, _⟩
    · exact absurd (t2 _ (List.getElem_mem h)) (by simp)
    · unfold ofId; rw [t1]; omega
/-- What it has besides has stopped. -/
theorem led_rest {b : Book} (hr : RightP b) {i : Nat} (h : i < (linesM b.items).length) (hk : (linesM b.items)[i].kind ≠ 3) : 0 ≤ first (fun s : Sess => decide (s.id = (linesM b.items)[i].id)) 0 b.opn := by
  have hu := uniq_lines b.items i h
  rcases hasLast_all b.items (linesM b.items)[i].id with ⟨_, h2⟩ | ⟨k, j, hkk, hj, h1, h2, h3⟩
  · omega
  · obtain rfl : j = i := by omega
    have hid := last_id b.items _ _ (Nat.le_refl _) k h1 hkk
    have he := (hr.items k hkk).ends (by rw [hid]; exact h1)
    rw [hid, ← h3] at he
    by_cases g : 0 ≤ ofId b (linesM b.items)[j].id
    · exact g
    · exact absurd (Iff.intro (fun x => absurd x g) (fun x => absurd x hk)) he
theorem itms_get {m : List Item} {j : Nat} (hj : j < m.length) : ((items m).map D.data)[j]? = some (.data (item m[j])) := by simp [items, hj]
set_option maxHeartbeats 8000000 in
set_option maxRecDepth 100000 in
theorem rightLedger_pc (b : Book) (hr : RightP b) (ht : ∀ x ∈ b.items, x.Ty) : PC Try.prog Γ 67 [book b] (.bool true) := by
  refine pc_by mixed Try.func67 rfl (fun args w => Try.call67 args w) ?_
  have n0 := hr.n0
  have n1 := hr.n1
  have hlen := hr.len
  have c0 := lastLines_pc Γ b (by omega) ht n0 n1 (fun i h => (hr.items i h).line)
  have hopen := fun i h => led_open hr (i := i) h
  have hrest := fun i h => led_rest hr (i := i) h
  have hpl := fun id => placeOfId_pc Γ b.opn (by omega) id
  generalize linesM b.items = m at *
  simp -implicitDefEqProofs (disch := omega) [go_sem, book]
  refine .inl (call_data c0 (by simp [go_sem]) ?_)
  simp -implicitDefEqProofs (disch := omega) [go_sem]
  refine loop_ren (σ := { i : Nat // i ≤ b.opn.length }) (fun i => ⟨envL [(1, .ptr 0 0), (3, .data (.mp (ids m) (items m))), (22, .data (.sl 6 (sesss b.opn))), (23, .data (.int .i64 b.opn.length)), (24, .data (.int .i64 i.1))], hpL [(0, .blk true [.data (.int .i64 b.next), .data (.sl 6 (sesss b.opn)), .data (.sl 5 (items b.items)), .data (.sl 3 (locks b.locks))])], 1, 0, 74⟩) (fun i => b.opn.length - i.1) ⟨0, by omega⟩ [] (rhoL [(0, some 0)]) ?_ ?_
  · apply ren_lists <;> simp -implicitDefEqProofs [go_sem]
  rintro ⟨i, hi⟩
  by_cases h : i < b.opn.length
  · obtain ⟨j, hj, h1, h2, h3, h4⟩ := hopen i h
    have hfd := findD_slot m b.opn[i].id
    rw [h1, if_neg (by omega), Int.toNat_natCast] at hfd
    have hg := itms_get hj
    unfold item at hg
    simp -implicitDefEqProofs (disch := omega) [go_sem, hfd, hg, h2, h3, h4]
    refine next_ren ⟨i + 1, by omega⟩ (by simp only; omega) [] (rhoL [(0, some 0)]) ?_
    apply ren_lists <;> simp -implicitDefEqProofs [go_sem]
  obtain rfl : i = b.opn.length := by omega
  simp -implicitDefEqProofs (disch := omega) [go_sem]
  refine loop_ren (σ := { l : List Nat × Option Nat // ∀ i ∈ l.1, i < m.length }) (fun l => ⟨envL [(1, .ptr 0 0), (58, .iref 1)], hpL [(0, .blk true [.data (.int .i64 b.next), .data (.sl 6 (sesss b.opn)), .data (.sl 5 (items b.items)), .data (.sl 3 (locks b.locks))]), (1, .obj (.it (ids m) (items m) l.1.1 l.1.2))], 2, 0, 74⟩) (fun l => l.1.1.length) ⟨(List.range m.length, none), fun i h => by simpa using h⟩ [] (rhoL [(0, some 0), (1, some 3)]) ?_ ?_
  · apply ren_lists <;> simp -implicitDefEqProofs [go_sem, ids]
  rintro ⟨⟨left, cur⟩, hleft⟩
  simp -implicitDefEqProofs (disch := omega) [go_sem]
  refine ⟨fun hl => ?_, fun q k x hq hk hx => ?_⟩
  · simp -implicitDefEqProofs (disch := omega) [go_sem, Try.results67]
  have hqm := hleft q hq
  obtain rfl : k = .int .i64 m[q].id := by simpa [ids, hqm] using hk.symm
  obtain rfl : x = item m[q] := by simpa [items, hqm] using hx.symm
  unfold item at hx
  by_cases g : m[q].kind = 3
  · simp -implicitDefEqProofs (disch := omega) [go_sem, hk, hx, g, item]
    refine next_ren ⟨(left.filter (· != q), some q), fun i hi => hleft i (List.mem_filter.1 hi).1⟩ ?_ [] (rhoL [(0, some 0), (1, some 1)]) ?_
    · simp only
      refine Nat.lt_of_le_of_ne (List.length_filter_le _ _) fun e => ?_
      have := List.length_filter_eq_length_iff.1 e q hq
      simp at this
    apply ren_lists <;> simp -implicitDefEqProofs [go_sem]
  · simp -implicitDefEqProofs (disch := omega) [go_sem, hk, hx, g, item]
    refine .inl (call_data (hpl m[q].id) (by simp [go_sem]) ?_)
    have hp := hrest q hqm g
    simp -implicitDefEqProofs (disch := omega) [go_sem]
    refine next_ren ⟨(left.filter (· != q), some q), fun i hi => hleft i (List.mem_filter.1 hi).1⟩ ?_ [] (rhoL [(0, some 0), (1, some 1)]) ?_
    · simp only
      refine Nat.lt_of_le_of_ne (List.length_filter_le _ _) fun e => ?_
      have := List.length_filter_eq_length_iff.1 e q hq
      simp at this
    apply ren_lists <;> simp -implicitDefEqProofs [go_sem]
end Bk
end Go.Proofs.Ytdgklbbgbnapoaa
namespace Go.Proofs.Ytdgklbbgbnapoaa
open Go.RowKit
set_option linter.unusedVariables false
set_option linter.unusedSimpArgs false
set_option maxRecDepth 100000
namespace Bk
section
variable (Γ : Nat → Option (List Data))
set_option maxHeartbeats 8000000 in
theorem lastLinesNo_pc (b : Book) (hi : b.items.length ≤ 140737488351232) (ht : ∀ x ∈ b.items, x.Ty) (n0 : 0 ≤ b.next) (n1 : b.next ≤ 1000000000) (hno : ¬ ∀ (i : Nat) (h : i < b.items.length), LineOk b i b.items[i]) : PC Try.prog Γ 87 [.sl 5 (items b.items), .int .i64 b.next] (.tup [.nilm, .bool false]) := by
  refine pc_by mixed Try.func87 rfl (fun args w => Try.call87 args w) ?_
  simp -implicitDefEqProofs (disch := omega) [go_sem]
  refine loop_ren (σ := { i : Nat // (i ≤ b.items.length ∧ ∀ (j : Nat) (h : j < b.items.length), j < i → LineOk b j b.items[j]) ∧ HasLast b.items (linesM (b.items.take i)) i }) (fun i => ⟨envL [(1, .data (.int .i64 b.next)), (6, .mref 0), (12, .data (.sl 5 (items b.items))), (13, .data (.int .i64 b.items.length)), (14, .data (.int .i64 i.1))], hpL [(0, .obj (.mp (ids (linesM (b.items.take i.1))) (itsD (linesM (b.items.take i.1)))))], 1, 0, 55⟩) (fun i => b.items.length - i.1) ⟨0, ⟨by omega, fun j h hj => absurd hj (by omega)⟩, hasLast_zero _⟩ [] (rhoL [(0, some 2)]) ?_ ?_
  · apply ren_lists <;> simp -implicitDefEqProofs [go_sem, linesM, ids, itsD]
  rintro ⟨i, ⟨hi2, hall⟩, hm⟩
  by_cases h : i < b.items.length
  rotate_left
  · exact absurd (fun j hj => hall j hj (by omega)) hno
  have hty := ht _ (List.getElem_mem h)
  have c1 := isFrom_pc Γ b.items[i].id 0 (b.next - 1)
  have c2 := mayBegin_pc Γ b.items[i] hty
  have htk : linesM (b.items.take (i + 1)) = putI (linesM (b.items.take i)) b.items[i] := by rw [← linesM_snoc, List.take_append_getElem]
  have hm2 := hasLast_succ h hm
  rw [← htk] at hm2
  have hfd := findD_slot (linesM (b.items.take i)) b.items[i].id
  have hcase := hm b.items[i].id
  have hall2 : LineOk b i b.items[i] → ∀ (j : Nat) (h : j < b.items.length), j < i + 1 → LineOk b j b.items[j] := fun hl j hj hji => if e : j = i then by subst e; exact hl else hall j hj (by omega)
  obtain ⟨m, em⟩ : ∃ m, linesM (b.items.take i) = m := ⟨_, rfl⟩
  obtain ⟨m2, em2⟩ : ∃ m, linesM (b.items.take (i + 1)) = m := ⟨_, rfl⟩
  rw [em] at hfd hcase
  rw [em, em2] at htk
  rcases hcase with ⟨h1, h2⟩ | ⟨k, j, hk, hj, h1, h2, h3⟩
  · rw [if_pos h2] at hfd
    by_cases g1 : 0 ≤ b.items[i].id ∧ b.items[i].id ≤ b.next - 1
    rotate_left
    · rw [decide_eq_false g1] at c1
      simp -implicitDefEqProofs (disch := omega) [go_sem, em, hfd]
      refine .inl (call_data c1 (by simp [go_sem]) ?_)
      simp -implicitDefEqProofs (disch := omega) [go_sem, Try.results87]
    rw [decide_eq_true g1] at c1
    by_cases hf : FirstOk b.items[i]
    rotate_left
    · rw [decide_eq_false hf] at c2
      unfold item at c2
      simp -implicitDefEqProofs (disch := omega) [go_sem, em, hfd]
      refine .inl (call_data c1 (by simp [go_sem]) ?_)
      simp -implicitDefEqProofs (disch := omega) [go_sem]
      refine .inl (call_data c2 (by simp [go_sem]) ?_)
      simp -implicitDefEqProofs (disch := omega) [go_sem, Try.results87]
    have hline : LineOk b i b.items[i] := by unfold FirstOk at hf; unfold LineOk LineAt; omega
    have hallN := hall2 hline
    rw [decide_eq_true hf] at c2
    have hp : m2 = m ++ [b.items[i]] := by rw [htk]; unfold putI; rw [if_pos h2]
    have hi1 : ids m ++ [.int .i64 b.items[i].id] = ids m2 := by rw [hp, ids_app]
    have hi2 : itsD m ++ [.data (item b.items[i])] = itsD m2 := by rw [hp, itsD_app]
    clear hall2 hline hf
    unfold item at hi2 c2
    simp -implicitDefEqProofs (disch := omega) [go_sem, em, hfd]
    refine .inl (call_data c1 (by simp [go_sem]) ?_)
    simp -implicitDefEqProofs (disch := omega) [go_sem]
    refine .inl (call_data c2 (by simp [go_sem]) ?_)
    simp -implicitDefEqProofs (disch := omega) [go_sem, em, hfd]
    refine next_ren ⟨i + 1, ⟨by omega, hallN⟩, hm2⟩ (by simp only; omega) [] (rhoL [(0, some 0)]) ?_
    apply ren_lists <;> simp -implicitDefEqProofs [go_sem, em2, ← hi1, ← hi2]
    rw [hi2]
    exact renCells_plain rfl (by simp [itsD, plainD])
  · have ej : (slot m b.items[i].id).toNat = j := by omega
    rw [if_neg (by omega), ej] at hfd
    have hg := itsD_get hj
    have hmid : m[j].id = b.items[i].id := by
      rcases slot_spec m b.items[i].id with ⟨t1, _⟩ | ⟨j2, hj2, t1, t2⟩
      · omega
      · obtain rfl : j2 = j := by omega
        exact t2
    have c3 := mayFollow_pc Γ m[j] b.items[i]
    by_cases g1 : 0 ≤ b.items[i].id ∧ b.items[i].id ≤ b.next - 1
    rotate_left
    · rw [decide_eq_false g1] at c1
      unfold item at hg
      simp -implicitDefEqProofs (disch := omega) [go_sem, em, hfd, hg]
      refine .inl (call_data c1 (by simp [go_sem]) ?_)
      simp -implicitDefEqProofs (disch := omega) [go_sem, Try.results87]
    rw [decide_eq_true g1] at c1
    by_cases hnx : NextOk m[j] b.items[i]
    rotate_left
    · rw [decide_eq_false hnx] at c3
      unfold item at hg c3
      simp -implicitDefEqProofs (disch := omega) [go_sem, em, hfd, hg]
      refine .inl (call_data c1 (by simp [go_sem]) ?_)
      simp -implicitDefEqProofs (disch := omega) [go_sem]
      refine .inl (call_data c3 (by simp [go_sem]) ?_)
      simp -implicitDefEqProofs (disch := omega) [go_sem, Try.results87]
    have hline : LineOk b i b.items[i] := by
      have hgd : b.items.getD k default = b.items[k] := by rw [List.getD_eq_getElem?_getD, List.getElem?_eq_getElem hk]; rfl
      unfold LineOk
      rw [h1]
      unfold LineAt
      rw [Int.toNat_natCast, hgd, ← h3]
      unfold NextOk at hnx
      omega
    have hallN := hall2 hline
    rw [decide_eq_true hnx] at c3
    have hp : m2 = m.set j b.items[i] := by rw [htk]; unfold putI; rw [if_neg (by omega), ej]
    have hi1 : ids m = ids m2 := by rw [hp, ids_set hj hmid]
    have hi2 : (itsD m).set j (.data (item b.items[i])) = itsD m2 := by rw [hp, itsD_set]
    clear hall2 hline hnx
    unfold item at hi2 c3 hg
    simp -implicitDefEqProofs (disch := omega) [go_sem, em, hfd, hg]
    refine .inl (call_data c1 (by simp [go_sem]) ?_)
    simp -implicitDefEqProofs (disch := omega) [go_sem]
    refine .inl (call_data c3 (by simp [go_sem]) ?_)
    simp -implicitDefEqProofs (disch := omega) [go_sem, em, hfd, hg]
    refine next_ren ⟨i + 1, ⟨by omega, hallN⟩, hm2⟩ (by simp only; omega) [] (rhoL [(0, some 0)]) ?_
    apply ren_lists <;> simp -implicitDefEqProofs [go_sem, em2, ← hi1, ← hi2]
    rw [hi2]
    exact renCells_plain rfl (by simp [itsD, plainD])
/-- What the map must have of a session that is open. -/
def OpenHas (m : List Item) (s : Sess) : Prop := ∃ (j : Nat) (hj : j < m.length), slot m s.id = (j : Int) ∧ m[j].kind ≠ 3 ∧ m[j].inn = s.inn ∧ m[j].out = s.out
/-- What has not stopped is open. -/
def RestHas (b : Book) (y : Item) : Prop := y.kind ≠ 3 → 0 ≤ first (fun s : Sess => decide (s.id = y.id)) 0 b.opn
def LedgerP (b : Book) : Prop := (∀ (i : Nat) (h : i < b.items.length), LineOk b i b.items[i]) ∧ (∀ (i : Nat) (h : i < b.opn.length), OpenHas (linesM b.items) b.opn[i]) ∧ ∀ (i : Nat) (h : i < (linesM b.items).length), RestHas b (linesM b.items)[i]
theorem led_iff (b : Book) : ((∀ (i : Nat) (h : i < b.items.length), ItemAt b i h) ∧ ∀ (i : Nat) (h : i < b.opn.length), SessEnd b b.opn[i]) ↔ LedgerP b := by
  constructor
  · rintro ⟨hit, hse⟩
    refine ⟨fun i h => (hit i h).line, fun i h => ?_, fun i h hk => ?_⟩
    · obtain ⟨k0, ki, ko⟩ := hse i h
      rcases hasLast_all b.items b.opn[i].id with ⟨h1, _⟩ | ⟨k, j, hk, hj, h1, h2, h3⟩
      · omega
      · rw [h1, Int.toNat_natCast] at ki ko
        have hgd : b.items.getD k default = b.items[k] := by rw [List.getD_eq_getElem?_getD, List.getElem?_eq_getElem hk]; rfl
        rw [hgd] at ki ko
        have hid := last_id b.items b.opn[i].id _ (Nat.le_refl _) k h1 hk
        refine ⟨j, hj, h2, ?_, h3 ▸ ki, h3 ▸ ko⟩
        rw [h3]
        intro e3
        have he := (hit k hk).ends (by rw [hid]; exact h1)
        refine he ⟨fun _ => e3, fun _ => ?_⟩
        rw [hid]
        rcases first_spec (p := fun s : Sess => decide (s.id = b.opn[i].id)) b.opn 0 with ⟨_, t2⟩ | ⟨j2, hj2, t1, _⟩
        · exact absurd (t2 _ (List.getElem_mem h)) (by simp)
        · unfold ofId; rw [t1]; omega
    · have hu := uniq_lines b.items i h
      rcases hasLast_all b.items (linesM b.items)[i].id with ⟨_, h2⟩ | ⟨k, j, hkk, hj, h1, h2, h3⟩
      · omega
      · obtain rfl : j = i := by omega
        have hid := last_id b.items _ _ (Nat.le_refl _) k h1 hkk
        have he := (hit k hkk).ends (by rw [hid]; exact h1)
        rw [hid, ← h3] at he
        by_cases g : 0 ≤ ofId b (linesM b.items)[j].id
        · exact g
        · exact absurd (Iff.intro (fun x => absurd x g) (fun x => absurd x hk)) he
  · rintro ⟨p1, p2, p3⟩
    refine ⟨fun i h => ⟨p1 i h, fun hlast hiff => ?_⟩, fun i h => ?_⟩
    · rcases hasLast_all b.items b.items[i].id with ⟨h1, _⟩ | ⟨k, j, hkk, hj, h1, h2, h3⟩
      · omega
      · obtain rfl : k = i := by omega
        by_cases g : 0 ≤ ofId b b.items[k].id
        · have hk3 := hiff.1 g
          unfold ofId at g
          obtain ⟨s, hs, e⟩ := first_pos g
          obtain ⟨i2, hi2, rfl⟩ := List.getElem_of_mem hs
          have e : b.opn[i2].id = b.items[k].id := by simpa using e
          obtain ⟨j2, hj2, q1, q2, _⟩ := p2 i2 hi2
          rw [e, h2] at q1
          obtain rfl : j = j2 := by omega
          rw [h3] at q2
          exact q2 hk3
        · have hk3 : b.items[k].kind ≠ 3 := fun e => g (hiff.2 e)
          have := p3 j hj (by rw [h3]; exact hk3)
          rw [h3] at this
          exact g this
    · obtain ⟨j, hj, q1, q2, q3, q4⟩ := p2 i h
      rcases hasLast_all b.items b.opn[i].id with ⟨_, h2⟩ | ⟨k, j2, hk, hj2, h1, h2, h3⟩
      · omega
      · obtain rfl : j2 = j := by omega
        have hgd : b.items.getD k default = b.items[k] := by rw [List.getD_eq_getElem?_getD, List.getElem?_eq_getElem hk]; rfl
        refine ⟨by omega, ?_, ?_⟩
        · rw [h1, Int.toNat_natCast, hgd, ← h3]; exact q3
        · rw [h1, Int.toNat_natCast, hgd, ← h3]; exact q4
set_option maxHeartbeats 8000000 in
theorem rightLedger2_pc (b : Book) (ho : b.opn.length ≤ 1000000) (hi : b.items.length ≤ 1000000) (n0 : 0 ≤ b.next) (n1 : b.next ≤ 1000000000) (ht : ∀ x ∈ b.items, x.Ty) {v : Bool} (hv : v = true ↔ LedgerP b) : PC Try.prog Γ 67 [book b] (.bool v) := by
  refine pc_by mixed Try.func67 rfl (fun args w => Try.call67 args w) ?_
  have no : ¬ LedgerP b → v = false := fun h => by
    cases v
    · rfl
    · exact absurd (hv.1 rfl) h
  have yes : LedgerP b → v = true := hv.2
  clear hv
  by_cases p1 : ∀ (i : Nat) (h : i < b.items.length), LineOk b i b.items[i]
  rotate_left
  · have hvf : v = false := no fun h => p1 h.1
    have c0 := lastLinesNo_pc Γ b (by omega) ht n0 n1 p1
    simp -implicitDefEqProofs (disch := omega) [go_sem, book]
    refine .inl (call_data c0 (by simp [go_sem]) ?_)
    simp -implicitDefEqProofs (disch := omega) [go_sem, hvf, Try.results67]
  have c0 := lastLines_pc Γ b (by omega) ht n0 n1 p1
  have hpl := fun id => placeOfId_pc Γ b.opn (by omega) id
  have no2 : ∀ (i : Nat) (h : i < b.opn.length), ¬ OpenHas (linesM b.items) b.opn[i] → v = false := fun i h hn => no fun hl => hn (hl.2.1 i h)
  have no3 : ∀ (i : Nat) (h : i < (linesM b.items).length), ¬ RestHas b (linesM b.items)[i] → v = false := fun i h hn => no fun hl => hn (hl.2.2 i h)
  have yes2 : (∀ (i : Nat) (h : i < b.opn.length), OpenHas (linesM b.items) b.opn[i]) → (∀ (i : Nat) (h : i < (linesM b.items).length), RestHas b (linesM b.items)[i]) → v = true := fun h2 h3 => yes ⟨p1, h2, h3⟩
  clear no yes p1
  generalize linesM b.items = m at *
  simp -implicitDefEqProofs (disch := omega) [go_sem, book]
  refine .inl (call_data c0 (by simp [go_sem]) ?_)
  simp -implicitDefEqProofs (disch := omega) [go_sem]
  refine loop_ren (σ := { i : Nat // i ≤ b.opn.length ∧ ∀ (j : Nat) (h : j < b.opn.length), j < i → OpenHas m b.opn[j] }) (fun i => ⟨envL [(1, .ptr 0 0), (3, .data (.mp (ids m) (items m))), (22, .data (.sl 6 (sesss b.opn))), (23, .data (.int .i64 b.opn.length)), (24, .data (.int .i64 i.1))], hpL [(0, .blk true [.data (.int .i64 b.next), .data (.sl 6 (sesss b.opn)), .data (.sl 5 (items b.items)), .data (.sl 3 (locks b.locks))])], 1, 0, 74⟩) (fun i => b.opn.length - i.1) ⟨0, by omega, fun j h hj => absurd hj (by omega)⟩ [] (rhoL [(0, some 0)]) ?_ ?_
  · apply ren_lists <;> simp -implicitDefEqProofs [go_sem]
  rintro ⟨i, hi3, hall⟩
  by_cases h : i < b.opn.length
  · have hfd := findD_slot m b.opn[i].id
    have hno := no2 i h
    have hallN : OpenHas m b.opn[i] → ∀ (j : Nat) (h : j < b.opn.length), j < i + 1 → OpenHas m b.opn[j] := fun hl j hj hji => if e : j = i then by subst e; exact hl else hall j hj (by omega)
    clear no2 no3 yes2
    rcases slot_spec m b.opn[i].id with ⟨s1, s2⟩ | ⟨j, hj, s1, s2⟩
    · rw [s1, if_pos (by omega)] at hfd
      have hvf : v = false := hno fun ⟨j, hj, q1, _⟩ => by omega
      simp -implicitDefEqProofs (disch := omega) [go_sem, hfd, hvf, Try.results67]
    rw [s1, if_neg (by omega), Int.toNat_natCast] at hfd
    have hg := itms_get hj
    have hhas : OpenHas m b.opn[i] ↔ m[j].kind ≠ 3 ∧ m[j].inn = b.opn[i].inn ∧ m[j].out = b.opn[i].out := by
      constructor
      · rintro ⟨j2, hj2, q1, q2⟩
        obtain rfl : j2 = j := by omega
        exact q2
      · intro q; exact ⟨j, hj, s1, q⟩
    rw [hhas] at hno hallN
    clear hhas
    unfold item at hg
    by_cases g1 : m[j].kind = 3
    · have hvf : v = false := hno fun q => q.1 g1
      simp -implicitDefEqProofs (disch := omega) [go_sem, hfd, hg, g1, hvf, Try.results67]
    by_cases g2 : m[j].inn = b.opn[i].inn
    rotate_left
    · have hvf : v = false := hno fun q => g2 q.2.1
      simp -implicitDefEqProofs (disch := omega) [go_sem, hfd, hg, g1, g2, hvf, Try.results67]
    by_cases g3 : m[j].out = b.opn[i].out
    rotate_left
    · have hvf : v = false := hno fun q => g3 q.2.2
      simp -implicitDefEqProofs (disch := omega) [go_sem, hfd, hg, g1, g2, g3, hvf, Try.results67]
    have hallM := hallN ⟨g1, g2, g3⟩
    clear hallN hno
    simp -implicitDefEqProofs (disch := omega) [go_sem, hfd, hg, g1, g2, g3]
    refine next_ren ⟨i + 1, by omega, hallM⟩ (by simp only; omega) [] (rhoL [(0, some 0)]) ?_
    apply ren_lists <;> simp -implicitDefEqProofs [go_sem]
  obtain rfl : i = b.opn.length := by omega
  have yes3 := yes2 fun j hj => hall j hj hj
  clear yes2 no2
  simp -implicitDefEqProofs (disch := omega) [go_sem]
  refine loop_ren (σ := { l : List Nat × Option Nat // (∀ i ∈ l.1, i < m.length) ∧ ∀ (q : Nat) (h : q < m.length), q ∉ l.1 → RestHas b m[q] }) (fun l => ⟨envL [(1, .ptr 0 0), (58, .iref 1)], hpL [(0, .blk true [.data (.int .i64 b.next), .data (.sl 6 (sesss b.opn)), .data (.sl 5 (items b.items)), .data (.sl 3 (locks b.locks))]), (1, .obj (.it (ids m) (items m) l.1.1 l.1.2))], 2, 0, 74⟩) (fun l => l.1.1.length) ⟨(List.range m.length, none), fun i h => by simpa using h, fun q hq hn => absurd hq (by simpa using hn)⟩ [] (rhoL [(0, some 0), (1, some 3)]) ?_ ?_
  · apply ren_lists <;> simp -implicitDefEqProofs [go_sem, ids]
  rintro ⟨⟨left, cur⟩, hleft, hdone⟩
  simp only at hleft hdone
  simp -implicitDefEqProofs (disch := omega) [go_sem]
  refine ⟨fun hl => ?_, fun q k x hq hk hx => ?_⟩
  · have hvt : v = true := yes3 fun i h => hdone i h (by rw [hl]; simp)
    simp -implicitDefEqProofs (disch := omega) [go_sem, hvt, Try.results67]
  have hqm := hleft q hq
  obtain rfl : k = .int .i64 m[q].id := by simpa [ids, hqm] using hk.symm
  obtain rfl : x = item m[q] := by simpa [items, hqm] using hx.symm
  have hdoneN : RestHas b m[q] → ∀ (q2 : Nat) (h : q2 < m.length), q2 ∉ left.filter (· != q) → RestHas b m[q2] := fun hr q2 h2 hn => by
    by_cases e : q2 = q
    · subst e; exact hr
    · refine hdone q2 h2 fun hin => hn (List.mem_filter.2 ⟨hin, ?_⟩)
      simpa using e
  have hno := no3 q hqm
  clear no3 yes3
  unfold item at hx
  by_cases g : m[q].kind = 3
  · have hdM := hdoneN fun h => absurd g h
    clear hdoneN hno
    simp -implicitDefEqProofs (disch := omega) [go_sem, hk, hx, g, item]
    refine next_ren ⟨(left.filter (· != q), some q), fun i hi => hleft i (List.mem_filter.1 hi).1, hdM⟩ ?_ [] (rhoL [(0, some 0), (1, some 1)]) ?_
    · simp only
      refine Nat.lt_of_le_of_ne (List.length_filter_le _ _) fun e => ?_
      have := List.length_filter_eq_length_iff.1 e q hq
      simp at this
    apply ren_lists <;> simp -implicitDefEqProofs [go_sem]
  by_cases hp : 0 ≤ first (fun s : Sess => decide (s.id = m[q].id)) 0 b.opn
  rotate_left
  · have hvf : v = false := hno fun h => hp (h g)
    clear hdoneN hno
    simp -implicitDefEqProofs (disch := omega) [go_sem, hk, hx, g, item]
    refine .inl (call_data (hpl m[q].id) (by simp [go_sem]) ?_)
    simp -implicitDefEqProofs (disch := omega) [go_sem, hvf, Try.results67]
  · have hdM := hdoneN fun _ => hp
    clear hdoneN hno
    simp -implicitDefEqProofs (disch := omega) [go_sem, hk, hx, g, item]
    refine .inl (call_data (hpl m[q].id) (by simp [go_sem]) ?_)
    simp -implicitDefEqProofs (disch := omega) [go_sem]
    refine next_ren ⟨(left.filter (· != q), some q), fun i hi => hleft i (List.mem_filter.1 hi).1, hdM⟩ ?_ [] (rhoL [(0, some 0), (1, some 1)]) ?_
    · simp only
      refine Nat.lt_of_le_of_ne (List.length_filter_le _ _) fun e => ?_
      have := List.length_filter_eq_length_iff.1 e q hq
      simp at this
    apply ren_lists <;> simp -implicitDefEqProofs [go_sem]
set_option maxHeartbeats 8000000 in
theorem right3_pc (b : Book) (hb : Fits b) (ht : ∀ x ∈ b.items, x.Ty) {q : Bool} (hq : q = true ↔ RightP b) : PC Try.prog Γ 38 [book b] (.bool q) := by
  refine pc_by mixed Try.func38 rfl (fun args w => Try.call38 args w) ?_
  have no : ¬ RightP b → q = false := fun h => by
    cases q
    · rfl
    · exact absurd (hq.1 rfl) h
  have yes : RightP b → q = true := hq.2
  clear hq
  obtain ⟨f1, f2, f3, f4, f5⟩ := hb
  have c1 := isFrom_pc Γ b.next 0 1000000000
  by_cases g1 : 0 ≤ b.next ∧ b.next ≤ 1000000000
  rotate_left
  · have hqf : q = false := no fun r => g1 ⟨r.n0, r.n1⟩
    rw [decide_eq_false g1] at c1
    simp -implicitDefEqProofs (disch := omega) [go_sem, book]
    refine .inl (call_data c1 (by simp [go_sem]) ?_)
    simp -implicitDefEqProofs (disch := omega) [go_sem, hqf, Try.f38]
  rw [decide_eq_true g1] at c1
  by_cases g2 : b.items.length + b.opn.length ≤ 60
  rotate_left
  · have hqf : q = false := no fun r => g2 r.len
    simp -implicitDefEqProofs (disch := omega) [go_sem, book]
    refine .inl (call_data c1 (by simp [go_sem]) ?_)
    simp -implicitDefEqProofs (disch := omega) [go_sem, hqf, Try.f38]
  by_cases g3 : b.locks.length ≤ 8
  rotate_left
  · have hqf : q = false := no fun r => g3 r.ll
    simp -implicitDefEqProofs (disch := omega) [go_sem, book]
    refine .inl (call_data c1 (by simp [go_sem]) ?_)
    simp -implicitDefEqProofs (disch := omega) [go_sem, hqf, Try.f38]
  obtain ⟨v2, hv2⟩ : ∃ v : Bool, v = true ↔ OpenOk b := by classical exact ⟨decide (OpenOk b), by simp⟩
  have c2 := rightOpen_pc Γ b (by omega) g1.1 g1.2 hv2
  cases v2 with
  | false =>
    have hqf : q = false := no fun r => by have := hv2.2 r.opens; cases this
    simp -implicitDefEqProofs (disch := omega) [go_sem, book]
    refine .inl (call_data c1 (by simp [go_sem]) ?_)
    simp -implicitDefEqProofs (disch := omega) [go_sem]
    refine .inl (call_data c2 (by simp [go_sem]) ?_)
    simp -implicitDefEqProofs (disch := omega) [go_sem, hqf, Try.f38]
  | true =>
    have hopen := hv2.1 rfl
    obtain ⟨v3, hv3⟩ : ∃ v : Bool, v = true ↔ LedgerP b := by classical exact ⟨decide (LedgerP b), by simp⟩
    have c3 := rightLedger2_pc Γ b (by omega) (by omega) g1.1 g1.2 ht hv3
    unfold book at c3
    cases v3 with
    | false =>
      have hqf : q = false := no fun r => by have := hv3.2 ((led_iff b).1 ⟨r.items, r.ends⟩); cases this
      simp -implicitDefEqProofs (disch := omega) [go_sem, book]
      refine .inl (call_data c1 (by simp [go_sem]) ?_)
      simp -implicitDefEqProofs (disch := omega) [go_sem]
      refine .inl (call_data c2 (by simp [go_sem]) ?_)
      simp -implicitDefEqProofs (disch := omega) [go_sem]
      refine .inl (call_data c3 (by simp [go_sem]) ?_)
      simp -implicitDefEqProofs (disch := omega) [go_sem, hqf, Try.f38]
    | true =>
      have hled := (led_iff b).2 (hv3.1 rfl)
      obtain ⟨v4, hv4⟩ : ∃ v : Bool, v = true ↔ ∀ (i : Nat) (h : i < b.locks.length), LockAt b i h := by classical exact ⟨decide (∀ (i : Nat) (h : i < b.locks.length), LockAt b i h), by simp⟩
      have c4 := rightLocks_pc Γ b (by omega) hv4
      have e4 : q = v4 := by
        cases v4 with
        | false => exact no fun r => by have := hv4.2 r.locks; cases this
        | true => exact yes ⟨g1.1, g1.2, g2, g3, hopen, hled.1, hled.2, hv4.1 rfl⟩
      clear no yes hv4 hv3 hv2 hled hopen
      simp -implicitDefEqProofs (disch := omega) [go_sem, book]
      refine .inl (call_data c1 (by simp [go_sem]) ?_)
      simp -implicitDefEqProofs (disch := omega) [go_sem]
      refine .inl (call_data c2 (by simp [go_sem]) ?_)
      simp -implicitDefEqProofs (disch := omega) [go_sem]
      refine .inl (call_data c3 (by simp [go_sem]) ?_)
      simp -implicitDefEqProofs (disch := omega) [go_sem]
      refine .inl (call_data c4 (by simp [go_sem]) ?_)
      simp -implicitDefEqProofs (disch := omega) [go_sem, e4, Try.f38]
end
end Bk
end Go.Proofs.Ytdgklbbgbnapoaa
namespace Go.Proofs.Ytdgklbbgbnapoaa
open Go.RowKit
set_option linter.unusedVariables false
set_option linter.unusedSimpArgs false
set_option maxRecDepth 100000
namespace Bk
section
theorem manyP_none {α : Type} {p : List Nat → Option (α × List Nat)} {n i : Nat} {l r : List Nat} {xs : List α} (hi : i < n) (h : manyP p n l = (manyP p (n - i) r).map fun y => (xs ++ y.1, y.2)) (hp : p r = none) : manyP p n l = none := by
  rw [h, show n - i = (n - i - 1) + 1 by omega, manyP, hp]
  rfl
theorem manyP_more {α : Type} {p : List Nat → Option (α × List Nat)} {n i : Nat} {l r r2 : List Nat} {xs : List α} {x : α} (hi : i < n) (h : manyP p n l = (manyP p (n - i) r).map fun y => (xs ++ y.1, y.2)) (hp : p r = some (x, r2)) : manyP p n l = (manyP p (n - (i + 1)) r2).map fun y => ((xs ++ [x]) ++ y.1, y.2) := by
  rw [h, show n - i = (n - (i + 1)) + 1 by omega, manyP, hp]
  cases h2 : manyP p (n - (i + 1)) r2 with
  | none => simp [bnd, h2]
  | some y => simp [bnd, h2]
theorem manyP_end {α : Type} {p : List Nat → Option (α × List Nat)} {n : Nat} {l r : List Nat} {xs : List α} (h : manyP p n l = (manyP p (n - n) r).map fun y => (xs ++ y.1, y.2)) : manyP p n l = some (xs, r) := by
  rw [h, Nat.sub_self, manyP]
  simp
theorem sessP_rest {l r : List Nat} {s : Sess} (hl : Bytes l) (h : sessP l = some (s, r)) : Bytes r ∧ r.length ≤ l.length := by
  obtain ⟨rfl, _⟩ := (sessP_iff hl s r).1 h
  exact ⟨(bytes_app.1 hl).2, by simp⟩
theorem itemP_rest {l r : List Nat} {s : Item} (hl : Bytes l) (h : itemP l = some (s, r)) : Bytes r ∧ r.length ≤ l.length := by
  obtain ⟨rfl, _⟩ := (itemP_iff hl s r).1 h
  exact ⟨(bytes_app.1 hl).2, by simp⟩
theorem lockP_rest {l r : List Nat} {s : Lock} (hl : Bytes l) (h : lockP l = some (s, r)) : Bytes r ∧ r.length ≤ l.length := by
  obtain ⟨rfl, _⟩ := (lockP_iff hl s r).1 h
  exact ⟨(bytes_app.1 hl).2, by simp⟩
end
section
variable (Γ : Nat → Option (List Data))

theorem sesss_flat_snoc (l : List Sess) (x : Sess) : (flat (sesss (l ++ [x]))).map D.data = (flat (sesss l)).map D.data ++ [.data (.int .i64 x.id), .data (.int .i64 x.link), .data (.int .u32 x.addr), .data (.str x.user), .data (.int .u64 x.inn), .data (.int .u64 x.out)] := by
  simp [sesss, flat, sess_cells]
set_option maxHeartbeats 8000000 in
theorem manySess_dx (l : List Nat) (hl : l.length ≤ 1000000) (hb : Bytes l) (n : Nat) (hn : n ≤ 255) : DX Try.prog Γ 70 [.data (.int .i64 n), .bnd 71 (.ptr 0 0)] (hpL [(0, .blk true [.data (.sl 1 (bys l))])]) 1 (RdK (mapD (manyP sessP n l) fun xs => .sl 6 (sesss xs))) (RdX (mapD (manyP sessP n l) fun xs => .sl 6 (sesss xs))) := by
  refine dx_by mixed Try.func70 rfl (fun args w => Try.call70 args w) ?_
  simp -implicitDefEqProofs (disch := omega) [go_sem]
  refine loop_ren (σ := { x : Nat × List Sess × List Nat // (x.1 ≤ n ∧ x.2.1.length = x.1) ∧ (Bytes x.2.2 ∧ x.2.2.length ≤ 1000000) ∧ manyP sessP n l = (manyP sessP (n - x.1) x.2.2).map fun y => (x.2.1 ++ y.1, y.2) }) (fun x => if x.1.1 < n then ⟨envL [(1, .bnd 71 (.ptr 0 0)), (5, .ref 1 0 x.1.1 6), (6, .data (.int .i64 n)), (7, .data (.int .i64 x.1.1))], hpL [(0, .blk true [.data (.sl 1 (bys x.1.2.2))]), (1, .blk true ((flat (sesss x.1.2.1)).map D.data))], 2, 1, 16⟩ else ⟨envL [(5, .data (.sl 6 (sesss x.1.2.1))), (6, .data (.int .i64 n)), (7, .data (.int .i64 x.1.1))], hpL [(0, .blk true [.data (.sl 1 (bys x.1.2.2))])], 2, 1, 16⟩) (fun x => n - x.1.1) ⟨(0, [], l), ⟨by simp, rfl⟩, ⟨hb, hl⟩, by simp⟩ [] (rhoL [(1, none)]) ?_ ?_
  · by_cases h0 : 0 < n
    · simp only [h0, if_true]
      apply ren_lists <;> simp -implicitDefEqProofs [go_sem, sesss, flat]
    · simp only [h0, if_false]
      apply ren_lists <;> simp -implicitDefEqProofs [go_sem, sesss]
  rintro ⟨⟨i, xs, r⟩, ⟨hi, hx⟩, ⟨hbr, hlr⟩, hm⟩
  simp only at hi hx hbr hlr hm ⊢
  by_cases h : i < n
  rotate_left
  · obtain rfl : i = n := by omega
    rw [if_neg h]
    have he := manyP_end hm
    simp -implicitDefEqProofs (disch := omega) [go_sem, Try.f70]
    exact rdK (l' := r) (by simp [go_sem]) (by rw [he]; rfl)
  rw [if_pos h]
  have hxl := sesss_length xs
  simp -implicitDefEqProofs (disch := omega) [go_sem]
  refine .inr (.inr (rd_lent (sess_rd Γ r hlr hbr) (by simp [go_sem]) (by simp) (fun d r2 hp => ?_) (fun hp l' => ?_)))
  rotate_left
  · rw [mapD_none] at hp
    have he := manyP_none h hm hp
    simp -implicitDefEqProofs (disch := omega) [go_sem]
    exact rdX (l' := l') rfl (by simp [go_sem]) (by rw [he]; rfl)
  obtain ⟨x, hp2, rfl⟩ := mapD_some.1 hp
  clear hp
  have he := manyP_more h hm hp2
  obtain ⟨hb2, hl2⟩ := sessP_rest hbr hp2
  have hsn := sesss_flat_snoc xs x
  have hlen : (flat (sesss xs)).length = i * 6 := by rw [flat_len (es := 6) (sesss_cells xs), sesss_length, hx]

  unfold sess
  simp -implicitDefEqProofs (disch := omega) [go_sem, hlen]
  refine next_ren ⟨(i + 1, xs ++ [x], r2), ⟨by simp only; omega, by simp [hx]⟩, ⟨hb2, by simp only; omega⟩, he⟩ (by simp only; omega) (if i + 1 < n then [] else [6]) (rhoL [(1, some 6)]) ?_
  by_cases h1 : i + 1 < n
  · simp only [h1, if_true]
    apply ren_lists <;> simp -implicitDefEqProofs [go_sem, hsn]
    all_goals exact renCells_plain rfl (by simp [plainD])
  · simp only [h1, if_false]
    apply ren_lists <;> simp -implicitDefEqProofs [go_sem]
    all_goals exact frz_ref (rw := false) rfl (.inr rfl) (by simp [sesss_length, hx]) (sesss_cells _) hsn.symm

theorem items_flat_snoc (l : List Item) (x : Item) : (flat (items (l ++ [x]))).map D.data = (flat (items l)).map D.data ++ [.data (.int .i64 x.kind), .data (.int .i64 x.id), .data (.int .u64 x.inn), .data (.int .u64 x.out), .data (.int .i64 x.cause)] := by
  simp [items, flat, item_cells]
set_option maxHeartbeats 8000000 in
theorem manyItem_dx (l : List Nat) (hl : l.length ≤ 1000000) (hb : Bytes l) (n : Nat) (hn : n ≤ 255) : DX Try.prog Γ 72 [.data (.int .i64 n), .bnd 73 (.ptr 0 0)] (hpL [(0, .blk true [.data (.sl 1 (bys l))])]) 1 (RdK (mapD (manyP itemP n l) fun xs => .sl 5 (items xs))) (RdX (mapD (manyP itemP n l) fun xs => .sl 5 (items xs))) := by
  refine dx_by mixed Try.func72 rfl (fun args w => Try.call72 args w) ?_
  simp -implicitDefEqProofs (disch := omega) [go_sem]
  refine loop_ren (σ := { x : Nat × List Item × List Nat // (x.1 ≤ n ∧ x.2.1.length = x.1) ∧ (Bytes x.2.2 ∧ x.2.2.length ≤ 1000000) ∧ manyP itemP n l = (manyP itemP (n - x.1) x.2.2).map fun y => (x.2.1 ++ y.1, y.2) }) (fun x => if x.1.1 < n then ⟨envL [(1, .bnd 73 (.ptr 0 0)), (5, .ref 1 0 x.1.1 5), (6, .data (.int .i64 n)), (7, .data (.int .i64 x.1.1))], hpL [(0, .blk true [.data (.sl 1 (bys x.1.2.2))]), (1, .blk true ((flat (items x.1.2.1)).map D.data))], 2, 1, 16⟩ else ⟨envL [(5, .data (.sl 5 (items x.1.2.1))), (6, .data (.int .i64 n)), (7, .data (.int .i64 x.1.1))], hpL [(0, .blk true [.data (.sl 1 (bys x.1.2.2))])], 2, 1, 16⟩) (fun x => n - x.1.1) ⟨(0, [], l), ⟨by simp, rfl⟩, ⟨hb, hl⟩, by simp⟩ [] (rhoL [(1, none)]) ?_ ?_
  · by_cases h0 : 0 < n
    · simp only [h0, if_true]
      apply ren_lists <;> simp -implicitDefEqProofs [go_sem, items, flat]
    · simp only [h0, if_false]
      apply ren_lists <;> simp -implicitDefEqProofs [go_sem, items]
  rintro ⟨⟨i, xs, r⟩, ⟨hi, hx⟩, ⟨hbr, hlr⟩, hm⟩
  simp only at hi hx hbr hlr hm ⊢
  by_cases h : i < n
  rotate_left
  · obtain rfl : i = n := by omega
    rw [if_neg h]
    have he := manyP_end hm
    simp -implicitDefEqProofs (disch := omega) [go_sem, Try.f72]
    exact rdK (l' := r) (by simp [go_sem]) (by rw [he]; rfl)
  rw [if_pos h]
  have hxl := items_length xs
  simp -implicitDefEqProofs (disch := omega) [go_sem]
  refine .inr (.inr (rd_lent (item_rd Γ r hlr hbr) (by simp [go_sem]) (by simp) (fun d r2 hp => ?_) (fun hp l' => ?_)))
  rotate_left
  · rw [mapD_none] at hp
    have he := manyP_none h hm hp
    simp -implicitDefEqProofs (disch := omega) [go_sem]
    exact rdX (l' := l') rfl (by simp [go_sem]) (by rw [he]; rfl)
  obtain ⟨x, hp2, rfl⟩ := mapD_some.1 hp
  clear hp
  have he := manyP_more h hm hp2
  obtain ⟨hb2, hl2⟩ := itemP_rest hbr hp2
  have hsn := items_flat_snoc xs x
  have hlen : (flat (items xs)).length = i * 5 := by rw [flat_len (es := 5) (items_cells xs), items_length, hx]

  unfold item
  simp -implicitDefEqProofs (disch := omega) [go_sem, hlen]
  refine next_ren ⟨(i + 1, xs ++ [x], r2), ⟨by simp only; omega, by simp [hx]⟩, ⟨hb2, by simp only; omega⟩, he⟩ (by simp only; omega) (if i + 1 < n then [] else [6]) (rhoL [(1, some 6)]) ?_
  by_cases h1 : i + 1 < n
  · simp only [h1, if_true]
    apply ren_lists <;> simp -implicitDefEqProofs [go_sem, hsn]
    all_goals exact renCells_plain rfl (by simp [plainD])
  · simp only [h1, if_false]
    apply ren_lists <;> simp -implicitDefEqProofs [go_sem]
    all_goals exact frz_ref (rw := false) rfl (.inr rfl) (by simp [items_length, hx]) (items_cells _) hsn.symm

theorem locks_flat_snoc (l : List Lock) (x : Lock) : (flat (locks (l ++ [x]))).map D.data = (flat (locks l)).map D.data ++ [.data (.str x.user), .data (.int .i64 x.n), .data (.int .i64 x.at_)] := by
  simp [locks, flat, lock_cells]
set_option maxHeartbeats 8000000 in
theorem manyLock_dx (l : List Nat) (hl : l.length ≤ 1000000) (hb : Bytes l) (n : Nat) (hn : n ≤ 255) : DX Try.prog Γ 74 [.data (.int .i64 n), .bnd 75 (.ptr 0 0)] (hpL [(0, .blk true [.data (.sl 1 (bys l))])]) 1 (RdK (mapD (manyP lockP n l) fun xs => .sl 3 (locks xs))) (RdX (mapD (manyP lockP n l) fun xs => .sl 3 (locks xs))) := by
  refine dx_by mixed Try.func74 rfl (fun args w => Try.call74 args w) ?_
  simp -implicitDefEqProofs (disch := omega) [go_sem]
  refine loop_ren (σ := { x : Nat × List Lock × List Nat // (x.1 ≤ n ∧ x.2.1.length = x.1) ∧ (Bytes x.2.2 ∧ x.2.2.length ≤ 1000000) ∧ manyP lockP n l = (manyP lockP (n - x.1) x.2.2).map fun y => (x.2.1 ++ y.1, y.2) }) (fun x => if x.1.1 < n then ⟨envL [(1, .bnd 75 (.ptr 0 0)), (5, .ref 1 0 x.1.1 3), (6, .data (.int .i64 n)), (7, .data (.int .i64 x.1.1))], hpL [(0, .blk true [.data (.sl 1 (bys x.1.2.2))]), (1, .blk true ((flat (locks x.1.2.1)).map D.data))], 2, 1, 16⟩ else ⟨envL [(5, .data (.sl 3 (locks x.1.2.1))), (6, .data (.int .i64 n)), (7, .data (.int .i64 x.1.1))], hpL [(0, .blk true [.data (.sl 1 (bys x.1.2.2))])], 2, 1, 16⟩) (fun x => n - x.1.1) ⟨(0, [], l), ⟨by simp, rfl⟩, ⟨hb, hl⟩, by simp⟩ [] (rhoL [(1, none)]) ?_ ?_
  · by_cases h0 : 0 < n
    · simp only [h0, if_true]
      apply ren_lists <;> simp -implicitDefEqProofs [go_sem, locks, flat]
    · simp only [h0, if_false]
      apply ren_lists <;> simp -implicitDefEqProofs [go_sem, locks]
  rintro ⟨⟨i, xs, r⟩, ⟨hi, hx⟩, ⟨hbr, hlr⟩, hm⟩
  simp only at hi hx hbr hlr hm ⊢
  by_cases h : i < n
  rotate_left
  · obtain rfl : i = n := by omega
    rw [if_neg h]
    have he := manyP_end hm
    simp -implicitDefEqProofs (disch := omega) [go_sem, Try.f74]
    exact rdK (l' := r) (by simp [go_sem]) (by rw [he]; rfl)
  rw [if_pos h]
  have hxl := locks_length xs
  simp -implicitDefEqProofs (disch := omega) [go_sem]
  refine .inr (.inr (rd_lent (lock_rd Γ r hlr hbr) (by simp [go_sem]) (by simp) (fun d r2 hp => ?_) (fun hp l' => ?_)))
  rotate_left
  · rw [mapD_none] at hp
    have he := manyP_none h hm hp
    simp -implicitDefEqProofs (disch := omega) [go_sem]
    exact rdX (l' := l') rfl (by simp [go_sem]) (by rw [he]; rfl)
  obtain ⟨x, hp2, rfl⟩ := mapD_some.1 hp
  clear hp
  have he := manyP_more h hm hp2
  obtain ⟨hb2, hl2⟩ := lockP_rest hbr hp2
  have hsn := locks_flat_snoc xs x
  have hlen : (flat (locks xs)).length = i * 3 := by rw [flat_len (es := 3) (locks_cells xs), locks_length, hx]

  unfold lock
  simp -implicitDefEqProofs (disch := omega) [go_sem, hlen]
  refine next_ren ⟨(i + 1, xs ++ [x], r2), ⟨by simp only; omega, by simp [hx]⟩, ⟨hb2, by simp only; omega⟩, he⟩ (by simp only; omega) (if i + 1 < n then [] else [6]) (rhoL [(1, some 6)]) ?_
  by_cases h1 : i + 1 < n
  · simp only [h1, if_true]
    apply ren_lists <;> simp -implicitDefEqProofs [go_sem, hsn]
    all_goals exact renCells_plain rfl (by simp [plainD])
  · simp only [h1, if_false]
    apply ren_lists <;> simp -implicitDefEqProofs [go_sem]
    all_goals exact frz_ref (rw := false) rfl (.inr rfl) (by simp [locks_length, hx]) (locks_cells _) hsn.symm

end
end Bk
end Go.Proofs.Ytdgklbbgbnapoaa
