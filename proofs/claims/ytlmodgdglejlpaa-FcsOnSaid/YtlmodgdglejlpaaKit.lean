/- Rows of bytes: what a slice of bytes reads as, and what keeps it. -/
import Derived.Test.YtlmodgdglejlpaaChecked
import Derived.WalkKit
import Derived.ProofKit
import Derived.Below
import Derived.Outline
import Derived.WalkSpells
import Derived.WalkLawsBesides
import Derived.Lib.Hide
import Derived.LoopTactic
import Derived.BigQuiet
import Derived.Deep.QuietTactic
import Derived.WalkSmall
import Derived.Laws.CopyOwn
import Derived.Deep.DeepMust
import Derived.Laws.AppendOwnNone
import Derived.OwnWalk
import Derived.OpenShut
import Derived.Lib.SmallJoins
import Derived.Laws.IdiomStrings
import Derived.Lib.BufferRead
import Derived.Lib.SlBytesConst
namespace Go.Proofs.Ytlmodgdglejlpaa
open Go.RowKit
set_option linter.unusedVariables false
set_option linter.unusedSimpArgs false

/-- A slice of bytes reads as the numbers l: its address, its capacity. -/
def BRow (w : World) (a : Option Addr) (cap : Nat) (l : List Nat) : Prop :=
  l.length ≤ cap ∧ cap ≤ maxLen ∧ (∀ x ∈ l, x < 256) ∧
  (cap = 0 ∨ ∃ b off, a = some ⟨b, off, none⟩ ∧ b < w.heap.size ∧ ∀ i, (h : i < l.length) → w.cell? ⟨b, off + i, none⟩ = some (.int .u8 (l[i] : Nat)))

theorem BRow.le {w : World} {a : Option Addr} {cap : Nat} {l : List Nat} (h : BRow w a cap l) : l.length ≤ cap := h.1
theorem BRow.max {w : World} {a : Option Addr} {cap : Nat} {l : List Nat} (h : BRow w a cap l) : cap ≤ 9223372036854775807 := by have := h.2.1; unfold maxLen at this; omega
theorem BRow.byte {w : World} {a : Option Addr} {cap : Nat} {l : List Nat} (h : BRow w a cap l) : ∀ x ∈ l, x < 256 := h.2.2.1
theorem BRow.len {w : World} {a : Option Addr} {cap : Nat} {l : List Nat} (h : BRow w a cap l) : l.length ≤ 9223372036854775807 := Nat.le_trans h.le h.max

theorem BRow.at {w : World} {a : Option Addr} {cap : Nat} {l : List Nat} (h : BRow w a cap l) (hc : 0 < cap) :
    ∃ b off, a = some ⟨b, off, none⟩ ∧ b < w.heap.size ∧ ∀ i, (h : i < l.length) → w.cell? ⟨b, off + i, none⟩ = some (.int .u8 (l[i] : Nat)) := by
  rcases h.2.2.2 with h0 | h
  · omega
  · exact h

theorem BRow.byte_at {w : World} {a : Option Addr} {cap : Nat} {l : List Nat} (h : BRow w a cap l) {i : Nat} (hi : i < l.length) : l[i] < 256 := h.byte _ (List.getElem_mem hi)

theorem BRow.nil (w : World) : BRow w none 0 [] := ⟨Nat.le_refl _, Nat.zero_le _, by simp, .inl rfl⟩

/-- A slice of bytes that came in. -/
theorem BRow.came {w : World} {a : Option Addr} {len cap : Nat} {z : List Int}
    (h : (a = none ∧ len = 0 ∧ cap = 0 ∧ z = []) ∨ ∃ x, a = some x ∧ len ≤ cap ∧ cap ≤ maxLen ∧ z.length = cap ∧ (∀ i, i < z.length → w.cell? (x.add i) = some (.int .u8 (z.getD i 0))) ∧ ∀ n ∈ z, (Lit.int .u8 n).wf = true) :
    ∃ l, l.length = len ∧ BRow w a cap l := by
  rcases h with ⟨rfl, rfl, rfl, rfl⟩ | ⟨x, rfl, hl, hm, hz, hc, hw⟩
  · exact ⟨[], rfl, BRow.nil w⟩
  · have hb : ∀ n ∈ z, 0 ≤ n ∧ n < 256 := by
      intro n hn
      have := hw n hn
      have h2 := bounds_u8 this
      omega
    refine ⟨(z.take len).map Int.toNat, by simp; omega, ⟨by simp; omega, hm, ?_, ?_⟩⟩
    · intro y hy
      obtain ⟨n, hn, rfl⟩ := List.mem_map.1 hy
      have := hb n (List.mem_of_mem_take hn)
      omega
    · rcases Nat.eq_zero_or_pos cap with h0 | h0
      · exact .inl h0
      · obtain ⟨b, off, spot⟩ := x
        have c0 := hc 0 (by omega)
        have hspot : spot = none := by simpa [Addr.add] using World.cell?_spot c0
        subst hspot
        have hlt : b < w.heap.size := by
          rcases Nat.lt_or_ge b w.heap.size with h1 | h1
          · exact h1
          · exfalso
            have e : w.cell? ⟨b, off, none⟩ = none := by simp [World.cell?, Array.getElem?_eq_none h1]
            simp only [Addr.add] at c0
            simp [e] at c0
        refine .inr ⟨b, off, rfl, hlt, fun i hi => ?_⟩
        have hi' : i < len := by simp at hi; omega
        have hci := hc i (by omega)
        have e1 : z.getD i 0 = z[i]'(by omega) := by simp [List.getD, show i < z.length by omega]
        have hbi := hb _ (List.getElem_mem (show i < z.length by omega))
        have e2 : ((((z.take len).map Int.toNat)[i]'hi : Nat) : Int) = z[i]'(by omega) := by
          simp only [List.getElem_map, List.getElem_take]
          omega
        rw [e2, ← e1]
        by_cases h0 : i = 0
        · subst h0; simpa [Addr.add] using hci
        · simpa [Addr.add, h0] using hci

/-- A world in which what was there is as it was. -/
theorem BRow.keep {w w' : World} {a : Option Addr} {cap : Nat} {l : List Nat} (h : BRow w a cap l) {B : Nat} (hb : Below B w w') (hB : ∀ b off, a = some ⟨b, off, none⟩ → 0 < cap → b < B) : BRow w' a cap l := by
  refine ⟨h.1, h.2.1, h.2.2.1, ?_⟩
  rcases h.2.2.2 with h0 | ⟨b, off, rfl, hlt, hc⟩
  · exact .inl h0
  · rcases Nat.eq_zero_or_pos cap with h0 | h0
    · exact .inl h0
    · exact .inr ⟨b, off, rfl, Nat.lt_of_lt_of_le hlt hb.size, fun i hi => by rw [hb.cell (p := ⟨b, off + i, none⟩) (hB b off rfl h0)]; exact hc i hi⟩

theorem BRow.old {w : World} {a : Option Addr} {cap : Nat} {l : List Nat} (h : BRow w a cap l) : ∀ b off, a = some ⟨b, off, none⟩ → 0 < cap → b < w.heap.size := by
  intro b off e hp
  rcases h.2.2.2 with h0 | ⟨b', off', h0, hlt, _⟩
  · omega
  · rw [h0] at e; cases e; exact hlt

theorem BRow.below {w w' : World} {a : Option Addr} {cap : Nat} {l : List Nat} (h : BRow w a cap l) (hb : Below w.heap.size w w') : BRow w' a cap l := h.keep hb h.old

/-- The first n of it. -/
theorem BRow.take {w : World} {a : Option Addr} {cap : Nat} {l : List Nat} (h : BRow w a cap l) (n : Nat) : BRow w a cap (l.take n) := by
  refine ⟨Nat.le_trans (by simp; omega) h.1, h.2.1, fun x hx => h.byte x (List.mem_of_mem_take hx), ?_⟩
  rcases h.2.2.2 with h0 | ⟨b, off, rfl, hlt, hc⟩
  · exact .inl h0
  · exact .inr ⟨b, off, rfl, hlt, fun i hi => by rw [hc i (by simp at hi; omega)]; simp⟩

/-- A world that has only been read: answers may have been drawn. -/
def Quiet (w w' : World) : Prop := ∃ n, w' = w.drewN n
theorem Quiet.refl (w : World) : Quiet w w := ⟨0, rfl⟩
theorem Quiet.drewN {w w' : World} (h : Quiet w w') (n : Nat) : Quiet w (w'.drewN n) := by
  obtain ⟨m, rfl⟩ := h
  exact ⟨m + n, by simp⟩
theorem Quiet.trans {a b c : World} (h : Quiet a b) (k : Quiet b c) : Quiet a c := by
  obtain ⟨m, rfl⟩ := h
  obtain ⟨n, rfl⟩ := k
  exact ⟨m + n, by simp⟩
theorem Quiet.below {w w' : World} (h : Quiet w w') (B : Nat) : Below B w w' := by
  obtain ⟨m, rfl⟩ := h
  exact below_drewN (Below.refl _ _) m
theorem Quiet.heap {w w' : World} (h : Quiet w w') : w'.heap = w.heap := by
  obtain ⟨m, rfl⟩ := h
  rfl

/-- Two rows of numbers are the same, as a truth value. -/
def eqb (l m : List Nat) : Bool := decide (l = m)
theorem eqb_no {l m : List Nat} {k : Nat} (h1 : k < l.length) (h2 : k < m.length) (h : l[k] ≠ m[k]) : eqb l m = false := by
  refine decide_eq_false fun e => h ?_
  subst e; rfl
theorem eqb_len {l m : List Nat} (h : l.length ≠ m.length) : eqb l m = false := decide_eq_false fun e => h (by rw [e])
theorem eqb_yes {l m : List Nat} (h : l.length = m.length) (e : ∀ k, (h1 : k < l.length) → (h2 : k < m.length) → l[k] = m[k]) : eqb l m = true :=
  decide_eq_true (List.ext_getElem h e)

/- Rows of the call's own. -/
def bv (l : List Nat) : List Value := l.map fun n => Value.int .u8 (n : Nat)
theorem length_bv (l : List Nat) : (bv l).length = l.length := by simp [bv]
theorem bv_append (l m : List Nat) : bv (l ++ m) = bv l ++ bv m := by simp [bv]
theorem bv_get {l : List Nat} {j : Nat} {u : Value} (h : (bv l)[j]? = some u) : ∃ hj : j < l.length, u = .int .u8 (l[j] : Nat) := by
  unfold bv at h
  rw [List.getElem?_map] at h
  obtain ⟨x, hx, rfl⟩ := Option.map_eq_some_iff.1 h
  obtain ⟨hj, rfl⟩ := List.getElem?_eq_some_iff.1 hx
  exact ⟨hj, rfl⟩
theorem bv_oneCell (l : List Nat) : ∀ u ∈ bv l, u.oneCell' = true := by
  intro u hu
  obtain ⟨x, _, rfl⟩ := List.mem_map.1 hu
  rfl

theorem ex_info5 : (Try.prog.info? 5).map (fun i => (i.zero, i.size, i.bytes)) = some (some (.int .u8 0), 1, 1) := by kernel_rfl
theorem size5 : (Try.prog.info? 5).map (·.size) = some 1 := by
  obtain ⟨i0, hi, hz0, hz1, hz2⟩ := info_parts ex_info5
  rw [hi]; simp [hz1]

/-- A slice value of the call's own (blocks from B on) holds the bytes l. -/
def OwnB (B : Nat) (w : World) (v : Value) (l : List Nat) : Prop := w.ownsRow B 5 1 v l.length (bv l) ∧ ∀ x ∈ l, x < 256

theorem OwnB.row {B : Nat} {w : World} {v : Value} {l : List Nat} (h : OwnB B w v l) : ∃ a cap, v = .slice a l.length cap ∧ BRow w a cap l ∧ (∀ p, a = some p → B ≤ p.block) := by
  obtain ⟨⟨h1, h2⟩, hb⟩ := h
  rcases h2 with ⟨rfl, h0⟩ | ⟨g, cap, cur, rfl, hB, hg, hn, hm, hs, ht⟩
  · obtain rfl : l = [] := List.eq_nil_of_length_eq_zero h0
    exact ⟨none, 0, rfl, BRow.nil w, by simp⟩
  · have hlt : g < w.heap.size := by
      rcases Nat.lt_or_ge g w.heap.size with h | h
      · exact h
      · rw [Array.getElem?_eq_none h] at hg; cases hg
    refine ⟨some ⟨g, 0, none⟩, cap, rfl, ⟨hn, hm, hb, .inr ⟨g, 0, rfl, hlt, fun i hi => ?_⟩⟩, fun p e => by cases e; exact hB⟩
    have h2 : w.ownsRow B 5 1 (.slice (some ⟨g, 0, none⟩) l.length cap) l.length (bv l) := ⟨h1, .inr ⟨g, cap, cur, rfl, hB, hg, hn, hm, hs, ht⟩⟩
    rw [Nat.zero_add, h2.cellAt i (by omega)]
    simp [bv, hi]

/-- What is known of a whole block of bytes. -/
theorem OwnB.of_heap {B g : Nat} {w : World} {l : List Nat} {xs : Array Value} (hg : w.heap[g]? = some (.cells xs 5 (0, 0))) (hx : xs = (bv l).toArray) (hB : B ≤ g) (hm : l.length ≤ maxLen) (hb : ∀ x ∈ l, x < 256) :
    OwnB B w (.slice (some ⟨g, 0, none⟩) l.length l.length) l := by
  subst hx
  refine ⟨⟨by simp [length_bv], .inr ⟨g, l.length, _, rfl, hB, hg, Nat.le_refl _, hm, by simp [length_bv], ?_⟩⟩, hb⟩
  simp only [Nat.mul_one]
  exact List.take_of_length_le (by simp [length_bv])

/-- All of a block that a make laid. -/
theorem made_heap {B g n : Nat} {w : World} {e : TypeId} {xs : List Value} (h : w.ownsRow B e 1 (.slice (some ⟨g, 0, none⟩) n n) n xs) : w.heap[g]? = some (.cells xs.toArray e (0, 0)) := by
  obtain ⟨h1, h2⟩ := h
  rcases h2 with ⟨h0, _⟩ | ⟨g', cap, cur, h0, hB, hg, hn, hm, hs, ht⟩
  · cases h0
  · cases h0
    rw [hg, ← ht, List.take_of_length_le (by simp; omega)]

theorem BRow.copy {w : World} {a : Option Addr} {cap : Nat} {l : List Nat} (h : BRow w a cap l) (h0 : 0 < (bv l).length) :
    ∃ ad, a = some ad ∧ ∀ j v, (bv l)[j]? = some v → w.cell? (ad.add j) = some v := by
  rw [length_bv] at h0
  obtain ⟨b, off, rfl, _, hc⟩ := h.at (by have := h.le; omega)
  refine ⟨_, rfl, fun j v hv => ?_⟩
  obtain ⟨hj, rfl⟩ := bv_get hv
  have := hc j hj
  by_cases h0 : j = 0
  · subst h0; simpa [Addr.add] using this
  · simpa [Addr.add, h0] using this

theorem below_made {w w1 : World} (h : w.grownBy w1 none) : Below w.heap.size w w1 := Below.grown (Below.refl _ _) h (Nat.le_refl _) (by simp)

theorem splice_head {α : Type} (Z X : List α) (h : X.length ≤ Z.length) : splice Z 0 X = X ++ Z.drop X.length := by simp [splice]

def zeros (n : Nat) : List Nat := List.replicate n 0
theorem length_zeros (n : Nat) : (zeros n).length = n := by simp [zeros]
theorem zeros_lt (n : Nat) : ∀ x ∈ zeros n, x < 256 := by
  intro x hx
  have := List.eq_of_mem_replicate hx
  omega

theorem splice_zeros (l : List Nat) (n k : Nat) (h : n = l.length + k) : splice (zeros n) 0 l = l ++ zeros k := by
  subst h
  simp [splice, zeros]

/-- Block g holds the bytes l, and no more. -/
def Blk (w : World) (g : Nat) (l : List Nat) : Prop := w.heap[g]? = some (.cells (bv l).toArray 5 (0, 0)) ∧ ∀ x ∈ l, x < 256

theorem Blk.lt {w : World} {g : Nat} {l : List Nat} (h : Blk w g l) : g < w.heap.size := by
  rcases Nat.lt_or_ge g w.heap.size with h1 | h1
  · exact h1
  · have := h.1; rw [Array.getElem?_eq_none h1] at this; cases this
theorem Blk.byte {w : World} {g : Nat} {l : List Nat} (h : Blk w g l) : ∀ x ∈ l, x < 256 := h.2
theorem Blk.own {w : World} {g : Nat} {l : List Nat} (h : Blk w g l) {B : Nat} (hB : B ≤ g) (hm : l.length ≤ maxLen) : OwnB B w (.slice (some ⟨g, 0, none⟩) l.length l.length) l :=
  OwnB.of_heap h.1 rfl hB hm h.2
theorem Blk.owns {w : World} {g : Nat} {l : List Nat} (h : Blk w g l) (hm : l.length ≤ maxLen) : w.ownsRow g 5 1 (.slice (some ⟨g, 0, none⟩) l.length l.length) l.length (bv l) := (h.own (Nat.le_refl _) hm).1
theorem Blk.cell {w : World} {g : Nat} {l : List Nat} (h : Blk w g l) (hm : l.length ≤ maxLen) {i : Nat} (hi : i < l.length) : w.cell? ⟨g, i, none⟩ = some (.int .u8 (l[i] : Nat)) := by
  rw [(h.owns hm).cellAt i (by omega)]
  simp [bv, hi]
theorem Blk.free {w : World} {g : Nat} {l : List Nat} (h : Blk w g l) (hm : l.length ≤ maxLen) (i : Nat) : w.frozen? ⟨g, i, none⟩ = false := (h.owns hm).frozenAt i
theorem Blk.brow {w : World} {g : Nat} {l : List Nat} (h : Blk w g l) (hm : l.length ≤ maxLen) : BRow w (some ⟨g, 0, none⟩) l.length l :=
  ⟨Nat.le_refl _, hm, h.2, .inr ⟨g, 0, rfl, h.lt, fun i hi => by rw [Nat.zero_add]; exact h.cell hm hi⟩⟩
theorem Blk.set {w : World} {g : Nat} {l : List Nat} (h : Blk w g l) (i x : Nat) (hx : x < 256) : Blk (w.setCell ⟨g, i, none⟩ (.int .u8 (x : Nat))) g (l.set i x) := by
  refine ⟨?_, fun y hy => ?_⟩
  · rw [heap_setCell_same w g i _ _ _ h.1]
    congr 1
    simp [bv, List.map_set]
  · rcases List.mem_or_eq_of_mem_set hy with h1 | rfl
    · exact h.2 y h1
    · exact hx
theorem Blk.keep {w w' : World} {g : Nat} {l : List Nat} (h : Blk w g l) {B : Nat} (hb : Below B w w') (hg : g < B) : Blk w' g l := ⟨by rw [hb.block g hg]; exact h.1, h.2⟩
theorem Blk.below {w w' : World} {g : Nat} {l : List Nat} (h : Blk w g l) (hb : Below w.heap.size w w') : Blk w' g l := h.keep hb h.lt

theorem alloc_at (w : World) (ob : Obj) : (w.alloc ob).heap[w.heap.size]? = some ob := by
  show (w.heap.push ob)[w.heap.size]? = _
  simp

theorem Blk.new (w : World) (cs : Array Value) (l : List Nat) (h : cs.toList = bv l) (hb : ∀ x ∈ l, x < 256) : Blk (w.alloc (.cells cs 5)) w.heap.size l := by
  refine ⟨?_, hb⟩
  rw [alloc_at]
  congr 2
  apply Array.ext'
  simpa using h

theorem OwnB.nil (w : World) (B : Nat) : OwnB B w (.slice none 0 0) [] := ⟨World.ownsRow_nil _ _ _ _, by simp⟩

theorem OwnB.empty (w : World) {B : Nat} (hB : B ≤ w.heap.size) : OwnB B (w.alloc (.cells #[] 5)) (.slice (some ⟨w.heap.size, 0, none⟩) 0 0) [] :=
  (Blk.new w #[] [] rfl (by simp)).own hB (by simp)

theorem BRow.grown {w w' : World} {a : Option Addr} {cap : Nat} {l : List Nat} (h : BRow w a cap l) {row : Option Nat} (hg : w.grownBy w' row) (hn : ∀ b off, a = some ⟨b, off, none⟩ → 0 < cap → some b ≠ row) : BRow w' a cap l := by
  refine ⟨h.1, h.2.1, h.2.2.1, ?_⟩
  rcases h.2.2.2 with h0 | ⟨b, off, rfl, hlt, hc⟩
  · exact .inl h0
  · rcases Nat.eq_zero_or_pos cap with h0 | h0
    · exact .inl h0
    · exact .inr ⟨b, off, rfl, Nat.lt_of_lt_of_le hlt hg.size, fun i hi => hg.cell (hc i hi) (hn b off rfl h0)⟩

theorem OwnB.grown {B : Nat} {w w' : World} {v : Value} {l : List Nat} (h : OwnB B w v l) {row : Option Nat} (hg : w.grownBy w' row) (hn : v.ownBlock = none ∨ v.ownBlock ≠ row) : OwnB B w' v l := ⟨h.1.kept hg hn, h.2⟩
theorem OwnB.alloc {B : Nat} {w : World} {v : Value} {l : List Nat} (h : OwnB B w v l) (ob : Obj) : OwnB B (w.alloc ob) v l := ⟨h.1.alloc ob, h.2⟩
theorem OwnB.below {B : Nat} {w w' : World} {v : Value} {l : List Nat} (h : OwnB B w v l) (hb : Below w.heap.size w w') : OwnB B w' v l := by
  refine ⟨h.1.kept (row := none) ⟨hb.os, hb.tape, hb.output, hb.size, fun k hk _ => hb.block k hk⟩ ?_, h.2⟩
  cases e : v.ownBlock with
  | none => exact .inl rfl
  | some k => exact .inr (by simp)

theorem BRow.new_marked (w : World) (cs : Array Value) (fr : Nat × Nat) (l : List Nat) (h : cs.toList = bv l) (hb : ∀ x ∈ l, x < 256) (hm : l.length ≤ maxLen) (n : Nat) (hn : n = l.length) :
    BRow (w.alloc (.cells cs 5 fr)) (some ⟨w.heap.size, 0, none⟩) n l := by
  subst hn
  refine ⟨Nat.le_refl _, hm, hb, .inr ⟨_, 0, rfl, by simp, fun i hi => ?_⟩⟩
  have e : cs[i]? = some (.int .u8 (l[i] : Nat)) := by
    rw [← Array.getElem?_toList, h]
    simp [bv, hi]
  simp only [World.cell?, alloc_at, Nat.zero_add]
  exact e

theorem run_conv_bytes (w : World) (C : Array Value) (n c : Nat) :
    (convert 23 23 (.slice (some ⟨w.heap.size, 0, none⟩) n c)).run Try.prog (w.alloc (.cells C 5)) = .ok (.slice (some ⟨w.heap.size, 0, none⟩) n c) (w.alloc (.cells C 5 (C.size, C.size + 1))) :=
  Lib.run_convert_bytes_const (P := Try.prog) w 23 5 C n c Try.underlying23 Try.underlying5

/-- A row of the call's own that holds something: where it lies, its cells, a store into it. -/
theorem OwnB.at {B : Nat} {w : World} {v : Value} {l : List Nat} (h : OwnB B w v l) (h0 : 0 < l.length) :
    ∃ g cap, v = .slice (some ⟨g, 0, none⟩) l.length cap ∧ B ≤ g ∧ g < w.heap.size ∧ l.length ≤ cap ∧ cap ≤ maxLen ∧ (∀ i, (hi : i < l.length) → w.cell? ⟨g, i, none⟩ = some (.int .u8 (l[i] : Nat))) ∧ (∀ i, w.frozen? ⟨g, i, none⟩ = false) ∧
      ∀ i x, x < 256 → OwnB B (w.setCell ⟨g, i, none⟩ (.int .u8 (x : Nat))) v (l.set i x) := by
  obtain ⟨ho, hb⟩ := h
  rcases ho.2 with ⟨rfl, h1⟩ | ⟨g, cap, cur, rfl, hB, hg, hn, hm, hs, ht⟩
  · omega
  · refine ⟨g, cap, rfl, hB, (ho.lt g rfl).2, hn, hm, fun i hi => ?_, fun i => ho.frozenAt i, fun i x hx => ⟨?_, fun y hy => ?_⟩⟩
    · rw [ho.cellAt i (by omega)]
      simp [bv, hi]
    · have := (ho.stored i (.int .u8 (x : Nat))).1
      rw [List.length_set]
      have e : bv (l.set i x) = (bv l).set i (.int .u8 (x : Nat)) := by simp [bv, List.map_set]
      rw [e]; exact this
    · rcases List.mem_or_eq_of_mem_set hy with h1 | rfl
      · exact hb y h1
      · exact hx

theorem OwnB.set {B : Nat} {w : World} {g n cap : Nat} {l : List Nat} (h : OwnB B w (.slice (some ⟨g, 0, none⟩) n cap) l) (i x : Nat) (hx : x < 256) : OwnB B (w.setCell ⟨g, i, none⟩ (.int .u8 (x : Nat))) (.slice (some ⟨g, 0, none⟩) n cap) (l.set i x) := by
  obtain ⟨ho, hb⟩ := h
  have hn : n = l.length := by
    rcases ho.2 with ⟨h1, _⟩ | ⟨g', cap', cur, h1, _⟩
    · cases h1
    · cases h1; rfl
  subst hn
  refine ⟨?_, fun y hy => ?_⟩
  · have := (ho.stored i (.int .u8 (x : Nat))).1
    rw [List.length_set]
    have e : bv (l.set i x) = (bv l).set i (.int .u8 (x : Nat)) := by simp [bv, List.map_set]
    rw [e]; exact this
  · rcases List.mem_or_eq_of_mem_set hy with h1 | rfl
    · exact hb y h1
    · exact hx

/-- What is left behind the first n. -/
theorem BRow.drop {w : World} {b off cap : Nat} {l : List Nat} (h : BRow w (some ⟨b, off, none⟩) cap l) (n : Nat) (hn : n ≤ l.length) (m : Nat) (hm : m = l.length - n) :
    BRow w (some ⟨b, off + n, none⟩) (cap - n) (l.drop n) ∧ (l.drop n).length = m := by
  have hle := h.le
  have hl : (l.drop n).length = l.length - n := by simp
  refine ⟨⟨by omega, Nat.le_trans (Nat.sub_le _ _) h.2.1, fun x hx => h.byte x (List.mem_of_mem_drop hx), ?_⟩, by omega⟩
  rcases h.2.2.2 with h0 | ⟨b', off', e, hlt, hc⟩
  · exact .inl (by omega)
  · cases e
    refine .inr ⟨b, off + n, rfl, hlt, fun i hi => ?_⟩
    have := hc (n + i) (by omega)
    rw [Nat.add_assoc, this]
    simp

/- Bytes as a string. -/
def toStr (l : List Nat) : ByteArray := ⟨(l.map fun n => UInt8.ofNat n).toArray⟩

theorem run_to_string {w : World} {a : Option Addr} {cap : Nat} {l : List Nat} (h : BRow w a cap l) :
    (convert 23 9 (.slice a l.length cap)).run Try.prog w = .ok (.string (toStr l)) w := by
  rcases h.2.2.2 with h0 | ⟨b, off, rfl, hlt, hc⟩
  · have hm0 : l.length = 0 := by have := h.le; omega
    obtain rfl : l = [] := List.eq_nil_of_length_eq_zero hm0
    subst h0
    cases a with
    | none => exact Lib.run_convert_nil_bytes w _ _ 5 0 Try.underlying23 Try.underlying5 Try.underlying9
    | some ad => exact run_convert_bytes_back w _ _ 5 ad 0 [] Try.underlying23 Try.underlying5 Try.underlying9 fun j hj => by simp at hj
  · have hl : (l.map fun n => UInt8.ofNat n).length = l.length := by simp
    rw [← hl]
    refine run_convert_bytes_back w _ _ 5 ⟨b, off, none⟩ cap (l.map fun n => UInt8.ofNat n) Try.underlying23 Try.underlying5 Try.underlying9 fun j hj => ?_
    have hj' : j < l.length := by simpa using hj
    have hb : l[j] < 256 := h.byte_at hj'
    have e : (((l.map fun n => UInt8.ofNat n)[j]'hj).toNat : Int) = (l[j] : Nat) := by
      simp only [List.getElem_map, UInt8.toNat_ofNat']
      omega
    rw [e]
    have := hc j hj'
    by_cases h0 : j = 0
    · subst h0; simpa [Addr.add] using this
    · simpa [Addr.add, h0] using this

section
variable {ops : Array Oper} {rest : List Oper} {o : Oper} {a : Act} {Q : Exit → Act → World → Prop}

/-- make([]byte, n): a block of noughts. -/
theorem wp_make_bytes (w : World) (hg : o.guard = none) (l c : Operand) (hop : o.op = Op.makeSlice 23 l c) (n : Nat) (L C : Int) (hl : a.eval l = .int .i64 L) (hc : a.eval c = .int .i64 C) (hL : L = (n : Int)) (hC : C = (n : Int)) (hn : n ≤ 281474976710656)
    (hK : ∀ w', Blk w' w.heap.size (zeros n) → Below w.heap.size w w' → wpList Try.prog ops Q rest (a.put o.dst (.slice (some ⟨w.heap.size, 0, none⟩) n n)) w') :
    wpList Try.prog ops Q (o :: rest) a w := by
  obtain ⟨i0, hi, hz0, hz1, hz2⟩ := info_parts ex_info5
  refine wpList_make_full w hg l c 23 hop w.heap.size 5 i0 (.int .u8 0) 1 Try.underlying23 hi hz0 hz1 .i64 .i64 L C n hl hc hL hC (by rw [hz2]; omega) (by unfold maxLen; omega) (Nat.le_refl _) ?_
  intro w' h1 h2
  refine hK w' ⟨?_, zeros_lt n⟩ (below_made h2)
  have e : (madeCells (Value.int IntKind.u8 0).cells (n * 1)).toList = bv (zeros n) := by
    rw [show (Value.int IntKind.u8 0).cells = #[Value.int .u8 0] from rfl, toList_madeCells_one, Nat.mul_one]
    simp [bv, zeros]
  rw [← e]
  exact made_heap h1

/-- copy of bytes into a block of the call's own. -/
theorem wp_copy_bytes (w : World) (hgd : o.guard = none) (d s : Operand) (ho : o.op = .call { callee := .builtin .copy, args := #[d, s], argTypes := #[23, 23] })
    (g off dLen dCap : Nat) (sp : Option Addr) (sCap : Nat) (l L : List Nat) (hd : a.eval d = .slice (some ⟨g, off, none⟩) dLen dCap) (hs : a.eval s = .slice sp l.length sCap)
    (hB : Blk w g L) (hr : BRow w sp sCap l) (n : Nat) (hn : n = Nat.min l.length dLen) (hfit : off + n ≤ L.length)
    (hK : ∀ w', Blk w' g (splice L off (l.take n)) → Below g w w' → wpList Try.prog ops Q rest (a.put o.dst (goInt n)) w') :
    wpList Try.prog ops Q (o :: rest) a w := by
  have hln : (l.take n).length = n := by
    rw [List.length_take, hn]
    exact Nat.min_eq_left (Nat.min_le_left l.length dLen)
  have hrt := hr.take n
  have key := @wpList_copy_splice Try.prog w ops rest o a Q hgd d s 23 23 ho 5 Try.underlying23 size5 (some ⟨g, off, none⟩) sp dLen dCap l.length sCap hd hs g off (bv L) 5 hB.1 (bv (l.take n))
    (by rw [length_bv, hln]; exact hn) (fun hp => ⟨rfl, hrt.copy hp⟩) (by rw [length_bv, length_bv, hln]; exact hfit) (bv_oneCell _) g w (Below.refl _ _) (Nat.le_refl _)
  refine key fun w' h1 h2 => ?_
  rw [length_bv, hln]
  refine hK w' ⟨?_, fun x hx => ?_⟩ h2
  · have e : bv (splice L off (l.take n)) = splice (bv L) off (bv (l.take n)) := by simp [splice, bv]
    rw [e]; exact h1.out
  · unfold splice at hx
    rcases List.mem_append.1 hx with h3 | h3
    · exact hB.2 x (List.mem_of_mem_take h3)
    · rcases List.mem_append.1 h3 with h4 | h4
      · exact hr.byte x (List.mem_of_mem_take h4)
      · exact hB.2 x (List.mem_of_mem_drop h4)

/-- The whole source is copied. -/
theorem wp_copy_all (w : World) (hgd : o.guard = none) (d s : Operand) (ho : o.op = .call { callee := .builtin .copy, args := #[d, s], argTypes := #[23, 23] })
    (g off dLen dCap : Nat) (sp : Option Addr) (sCap : Nat) (l L : List Nat) (hd : a.eval d = .slice (some ⟨g, off, none⟩) dLen dCap) (hs : a.eval s = .slice sp l.length sCap)
    (hB : Blk w g L) (hr : BRow w sp sCap l) (hle : l.length ≤ dLen) (hfit : off + l.length ≤ L.length)
    (hK : ∀ w', Blk w' g (splice L off l) → Below g w w' → wpList Try.prog ops Q rest (a.put o.dst (.int .i64 (l.length : Nat))) w') :
    wpList Try.prog ops Q (o :: rest) a w := by
  refine wp_copy_bytes w hgd d s ho g off dLen dCap sp sCap l L hd hs hB hr l.length (Nat.min_eq_left hle).symm hfit fun w' h1 h2 => ?_
  rw [List.take_of_length_le (Nat.le_refl _)] at h1
  exact hK w' h1 h2

/-- As much of the source is copied as there is room for. -/
theorem wp_copy_some (w : World) (hgd : o.guard = none) (d s : Operand) (ho : o.op = .call { callee := .builtin .copy, args := #[d, s], argTypes := #[23, 23] })
    (g off dLen dCap : Nat) (sp : Option Addr) (sCap : Nat) (l L : List Nat) (hd : a.eval d = .slice (some ⟨g, off, none⟩) dLen dCap) (hs : a.eval s = .slice sp l.length sCap)
    (hB : Blk w g L) (hr : BRow w sp sCap l) (hle : dLen ≤ l.length) (hfit : off + dLen ≤ L.length)
    (hK : ∀ w', Blk w' g (splice L off (l.take dLen)) → Below g w w' → wpList Try.prog ops Q rest (a.put o.dst (.int .i64 (dLen : Nat))) w') :
    wpList Try.prog ops Q (o :: rest) a w :=
  wp_copy_bytes w hgd d s ho g off dLen dCap sp sCap l L hd hs hB hr dLen (Nat.min_eq_right hle).symm hfit hK

/-- append of bytes to a row of the call's own. -/
theorem wp_append_bytes (w : World) (hgd : o.guard = none) (s x : Operand) (ho : o.op = .call { callee := .builtin .append, args := #[s, x], argTypes := #[23, 23] })
    (B : Nat) (v : Value) (l m : List Nat) (hown : OwnB B w v l) (hs : a.eval s = v) (sp : Option Addr) (sCap : Nat) (hr : BRow w sp sCap m) (n : Nat) (hx : a.eval x = .slice sp n sCap) (hn : n = m.length)
    (hlen : l.length + m.length ≤ 140737488355328) (hB : B ≤ w.heap.size)
    (hK : ∀ v' w', OwnB B w' v' (l ++ m) → Below B w w' → w.grownBy w' v.ownBlock → wpList Try.prog ops Q rest (a.put o.dst v') w') :
    wpList Try.prog ops Q (o :: rest) a w := by
  subst hn
  obtain ⟨i0, hi, hz0, hz1, hz2⟩ := info_parts ex_info5
  rcases hr.2.2.2 with h0 | ⟨b, off, rfl, hlt, hc⟩
  · have hm0 : m.length = 0 := by have := hr.le; omega
    obtain rfl : m = [] := List.eq_nil_of_length_eq_zero hm0
    subst h0
    cases sp with
    | some ad =>
      refine wpList_append_own w hgd s x 23 ho B 5 i0 (.int .u8 0) 1 1 Try.underlying23 hi hz0 hz1 hz2 rfl (by decide) v l.length (bv l) hs hown.1 ad 0 0 [] hx (by simp) (by simp) (by simp) (by unfold maxLen; omega) (by omega) hB ?_
      intro v' w' h1 h2 _
      refine hK v' w' ?_ (Below.grown (Below.refl _ _) h2 hB fun k hk => (hown.1.lt k hk).1) h2
      rw [List.append_nil]
      exact ⟨by simpa using h1, hown.2⟩
    | none =>
    exact wpList_append_own_none hgd s x 23 ho B 5 i0 1 Try.underlying23 hi v l.length (bv l) hs hown.1 hx (hK v w (by rw [List.append_nil]; exact hown) (Below.refl _ _) ⟨rfl, rfl, rfl, Nat.le_refl _, fun _ _ _ => rfl⟩)
  · refine wpList_append_own w hgd s x 23 ho B 5 i0 (.int .u8 0) 1 1 Try.underlying23 hi hz0 hz1 hz2 rfl (by decide) v l.length (bv l) hs hown.1 ⟨b, off, none⟩ m.length sCap (bv m) hx (by simp [length_bv]) ?_ (bv_oneCell m) (by unfold maxLen; omega) (by omega) hB ?_
    · intro j u hu
      obtain ⟨hj, rfl⟩ := bv_get hu
      have := hc j hj
      by_cases h0 : j = 0
      · subst h0; simpa [Addr.add] using this
      · simpa [Addr.add, h0] using this
    · intro v' w' h1 h2 _
      refine hK v' w' ⟨by rw [List.length_append, bv_append]; exact h1, ?_⟩ (Below.grown (Below.refl _ _) h2 hB ?_) h2
      · intro y hy
        rcases List.mem_append.1 hy with h3 | h3
        · exact hown.2 y h3
        · exact hr.byte y h3
      · intro k hk
        exact (hown.1.lt k hk).1

end

/- From the reading of an argument to what a walk is told. -/
open Go.ChangeShapes Go.WideShapes Go.ChangeAt
section
variable {H : Type} {enc : TypeId × Value → H} {W : World} {base : Nat} {v : Value} {d : DataW H} {p : List MemPlace}
theorem in_u8 (hv : Value.okWide Try.prog W .any base 5 v) (k : DataW.Trod enc Try.prog W 0 (fun _ => true) true 5 v d p) : ∃ n : Nat, n < 256 ∧ v = .int .u8 n := by
  obtain ⟨x, rfl, _, _, hw⟩ := open_int Try.underlying5 hv k
  have := bounds_u8 hw
  obtain ⟨n, rfl⟩ := Int.eq_ofNat_of_zero_le this.1
  exact ⟨n, by omega, rfl⟩
theorem in_u16 (hv : Value.okWide Try.prog W .any base 22 v) (k : DataW.Trod enc Try.prog W 0 (fun _ => true) true 22 v d p) : ∃ n : Nat, n < 65536 ∧ v = .int .u16 n := by
  obtain ⟨x, rfl, _, _, hw⟩ := open_int Try.underlying22 hv k
  have := bounds_u16 hw
  obtain ⟨n, rfl⟩ := Int.eq_ofNat_of_zero_le this.1
  exact ⟨n, by omega, rfl⟩
theorem in_int (hv : Value.okWide Try.prog W .any base 3 v) (k : DataW.Trod enc Try.prog W 0 (fun _ => true) true 3 v d p) : ∃ n : Int, -9223372036854775808 ≤ n ∧ n ≤ 9223372036854775807 ∧ v = .int .i64 n := by
  obtain ⟨x, rfl, _, _, hw⟩ := open_int Try.underlying3 hv k
  have := bounds_i64 hw
  exact ⟨x, by omega, by omega, rfl⟩
theorem bytes_of5 : Try.prog.bytesOf 5 = 1 := by kernel_rfl
/-- The same, within the form's reach. -/
theorem in_bytes_sized (z : (DataW.weights Try.prog 23 d).all (fun x => decide (x ≤ reachBytes)) = true) (hv : Value.okWide Try.prog W .any base 23 v) (k : DataW.Trod enc Try.prog W 0 (fun _ => true) true 23 v d p) :
    ∃ l a cap, v = .slice a (List.length l) cap ∧ BRow W a cap l ∧ cap ≤ 140737488351232 := by
  obtain ⟨a0, len0, cap0, rfl⟩ := okWide_slice Try.underlying23 hv
  obtain ⟨fuel, hf⟩ := k
  have key : ∃ z : List Int, ((a0 = none ∧ len0 = 0 ∧ cap0 = 0 ∧ z = []) ∨ ∃ x, a0 = some x ∧ len0 ≤ cap0 ∧ cap0 ≤ maxLen ∧ z.length = cap0 ∧ (∀ i, i < z.length → W.cell? (x.add i) = some (.int .u8 (z.getD i 0))) ∧ ∀ n ∈ z, (Lit.int .u8 n).wf = true) ∧ cap0 ≤ 140737488351232 := by
    rcases open_ints Try.underlying23 Try.underlying5 (by kernel_rfl) hf with ⟨hcs, _⟩ | ⟨x, l, c, zs, hcs, _, hl, hm, hz, hx, hcell, hwz⟩
    · simp [Value.cells] at hcs
      obtain ⟨rfl, rfl, rfl⟩ := hcs
      exact ⟨[], .inl ⟨rfl, rfl, rfl, rfl⟩, by omega⟩
    · simp [Value.cells] at hcs
      obtain ⟨rfl, rfl, rfl⟩ := hcs
      refine ⟨zs, .inr ⟨_, rfl, hl, hm, by simpa using hz, hcell, hwz⟩, ?_⟩
      have hd := congrArg Prod.fst hx
      simp only at hd
      subst hd
      unfold DataW.weights at z
      rw [Try.underlying23] at z
      simp only [List.all_cons, Bool.and_eq_true, decide_eq_true_eq, bytes_of5, reachBytes, Nat.mul_one] at z
      have h1 := z.1
      have hz' : zs.length = cap0 := by simpa using hz
      simp [lits, hz', Nat.min_eq_left hl] at h1
      omega
  obtain ⟨z, hz, hcap⟩ := key
  obtain ⟨l, rfl, hr⟩ := BRow.came hz
  exact ⟨l, a0, cap0, rfl, hr, hcap⟩
/-- The same of a cell inside a struct or a row. -/
theorem in_bytes_cell {n : Nat} {y : DataW H × List MemPlace} (z : (DataW.weights Try.prog 23 y.1).all (fun x => decide (x ≤ reachBytes)) = true) (hf : DataW.trod enc Try.prog W 0 (fun _ => true) true n 23 [v] = some y) :
    ∃ l a cap, v = .slice a (List.length l) cap ∧ BRow W a cap l ∧ cap ≤ 140737488351232 := by
  obtain ⟨a0, len0, cap0, e⟩ := Joins.slice_form Try.underlying23 hf
  simp only [List.cons.injEq, and_true] at e
  subst e
  have key : ∃ z : List Int, ((a0 = none ∧ len0 = 0 ∧ cap0 = 0 ∧ z = []) ∨ ∃ x, a0 = some x ∧ len0 ≤ cap0 ∧ cap0 ≤ maxLen ∧ z.length = cap0 ∧ (∀ i, i < z.length → W.cell? (x.add i) = some (.int .u8 (z.getD i 0))) ∧ ∀ n ∈ z, (Lit.int .u8 n).wf = true) ∧ cap0 ≤ 140737488351232 := by
    rcases open_ints Try.underlying23 Try.underlying5 (by kernel_rfl) hf with ⟨hcs, _⟩ | ⟨x, l, c, zs, hcs, _, hl, hm, hz, hx, hcell, hwz⟩
    · simp at hcs
      obtain ⟨rfl, rfl, rfl⟩ := hcs
      exact ⟨[], .inl ⟨rfl, rfl, rfl, rfl⟩, by omega⟩
    · simp at hcs
      obtain ⟨rfl, rfl, rfl⟩ := hcs
      refine ⟨zs, .inr ⟨_, rfl, hl, hm, by simpa using hz, hcell, hwz⟩, ?_⟩
      rw [hx] at z
      unfold DataW.weights at z
      rw [Try.underlying23] at z
      simp only [List.all_cons, Bool.and_eq_true, decide_eq_true_eq, bytes_of5, reachBytes, Nat.mul_one] at z
      have h1 := z.1
      have hz' : zs.length = cap0 := by simpa using hz
      simp [lits, hz', Nat.min_eq_left hl] at h1
      omega
  obtain ⟨z, hz, hcap⟩ := key
  obtain ⟨l, rfl, hr⟩ := BRow.came hz
  exact ⟨l, a0, cap0, rfl, hr, hcap⟩
theorem in_bytes (hv : Value.okWide Try.prog W .any base 23 v) (k : DataW.Trod enc Try.prog W 0 (fun _ => true) true 23 v d p) : ∃ l a cap, v = .slice a (List.length l) cap ∧ BRow W a cap l := by
  obtain ⟨a0, len0, cap0, rfl⟩ := okWide_slice Try.underlying23 hv
  obtain ⟨fuel, hf⟩ := k
  have key : ∃ z : List Int, (a0 = none ∧ len0 = 0 ∧ cap0 = 0 ∧ z = []) ∨ ∃ x, a0 = some x ∧ len0 ≤ cap0 ∧ cap0 ≤ maxLen ∧ z.length = cap0 ∧ (∀ i, i < z.length → W.cell? (x.add i) = some (.int .u8 (z.getD i 0))) ∧ ∀ n ∈ z, (Lit.int .u8 n).wf = true := by
    rcases open_ints Try.underlying23 Try.underlying5 (by kernel_rfl) hf with ⟨hcs, _⟩ | ⟨x, l, c, zs, hcs, _, hl, hm, hz, _, hcell, hwz⟩
    · simp [Value.cells] at hcs
      obtain ⟨rfl, rfl, rfl⟩ := hcs
      exact ⟨[], .inl ⟨rfl, rfl, rfl, rfl⟩⟩
    · simp [Value.cells] at hcs
      obtain ⟨rfl, rfl, rfl⟩ := hcs
      exact ⟨zs, .inr ⟨_, rfl, hl, hm, by simpa using hz, hcell, hwz⟩⟩
  obtain ⟨z, hz⟩ := key
  obtain ⟨l, rfl, hr⟩ := BRow.came hz
  exact ⟨l, a0, cap0, rfl, hr⟩
end

end Go.Proofs.Ytlmodgdglejlpaa
