import Derived.Test.YtlmodgdglejlpaaFcsG
import Derived.RegionTactic
import Derived.BigRegion
import Derived.Laws.StructEq
namespace Go.Proofs.Ytlmodgdglejlpaa
open Go.RowKit
set_option linter.unusedVariables false
set_option linter.unusedSimpArgs false

open Go.ChangeShapes Go.WideShapes Go.ChangeAt in
theorem in_arr2 {H : Type} {enc : TypeId × Value → H} {W : World} {base : Nat} {v : Value} {d : DataW H} {p : List MemPlace}
    (hv : Value.okWide Try.prog W .any base 41 v) (k : DataW.Trod enc Try.prog W 0 (fun _ => true) true 41 v d p) : ∃ x y : Nat, x < 256 ∧ y < 256 ∧ v = .agg #[.int .u8 x, .int .u8 y] := by
  have c5 : Try.prog.cellsOf 5 = 1 := by kernel_rfl
  have c2 : Try.prog.cellsOf 41 = 2 := by kernel_rfl
  simp only [Value.okWide, Try.underlying41] at hv
  obtain ⟨cs, rfl, hsz, _⟩ := hv
  rw [c2] at hsz
  obtain ⟨fuel, hf⟩ := k
  obtain ⟨xs, m, _, _, _, hxl, hall⟩ := DataW.trod_array Try.underlying41 hf
  have g0 := hall 0 (by omega)
  have g1 := hall 1 (by omega)
  rw [c5] at g0 g1
  rw [List.getElem?_eq_getElem (by omega)] at g0 g1
  obtain ⟨n0, e0, _, w0⟩ := DataW.trod_int Try.underlying5 g0
  obtain ⟨n1, e1, _, w1⟩ := DataW.trod_int Try.underlying5 g1
  have b0 := bounds_u8 w0
  have b1 := bounds_u8 w1
  obtain ⟨x, rfl⟩ := Int.eq_ofNat_of_zero_le b0.1
  obtain ⟨y, rfl⟩ := Int.eq_ofNat_of_zero_le b1.1
  refine ⟨x, y, by omega, by omega, ?_⟩
  obtain ⟨L⟩ := cs
  match L, hsz with
  | [u0, u1], _ =>
    simp [Value.cells] at e0 e1
    rw [e0, e1]

theorem M.apart_set {l : List Nat} {k x y : Nat} (hb : ∀ z ∈ l, z < 256) (hk : k + 2 ≤ l.length) (hx : x < 256) (hy : y < 256) (h : ¬ (x = 0 ∧ y = 0)) :
    M.tail l ≠ M.tail ((l.set k (l[k] ^^^ x)).set (k + 1) (l[k + 1] ^^^ y)) := by
  have hx0 : l[k] < 256 := hb _ (List.getElem_mem _)
  have hy0 : l[k + 1] < 256 := hb _ (List.getElem_mem _)
  have x8 : ∀ a b : Nat, a < 256 → b < 256 → a ^^^ b < 256 := fun a b ha hb => Nat.xor_lt_two_pow (n := 8) ha hb
  have e1 : l = l.take k ++ [l[k], l[k + 1]] ++ l.drop (k + 2) := by
    conv => lhs; rw [← List.take_append_drop k l, List.drop_eq_getElem_cons (show k < l.length by omega), List.drop_eq_getElem_cons (show k + 1 < l.length by omega)]
    simp
  have e2 : (l.set k (l[k] ^^^ x)).set (k + 1) (l[k + 1] ^^^ y) = l.take k ++ [l[k] ^^^ x, l[k + 1] ^^^ y] ++ l.drop (k + 2) := by
    apply List.ext_getElem
    · simp; omega
    · intro i h1 h2
      have hi : i < l.length := by simpa using h1
      rw [List.getElem_set, List.getElem_set]
      by_cases c1 : k + 1 = i
      · subst c1
        rw [if_pos rfl, List.getElem_append_left (by simp; omega), List.getElem_append_right (by simp; omega)]
        simp [Nat.min_eq_left (show k ≤ l.length by omega)]
      · rw [if_neg c1]
        by_cases c2 : k = i
        · subst c2
          rw [if_pos rfl, List.getElem_append_left (by simp; omega), List.getElem_append_right (by simp; omega)]
          simp [Nat.min_eq_left (show k ≤ l.length by omega)]
        · rw [if_neg c2]
          by_cases c3 : i < k
          · rw [List.getElem_append_left (by simp; omega), List.getElem_append_left (by simp; omega), List.getElem_take]
          · rw [List.getElem_append_right (by simp; omega), List.getElem_drop]
            congr 1
            simp
            omega
  have hb' : ∀ z ∈ (l.set k (l[k] ^^^ x)).set (k + 1) (l[k + 1] ^^^ y), z < 256 := by
    intro z hz
    rcases List.mem_or_eq_of_mem_set hz with h1 | rfl
    · rcases List.mem_or_eq_of_mem_set h1 with h2 | rfl
      · exact hb z h2
      · exact x8 _ _ hx0 hx
    · exact x8 _ _ hy0 hy
  have hd := @M.two_apart (l.take k) (l.drop (k + 2)) l[k] l[k + 1] (l[k] ^^^ x) (l[k + 1] ^^^ y) (fun z hz => hb z (List.mem_of_mem_take hz)) (fun z hz => hb z (List.mem_of_mem_drop hz)) hx0 hy0 (x8 _ _ hx0 hx) (x8 _ _ hy0 hy)
  rw [← e2, ← e1] at hd
  refine M.tail_apart hb hb' fun e => h ?_
  obtain ⟨g1, g2⟩ := hd e
  have z : ∀ a b : Nat, a = a ^^^ b → b = 0 := by
    intro a b hab
    have := congrArg (a ^^^ ·) hab
    simp only [Nat.xor_self, ← Nat.xor_assoc, Nat.zero_xor] at this
    exact this.symm
  exact ⟨z _ _ g1, z _ _ g2⟩

theorem size_of5 (w : World) : (sizeOf 5).run Try.prog w = .ok 1 w := by kernel_rfl
theorem run_eq_arr2' (n : Nat) (a b c d : Int) (w : World) : (Op.equalIn (n + 1 + 1) 41 (.agg #[.int .u8 a, .int .u8 b]) (.agg #[.int .u8 c, .int .u8 d])).run Try.prog w = .ok (a == c && b == d) w := by
  have p0 : ∀ x y : Value, ∀ w, (part 5 #[x, y] 0).run Try.prog w = .ok x w := fun x y w => by kernel_rfl
  have p1 : ∀ x y : Value, ∀ w, (part 5 #[x, y] 1).run Try.prog w = .ok y w := fun x y w => by kernel_rfl
  have hi : ∀ (x y : Int) (w : World), (Op.equalIn (n + 1) 5 (.int .u8 x) (.int .u8 y)).run Try.prog w = .ok (x == y) w := fun x y w => run_equalIn_int w n 5 .u8 .u8 x y Try.underlying5
  rw [Op.equalIn]
  simp only [Sem.run_bind, run_underlying Try.underlying41, Result.andThen_ok, size_of5]
  generalize hE : Op.equalIn (n + 1) = E at *
  simp [Std.Legacy.Range.forIn_eq_forIn_range', List.range', p0, p1, hi]
  cases h1 : (a == c) <;> cases h2 : (b == d) <;> simp_all
theorem run_eq_arr2 (a b c d : Int) (w : World) : (binOp .eql 41 (.agg #[.int .u8 a, .int .u8 b]) (.agg #[.int .u8 c, .int .u8 d])).run Try.prog w = .ok (.bool (a == c && b == d)) w := by
  rw [run_eql_struct, show (Op.equalIn 10000 41 (.agg #[.int .u8 a, .int .u8 b]) (.agg #[.int .u8 c, .int .u8 d])).run Try.prog w = .ok (a == c && b == d) w from run_eq_arr2' 9998 a b c d w]
  rfl
theorem run_guard2 (x y : Operand) (xs ys : Array Value) (w : World) : (eqGuard .eql 41 x y (.agg xs) (.agg ys)).run Try.prog w = .ok () w := run_eqGuard_agg w .eql 41 x y xs ys (by kernel_rfl)

theorem box_two {w w1 : World} {v0 v1 : Value} {t : TypeId} (hb : Below (w.alloc (.cells #[v0, v1] t)).heap.size (w.alloc (.cells #[v0, v1] t)) w1) :
    w1.cell? ⟨w.heap.size, 0, none⟩ = some v0 ∧ w1.cell? ⟨w.heap.size, 1, none⟩ = some v1 := by
  have hlt : w.heap.size < (w.alloc (.cells #[v0, v1] t)).heap.size := by simp
  constructor
  · rw [hb.cell (p := ⟨w.heap.size, 0, none⟩) hlt]
    simp only [World.cell?, alloc_at]
    rfl
  · rw [hb.cell (p := ⟨w.heap.size, 1, none⟩) hlt]
    simp only [World.cell?, alloc_at]
    rfl

set_option maxRecDepth 100000 in
set_option maxHeartbeats 1000000 in
theorem apart_any (l : List Nat) (a : Option Addr) (cap : Nat) (t : Int) (x y : Nat) (w : World) (h : BRow w a cap l) (hx : x < 256) (hy : y < 256) (ht : -9223372036854775808 ≤ t) (ht' : t ≤ 9223372036854775807) :
    Calls Try.prog 7 #[.slice a l.length cap, .int .i64 t, .agg #[.int .u8 x, .int .u8 y]] w fun e w' => e = .returned (.bool true) ∧ Below w.heap.size w w' := by
  have hm := h.len
  have hbw : ∀ w1, Below (w.heap.size + 1) (w.alloc (.cells #[.int .u8 x, .int .u8 y] 41)) w1 → Below w.heap.size w w1 := fun w1 hb => ((Below.refl w.heap.size w).alloc (Nat.le_refl _) _).trans (hb.mono (by simp))
  by_cases h1 : 1000 < l.length
  · go_enter Try.func7, Try.ntmps7
    go_wp2_with (go_at_call 9; refine (shown_any _).mono ?_; rintro e w1 ⟨rfl, hb1⟩)
    go_ret
    exact ⟨rfl, hbw _ (by simpa using hb1)⟩
  · by_cases h2 : t < 0
    · go_enter Try.func7, Try.ntmps7
      go_wp2_with (go_at_call 9; refine (shown_any _).mono ?_; rintro e w1 ⟨rfl, hb1⟩)
      go_ret
      exact ⟨rfl, hbw _ (by simpa using hb1)⟩
    · obtain ⟨k, rfl⟩ := Int.eq_ofNat_of_zero_le (show 0 ≤ t by omega)
      by_cases h3 : (l.length : Int) - 2 < (k : Int)
      · go_enter Try.func7, Try.ntmps7
        go_wp2_with (go_at_call 9; refine (shown_any _).mono ?_; rintro e w1 ⟨rfl, hb1⟩)
        go_ret
        exact ⟨rfl, hbw _ (by simpa using hb1)⟩
      · have d1 : decide ((1000 : Int) < (l.length : Int)) = false := by simp; omega
        have d2 : decide ((k : Int) < 0) = false := by simp
        have d3 : decide ((l.length : Int) - 2 < (k : Int)) = false := by simp; omega
        have hq := run_eq_arr2
        have hgd := run_guard2
        by_cases h4 : x = 0 ∧ y = 0
        · obtain ⟨rfl, rfl⟩ := h4
          go_enter Try.func7, Try.ntmps7
          go_wp2_with (go_at_call 9; refine (shown_any _).mono ?_; rintro e w1 ⟨rfl, hb1⟩; obtain ⟨c0, c1⟩ := box_two hb1)
          go_ret
          exact ⟨rfl, hbw _ (by simpa using hb1)⟩
        · have hxy : (((x : Int) == 0) && ((y : Int) == 0)) = false := by
            rw [Bool.and_eq_false_iff]
            by_cases e : x = 0
            · exact .inr (by rw [beq_eq_false_iff_ne]; intro e2; exact h4 ⟨e, by omega⟩)
            · exact .inl (by rw [beq_eq_false_iff_ne]; omega)
          have H4 := Lib.hid h4
          clear h4
          go_enter Try.func7, Try.ntmps7
          go_wp2_with (first
            | (go_at_call 9; refine (shown_any _).mono ?_; rintro e w1 ⟨rfl, hb1⟩; obtain ⟨c0, c1⟩ := box_two hb1; have hbw1 := hbw _ (by simpa using hb1); have hr1 := h.below hbw1; have hrE := hr1.below ((Below.refl w1.heap.size w1).alloc (Nat.le_refl _) (.cells #[] 5)); have hoE := OwnB.empty w1 (Nat.le_refl _))
            | (at_builtin; first | (with_reducible refine wp_append_bytes _ rfl _ _ rfl w1.heap.size _ [] l hoE rfl _ _ hrE _ rfl rfl ?c1 ?c2 ?c3) | fail))
          case c1 => simp; omega
          case c2 => simp
          intro v2 w2 ho2 hb2 hg2
          have hb12 := ((Below.refl w1.heap.size w1).alloc (Nat.le_refl _) (.cells #[] 5)).trans hb2
          have hlb := hb1.size
          have hbx : w.heap.size < w1.heap.size := by simp at hlb; omega
          have c0' := (hb12.cell (p := ⟨w.heap.size, 0, none⟩) hbx).trans c0
          have c1' := (hb12.cell (p := ⟨w.heap.size, 1, none⟩) hbx).trans c1
          have hk2 : k + 2 ≤ l.length := by omega
          obtain ⟨g, cp, rfl, hgB, hglt, hn, hmx, hcell, hfree, hset⟩ := ho2.at (by omega)
          have e0 := hcell k (by omega)
          have e1 := hcell (k + 1) (by omega)
          have f0 := hfree k
          have f1 := hfree (k + 1)
          have hx0 := u8_xor_nat l[k] x (h.byte_at (by omega)) hx
          have hx1 := u8_xor_nat l[k + 1] y (h.byte_at (by omega)) hy
          have HL := Lib.hid hset
          clear hset hcell hfree hb2 hg2 hrE hoE hb1 hq hgd hxy c0 c1
          have hk1 : (k : Int) + 1 < (l.length : Int) := by omega
          have hk0 : (k : Int) < (l.length : Int) := by omega
          have hgne : w.heap.size ≠ g := by omega
          go_wp2
          go_region
          go_wp2
          go_region
          go_wp2_with fail
          have hb13 : Below w1.heap.size w1 ((w2.setCell ⟨g, k, none⟩ (.int .u8 (l[k] ^^^ x : Nat))).setCell ⟨g, k + 1, none⟩ (.int .u8 (l[k + 1] ^^^ y : Nat))).drew.drew :=
            ((((hb12.setCell hgB _).setCell hgB _).drew).drew)
          have x8 : ∀ a b : Nat, a < 256 → b < 256 → a ^^^ b < 256 := fun a b ha hb => Nat.xor_lt_two_pow (n := 8) ha hb
          have ho3 := ((ho2.set k (l[k] ^^^ x) (x8 _ _ (h.byte_at (by omega)) hx)).set (k + 1) (l[k + 1] ^^^ y) (x8 _ _ (h.byte_at (by omega)) hy)).below ((below_drewN (Below.refl _ ((w2.setCell ⟨g, k, none⟩ (.int .u8 (l[k] ^^^ x : Nat))).setCell ⟨g, k + 1, none⟩ (.int .u8 (l[k + 1] ^^^ y : Nat)))) 1).drew)
          have HAP := Lib.hid (M.apart_set h.byte hk2 hx hy H4.out)
          have hlen' : ((l.set k (l[k] ^^^ x)).set (k + 1) (l[k + 1] ^^^ y)).length = l.length := by simp
          have hr3 := hr1.below hb13
          have hbw3 := hbw1.trans (hb13.mono hbw1.size)
          generalize (l.set k (l[k] ^^^ x)).set (k + 1) (l[k + 1] ^^^ y) = l' at *
          obtain ⟨a3, cap3, hv3, hr3', -⟩ := ho3.row
          rw [hlen'] at hv3
          cases hv3
          clear HL e0 e1 f0 f1 hx0 hx1 hb12 c0' c1' ho3 ho2
          have hr3'' : BRow (((w2.setCell ⟨g, k, none⟩ (.int .u8 (l[k] ^^^ x : Nat))).setCell ⟨g, k + 1, none⟩ (.int .u8 (l[k + 1] ^^^ y : Nat))).drew.drew) (some ⟨g, 0, none⟩) cp l' := hr3'
          clear hr3'
          generalize (((w2.setCell ⟨g, k, none⟩ (.int .u8 (l[k] ^^^ x : Nat))).setCell ⟨g, k + 1, none⟩ (.int .u8 (l[k + 1] ^^^ y : Nat))).drew.drew) = w3 at *
          refine (put_any l a cap w3 hr3 (by omega)).mono ?_
          rintro e w4 ⟨v4, rfl, ho4, hb4⟩
          obtain ⟨a4, cap4, rfl, hr4, -⟩ := ho4.row
          have hr4' := hr3''.below hb4
          have hbw4 := hbw3.trans (hb4.mono hbw3.size)
          have HP' := put_any l' (some ⟨g, 0, none⟩) cp w4 hr4' (by omega)
          rw [hlen'] at HP'
          have HPH := Lib.hid HP'
          have HLN := Lib.hid hlen'
          clear HP' hlen' ho4 hb4 hbw3 hr3''
          go_wp2_with fail
          refine HPH.out.mono ?_
          rintro e w5 ⟨v5, rfl, ho5, hb5⟩
          obtain ⟨a5, cap5, rfl, hr5, -⟩ := ho5.row
          have hr45 := hr4.below hb5
          have hbw5 := hbw4.trans (hb5.mono hbw4.size)
          clear ho5 hb5 hbw4 hr4 hr4' HPH
          have hl4 : (M.put l).length = l.length + 2 := by simp [M.put, M.tail]
          have hl5 : (M.put l').length = l.length + 2 := by simp [M.put, M.tail]; exact HLN.out
          obtain ⟨b4, o4, rfl, -, -⟩ := hr45.at (by have := hr45.le; omega)
          obtain ⟨b5, o5, rfl, -, -⟩ := hr5.at (by have := hr5.le; omega)
          have hd4 := hr45.drop l.length (by omega) 2 (by omega)
          have hd5 := hr5.drop l.length (by omega) 2 (by omega)
          have hc4 : l.length + 2 ≤ cap4 := by have := hr45.le; omega
          have hc5 : l.length + 2 ≤ cap5 := by have := hr5.le; omega
          have hm4 := hr45.max
          have hm5 := hr5.max
          rw [show (M.put l).drop l.length = M.tail l by simp [M.put]] at hd4
          rw [show (M.put l').drop l.length = M.tail l' by rw [← HLN.out]; simp [M.put]] at hd5
          have HR := fun n => row_any (M.tail l) (M.tail l') _ _ _ _ (w5.drewN n) (hd4.1.below ((Quiet.drewN (Quiet.refl w5) n).below _)) (hd5.1.below ((Quiet.drewN (Quiet.refl w5) n).below _))
          rw [hd4.2, hd5.2, show eqb (M.tail l) (M.tail l') = false from decide_eq_false HAP.out] at HR
          have HRH := Lib.hid HR
          rw [hl4, hl5]
          have hll : ((l.length : Int) + 2 == (l.length : Int) + 2) = true := by simp
          clear HR hd4 hd5 hl4 hl5 hr45 hr5
          go_wp2_with fail
          have hi4 : (l.length : Int) ≤ (l.length : Int) + 2 := by omega
          have hi5 : (l.length : Int) + 2 ≤ (cap4 : Int) := by omega
          have hi6 : (l.length : Int) + 2 ≤ (cap5 : Int) := by omega
          have hi7 : l.length < cap4 := by omega
          have hi8 : l.length < cap5 := by omega
          go_quiet ((go_at_call 16; exact Calls.quiet_of (HRH.out _)))
          go_wp2
          go_ret
          exact ⟨rfl, below_drewN hbw5 _⟩
end Go.Proofs.Ytlmodgdglejlpaa
