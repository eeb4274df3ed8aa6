import Derived.Test.YtlmodgdglejlpaaFcsG
namespace Go.Proofs.Ytlmodgdglejlpaa
open Go.RowKit
set_option linter.unusedVariables false
set_option linter.unusedSimpArgs false

theorem eqb_refl (l : List Nat) : eqb l l = true := decide_eq_true rfl

set_option maxRecDepth 100000 in
set_option maxHeartbeats 1000000 in
theorem tells_any (s c : Nat) (l : List Nat) (a : Option Addr) (cap : Nat) (w : World) (hs : s < 65536) (hc : c < 256) (h : BRow w a cap l) :
    Calls Try.prog 3 #[.int .u16 s, .int .u8 c, .slice a l.length cap] w fun e w' => e = .returned (.bool true) ∧ Below w.heap.size w w' := by
  have hm := h.len
  by_cases hbig : 2000 < l.length
  · go_enter Try.func3, Try.ntmps3
    go_wp2_with (go_at_call 9; refine (shown_any _).mono ?_; rintro e w1 ⟨rfl, hb1⟩)
    go_ret
    exact ⟨rfl, hb1⟩
  · go_enter Try.func3, Try.ntmps3
    go_wp2_with (first | (go_at_call 9; refine (shown_any _).mono ?_; rintro e w1 ⟨rfl, hb1⟩) | fail)
    refine (cut_any l a cap w1 (h.below hb1) (by omega)).mono ?_
    rintro e w2 ⟨v2, rfl, ho2, hb2⟩
    obtain ⟨a2, cap2, rfl, hr2, -⟩ := ho2.row
    have hbb2 := hb1.trans (hb2.mono hb1.size)
    clear ho2 hb1 hb2
    go_wp2_with fail
    refine (rcut_any l a cap w2 (h.below hbb2) (by omega)).mono ?_
    rintro e w3 ⟨a3, cap3, rfl, hr3, hb3⟩
    have hr2' := hr2.below hb3
    have hbb3 := hbb2.trans (hb3.mono hbb2.size)
    clear hb3 hbb2 hr2
    generalize M.cutE l = E at *
    have hee : (((E : Nat) : Int) == (E : Int)) = true := by simp
    have hsi : s < 65536 := hs
    generalize hL : M.cutL l = L at *
    clear hL
    have hc3 := h.below hbb3
    go_wp2_with (first
      | (go_at_call 12; refine (step_any _ _ _ hs hc).mono ?_; rintro e w' ⟨rfl, rfl⟩)
      | (go_at_call 13; refine (rstep_any _ _ _ hs hc).mono ?_; rintro e w' ⟨rfl, rfl⟩)
      | (go_at_call 14; refine (on_any _ _ _ _ _ hs hc3).mono ?_; rintro e w' ⟨rfl, rfl⟩)
      | (go_at_call 15; refine (ron_any _ _ _ _ _ hs hc3).mono ?_; rintro e w' ⟨rfl, rfl⟩)
      | fail)
    refine (put_any l a cap w3 hc3 (by omega)).mono ?_
    rintro e w4 ⟨v4, rfl, ho4, hb4⟩
    obtain ⟨a4, cap4, rfl, hr4, -⟩ := ho4.row
    have hc4 := h.below (hbb3.trans (hb4.mono hbb3.size))
    have hbb4 := hbb3.trans (hb4.mono hbb3.size)
    have hr24 := hr2'.below hb4
    have hr34 := hr3.below hb4
    clear ho4 hb4 hbb3 hr2' hr3 hc3
    go_wp2_with fail
    refine (rput_any l a cap w4 hc4 (by omega)).mono ?_
    rintro e w5 ⟨v5, rfl, ho5, hb5⟩
    obtain ⟨a5, cap5, rfl, hr5, -⟩ := ho5.row
    have hbb5 := hbb4.trans (hb5.mono hbb4.size)
    have hc5 := h.below hbb5
    have hr45 := hr4.below hb5
    have hr25 := hr24.below hb5
    have hr35 := hr34.below hb5
    clear ho5 hb5 hbb4 hr4 hr24 hr34 hc4
    go_wp2_with fail
    refine (row_any _ _ a4 a5 cap4 cap5 w5 hr45 hr5).mono ?_
    rintro e w6 ⟨rfl, hq6⟩
    rw [eqb_refl]
    have hb6 := hq6.below w5.heap.size
    have hbb6 := hbb5.trans (hb6.mono hbb5.size)
    have hc6 := h.below hbb6
    have hr26 := hr25.below hb6
    have hr36 := hr35.below hb6
    clear hq6 hb6 hbb5 hr45 hr5 hr25 hr35 hc5
    go_wp2_with fail
    refine (good_any l a cap w6 hc6).mono ?_
    rintro e w7 ⟨rfl, rfl⟩
    go_wp2_with fail
    refine (rgood_any l a cap w6 hc6 (by omega)).mono ?_
    rintro e w8 ⟨rfl, hb8⟩
    have hbb8 := hbb6.trans (hb8.mono hbb6.size)
    have hr28 := hr26.below hb8
    have hr38 := hr36.below hb8
    clear hb8 hbb6 hr26 hr36 hc6
    generalize M.good l = G at *
    have hgg : (G == G) = true := by simp
    go_wp2_with fail
    refine (row_any L L a2 a3 cap2 cap3 w8 hr28 hr38).mono ?_
    rintro e w9 ⟨rfl, hq9⟩
    rw [eqb_refl]
    have hbb9 := hbb8.trans (hq9.below w.heap.size)
    clear hq9 hbb8 hr28 hr38
    go_wp2
    go_ret
    exact ⟨rfl, hbb9⟩

theorem good_two {l : List Nat} {x y : Nat} (hb : ∀ z ∈ l, z < 256) (hx : x < 256) (hy : y < 256) : M.good (l ++ [x, y]) = eqb (l ++ [x, y]) (M.put l) := by
  rw [Bool.eq_iff_iff, M.good_append hb hx hy]
  unfold eqb M.put
  rw [decide_eq_true_eq]
  exact ⟨fun e => by rw [e], fun e => List.append_cancel_left e⟩

set_option maxRecDepth 100000 in
set_option maxHeartbeats 1000000 in
theorem back_any (x y : Nat) (l : List Nat) (a : Option Addr) (cap : Nat) (w : World) (hx : x < 256) (hy : y < 256) (h : BRow w a cap l) :
    Calls Try.prog 4 #[.slice a l.length cap, .int .u8 x, .int .u8 y] w fun e w' => e = .returned (.bool true) ∧ Below w.heap.size w w' := by
  have hm := h.len
  by_cases hbig : 2000 < l.length
  · go_enter Try.func4, Try.ntmps4
    go_wp2_with (go_at_call 9; refine (shown_any _).mono ?_; rintro e w1 ⟨rfl, hb1⟩)
    go_ret
    exact ⟨rfl, hb1⟩
  · go_enter Try.func4, Try.ntmps4
    go_wp2_with (first | (go_at_call 9; refine (shown_any _).mono ?_; rintro e w1 ⟨rfl, hb1⟩) | fail)
    have hc1 := h.below hb1
    refine (put_any l a cap w1 hc1 (by omega)).mono ?_
    rintro e w2 ⟨v2, rfl, ho2, hb2⟩
    obtain ⟨a2, cap2, rfl, hr2, -⟩ := ho2.row
    have hbb2 := hb1.trans (hb2.mono hb1.size)
    have hpl : (M.put l).length ≤ 100000000 := by simp [M.put, M.tail]; omega
    clear ho2 hb1 hb2 hc1
    go_wp2_with fail
    have HC := cut_any (M.put l) a2 cap2 w2 hr2 hpl
    rw [M.cutE_good (M.good_put h.byte), M.cutL_good (M.good_put h.byte), show (M.put l).take ((M.put l).length - 2) = l by simp [M.put, M.tail]] at HC
    refine HC.mono ?_
    rintro e w3 ⟨v3, rfl, ho3, hb3⟩
    obtain ⟨a3, cap3, rfl, hr3, -⟩ := ho3.row
    have hbb3 := hbb2.trans (hb3.mono hbb2.size)
    have hr23 := hr2.below hb3
    have hc3 := h.below hbb3
    clear ho3 hb3 hbb2 hr2 HC hpl
    have hrE := hc3.below ((Below.refl w3.heap.size w3).alloc (Nat.le_refl _) (.cells #[] 5))
    have hoE := OwnB.empty w3 (Nat.le_refl _)
    go_wp2_with (at_builtin; first | (with_reducible refine wp_append_bytes _ rfl _ _ rfl w3.heap.size _ [] l hoE rfl _ _ hrE _ rfl rfl ?c1 ?c2 ?c3) | fail)
    case c1 => simp; omega
    case c2 => simp
    intro v4 w4 ho4 hb4 hg4
    have hb34 := ((Below.refl w3.heap.size w3).alloc (Nat.le_refl _) (.cells #[] 5)).trans hb4
    clear hb4 hg4 hoE hrE
    have hsz := hb34.size
    go_wp2_with (at_builtin; first | (with_reducible refine wp_append_bytes _ rfl _ _ rfl w3.heap.size _ l [x, y] (ho4.alloc _) rfl _ _ ?d0 _ rfl ?d1 ?d2 ?d3 ?d4) | fail)
    case d0 => exact (Blk.new w4 #[.int .u8 x, .int .u8 y] [x, y] rfl (by simp; exact ⟨hx, hy⟩)).brow (by simp [maxLen])
    case d1 => rfl
    case d2 => simp; omega
    case d3 => simp; omega
    intro v5 w5 ho5 hb5 hg5
    have hb45 : Below w3.heap.size w4 w5 := ((Below.refl w3.heap.size w4).alloc hsz (.cells #[.int .u8 x, .int .u8 y] 5)).trans hb5
    have hb35 := hb34.trans hb45
    obtain ⟨a5, cap5, rfl, hr5, -⟩ := ho5.row
    have hr25 := hr23.below hb35
    have hr35 := hr3.below hb35
    have hc5 := hc3.below hb35
    have hbb5 := hbb3.trans (hb35.mono hbb3.size)
    have hG := good_two h.byte hx hy
    have hcg := good_any (M.put l) a2 cap2 w5 hr25
    rw [M.good_put h.byte] at hcg
    have HCG := Lib.hid hcg
    clear hb34 hb45 hb35 ho4 ho5 hb5 hg5 hbb3 hr23 hr3 hc3 hcg h hsz
    go_wp2_with fail
    refine HCG.out.mono ?_
    rintro e w' ⟨rfl, rfl⟩
    go_wp2_with fail
    refine (row_any l l a3 a cap3 cap w5 hr35 hc5).mono ?_
    rintro e w6 ⟨rfl, hq6⟩
    rw [eqb_refl]
    obtain ⟨n6, rfl⟩ := hq6
    go_wp2_with fail
    have hl2 : (l ++ [x, y]).length = l.length + 2 := by simp
    have hg2 := good_any (l ++ [x, y]) a5 cap5 _ (hr5.below ((Quiet.drewN (Quiet.refl w5) n6).below _))
    rw [hl2] at hg2
    have hw2 := row_any (l ++ [x, y]) (M.put l) a5 a2 cap5 cap2 _ (hr5.below ((Quiet.drewN (Quiet.refl w5) n6).below _)) (hr25.below ((Quiet.drewN (Quiet.refl w5) n6).below _))
    rw [hl2] at hw2
    have HG2 := Lib.hid hg2
    have HW2 := Lib.hid hw2
    clear hg2 hw2 hl2
    refine HG2.out.mono ?_
    rintro e w' ⟨rfl, rfl⟩
    go_wp2_with fail
    refine HW2.out.mono ?_
    rintro e w7 ⟨rfl, hq7⟩
    clear hG
    generalize eqb (l ++ [x, y]) (M.put l) = G at *
    have hgg : (G == G) = true := by simp
    have hbb7 := (below_drewN hbb5 n6).trans (hq7.below w.heap.size)
    clear hq7 hbb5
    go_wp2
    go_ret
    exact ⟨rfl, hbb7⟩
end Go.Proofs.Ytlmodgdglejlpaa
