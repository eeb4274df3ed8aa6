import Derived.Test.YtlmodgdglejlpaaFcsG
import Derived.RegionTactic
import Derived.Test.YtlmodgdglejlpaaDraw
import Derived.Lib.SmallJoins
import Derived.Deep.RegionWith
namespace Go.Proofs.Ytlmodgdglejlpaa
open Go.RowKit
set_option linter.unusedVariables false
set_option linter.unusedSimpArgs false

open Go.ChangeShapes Go.WideShapes Go.ChangeAt Go.Joins in
theorem in_on {H : Type} {enc : TypeId × Value → H} {W : World} {base : Nat} {v : Value} {d : DataW H} {p : List MemPlace}
    (z : (DataW.weights Try.prog 38 d).all (fun x => decide (x ≤ reachBytes)) = true)
    (hv : Value.okWide Try.prog W .any base 38 v) (k : DataW.Trod enc Try.prog W 0 (fun _ => true) true 38 v d p) :
    ∃ s o l m a a' cap cap', s < 65536 ∧ o < 65536 ∧ v = .agg #[.int .u16 (s : Nat), .int .u16 (o : Nat), .slice a (List.length l) cap, .slice a' (List.length m) cap'] ∧ BRow W a cap l ∧ BRow W a' cap' m ∧ cap ≤ 140737488351232 ∧ cap' ≤ 140737488351232 := by
  have c4 : Try.prog.cellsOf 38 = 4 := by kernel_rfl
  obtain ⟨v0, v1, v2, v3, y0, y1, y2, y3, n, rfl, rfl, _, h0, h1, h2, h3⟩ := open_agg4 Try.underlying38 (by kernel_rfl) c4 hv k
  obtain ⟨s, e0, _, w0⟩ := DataW.trod_int Try.underlying22 h0
  obtain ⟨o, e1, _, w1⟩ := DataW.trod_int Try.underlying22 h1
  simp only [List.cons.injEq, and_true] at e0 e1
  subst e0 e1
  have b0 := bounds_u16 w0
  have b1 := bounds_u16 w1
  obtain ⟨s, rfl⟩ := Int.eq_ofNat_of_zero_le b0.1
  obtain ⟨o, rfl⟩ := Int.eq_ofNat_of_zero_le b1.1
  have hz : (DataW.weights Try.prog 23 y2.1).all (fun x => decide (x ≤ reachBytes)) = true ∧ (DataW.weights Try.prog 23 y3.1).all (fun x => decide (x ≤ reachBytes)) = true := by
    unfold DataW.weights at z
    rw [Try.underlying38] at z
    simp only [List.map_cons, List.map_nil, DataW.weightsEach, List.all_append, Bool.and_eq_true, List.append_nil] at z
    exact ⟨z.2.2.1, z.2.2.2⟩
  obtain ⟨l, a, cap, rfl, r2, q2⟩ := in_bytes_cell hz.1 h2
  obtain ⟨m, a', cap', rfl, r3, q3⟩ := in_bytes_cell hz.2 h3
  exact ⟨s, o, l, m, a, a', cap, cap', by omega, by omega, rfl, r2, r3, q2, q3⟩

theorem wp_alloc_zeros (w : World) (n : Nat) (hn : n ≤ 281474976710656) :
    (Instr.makeSlice 23 (.int .i64 (n : Int)) (.int .i64 (n : Int))).run Try.prog w = .ok (.slice (some ⟨w.heap.size, 0, none⟩) n n) (w.alloc (.cells (bv (zeros n)).toArray 5)) := by
  obtain ⟨i0, hi, hz0, hz1, hz2⟩ := info_parts ex_info5
  have := run_make (P := Try.prog) w 23 5 i0 (.int .u8 0) Try.underlying23 hi hz0 .i64 .i64 n n (by omega) (Int.le_refl _) (by rw [hz2]; omega) (by omega)
  rw [this]
  congr 2
  simp only [Int.toNat_natCast, hz1, Nat.mul_one]
  congr 1
  have e : (madeCells (Value.int IntKind.u8 0).cells n).toList = bv (zeros n) := by
    rw [show (Value.int IntKind.u8 0).cells = #[Value.int .u8 0] from rfl, toList_madeCells_one]
    simp [bv, zeros]
  apply Array.ext'
  rw [e]

set_option maxRecDepth 100000 in
set_option maxHeartbeats 2000000 in
theorem ons_any (s o : Nat) (l m : List Nat) (a a' : Option Addr) (cap cap' : Nat) (w : World) (hs : s < 65536) (ho : o < 65536) (h : BRow w a cap l) (h' : BRow w a' cap' m) (hc : cap ≤ 140737488351232) (hc' : cap' ≤ 140737488351232) :
    Calls Try.prog 5 #[.agg #[.int .u16 s, .int .u16 o, .slice a l.length cap, .slice a' m.length cap']] w fun e w' => e = .returned (.bool true) ∧ Below w.heap.size w w' := by
  have hl := h.le
  have hl' := h'.le
  by_cases hbig : 2000 < l.length + m.length
  · go_enter Try.func5, Try.ntmps5
    go_wp2_with (go_at_call 9; refine (shown_any _).mono ?_; rintro e w1 ⟨rfl, hb1⟩)
    go_ret
    exact ⟨rfl, ((Below.refl w.heap.size w).alloc (Nat.le_refl _) _).trans (hb1.mono (by simp))⟩
  · go_enter Try.func5, Try.ntmps5
    go_wp2_with (first | (go_at_call 9; refine (shown_any _).mono ?_; rintro e w1 ⟨rfl, hb1⟩) | fail)
    have hbw : Below w.heap.size w w1 := ((Below.refl w.heap.size w).alloc (Nat.le_refl _) _).trans (hb1.mono (by simp))
    clear hb1
    have hr1 := h.below hbw
    have hr1' := h'.below hbw
    refine (on_any s l a cap w1 hs hr1).mono ?_
    rintro e w' ⟨rfl, rfl⟩
    have hon := M.on_lt l s hs h.byte
    go_wp2_with fail
    refine (on_any (M.on s l) m a' cap' w1 hon hr1').mono ?_
    rintro e w' ⟨rfl, rfl⟩
    have hrE := hr1.below ((Below.refl w1.heap.size w1).alloc (Nat.le_refl _) (.cells #[] 5))
    have hoE := OwnB.empty w1 (Nat.le_refl _)
    go_wp2_with (at_builtin; first | (with_reducible refine wp_append_bytes _ rfl _ _ rfl w1.heap.size _ [] l hoE rfl _ _ hrE _ rfl rfl ?c1 ?c2 ?c3) | fail)
    case c1 => simp; omega
    case c2 => simp
    intro v2 w2 ho2 hb2 hg2
    have hb12 := ((Below.refl w1.heap.size w1).alloc (Nat.le_refl _) (.cells #[] 5)).trans hb2
    have hr2' := hr1'.below hb12
    have hs12 := hb12.size
    clear hb2 hg2 hoE hrE
    go_wp2_with (at_builtin; first | (with_reducible refine wp_append_bytes _ rfl _ _ rfl w1.heap.size _ l m ho2 rfl _ _ hr2' _ rfl rfl ?d1 ?d2 ?d3) | fail)
    case d1 => omega
    case d2 => omega
    intro v3 w3 ho3 hb3 hg3
    have hb13 := hb12.trans hb3
    obtain ⟨a3, cap3, rfl, hr3, -⟩ := ho3.row
    have hrl3 := hr1.below hb13
    have hbw3 := hbw.trans (hb13.mono hbw.size)
    have HON := on_any s (l ++ m) a3 cap3 w3 hs hr3
    rw [M.on_append, show (l ++ m).length = l.length + m.length by simp] at HON
    have HONH := Lib.hid HON
    clear HON hb3 hg3 ho3 ho2 hb12 hr2' hr1' hr1 hb13 hr3
    have hne : (((M.on (M.on s l) m : Nat) : Int) != ((M.on (M.on s l) m : Nat) : Int)) = false := by simp
    go_wp2_with (go_at_call 14; refine HONH.out.mono ?_; rintro e w' ⟨rfl, rfl⟩)
    have hbz : ∀ x ∈ zeros l.length, x < 256 := zeros_lt _
    have hoz := M.on_lt (zeros l.length) o ho hbz
    have hx := u16_xor_nat s o hs ho
    have hx2 := u16_xor_nat (M.on s l) (M.on o (zeros l.length)) hon hoz
    have hsx := M.xor_lt hs ho
    have hln : l.length ≤ 281474976710656 := by omega
    refine wp_region_known (by kernel_rfl) [none, none, some 18, none, none, none, none, none, none, none, none, none, none, none, none, none, none, none, none, none, none, none, none, none, none, none, none, none, none, none, none, none, none, none, none, none, none, some 0, some 1, some 2, some 3, some 4, some 5, some 6, some 7, some 8, some 9, some 10, some 11, some 12, some 13, some 14, some 15, some 16, some 17] (by kernel_rfl) rfl ?_
    apply dwalk_is
    · intro aa ww hS hF
      simp [factsAt, factAt, Oper.looksAt, Op.operands, Call.operands, List.getD, Prd.holds, Prd.is, Prd.one, Act.eval] at hF
      refine good_plain rfl ?_
      apply good_value
      · go_simp; exact ⟨rfl, rfl⟩
      · exact rfl
      · exact Stp.refl _
    apply dwalk_is
    · intro aa ww hS hF
      simp [factsAt, factAt, Oper.looksAt, Op.operands, Call.operands, List.getD, Prd.holds, Prd.is, Prd.one, Act.eval] at hF
      refine good_plain rfl ?_
      apply good_value
      · go_simp; exact ⟨rfl, rfl⟩
      · exact rfl
      · exact Stp.refl _
    apply dwalk_is
    · intro aa ww hS hF
      simp [factsAt, factAt, Oper.looksAt, Op.operands, Call.operands, List.getD, Prd.holds, Prd.is, Prd.one, Act.eval] at hF
      refine good_wanted rfl rfl (show aa.eval (.tmp 38) = .bool true by simp [Act.eval, hF]) ?_
      apply good_value
      · go_simp; exact ⟨rfl, rfl⟩
      · exact rfl
      · exact Stp.refl _
    apply dwalk_is
    · intro aa ww hS hF
      simp [factsAt, factAt, Oper.looksAt, Op.operands, Call.operands, List.getD, Prd.holds, Prd.is, Prd.one, Act.eval] at hF
      refine good_wanted rfl rfl (show aa.eval (.tmp 38) = .bool true by simp [Act.eval, hF]) ?_
      apply good_value
      · go_simp; exact ⟨rfl, rfl⟩
      · exact rfl
      · exact Stp.refl _
    apply dwalk_is
    · intro aa ww hS hF
      simp [factsAt, factAt, Oper.looksAt, Op.operands, Call.operands, List.getD, Prd.holds, Prd.is, Prd.one, Act.eval] at hF
      refine good_wanted rfl rfl (show aa.eval (.tmp 38) = .bool true by simp [Act.eval, hF]) ?_
      apply good_value
      · go_simp; exact ⟨rfl, rfl⟩
      · exact rfl
      · exact Stp.refl _
    apply dwalk_is
    · intro aa ww hS hF
      simp [factsAt, factAt, Oper.looksAt, Op.operands, Call.operands, List.getD, Prd.holds, Prd.is, Prd.one, Act.eval] at hF
      refine good_wanted rfl rfl (show aa.eval (.tmp 38) = .bool true by simp [Act.eval, hF]) ?_
      apply good_value
      · go_simp; exact ⟨rfl, rfl⟩
      · exact rfl
      · exact Stp.refl _
    refine dwalk_is (u := .int .u16 (M.on (s ^^^ o) l : Nat)) ?_ ?_
    · intro aa ww hS hF
      simp [factsAt, factAt, Oper.looksAt, Op.operands, Call.operands, List.getD, Prd.holds, Prd.is, Prd.one, Act.eval] at hF
      obtain ⟨h41, h42, h38⟩ := hF
      refine good_wanted rfl rfl (show aa.eval (.tmp 38) = .bool true by simp [Act.eval, h38]) ?_
      apply good_enter
      · go_simp; exact ⟨rfl, rfl⟩
      · exact (on_any (s ^^^ o) l a cap ww hsx (hrl3.below hS)).mono fun e w' ⟨he, hw⟩ => ⟨_, he, rfl, by rw [← hw]; exact Stp.refl _⟩
    apply dwalk_is
    · intro aa ww hS hF
      simp [factsAt, factAt, Oper.looksAt, Op.operands, Call.operands, List.getD, Prd.holds, Prd.is, Prd.one, Act.eval] at hF
      refine good_wanted rfl rfl (show aa.eval (.tmp 38) = .bool true by simp [Act.eval, hF]) ?_
      apply good_value
      · go_simp; exact ⟨rfl, rfl⟩
      · exact rfl
      · exact Stp.refl _
    apply dwalk_is
    · intro aa ww hS hF
      simp [factsAt, factAt, Oper.looksAt, Op.operands, Call.operands, List.getD, Prd.holds, Prd.is, Prd.one, Act.eval] at hF
      refine good_wanted rfl rfl (show aa.eval (.tmp 38) = .bool true by simp [Act.eval, hF]) ?_
      apply good_value
      · go_simp; exact ⟨rfl, rfl⟩
      · exact rfl
      · exact Stp.refl _
    refine dwalk_is (u := .int .u16 (M.on s l : Nat)) ?_ ?_
    · intro aa ww hS hF
      simp [factsAt, factAt, Oper.looksAt, Op.operands, Call.operands, List.getD, Prd.holds, Prd.is, Prd.one, Act.eval] at hF
      obtain ⟨h44, h45, h38⟩ := hF
      refine good_wanted rfl rfl (show aa.eval (.tmp 38) = .bool true by simp [Act.eval, h38]) ?_
      apply good_enter
      · go_simp; exact ⟨rfl, rfl⟩
      · exact (on_any s l a cap ww hs (hrl3.below hS)).mono fun e w' ⟨he, hw⟩ => ⟨_, he, rfl, by rw [← hw]; exact Stp.refl _⟩
    apply dwalk_is
    · intro aa ww hS hF
      simp [factsAt, factAt, Oper.looksAt, Op.operands, Call.operands, List.getD, Prd.holds, Prd.is, Prd.one, Act.eval] at hF
      refine good_wanted rfl rfl (show aa.eval (.tmp 38) = .bool true by simp [Act.eval, hF]) ?_
      apply good_value
      · go_simp; exact ⟨rfl, rfl⟩
      · exact rfl
      · exact Stp.refl _
    apply dwalk_is
    · intro aa ww hS hF
      simp [factsAt, factAt, Oper.looksAt, Op.operands, Call.operands, List.getD, Prd.holds, Prd.is, Prd.one, Act.eval] at hF
      refine good_wanted rfl rfl (show aa.eval (.tmp 38) = .bool true by simp [Act.eval, hF]) ?_
      apply good_value
      · go_simp; exact ⟨rfl, rfl⟩
      · exact rfl
      · exact Stp.refl _
    apply dwalk_is
    · intro aa ww hS hF
      simp [factsAt, factAt, Oper.looksAt, Op.operands, Call.operands, List.getD, Prd.holds, Prd.is, Prd.one, Act.eval] at hF
      refine good_wanted rfl rfl (show aa.eval (.tmp 38) = .bool true by simp [Act.eval, hF]) ?_
      apply good_value
      · go_simp; exact ⟨rfl, rfl⟩
      · exact rfl
      · exact Stp.refl _
    refine dwalk_one (fun v w => ∃ g, v = .slice (some ⟨g, 0, none⟩) l.length l.length ∧ Blk w g (zeros l.length)) (fun v w w' hs ⟨g, hv, hb⟩ => ⟨g, hv, hb.below hs⟩) ?_ ?_
    · intro aa ww hS hF
      simp [factsAt, factAt, Oper.looksAt, Op.operands, Call.operands, List.getD, Prd.holds, Prd.is, Prd.one, Act.eval] at hF
      obtain ⟨h49, h38⟩ := hF
      refine good_wanted rfl rfl (show aa.eval (.tmp 38) = .bool true by simp [Act.eval, h38]) ?_
      apply good_value
      · go_simp; rw [wp_alloc_zeros ww l.length hln]; go_simp; exact ⟨rfl, rfl⟩
      · exact ⟨_, rfl, Blk.new ww _ _ (by simp) hbz⟩
      · exact (Below.refl _ _).alloc (Nat.le_refl _) _
    refine dwalk_is (u := .int .u16 (M.on o (zeros l.length) : Nat)) ?_ ?_
    · intro aa ww hS hF
      simp [factsAt, factAt, Oper.looksAt, Op.operands, Call.operands, List.getD, Prd.holds, Prd.is, Prd.one, Act.eval] at hF
      obtain ⟨h47, ⟨g, h50, hB⟩, h38⟩ := hF
      refine good_wanted rfl rfl (show aa.eval (.tmp 38) = .bool true by simp [Act.eval, h38]) ?_
      apply good_enter
      · go_simp; exact ⟨rfl, rfl⟩
      · have hbr := hB.brow (by rw [length_zeros]; unfold maxLen; omega)
        rw [length_zeros] at hbr
        have := on_any o (zeros l.length) _ _ ww ho hbr
        rw [length_zeros] at this
        exact this.mono fun e w' ⟨he, hw⟩ => ⟨_, he, rfl, by rw [← hw]; exact Stp.refl _⟩
    apply dwalk_is
    · intro aa ww hS hF
      simp [factsAt, factAt, Oper.looksAt, Op.operands, Call.operands, List.getD, Prd.holds, Prd.is, Prd.one, Act.eval] at hF
      refine good_wanted rfl rfl (show aa.eval (.tmp 38) = .bool true by simp [Act.eval, hF]) ?_
      apply good_value
      · go_simp; exact ⟨rfl, rfl⟩
      · exact rfl
      · exact Stp.refl _
    have HEQ : ((M.on (s ^^^ o) l : Nat) : Int) = ((M.on s l ^^^ M.on o (zeros l.length) : Nat) : Int) := by rw [M.on_xor]; rfl
    have hbb : (((M.on (s ^^^ o) l : Nat) : Int) == ((M.on s l ^^^ M.on o (zeros l.length) : Nat) : Int)) = true := by rw [HEQ]; simp
    clear HEQ
    apply dwalk_is
    · intro aa ww hS hF
      simp [factsAt, factAt, Oper.looksAt, Op.operands, Call.operands, List.getD, Prd.holds, Prd.is, Prd.one, Act.eval] at hF
      refine good_wanted rfl rfl (show aa.eval (.tmp 38) = .bool true by simp [Act.eval, hF]) ?_
      apply good_value
      · go_simp; exact ⟨rfl, rfl⟩
      · exact rfl
      · exact Stp.refl _
    apply dwalk_is
    · intro aa ww hS hF
      simp [factsAt, factAt, Oper.looksAt, Op.operands, Call.operands, List.getD, Prd.holds, Prd.is, Prd.one, Act.eval] at hF
      refine good_plain rfl ?_
      apply good_value
      · go_simp; exact ⟨rfl, rfl⟩
      · exact rfl
      · exact Stp.refl _
    apply dwalk_is
    · intro aa ww hS hF
      simp [factsAt, factAt, Oper.looksAt, Op.operands, Call.operands, List.getD, Prd.holds, Prd.is, Prd.one, Act.eval] at hF
      refine good_plain rfl ?_
      apply good_value
      · go_simp; exact ⟨rfl, rfl⟩
      · exact rfl
      · exact Stp.refl _
    refine dwalk_end fun x w' hS hsay => ?_
    simp only [frameOf, Prd.is, Prd.one, List.cons_append, List.nil_append, List.append_assoc, List.getElem?_cons_succ, List.getElem?_cons_zero, Nat.reduceAdd]
    go_wp2
    go_ret
    exact ⟨rfl, hbw3.trans (hS.mono hbw3.size)⟩
end Go.Proofs.Ytlmodgdglejlpaa
