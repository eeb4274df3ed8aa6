/- The closed facts on the types. -/
import Derived.Test.YtedcnbkhdkchoaaR
import Derived.Test.YtedcnbkhdkchoaaChecked
import Derived.KernelRfl
namespace Go.Proofs.Ytedcnbkhdkchoaa

@[go_sem] theorem ty_sz1 : szT Try.prog 1 = some 1 := by kernel_rfl
@[go_sem] theorem ty_by1 : byT Try.prog 1 = some 8 := by kernel_rfl
@[go_sem] theorem ty_ag1 : aggT Try.prog 1 = some false := by kernel_rfl
@[go_sem] theorem ty_un1 : (Try.prog.underlying 1).isSome = true := by kernel_rfl
@[go_sem] theorem ty_ze1 : zeT Try.prog 1 = some [.data .nilf] := by kernel_rfl
@[go_sem] theorem ty_zl1 : zlT Try.prog 1 = some 1 := by kernel_rfl
@[go_sem] theorem ty_sl1 : sliceT Try.prog 1 = none := by kernel_rfl
@[go_sem] theorem ty_ar1 : arrT Try.prog 1 = none := by kernel_rfl
@[go_sem] theorem ty_in1 : intT Try.prog 1 = none := by kernel_rfl
@[go_sem] theorem ty_bo1 : boolT Try.prog 1 = false := by kernel_rfl
@[go_sem] theorem ty_st1 : strT Try.prog 1 = false := by kernel_rfl
@[go_sem] theorem ty_zv1 : zvT Try.prog 1 = some (.data .nilf) := by kernel_rfl
@[go_sem] theorem ty_sz2 : szT Try.prog 2 = some 1 := by kernel_rfl
@[go_sem] theorem ty_by2 : byT Try.prog 2 = some 8 := by kernel_rfl
@[go_sem] theorem ty_ag2 : aggT Try.prog 2 = some false := by kernel_rfl
@[go_sem] theorem ty_un2 : (Try.prog.underlying 2).isSome = true := by kernel_rfl
@[go_sem] theorem ty_ze2 : zeT Try.prog 2 = some [.data (.int .i64 0)] := by kernel_rfl
@[go_sem] theorem ty_zl2 : zlT Try.prog 2 = some 1 := by kernel_rfl
@[go_sem] theorem ty_sl2 : sliceT Try.prog 2 = none := by kernel_rfl
@[go_sem] theorem ty_ar2 : arrT Try.prog 2 = none := by kernel_rfl
@[go_sem] theorem ty_in2 : intT Try.prog 2 = some .i64 := by kernel_rfl
@[go_sem] theorem ty_bo2 : boolT Try.prog 2 = false := by kernel_rfl
@[go_sem] theorem ty_st2 : strT Try.prog 2 = false := by kernel_rfl
@[go_sem] theorem ty_ki2  (n : Int) : keyT Try.prog 2 (.int .i64 n) = true := by kernel_rfl
@[go_sem] theorem ty_zv2 : zvT Try.prog 2 = some (.data (.int .i64 0)) := by kernel_rfl
@[go_sem] theorem ty_sz3 : szT Try.prog 3 = some 1 := by kernel_rfl
@[go_sem] theorem ty_by3 : byT Try.prog 3 = some 8 := by kernel_rfl
@[go_sem] theorem ty_ag3 : aggT Try.prog 3 = some false := by kernel_rfl
@[go_sem] theorem ty_un3 : (Try.prog.underlying 3).isSome = true := by kernel_rfl
@[go_sem] theorem ty_ze3 : zeT Try.prog 3 = some [.data (.int .i64 0)] := by kernel_rfl
@[go_sem] theorem ty_zl3 : zlT Try.prog 3 = some 1 := by kernel_rfl
@[go_sem] theorem ty_sl3 : sliceT Try.prog 3 = none := by kernel_rfl
@[go_sem] theorem ty_ar3 : arrT Try.prog 3 = none := by kernel_rfl
@[go_sem] theorem ty_in3 : intT Try.prog 3 = some .i64 := by kernel_rfl
@[go_sem] theorem ty_bo3 : boolT Try.prog 3 = false := by kernel_rfl
@[go_sem] theorem ty_st3 : strT Try.prog 3 = false := by kernel_rfl
@[go_sem] theorem ty_ki3  (n : Int) : keyT Try.prog 3 (.int .i64 n) = true := by kernel_rfl
@[go_sem] theorem ty_zv3 : zvT Try.prog 3 = some (.data (.int .i64 0)) := by kernel_rfl
@[go_sem] theorem ty_sz4 : szT Try.prog 4 = some 1 := by kernel_rfl
@[go_sem] theorem ty_by4 : byT Try.prog 4 = some 1 := by kernel_rfl
@[go_sem] theorem ty_ag4 : aggT Try.prog 4 = some false := by kernel_rfl
@[go_sem] theorem ty_un4 : (Try.prog.underlying 4).isSome = true := by kernel_rfl
@[go_sem] theorem ty_ze4 : zeT Try.prog 4 = some [.data (.bool false)] := by kernel_rfl
@[go_sem] theorem ty_zl4 : zlT Try.prog 4 = some 1 := by kernel_rfl
@[go_sem] theorem ty_sl4 : sliceT Try.prog 4 = none := by kernel_rfl
@[go_sem] theorem ty_ar4 : arrT Try.prog 4 = none := by kernel_rfl
@[go_sem] theorem ty_in4 : intT Try.prog 4 = none := by kernel_rfl
@[go_sem] theorem ty_bo4 : boolT Try.prog 4 = true := by kernel_rfl
@[go_sem] theorem ty_st4 : strT Try.prog 4 = false := by kernel_rfl
@[go_sem] theorem ty_kb4 (b : Bool) : keyT Try.prog 4 (.bool b) = true := by kernel_rfl
@[go_sem] theorem ty_zv4 : zvT Try.prog 4 = some (.data (.bool false)) := by kernel_rfl
@[go_sem] theorem ty_sz5 : szT Try.prog 5 = some 1 := by kernel_rfl
@[go_sem] theorem ty_by5 : byT Try.prog 5 = some 1 := by kernel_rfl
@[go_sem] theorem ty_ag5 : aggT Try.prog 5 = some false := by kernel_rfl
@[go_sem] theorem ty_un5 : (Try.prog.underlying 5).isSome = true := by kernel_rfl
@[go_sem] theorem ty_ze5 : zeT Try.prog 5 = some [.data (.int .u8 0)] := by kernel_rfl
@[go_sem] theorem ty_zl5 : zlT Try.prog 5 = some 1 := by kernel_rfl
@[go_sem] theorem ty_sl5 : sliceT Try.prog 5 = none := by kernel_rfl
@[go_sem] theorem ty_ar5 : arrT Try.prog 5 = none := by kernel_rfl
@[go_sem] theorem ty_in5 : intT Try.prog 5 = some .u8 := by kernel_rfl
@[go_sem] theorem ty_bo5 : boolT Try.prog 5 = false := by kernel_rfl
@[go_sem] theorem ty_st5 : strT Try.prog 5 = false := by kernel_rfl
@[go_sem] theorem ty_ki5  (n : Int) : keyT Try.prog 5 (.int .u8 n) = true := by kernel_rfl
@[go_sem] theorem ty_zv5 : zvT Try.prog 5 = some (.data (.int .u8 0)) := by kernel_rfl
@[go_sem] theorem ty_sz9 : szT Try.prog 9 = some 1 := by kernel_rfl
@[go_sem] theorem ty_by9 : byT Try.prog 9 = some 16 := by kernel_rfl
@[go_sem] theorem ty_ag9 : aggT Try.prog 9 = some false := by kernel_rfl
@[go_sem] theorem ty_un9 : (Try.prog.underlying 9).isSome = true := by kernel_rfl
@[go_sem] theorem ty_ze9 : zeT Try.prog 9 = some [.data (.str ByteArray.empty)] := by kernel_rfl
@[go_sem] theorem ty_zl9 : zlT Try.prog 9 = some 1 := by kernel_rfl
@[go_sem] theorem ty_sl9 : sliceT Try.prog 9 = none := by kernel_rfl
@[go_sem] theorem ty_ar9 : arrT Try.prog 9 = none := by kernel_rfl
@[go_sem] theorem ty_in9 : intT Try.prog 9 = none := by kernel_rfl
@[go_sem] theorem ty_bo9 : boolT Try.prog 9 = false := by kernel_rfl
@[go_sem] theorem ty_st9 : strT Try.prog 9 = true := by kernel_rfl
@[go_sem] theorem ty_ks9 (s : ByteArray) : keyT Try.prog 9 (.str s) = true := by kernel_rfl
@[go_sem] theorem ty_zv9 : zvT Try.prog 9 = some (.data (.str ByteArray.empty)) := by kernel_rfl
@[go_sem] theorem ty_sz12 : szT Try.prog 12 = some 1 := by kernel_rfl
@[go_sem] theorem ty_by12 : byT Try.prog 12 = some 8 := by kernel_rfl
@[go_sem] theorem ty_ag12 : aggT Try.prog 12 = some false := by kernel_rfl
@[go_sem] theorem ty_un12 : (Try.prog.underlying 12).isSome = true := by kernel_rfl
@[go_sem] theorem ty_ze12 : zeT Try.prog 12 = some [.data (.int .u64 0)] := by kernel_rfl
@[go_sem] theorem ty_zl12 : zlT Try.prog 12 = some 1 := by kernel_rfl
@[go_sem] theorem ty_sl12 : sliceT Try.prog 12 = none := by kernel_rfl
@[go_sem] theorem ty_ar12 : arrT Try.prog 12 = none := by kernel_rfl
@[go_sem] theorem ty_in12 : intT Try.prog 12 = some .u64 := by kernel_rfl
@[go_sem] theorem ty_bo12 : boolT Try.prog 12 = false := by kernel_rfl
@[go_sem] theorem ty_st12 : strT Try.prog 12 = false := by kernel_rfl
@[go_sem] theorem ty_ki12  (n : Int) : keyT Try.prog 12 (.int .u64 n) = true := by kernel_rfl
@[go_sem] theorem ty_zv12 : zvT Try.prog 12 = some (.data (.int .u64 0)) := by kernel_rfl
@[go_sem] theorem ty_sz20 : szT Try.prog 20 = some 1 := by kernel_rfl
@[go_sem] theorem ty_by20 : byT Try.prog 20 = some 16 := by kernel_rfl
@[go_sem] theorem ty_ag20 : aggT Try.prog 20 = some false := by kernel_rfl
@[go_sem] theorem ty_un20 : (Try.prog.underlying 20).isSome = true := by kernel_rfl
@[go_sem] theorem ty_ze20 : zeT Try.prog 20 = some [.data .nili] := by kernel_rfl
@[go_sem] theorem ty_zl20 : zlT Try.prog 20 = some 1 := by kernel_rfl
@[go_sem] theorem ty_sl20 : sliceT Try.prog 20 = none := by kernel_rfl
@[go_sem] theorem ty_ar20 : arrT Try.prog 20 = none := by kernel_rfl
@[go_sem] theorem ty_in20 : intT Try.prog 20 = none := by kernel_rfl
@[go_sem] theorem ty_bo20 : boolT Try.prog 20 = false := by kernel_rfl
@[go_sem] theorem ty_st20 : strT Try.prog 20 = false := by kernel_rfl
@[go_sem] theorem ty_zv20 : zvT Try.prog 20 = some (.data .nili) := by kernel_rfl
@[go_sem] theorem ty_sz21 : szT Try.prog 21 = some 1 := by kernel_rfl
@[go_sem] theorem ty_by21 : byT Try.prog 21 = some 4 := by kernel_rfl
@[go_sem] theorem ty_ag21 : aggT Try.prog 21 = some false := by kernel_rfl
@[go_sem] theorem ty_un21 : (Try.prog.underlying 21).isSome = true := by kernel_rfl
@[go_sem] theorem ty_ze21 : zeT Try.prog 21 = some [.data (.int .i32 0)] := by kernel_rfl
@[go_sem] theorem ty_zl21 : zlT Try.prog 21 = some 1 := by kernel_rfl
@[go_sem] theorem ty_sl21 : sliceT Try.prog 21 = none := by kernel_rfl
@[go_sem] theorem ty_ar21 : arrT Try.prog 21 = none := by kernel_rfl
@[go_sem] theorem ty_in21 : intT Try.prog 21 = some .i32 := by kernel_rfl
@[go_sem] theorem ty_bo21 : boolT Try.prog 21 = false := by kernel_rfl
@[go_sem] theorem ty_st21 : strT Try.prog 21 = false := by kernel_rfl
@[go_sem] theorem ty_ki21  (n : Int) : keyT Try.prog 21 (.int .i32 n) = true := by kernel_rfl
@[go_sem] theorem ty_zv21 : zvT Try.prog 21 = some (.data (.int .i32 0)) := by kernel_rfl
@[go_sem] theorem ty_sz22 : szT Try.prog 22 = some 1 := by kernel_rfl
@[go_sem] theorem ty_by22 : byT Try.prog 22 = some 24 := by kernel_rfl
@[go_sem] theorem ty_ag22 : aggT Try.prog 22 = some false := by kernel_rfl
@[go_sem] theorem ty_un22 : (Try.prog.underlying 22).isSome = true := by kernel_rfl
@[go_sem] theorem ty_ze22 : zeT Try.prog 22 = some [.emp 0] := by kernel_rfl
@[go_sem] theorem ty_zl22 : zlT Try.prog 22 = some 1 := by kernel_rfl
@[go_sem] theorem ty_sl22 : sliceT Try.prog 22 = some 48 := by kernel_rfl
@[go_sem] theorem ty_ar22 : arrT Try.prog 22 = none := by kernel_rfl
@[go_sem] theorem ty_in22 : intT Try.prog 22 = none := by kernel_rfl
@[go_sem] theorem ty_bo22 : boolT Try.prog 22 = false := by kernel_rfl
@[go_sem] theorem ty_st22 : strT Try.prog 22 = false := by kernel_rfl
@[go_sem] theorem ty_zv22 : zvT Try.prog 22 = some (.emp 0) := by kernel_rfl
@[go_sem] theorem ty_sz23 : szT Try.prog 23 = some 1 := by kernel_rfl
@[go_sem] theorem ty_by23 : byT Try.prog 23 = some 24 := by kernel_rfl
@[go_sem] theorem ty_ag23 : aggT Try.prog 23 = some false := by kernel_rfl
@[go_sem] theorem ty_un23 : (Try.prog.underlying 23).isSome = true := by kernel_rfl
@[go_sem] theorem ty_ze23 : zeT Try.prog 23 = some [.emp 0] := by kernel_rfl
@[go_sem] theorem ty_zl23 : zlT Try.prog 23 = some 1 := by kernel_rfl
@[go_sem] theorem ty_sl23 : sliceT Try.prog 23 = some 46 := by kernel_rfl
@[go_sem] theorem ty_ar23 : arrT Try.prog 23 = none := by kernel_rfl
@[go_sem] theorem ty_in23 : intT Try.prog 23 = none := by kernel_rfl
@[go_sem] theorem ty_bo23 : boolT Try.prog 23 = false := by kernel_rfl
@[go_sem] theorem ty_st23 : strT Try.prog 23 = false := by kernel_rfl
@[go_sem] theorem ty_zv23 : zvT Try.prog 23 = some (.emp 0) := by kernel_rfl
@[go_sem] theorem ty_sz24 : szT Try.prog 24 = some 1 := by kernel_rfl
@[go_sem] theorem ty_by24 : byT Try.prog 24 = some 24 := by kernel_rfl
@[go_sem] theorem ty_ag24 : aggT Try.prog 24 = some false := by kernel_rfl
@[go_sem] theorem ty_un24 : (Try.prog.underlying 24).isSome = true := by kernel_rfl
@[go_sem] theorem ty_ze24 : zeT Try.prog 24 = some [.emp 0] := by kernel_rfl
@[go_sem] theorem ty_zl24 : zlT Try.prog 24 = some 1 := by kernel_rfl
@[go_sem] theorem ty_sl24 : sliceT Try.prog 24 = some 51 := by kernel_rfl
@[go_sem] theorem ty_ar24 : arrT Try.prog 24 = none := by kernel_rfl
@[go_sem] theorem ty_in24 : intT Try.prog 24 = none := by kernel_rfl
@[go_sem] theorem ty_bo24 : boolT Try.prog 24 = false := by kernel_rfl
@[go_sem] theorem ty_st24 : strT Try.prog 24 = false := by kernel_rfl
@[go_sem] theorem ty_zv24 : zvT Try.prog 24 = some (.emp 0) := by kernel_rfl
@[go_sem] theorem ty_sz25 : szT Try.prog 25 = some 4 := by kernel_rfl
@[go_sem] theorem ty_by25 : byT Try.prog 25 = some 80 := by kernel_rfl
@[go_sem] theorem ty_ag25 : aggT Try.prog 25 = some true := by kernel_rfl
@[go_sem] theorem ty_un25 : (Try.prog.underlying 25).isSome = true := by kernel_rfl
@[go_sem] theorem ty_ze25 : zeT Try.prog 25 = some [.data (.int .i64 0), .emp 0, .emp 0, .emp 0] := by kernel_rfl
@[go_sem] theorem ty_zl25 : zlT Try.prog 25 = some 4 := by kernel_rfl
@[go_sem] theorem ty_sl25 : sliceT Try.prog 25 = none := by kernel_rfl
@[go_sem] theorem ty_ar25 : arrT Try.prog 25 = none := by kernel_rfl
@[go_sem] theorem ty_in25 : intT Try.prog 25 = none := by kernel_rfl
@[go_sem] theorem ty_bo25 : boolT Try.prog 25 = false := by kernel_rfl
@[go_sem] theorem ty_st25 : strT Try.prog 25 = false := by kernel_rfl
@[go_sem] theorem ty_zv25 : zvT Try.prog 25 = some (.agg [.data (.int .i64 0), .emp 0, .emp 0, .emp 0]) := by kernel_rfl
@[go_sem] theorem ty_fl25_0 : fldT Try.prog 25 0 = some (0, 3) := by kernel_rfl
@[go_sem] theorem ty_fl25_1 : fldT Try.prog 25 1 = some (1, 22) := by kernel_rfl
@[go_sem] theorem ty_fl25_2 : fldT Try.prog 25 2 = some (2, 23) := by kernel_rfl
@[go_sem] theorem ty_fl25_3 : fldT Try.prog 25 3 = some (3, 24) := by kernel_rfl
@[go_sem] theorem ty_pl25 : plT Try.prog 25 = some [(0, 1), (1, 1), (2, 1), (3, 1)] := by kernel_rfl
@[go_sem] theorem ty_sz26 : szT Try.prog 26 = some 4 := by kernel_rfl
@[go_sem] theorem ty_by26 : byT Try.prog 26 = some 80 := by kernel_rfl
@[go_sem] theorem ty_ag26 : aggT Try.prog 26 = some true := by kernel_rfl
@[go_sem] theorem ty_un26 : (Try.prog.underlying 26).isSome = true := by kernel_rfl
@[go_sem] theorem ty_ze26 : zeT Try.prog 26 = some [.data (.int .i64 0), .emp 0, .emp 0, .emp 0] := by kernel_rfl
@[go_sem] theorem ty_zl26 : zlT Try.prog 26 = some 4 := by kernel_rfl
@[go_sem] theorem ty_sl26 : sliceT Try.prog 26 = none := by kernel_rfl
@[go_sem] theorem ty_ar26 : arrT Try.prog 26 = none := by kernel_rfl
@[go_sem] theorem ty_in26 : intT Try.prog 26 = none := by kernel_rfl
@[go_sem] theorem ty_bo26 : boolT Try.prog 26 = false := by kernel_rfl
@[go_sem] theorem ty_st26 : strT Try.prog 26 = false := by kernel_rfl
@[go_sem] theorem ty_zv26 : zvT Try.prog 26 = some (.agg [.data (.int .i64 0), .emp 0, .emp 0, .emp 0]) := by kernel_rfl
@[go_sem] theorem ty_fl26_0 : fldT Try.prog 26 0 = some (0, 3) := by kernel_rfl
@[go_sem] theorem ty_fl26_1 : fldT Try.prog 26 1 = some (1, 22) := by kernel_rfl
@[go_sem] theorem ty_fl26_2 : fldT Try.prog 26 2 = some (2, 23) := by kernel_rfl
@[go_sem] theorem ty_fl26_3 : fldT Try.prog 26 3 = some (3, 24) := by kernel_rfl
@[go_sem] theorem ty_pl26 : plT Try.prog 26 = some [(0, 1), (1, 1), (2, 1), (3, 1)] := by kernel_rfl
@[go_sem] theorem ty_sz27 : szT Try.prog 27 = some 1 := by kernel_rfl
@[go_sem] theorem ty_by27 : byT Try.prog 27 = some 4 := by kernel_rfl
@[go_sem] theorem ty_ag27 : aggT Try.prog 27 = some false := by kernel_rfl
@[go_sem] theorem ty_un27 : (Try.prog.underlying 27).isSome = true := by kernel_rfl
@[go_sem] theorem ty_ze27 : zeT Try.prog 27 = some [.data (.int .u32 0)] := by kernel_rfl
@[go_sem] theorem ty_zl27 : zlT Try.prog 27 = some 1 := by kernel_rfl
@[go_sem] theorem ty_sl27 : sliceT Try.prog 27 = none := by kernel_rfl
@[go_sem] theorem ty_ar27 : arrT Try.prog 27 = none := by kernel_rfl
@[go_sem] theorem ty_in27 : intT Try.prog 27 = some .u32 := by kernel_rfl
@[go_sem] theorem ty_bo27 : boolT Try.prog 27 = false := by kernel_rfl
@[go_sem] theorem ty_st27 : strT Try.prog 27 = false := by kernel_rfl
@[go_sem] theorem ty_ki27  (n : Int) : keyT Try.prog 27 (.int .u32 n) = true := by kernel_rfl
@[go_sem] theorem ty_zv27 : zvT Try.prog 27 = some (.data (.int .u32 0)) := by kernel_rfl
@[go_sem] theorem ty_sz28 : szT Try.prog 28 = some 1 := by kernel_rfl
@[go_sem] theorem ty_by28 : byT Try.prog 28 = some 8 := by kernel_rfl
@[go_sem] theorem ty_ag28 : aggT Try.prog 28 = some false := by kernel_rfl
@[go_sem] theorem ty_un28 : (Try.prog.underlying 28).isSome = true := by kernel_rfl
@[go_sem] theorem ty_ze28 : zeT Try.prog 28 = some [.data (.int .u64 0)] := by kernel_rfl
@[go_sem] theorem ty_zl28 : zlT Try.prog 28 = some 1 := by kernel_rfl
@[go_sem] theorem ty_sl28 : sliceT Try.prog 28 = none := by kernel_rfl
@[go_sem] theorem ty_ar28 : arrT Try.prog 28 = none := by kernel_rfl
@[go_sem] theorem ty_in28 : intT Try.prog 28 = some .u64 := by kernel_rfl
@[go_sem] theorem ty_bo28 : boolT Try.prog 28 = false := by kernel_rfl
@[go_sem] theorem ty_st28 : strT Try.prog 28 = false := by kernel_rfl
@[go_sem] theorem ty_ki28  (n : Int) : keyT Try.prog 28 (.int .u64 n) = true := by kernel_rfl
@[go_sem] theorem ty_zv28 : zvT Try.prog 28 = some (.data (.int .u64 0)) := by kernel_rfl
@[go_sem] theorem ty_sz29 : szT Try.prog 29 = some 9 := by kernel_rfl
@[go_sem] theorem ty_by29 : byT Try.prog 29 = some 80 := by kernel_rfl
@[go_sem] theorem ty_ag29 : aggT Try.prog 29 = some true := by kernel_rfl
@[go_sem] theorem ty_un29 : (Try.prog.underlying 29).isSome = true := by kernel_rfl
@[go_sem] theorem ty_ze29 : zeT Try.prog 29 = some [.data (.int .i64 0), .data (.int .i64 0), .data (.int .i64 0), .data (.int .u32 0), .data (.str ByteArray.empty), .data (.int .u64 0), .data (.int .u64 0), .data (.int .i64 0), .data (.int .i64 0)] := by kernel_rfl
@[go_sem] theorem ty_zl29 : zlT Try.prog 29 = some 9 := by kernel_rfl
@[go_sem] theorem ty_sl29 : sliceT Try.prog 29 = none := by kernel_rfl
@[go_sem] theorem ty_ar29 : arrT Try.prog 29 = none := by kernel_rfl
@[go_sem] theorem ty_in29 : intT Try.prog 29 = none := by kernel_rfl
@[go_sem] theorem ty_bo29 : boolT Try.prog 29 = false := by kernel_rfl
@[go_sem] theorem ty_st29 : strT Try.prog 29 = false := by kernel_rfl
@[go_sem] theorem ty_zv29 : zvT Try.prog 29 = some (.data (.agg [(.int .i64 0), (.int .i64 0), (.int .i64 0), (.int .u32 0), (.str ByteArray.empty), (.int .u64 0), (.int .u64 0), (.int .i64 0), (.int .i64 0)])) := by kernel_rfl
@[go_sem] theorem ty_fl29_0 : fldT Try.prog 29 0 = some (0, 3) := by kernel_rfl
@[go_sem] theorem ty_fl29_1 : fldT Try.prog 29 1 = some (1, 3) := by kernel_rfl
@[go_sem] theorem ty_fl29_2 : fldT Try.prog 29 2 = some (2, 3) := by kernel_rfl
@[go_sem] theorem ty_fl29_3 : fldT Try.prog 29 3 = some (3, 27) := by kernel_rfl
@[go_sem] theorem ty_fl29_4 : fldT Try.prog 29 4 = some (4, 9) := by kernel_rfl
@[go_sem] theorem ty_fl29_5 : fldT Try.prog 29 5 = some (5, 28) := by kernel_rfl
@[go_sem] theorem ty_fl29_6 : fldT Try.prog 29 6 = some (6, 28) := by kernel_rfl
@[go_sem] theorem ty_fl29_7 : fldT Try.prog 29 7 = some (7, 3) := by kernel_rfl
@[go_sem] theorem ty_fl29_8 : fldT Try.prog 29 8 = some (8, 3) := by kernel_rfl
@[go_sem] theorem ty_pl29 : plT Try.prog 29 = some [(0, 1), (1, 1), (2, 1), (3, 1), (4, 1), (5, 1), (6, 1), (7, 1), (8, 1)] := by kernel_rfl
@[go_sem] theorem ty_sz30 : szT Try.prog 30 = some 9 := by kernel_rfl
@[go_sem] theorem ty_by30 : byT Try.prog 30 = some 80 := by kernel_rfl
@[go_sem] theorem ty_ag30 : aggT Try.prog 30 = some true := by kernel_rfl
@[go_sem] theorem ty_un30 : (Try.prog.underlying 30).isSome = true := by kernel_rfl
@[go_sem] theorem ty_ze30 : zeT Try.prog 30 = some [.data (.int .i64 0), .data (.int .i64 0), .data (.int .i64 0), .data (.int .u32 0), .data (.str ByteArray.empty), .data (.int .u64 0), .data (.int .u64 0), .data (.int .i64 0), .data (.int .i64 0)] := by kernel_rfl
@[go_sem] theorem ty_zl30 : zlT Try.prog 30 = some 9 := by kernel_rfl
@[go_sem] theorem ty_sl30 : sliceT Try.prog 30 = none := by kernel_rfl
@[go_sem] theorem ty_ar30 : arrT Try.prog 30 = none := by kernel_rfl
@[go_sem] theorem ty_in30 : intT Try.prog 30 = none := by kernel_rfl
@[go_sem] theorem ty_bo30 : boolT Try.prog 30 = false := by kernel_rfl
@[go_sem] theorem ty_st30 : strT Try.prog 30 = false := by kernel_rfl
@[go_sem] theorem ty_zv30 : zvT Try.prog 30 = some (.data (.agg [(.int .i64 0), (.int .i64 0), (.int .i64 0), (.int .u32 0), (.str ByteArray.empty), (.int .u64 0), (.int .u64 0), (.int .i64 0), (.int .i64 0)])) := by kernel_rfl
@[go_sem] theorem ty_fl30_0 : fldT Try.prog 30 0 = some (0, 3) := by kernel_rfl
@[go_sem] theorem ty_fl30_1 : fldT Try.prog 30 1 = some (1, 3) := by kernel_rfl
@[go_sem] theorem ty_fl30_2 : fldT Try.prog 30 2 = some (2, 3) := by kernel_rfl
@[go_sem] theorem ty_fl30_3 : fldT Try.prog 30 3 = some (3, 27) := by kernel_rfl
@[go_sem] theorem ty_fl30_4 : fldT Try.prog 30 4 = some (4, 9) := by kernel_rfl
@[go_sem] theorem ty_fl30_5 : fldT Try.prog 30 5 = some (5, 28) := by kernel_rfl
@[go_sem] theorem ty_fl30_6 : fldT Try.prog 30 6 = some (6, 28) := by kernel_rfl
@[go_sem] theorem ty_fl30_7 : fldT Try.prog 30 7 = some (7, 3) := by kernel_rfl
@[go_sem] theorem ty_fl30_8 : fldT Try.prog 30 8 = some (8, 3) := by kernel_rfl
@[go_sem] theorem ty_pl30 : plT Try.prog 30 = some [(0, 1), (1, 1), (2, 1), (3, 1), (4, 1), (5, 1), (6, 1), (7, 1), (8, 1)] := by kernel_rfl
@[go_sem] theorem ty_sz31 : szT Try.prog 31 = some 1 := by kernel_rfl
@[go_sem] theorem ty_by31 : byT Try.prog 31 = some 8 := by kernel_rfl
@[go_sem] theorem ty_ag31 : aggT Try.prog 31 = some false := by kernel_rfl
@[go_sem] theorem ty_un31 : (Try.prog.underlying 31).isSome = true := by kernel_rfl
@[go_sem] theorem ty_ze31 : zeT Try.prog 31 = some [.data .nilf] := by kernel_rfl
@[go_sem] theorem ty_zl31 : zlT Try.prog 31 = some 1 := by kernel_rfl
@[go_sem] theorem ty_sl31 : sliceT Try.prog 31 = none := by kernel_rfl
@[go_sem] theorem ty_ar31 : arrT Try.prog 31 = none := by kernel_rfl
@[go_sem] theorem ty_in31 : intT Try.prog 31 = none := by kernel_rfl
@[go_sem] theorem ty_bo31 : boolT Try.prog 31 = false := by kernel_rfl
@[go_sem] theorem ty_st31 : strT Try.prog 31 = false := by kernel_rfl
@[go_sem] theorem ty_zv31 : zvT Try.prog 31 = some (.data .nilf) := by kernel_rfl
@[go_sem] theorem ty_sz32 : szT Try.prog 32 = some 1 := by kernel_rfl
@[go_sem] theorem ty_by32 : byT Try.prog 32 = some 8 := by kernel_rfl
@[go_sem] theorem ty_ag32 : aggT Try.prog 32 = some false := by kernel_rfl
@[go_sem] theorem ty_un32 : (Try.prog.underlying 32).isSome = true := by kernel_rfl
@[go_sem] theorem ty_ze32 : zeT Try.prog 32 = some [.data .nilf] := by kernel_rfl
@[go_sem] theorem ty_zl32 : zlT Try.prog 32 = some 1 := by kernel_rfl
@[go_sem] theorem ty_sl32 : sliceT Try.prog 32 = none := by kernel_rfl
@[go_sem] theorem ty_ar32 : arrT Try.prog 32 = none := by kernel_rfl
@[go_sem] theorem ty_in32 : intT Try.prog 32 = none := by kernel_rfl
@[go_sem] theorem ty_bo32 : boolT Try.prog 32 = false := by kernel_rfl
@[go_sem] theorem ty_st32 : strT Try.prog 32 = false := by kernel_rfl
@[go_sem] theorem ty_zv32 : zvT Try.prog 32 = some (.data .nilf) := by kernel_rfl
@[go_sem] theorem ty_sz33 : szT Try.prog 33 = some 1 := by kernel_rfl
@[go_sem] theorem ty_by33 : byT Try.prog 33 = some 8 := by kernel_rfl
@[go_sem] theorem ty_ag33 : aggT Try.prog 33 = some false := by kernel_rfl
@[go_sem] theorem ty_un33 : (Try.prog.underlying 33).isSome = true := by kernel_rfl
@[go_sem] theorem ty_ze33 : zeT Try.prog 33 = some [.data (.int .i64 0)] := by kernel_rfl
@[go_sem] theorem ty_zl33 : zlT Try.prog 33 = some 1 := by kernel_rfl
@[go_sem] theorem ty_sl33 : sliceT Try.prog 33 = none := by kernel_rfl
@[go_sem] theorem ty_ar33 : arrT Try.prog 33 = none := by kernel_rfl
@[go_sem] theorem ty_in33 : intT Try.prog 33 = some .i64 := by kernel_rfl
@[go_sem] theorem ty_bo33 : boolT Try.prog 33 = false := by kernel_rfl
@[go_sem] theorem ty_st33 : strT Try.prog 33 = false := by kernel_rfl
@[go_sem] theorem ty_ki33  (n : Int) : keyT Try.prog 33 (.int .i64 n) = true := by kernel_rfl
@[go_sem] theorem ty_zv33 : zvT Try.prog 33 = some (.data (.int .i64 0)) := by kernel_rfl
@[go_sem] theorem ty_sz35 : szT Try.prog 35 = some 1 := by kernel_rfl
@[go_sem] theorem ty_by35 : byT Try.prog 35 = some 8 := by kernel_rfl
@[go_sem] theorem ty_ag35 : aggT Try.prog 35 = some false := by kernel_rfl
@[go_sem] theorem ty_un35 : (Try.prog.underlying 35).isSome = true := by kernel_rfl
@[go_sem] theorem ty_ze35 : zeT Try.prog 35 = some [.data .nilf] := by kernel_rfl
@[go_sem] theorem ty_zl35 : zlT Try.prog 35 = some 1 := by kernel_rfl
@[go_sem] theorem ty_sl35 : sliceT Try.prog 35 = none := by kernel_rfl
@[go_sem] theorem ty_ar35 : arrT Try.prog 35 = none := by kernel_rfl
@[go_sem] theorem ty_in35 : intT Try.prog 35 = none := by kernel_rfl
@[go_sem] theorem ty_bo35 : boolT Try.prog 35 = false := by kernel_rfl
@[go_sem] theorem ty_st35 : strT Try.prog 35 = false := by kernel_rfl
@[go_sem] theorem ty_zv35 : zvT Try.prog 35 = some (.data .nilf) := by kernel_rfl
@[go_sem] theorem ty_sz37 : szT Try.prog 37 = some 1 := by kernel_rfl
@[go_sem] theorem ty_by37 : byT Try.prog 37 = some 8 := by kernel_rfl
@[go_sem] theorem ty_ag37 : aggT Try.prog 37 = some false := by kernel_rfl
@[go_sem] theorem ty_un37 : (Try.prog.underlying 37).isSome = true := by kernel_rfl
@[go_sem] theorem ty_ze37 : zeT Try.prog 37 = some [.data .nilf] := by kernel_rfl
@[go_sem] theorem ty_zl37 : zlT Try.prog 37 = some 1 := by kernel_rfl
@[go_sem] theorem ty_sl37 : sliceT Try.prog 37 = none := by kernel_rfl
@[go_sem] theorem ty_ar37 : arrT Try.prog 37 = none := by kernel_rfl
@[go_sem] theorem ty_in37 : intT Try.prog 37 = none := by kernel_rfl
@[go_sem] theorem ty_bo37 : boolT Try.prog 37 = false := by kernel_rfl
@[go_sem] theorem ty_st37 : strT Try.prog 37 = false := by kernel_rfl
@[go_sem] theorem ty_zv37 : zvT Try.prog 37 = some (.data .nilf) := by kernel_rfl
@[go_sem] theorem ty_sz38 : szT Try.prog 38 = some 1 := by kernel_rfl
@[go_sem] theorem ty_by38 : byT Try.prog 38 = some 8 := by kernel_rfl
@[go_sem] theorem ty_ag38 : aggT Try.prog 38 = some false := by kernel_rfl
@[go_sem] theorem ty_un38 : (Try.prog.underlying 38).isSome = true := by kernel_rfl
@[go_sem] theorem ty_ze38 : zeT Try.prog 38 = some [.data .nilf] := by kernel_rfl
@[go_sem] theorem ty_zl38 : zlT Try.prog 38 = some 1 := by kernel_rfl
@[go_sem] theorem ty_sl38 : sliceT Try.prog 38 = none := by kernel_rfl
@[go_sem] theorem ty_ar38 : arrT Try.prog 38 = none := by kernel_rfl
@[go_sem] theorem ty_in38 : intT Try.prog 38 = none := by kernel_rfl
@[go_sem] theorem ty_bo38 : boolT Try.prog 38 = false := by kernel_rfl
@[go_sem] theorem ty_st38 : strT Try.prog 38 = false := by kernel_rfl
@[go_sem] theorem ty_zv38 : zvT Try.prog 38 = some (.data .nilf) := by kernel_rfl
@[go_sem] theorem ty_sz39 : szT Try.prog 39 = some 1 := by kernel_rfl
@[go_sem] theorem ty_by39 : byT Try.prog 39 = some 8 := by kernel_rfl
@[go_sem] theorem ty_ag39 : aggT Try.prog 39 = some false := by kernel_rfl
@[go_sem] theorem ty_un39 : (Try.prog.underlying 39).isSome = true := by kernel_rfl
@[go_sem] theorem ty_ze39 : zeT Try.prog 39 = some [.data .nilf] := by kernel_rfl
@[go_sem] theorem ty_zl39 : zlT Try.prog 39 = some 1 := by kernel_rfl
@[go_sem] theorem ty_sl39 : sliceT Try.prog 39 = none := by kernel_rfl
@[go_sem] theorem ty_ar39 : arrT Try.prog 39 = none := by kernel_rfl
@[go_sem] theorem ty_in39 : intT Try.prog 39 = none := by kernel_rfl
@[go_sem] theorem ty_bo39 : boolT Try.prog 39 = false := by kernel_rfl
@[go_sem] theorem ty_st39 : strT Try.prog 39 = false := by kernel_rfl
@[go_sem] theorem ty_zv39 : zvT Try.prog 39 = some (.data .nilf) := by kernel_rfl
@[go_sem] theorem ty_sz40 : szT Try.prog 40 = some 1 := by kernel_rfl
@[go_sem] theorem ty_by40 : byT Try.prog 40 = some 8 := by kernel_rfl
@[go_sem] theorem ty_ag40 : aggT Try.prog 40 = some false := by kernel_rfl
@[go_sem] theorem ty_un40 : (Try.prog.underlying 40).isSome = true := by kernel_rfl
@[go_sem] theorem ty_ze40 : zeT Try.prog 40 = some [.data .nilf] := by kernel_rfl
@[go_sem] theorem ty_zl40 : zlT Try.prog 40 = some 1 := by kernel_rfl
@[go_sem] theorem ty_sl40 : sliceT Try.prog 40 = none := by kernel_rfl
@[go_sem] theorem ty_ar40 : arrT Try.prog 40 = none := by kernel_rfl
@[go_sem] theorem ty_in40 : intT Try.prog 40 = none := by kernel_rfl
@[go_sem] theorem ty_bo40 : boolT Try.prog 40 = false := by kernel_rfl
@[go_sem] theorem ty_st40 : strT Try.prog 40 = false := by kernel_rfl
@[go_sem] theorem ty_zv40 : zvT Try.prog 40 = some (.data .nilf) := by kernel_rfl
@[go_sem] theorem ty_sz41 : szT Try.prog 41 = some 1 := by kernel_rfl
@[go_sem] theorem ty_by41 : byT Try.prog 41 = some 24 := by kernel_rfl
@[go_sem] theorem ty_ag41 : aggT Try.prog 41 = some false := by kernel_rfl
@[go_sem] theorem ty_un41 : (Try.prog.underlying 41).isSome = true := by kernel_rfl
@[go_sem] theorem ty_ze41 : zeT Try.prog 41 = some [.emp 0] := by kernel_rfl
@[go_sem] theorem ty_zl41 : zlT Try.prog 41 = some 1 := by kernel_rfl
@[go_sem] theorem ty_sl41 : sliceT Try.prog 41 = some 30 := by kernel_rfl
@[go_sem] theorem ty_ar41 : arrT Try.prog 41 = none := by kernel_rfl
@[go_sem] theorem ty_in41 : intT Try.prog 41 = none := by kernel_rfl
@[go_sem] theorem ty_bo41 : boolT Try.prog 41 = false := by kernel_rfl
@[go_sem] theorem ty_st41 : strT Try.prog 41 = false := by kernel_rfl
@[go_sem] theorem ty_zv41 : zvT Try.prog 41 = some (.emp 0) := by kernel_rfl
@[go_sem] theorem ty_sz42 : szT Try.prog 42 = some 1 := by kernel_rfl
@[go_sem] theorem ty_by42 : byT Try.prog 42 = some 8 := by kernel_rfl
@[go_sem] theorem ty_ag42 : aggT Try.prog 42 = some false := by kernel_rfl
@[go_sem] theorem ty_un42 : (Try.prog.underlying 42).isSome = true := by kernel_rfl
@[go_sem] theorem ty_ze42 : zeT Try.prog 42 = some [.data .nilf] := by kernel_rfl
@[go_sem] theorem ty_zl42 : zlT Try.prog 42 = some 1 := by kernel_rfl
@[go_sem] theorem ty_sl42 : sliceT Try.prog 42 = none := by kernel_rfl
@[go_sem] theorem ty_ar42 : arrT Try.prog 42 = none := by kernel_rfl
@[go_sem] theorem ty_in42 : intT Try.prog 42 = none := by kernel_rfl
@[go_sem] theorem ty_bo42 : boolT Try.prog 42 = false := by kernel_rfl
@[go_sem] theorem ty_st42 : strT Try.prog 42 = false := by kernel_rfl
@[go_sem] theorem ty_zv42 : zvT Try.prog 42 = some (.data .nilf) := by kernel_rfl
@[go_sem] theorem ty_sz44 : szT Try.prog 44 = some 1 := by kernel_rfl
@[go_sem] theorem ty_by44 : byT Try.prog 44 = some 8 := by kernel_rfl
@[go_sem] theorem ty_ag44 : aggT Try.prog 44 = some false := by kernel_rfl
@[go_sem] theorem ty_un44 : (Try.prog.underlying 44).isSome = true := by kernel_rfl
@[go_sem] theorem ty_ze44 : zeT Try.prog 44 = some [.data .nilf] := by kernel_rfl
@[go_sem] theorem ty_zl44 : zlT Try.prog 44 = some 1 := by kernel_rfl
@[go_sem] theorem ty_sl44 : sliceT Try.prog 44 = none := by kernel_rfl
@[go_sem] theorem ty_ar44 : arrT Try.prog 44 = none := by kernel_rfl
@[go_sem] theorem ty_in44 : intT Try.prog 44 = none := by kernel_rfl
@[go_sem] theorem ty_bo44 : boolT Try.prog 44 = false := by kernel_rfl
@[go_sem] theorem ty_st44 : strT Try.prog 44 = false := by kernel_rfl
@[go_sem] theorem ty_zv44 : zvT Try.prog 44 = some (.data .nilf) := by kernel_rfl
@[go_sem] theorem ty_sz45 : szT Try.prog 45 = some 5 := by kernel_rfl
@[go_sem] theorem ty_by45 : byT Try.prog 45 = some 40 := by kernel_rfl
@[go_sem] theorem ty_ag45 : aggT Try.prog 45 = some true := by kernel_rfl
@[go_sem] theorem ty_un45 : (Try.prog.underlying 45).isSome = true := by kernel_rfl
@[go_sem] theorem ty_ze45 : zeT Try.prog 45 = some [.data (.int .i64 0), .data (.int .i64 0), .data (.int .u64 0), .data (.int .u64 0), .data (.int .i64 0)] := by kernel_rfl
@[go_sem] theorem ty_zl45 : zlT Try.prog 45 = some 5 := by kernel_rfl
@[go_sem] theorem ty_sl45 : sliceT Try.prog 45 = none := by kernel_rfl
@[go_sem] theorem ty_ar45 : arrT Try.prog 45 = none := by kernel_rfl
@[go_sem] theorem ty_in45 : intT Try.prog 45 = none := by kernel_rfl
@[go_sem] theorem ty_bo45 : boolT Try.prog 45 = false := by kernel_rfl
@[go_sem] theorem ty_st45 : strT Try.prog 45 = false := by kernel_rfl
@[go_sem] theorem ty_zv45 : zvT Try.prog 45 = some (.data (.agg [(.int .i64 0), (.int .i64 0), (.int .u64 0), (.int .u64 0), (.int .i64 0)])) := by kernel_rfl
@[go_sem] theorem ty_fl45_0 : fldT Try.prog 45 0 = some (0, 3) := by kernel_rfl
@[go_sem] theorem ty_fl45_1 : fldT Try.prog 45 1 = some (1, 3) := by kernel_rfl
@[go_sem] theorem ty_fl45_2 : fldT Try.prog 45 2 = some (2, 28) := by kernel_rfl
@[go_sem] theorem ty_fl45_3 : fldT Try.prog 45 3 = some (3, 28) := by kernel_rfl
@[go_sem] theorem ty_fl45_4 : fldT Try.prog 45 4 = some (4, 3) := by kernel_rfl
@[go_sem] theorem ty_pl45 : plT Try.prog 45 = some [(0, 1), (1, 1), (2, 1), (3, 1), (4, 1)] := by kernel_rfl
@[go_sem] theorem ty_sz46 : szT Try.prog 46 = some 5 := by kernel_rfl
@[go_sem] theorem ty_by46 : byT Try.prog 46 = some 40 := by kernel_rfl
@[go_sem] theorem ty_ag46 : aggT Try.prog 46 = some true := by kernel_rfl
@[go_sem] theorem ty_un46 : (Try.prog.underlying 46).isSome = true := by kernel_rfl
@[go_sem] theorem ty_ze46 : zeT Try.prog 46 = some [.data (.int .i64 0), .data (.int .i64 0), .data (.int .u64 0), .data (.int .u64 0), .data (.int .i64 0)] := by kernel_rfl
@[go_sem] theorem ty_zl46 : zlT Try.prog 46 = some 5 := by kernel_rfl
@[go_sem] theorem ty_sl46 : sliceT Try.prog 46 = none := by kernel_rfl
@[go_sem] theorem ty_ar46 : arrT Try.prog 46 = none := by kernel_rfl
@[go_sem] theorem ty_in46 : intT Try.prog 46 = none := by kernel_rfl
@[go_sem] theorem ty_bo46 : boolT Try.prog 46 = false := by kernel_rfl
@[go_sem] theorem ty_st46 : strT Try.prog 46 = false := by kernel_rfl
@[go_sem] theorem ty_zv46 : zvT Try.prog 46 = some (.data (.agg [(.int .i64 0), (.int .i64 0), (.int .u64 0), (.int .u64 0), (.int .i64 0)])) := by kernel_rfl
@[go_sem] theorem ty_fl46_0 : fldT Try.prog 46 0 = some (0, 3) := by kernel_rfl
@[go_sem] theorem ty_fl46_1 : fldT Try.prog 46 1 = some (1, 3) := by kernel_rfl
@[go_sem] theorem ty_fl46_2 : fldT Try.prog 46 2 = some (2, 28) := by kernel_rfl
@[go_sem] theorem ty_fl46_3 : fldT Try.prog 46 3 = some (3, 28) := by kernel_rfl
@[go_sem] theorem ty_fl46_4 : fldT Try.prog 46 4 = some (4, 3) := by kernel_rfl
@[go_sem] theorem ty_pl46 : plT Try.prog 46 = some [(0, 1), (1, 1), (2, 1), (3, 1), (4, 1)] := by kernel_rfl
@[go_sem] theorem ty_sz47 : szT Try.prog 47 = some 6 := by kernel_rfl
@[go_sem] theorem ty_by47 : byT Try.prog 47 = some 56 := by kernel_rfl
@[go_sem] theorem ty_ag47 : aggT Try.prog 47 = some true := by kernel_rfl
@[go_sem] theorem ty_un47 : (Try.prog.underlying 47).isSome = true := by kernel_rfl
@[go_sem] theorem ty_ze47 : zeT Try.prog 47 = some [.data (.int .i64 0), .data (.int .i64 0), .data (.int .u32 0), .data (.str ByteArray.empty), .data (.int .u64 0), .data (.int .u64 0)] := by kernel_rfl
@[go_sem] theorem ty_zl47 : zlT Try.prog 47 = some 6 := by kernel_rfl
@[go_sem] theorem ty_sl47 : sliceT Try.prog 47 = none := by kernel_rfl
@[go_sem] theorem ty_ar47 : arrT Try.prog 47 = none := by kernel_rfl
@[go_sem] theorem ty_in47 : intT Try.prog 47 = none := by kernel_rfl
@[go_sem] theorem ty_bo47 : boolT Try.prog 47 = false := by kernel_rfl
@[go_sem] theorem ty_st47 : strT Try.prog 47 = false := by kernel_rfl
@[go_sem] theorem ty_zv47 : zvT Try.prog 47 = some (.data (.agg [(.int .i64 0), (.int .i64 0), (.int .u32 0), (.str ByteArray.empty), (.int .u64 0), (.int .u64 0)])) := by kernel_rfl
@[go_sem] theorem ty_fl47_0 : fldT Try.prog 47 0 = some (0, 3) := by kernel_rfl
@[go_sem] theorem ty_fl47_1 : fldT Try.prog 47 1 = some (1, 3) := by kernel_rfl
@[go_sem] theorem ty_fl47_2 : fldT Try.prog 47 2 = some (2, 27) := by kernel_rfl
@[go_sem] theorem ty_fl47_3 : fldT Try.prog 47 3 = some (3, 9) := by kernel_rfl
@[go_sem] theorem ty_fl47_4 : fldT Try.prog 47 4 = some (4, 28) := by kernel_rfl
@[go_sem] theorem ty_fl47_5 : fldT Try.prog 47 5 = some (5, 28) := by kernel_rfl
@[go_sem] theorem ty_pl47 : plT Try.prog 47 = some [(0, 1), (1, 1), (2, 1), (3, 1), (4, 1), (5, 1)] := by kernel_rfl
@[go_sem] theorem ty_sz48 : szT Try.prog 48 = some 6 := by kernel_rfl
@[go_sem] theorem ty_by48 : byT Try.prog 48 = some 56 := by kernel_rfl
@[go_sem] theorem ty_ag48 : aggT Try.prog 48 = some true := by kernel_rfl
@[go_sem] theorem ty_un48 : (Try.prog.underlying 48).isSome = true := by kernel_rfl
@[go_sem] theorem ty_ze48 : zeT Try.prog 48 = some [.data (.int .i64 0), .data (.int .i64 0), .data (.int .u32 0), .data (.str ByteArray.empty), .data (.int .u64 0), .data (.int .u64 0)] := by kernel_rfl
@[go_sem] theorem ty_zl48 : zlT Try.prog 48 = some 6 := by kernel_rfl
@[go_sem] theorem ty_sl48 : sliceT Try.prog 48 = none := by kernel_rfl
@[go_sem] theorem ty_ar48 : arrT Try.prog 48 = none := by kernel_rfl
@[go_sem] theorem ty_in48 : intT Try.prog 48 = none := by kernel_rfl
@[go_sem] theorem ty_bo48 : boolT Try.prog 48 = false := by kernel_rfl
@[go_sem] theorem ty_st48 : strT Try.prog 48 = false := by kernel_rfl
@[go_sem] theorem ty_zv48 : zvT Try.prog 48 = some (.data (.agg [(.int .i64 0), (.int .i64 0), (.int .u32 0), (.str ByteArray.empty), (.int .u64 0), (.int .u64 0)])) := by kernel_rfl
@[go_sem] theorem ty_fl48_0 : fldT Try.prog 48 0 = some (0, 3) := by kernel_rfl
@[go_sem] theorem ty_fl48_1 : fldT Try.prog 48 1 = some (1, 3) := by kernel_rfl
@[go_sem] theorem ty_fl48_2 : fldT Try.prog 48 2 = some (2, 27) := by kernel_rfl
@[go_sem] theorem ty_fl48_3 : fldT Try.prog 48 3 = some (3, 9) := by kernel_rfl
@[go_sem] theorem ty_fl48_4 : fldT Try.prog 48 4 = some (4, 28) := by kernel_rfl
@[go_sem] theorem ty_fl48_5 : fldT Try.prog 48 5 = some (5, 28) := by kernel_rfl
@[go_sem] theorem ty_pl48 : plT Try.prog 48 = some [(0, 1), (1, 1), (2, 1), (3, 1), (4, 1), (5, 1)] := by kernel_rfl
@[go_sem] theorem ty_sz49 : szT Try.prog 49 = some 1 := by kernel_rfl
@[go_sem] theorem ty_by49 : byT Try.prog 49 = some 8 := by kernel_rfl
@[go_sem] theorem ty_ag49 : aggT Try.prog 49 = some false := by kernel_rfl
@[go_sem] theorem ty_un49 : (Try.prog.underlying 49).isSome = true := by kernel_rfl
@[go_sem] theorem ty_ze49 : zeT Try.prog 49 = some [.data .nilf] := by kernel_rfl
@[go_sem] theorem ty_zl49 : zlT Try.prog 49 = some 1 := by kernel_rfl
@[go_sem] theorem ty_sl49 : sliceT Try.prog 49 = none := by kernel_rfl
@[go_sem] theorem ty_ar49 : arrT Try.prog 49 = none := by kernel_rfl
@[go_sem] theorem ty_in49 : intT Try.prog 49 = none := by kernel_rfl
@[go_sem] theorem ty_bo49 : boolT Try.prog 49 = false := by kernel_rfl
@[go_sem] theorem ty_st49 : strT Try.prog 49 = false := by kernel_rfl
@[go_sem] theorem ty_zv49 : zvT Try.prog 49 = some (.data .nilf) := by kernel_rfl
@[go_sem] theorem ty_sz50 : szT Try.prog 50 = some 3 := by kernel_rfl
@[go_sem] theorem ty_by50 : byT Try.prog 50 = some 32 := by kernel_rfl
@[go_sem] theorem ty_ag50 : aggT Try.prog 50 = some true := by kernel_rfl
@[go_sem] theorem ty_un50 : (Try.prog.underlying 50).isSome = true := by kernel_rfl
@[go_sem] theorem ty_ze50 : zeT Try.prog 50 = some [.data (.str ByteArray.empty), .data (.int .i64 0), .data (.int .i64 0)] := by kernel_rfl
@[go_sem] theorem ty_zl50 : zlT Try.prog 50 = some 3 := by kernel_rfl
@[go_sem] theorem ty_sl50 : sliceT Try.prog 50 = none := by kernel_rfl
@[go_sem] theorem ty_ar50 : arrT Try.prog 50 = none := by kernel_rfl
@[go_sem] theorem ty_in50 : intT Try.prog 50 = none := by kernel_rfl
@[go_sem] theorem ty_bo50 : boolT Try.prog 50 = false := by kernel_rfl
@[go_sem] theorem ty_st50 : strT Try.prog 50 = false := by kernel_rfl
@[go_sem] theorem ty_zv50 : zvT Try.prog 50 = some (.data (.agg [(.str ByteArray.empty), (.int .i64 0), (.int .i64 0)])) := by kernel_rfl
@[go_sem] theorem ty_fl50_0 : fldT Try.prog 50 0 = some (0, 9) := by kernel_rfl
@[go_sem] theorem ty_fl50_1 : fldT Try.prog 50 1 = some (1, 3) := by kernel_rfl
@[go_sem] theorem ty_fl50_2 : fldT Try.prog 50 2 = some (2, 3) := by kernel_rfl
@[go_sem] theorem ty_pl50 : plT Try.prog 50 = some [(0, 1), (1, 1), (2, 1)] := by kernel_rfl
@[go_sem] theorem ty_sz51 : szT Try.prog 51 = some 3 := by kernel_rfl
@[go_sem] theorem ty_by51 : byT Try.prog 51 = some 32 := by kernel_rfl
@[go_sem] theorem ty_ag51 : aggT Try.prog 51 = some true := by kernel_rfl
@[go_sem] theorem ty_un51 : (Try.prog.underlying 51).isSome = true := by kernel_rfl
@[go_sem] theorem ty_ze51 : zeT Try.prog 51 = some [.data (.str ByteArray.empty), .data (.int .i64 0), .data (.int .i64 0)] := by kernel_rfl
@[go_sem] theorem ty_zl51 : zlT Try.prog 51 = some 3 := by kernel_rfl
@[go_sem] theorem ty_sl51 : sliceT Try.prog 51 = none := by kernel_rfl
@[go_sem] theorem ty_ar51 : arrT Try.prog 51 = none := by kernel_rfl
@[go_sem] theorem ty_in51 : intT Try.prog 51 = none := by kernel_rfl
@[go_sem] theorem ty_bo51 : boolT Try.prog 51 = false := by kernel_rfl
@[go_sem] theorem ty_st51 : strT Try.prog 51 = false := by kernel_rfl
@[go_sem] theorem ty_zv51 : zvT Try.prog 51 = some (.data (.agg [(.str ByteArray.empty), (.int .i64 0), (.int .i64 0)])) := by kernel_rfl
@[go_sem] theorem ty_fl51_0 : fldT Try.prog 51 0 = some (0, 9) := by kernel_rfl
@[go_sem] theorem ty_fl51_1 : fldT Try.prog 51 1 = some (1, 3) := by kernel_rfl
@[go_sem] theorem ty_fl51_2 : fldT Try.prog 51 2 = some (2, 3) := by kernel_rfl
@[go_sem] theorem ty_pl51 : plT Try.prog 51 = some [(0, 1), (1, 1), (2, 1)] := by kernel_rfl
@[go_sem] theorem ty_sz52 : szT Try.prog 52 = some 1 := by kernel_rfl
@[go_sem] theorem ty_by52 : byT Try.prog 52 = some 8 := by kernel_rfl
@[go_sem] theorem ty_ag52 : aggT Try.prog 52 = some false := by kernel_rfl
@[go_sem] theorem ty_un52 : (Try.prog.underlying 52).isSome = true := by kernel_rfl
@[go_sem] theorem ty_ze52 : zeT Try.prog 52 = some [.data .nilf] := by kernel_rfl
@[go_sem] theorem ty_zl52 : zlT Try.prog 52 = some 1 := by kernel_rfl
@[go_sem] theorem ty_sl52 : sliceT Try.prog 52 = none := by kernel_rfl
@[go_sem] theorem ty_ar52 : arrT Try.prog 52 = none := by kernel_rfl
@[go_sem] theorem ty_in52 : intT Try.prog 52 = none := by kernel_rfl
@[go_sem] theorem ty_bo52 : boolT Try.prog 52 = false := by kernel_rfl
@[go_sem] theorem ty_st52 : strT Try.prog 52 = false := by kernel_rfl
@[go_sem] theorem ty_zv52 : zvT Try.prog 52 = some (.data .nilf) := by kernel_rfl
@[go_sem] theorem ty_sz53 : szT Try.prog 53 = some 1 := by kernel_rfl
@[go_sem] theorem ty_by53 : byT Try.prog 53 = some 8 := by kernel_rfl
@[go_sem] theorem ty_ag53 : aggT Try.prog 53 = some false := by kernel_rfl
@[go_sem] theorem ty_un53 : (Try.prog.underlying 53).isSome = true := by kernel_rfl
@[go_sem] theorem ty_ze53 : zeT Try.prog 53 = some [.data .nilf] := by kernel_rfl
@[go_sem] theorem ty_zl53 : zlT Try.prog 53 = some 1 := by kernel_rfl
@[go_sem] theorem ty_sl53 : sliceT Try.prog 53 = none := by kernel_rfl
@[go_sem] theorem ty_ar53 : arrT Try.prog 53 = none := by kernel_rfl
@[go_sem] theorem ty_in53 : intT Try.prog 53 = none := by kernel_rfl
@[go_sem] theorem ty_bo53 : boolT Try.prog 53 = false := by kernel_rfl
@[go_sem] theorem ty_st53 : strT Try.prog 53 = false := by kernel_rfl
@[go_sem] theorem ty_zv53 : zvT Try.prog 53 = some (.data .nilf) := by kernel_rfl
@[go_sem] theorem ty_sz54 : szT Try.prog 54 = some 1 := by kernel_rfl
@[go_sem] theorem ty_by54 : byT Try.prog 54 = some 24 := by kernel_rfl
@[go_sem] theorem ty_ag54 : aggT Try.prog 54 = some false := by kernel_rfl
@[go_sem] theorem ty_un54 : (Try.prog.underlying 54).isSome = true := by kernel_rfl
@[go_sem] theorem ty_ze54 : zeT Try.prog 54 = some [.emp 0] := by kernel_rfl
@[go_sem] theorem ty_zl54 : zlT Try.prog 54 = some 1 := by kernel_rfl
@[go_sem] theorem ty_sl54 : sliceT Try.prog 54 = some 5 := by kernel_rfl
@[go_sem] theorem ty_ar54 : arrT Try.prog 54 = none := by kernel_rfl
@[go_sem] theorem ty_in54 : intT Try.prog 54 = none := by kernel_rfl
@[go_sem] theorem ty_bo54 : boolT Try.prog 54 = false := by kernel_rfl
@[go_sem] theorem ty_st54 : strT Try.prog 54 = false := by kernel_rfl
@[go_sem] theorem ty_zv54 : zvT Try.prog 54 = some (.emp 0) := by kernel_rfl
@[go_sem] theorem ty_sz55 : szT Try.prog 55 = some 12 := by kernel_rfl
@[go_sem] theorem ty_by55 : byT Try.prog 55 = some 120 := by kernel_rfl
@[go_sem] theorem ty_ag55 : aggT Try.prog 55 = some true := by kernel_rfl
@[go_sem] theorem ty_un55 : (Try.prog.underlying 55).isSome = true := by kernel_rfl
@[go_sem] theorem ty_ze55 : zeT Try.prog 55 = some [.data (.int .i64 0), .data (.int .i64 0), .data (.int .i64 0), .data (.int .i64 0), .data (.int .i64 0), .data (.int .u32 0), .data (.str ByteArray.empty), .data (.int .u64 0), .data (.int .u64 0), .data (.int .i64 0), .data (.int .i64 0), .emp 0] := by kernel_rfl
@[go_sem] theorem ty_zl55 : zlT Try.prog 55 = some 12 := by kernel_rfl
@[go_sem] theorem ty_sl55 : sliceT Try.prog 55 = none := by kernel_rfl
@[go_sem] theorem ty_ar55 : arrT Try.prog 55 = none := by kernel_rfl
@[go_sem] theorem ty_in55 : intT Try.prog 55 = none := by kernel_rfl
@[go_sem] theorem ty_bo55 : boolT Try.prog 55 = false := by kernel_rfl
@[go_sem] theorem ty_st55 : strT Try.prog 55 = false := by kernel_rfl
@[go_sem] theorem ty_zv55 : zvT Try.prog 55 = some (.agg [.data (.int .i64 0), .data (.int .i64 0), .data (.int .i64 0), .data (.int .i64 0), .data (.int .i64 0), .data (.int .u32 0), .data (.str ByteArray.empty), .data (.int .u64 0), .data (.int .u64 0), .data (.int .i64 0), .data (.int .i64 0), .emp 0]) := by kernel_rfl
@[go_sem] theorem ty_fl55_0 : fldT Try.prog 55 0 = some (0, 3) := by kernel_rfl
@[go_sem] theorem ty_fl55_1 : fldT Try.prog 55 1 = some (1, 3) := by kernel_rfl
@[go_sem] theorem ty_fl55_2 : fldT Try.prog 55 2 = some (2, 30) := by kernel_rfl
@[go_sem] theorem ty_fl55_3 : fldT Try.prog 55 3 = some (11, 54) := by kernel_rfl
@[go_sem] theorem ty_pl55 : plT Try.prog 55 = some [(0, 1), (1, 1), (2, 9), (11, 1)] := by kernel_rfl
@[go_sem] theorem ty_sz56 : szT Try.prog 56 = some 12 := by kernel_rfl
@[go_sem] theorem ty_by56 : byT Try.prog 56 = some 120 := by kernel_rfl
@[go_sem] theorem ty_ag56 : aggT Try.prog 56 = some true := by kernel_rfl
@[go_sem] theorem ty_un56 : (Try.prog.underlying 56).isSome = true := by kernel_rfl
@[go_sem] theorem ty_ze56 : zeT Try.prog 56 = some [.data (.int .i64 0), .data (.int .i64 0), .data (.int .i64 0), .data (.int .i64 0), .data (.int .i64 0), .data (.int .u32 0), .data (.str ByteArray.empty), .data (.int .u64 0), .data (.int .u64 0), .data (.int .i64 0), .data (.int .i64 0), .emp 0] := by kernel_rfl
@[go_sem] theorem ty_zl56 : zlT Try.prog 56 = some 12 := by kernel_rfl
@[go_sem] theorem ty_sl56 : sliceT Try.prog 56 = none := by kernel_rfl
@[go_sem] theorem ty_ar56 : arrT Try.prog 56 = none := by kernel_rfl
@[go_sem] theorem ty_in56 : intT Try.prog 56 = none := by kernel_rfl
@[go_sem] theorem ty_bo56 : boolT Try.prog 56 = false := by kernel_rfl
@[go_sem] theorem ty_st56 : strT Try.prog 56 = false := by kernel_rfl
@[go_sem] theorem ty_zv56 : zvT Try.prog 56 = some (.agg [.data (.int .i64 0), .data (.int .i64 0), .data (.int .i64 0), .data (.int .i64 0), .data (.int .i64 0), .data (.int .u32 0), .data (.str ByteArray.empty), .data (.int .u64 0), .data (.int .u64 0), .data (.int .i64 0), .data (.int .i64 0), .emp 0]) := by kernel_rfl
@[go_sem] theorem ty_fl56_0 : fldT Try.prog 56 0 = some (0, 3) := by kernel_rfl
@[go_sem] theorem ty_fl56_1 : fldT Try.prog 56 1 = some (1, 3) := by kernel_rfl
@[go_sem] theorem ty_fl56_2 : fldT Try.prog 56 2 = some (2, 30) := by kernel_rfl
@[go_sem] theorem ty_fl56_3 : fldT Try.prog 56 3 = some (11, 54) := by kernel_rfl
@[go_sem] theorem ty_pl56 : plT Try.prog 56 = some [(0, 1), (1, 1), (2, 9), (11, 1)] := by kernel_rfl
@[go_sem] theorem ty_sz58 : szT Try.prog 58 = some 1 := by kernel_rfl
@[go_sem] theorem ty_by58 : byT Try.prog 58 = some 8 := by kernel_rfl
@[go_sem] theorem ty_ag58 : aggT Try.prog 58 = some false := by kernel_rfl
@[go_sem] theorem ty_un58 : (Try.prog.underlying 58).isSome = true := by kernel_rfl
@[go_sem] theorem ty_ze58 : zeT Try.prog 58 = some [.data .nilf] := by kernel_rfl
@[go_sem] theorem ty_zl58 : zlT Try.prog 58 = some 1 := by kernel_rfl
@[go_sem] theorem ty_sl58 : sliceT Try.prog 58 = none := by kernel_rfl
@[go_sem] theorem ty_ar58 : arrT Try.prog 58 = none := by kernel_rfl
@[go_sem] theorem ty_in58 : intT Try.prog 58 = none := by kernel_rfl
@[go_sem] theorem ty_bo58 : boolT Try.prog 58 = false := by kernel_rfl
@[go_sem] theorem ty_st58 : strT Try.prog 58 = false := by kernel_rfl
@[go_sem] theorem ty_zv58 : zvT Try.prog 58 = some (.data .nilf) := by kernel_rfl
@[go_sem] theorem ty_sz60 : szT Try.prog 60 = some 1 := by kernel_rfl
@[go_sem] theorem ty_by60 : byT Try.prog 60 = some 8 := by kernel_rfl
@[go_sem] theorem ty_ag60 : aggT Try.prog 60 = some false := by kernel_rfl
@[go_sem] theorem ty_un60 : (Try.prog.underlying 60).isSome = true := by kernel_rfl
@[go_sem] theorem ty_ze60 : zeT Try.prog 60 = some [.data .nilf] := by kernel_rfl
@[go_sem] theorem ty_zl60 : zlT Try.prog 60 = some 1 := by kernel_rfl
@[go_sem] theorem ty_sl60 : sliceT Try.prog 60 = none := by kernel_rfl
@[go_sem] theorem ty_ar60 : arrT Try.prog 60 = none := by kernel_rfl
@[go_sem] theorem ty_in60 : intT Try.prog 60 = none := by kernel_rfl
@[go_sem] theorem ty_bo60 : boolT Try.prog 60 = false := by kernel_rfl
@[go_sem] theorem ty_st60 : strT Try.prog 60 = false := by kernel_rfl
@[go_sem] theorem ty_zv60 : zvT Try.prog 60 = some (.data .nilf) := by kernel_rfl
@[go_sem] theorem ty_sz62 : szT Try.prog 62 = some 1 := by kernel_rfl
@[go_sem] theorem ty_by62 : byT Try.prog 62 = some 8 := by kernel_rfl
@[go_sem] theorem ty_ag62 : aggT Try.prog 62 = some false := by kernel_rfl
@[go_sem] theorem ty_un62 : (Try.prog.underlying 62).isSome = true := by kernel_rfl
@[go_sem] theorem ty_ze62 : zeT Try.prog 62 = some [.data .nilf] := by kernel_rfl
@[go_sem] theorem ty_zl62 : zlT Try.prog 62 = some 1 := by kernel_rfl
@[go_sem] theorem ty_sl62 : sliceT Try.prog 62 = none := by kernel_rfl
@[go_sem] theorem ty_ar62 : arrT Try.prog 62 = none := by kernel_rfl
@[go_sem] theorem ty_in62 : intT Try.prog 62 = none := by kernel_rfl
@[go_sem] theorem ty_bo62 : boolT Try.prog 62 = false := by kernel_rfl
@[go_sem] theorem ty_st62 : strT Try.prog 62 = false := by kernel_rfl
@[go_sem] theorem ty_zv62 : zvT Try.prog 62 = some (.data .nilf) := by kernel_rfl
@[go_sem] theorem ty_sz64 : szT Try.prog 64 = some 1 := by kernel_rfl
@[go_sem] theorem ty_by64 : byT Try.prog 64 = some 8 := by kernel_rfl
@[go_sem] theorem ty_ag64 : aggT Try.prog 64 = some false := by kernel_rfl
@[go_sem] theorem ty_un64 : (Try.prog.underlying 64).isSome = true := by kernel_rfl
@[go_sem] theorem ty_ze64 : zeT Try.prog 64 = some [.data .nilf] := by kernel_rfl
@[go_sem] theorem ty_zl64 : zlT Try.prog 64 = some 1 := by kernel_rfl
@[go_sem] theorem ty_sl64 : sliceT Try.prog 64 = none := by kernel_rfl
@[go_sem] theorem ty_ar64 : arrT Try.prog 64 = none := by kernel_rfl
@[go_sem] theorem ty_in64 : intT Try.prog 64 = none := by kernel_rfl
@[go_sem] theorem ty_bo64 : boolT Try.prog 64 = false := by kernel_rfl
@[go_sem] theorem ty_st64 : strT Try.prog 64 = false := by kernel_rfl
@[go_sem] theorem ty_zv64 : zvT Try.prog 64 = some (.data .nilf) := by kernel_rfl
@[go_sem] theorem ty_sz65 : szT Try.prog 65 = some 1 := by kernel_rfl
@[go_sem] theorem ty_by65 : byT Try.prog 65 = some 8 := by kernel_rfl
@[go_sem] theorem ty_ag65 : aggT Try.prog 65 = some false := by kernel_rfl
@[go_sem] theorem ty_un65 : (Try.prog.underlying 65).isSome = true := by kernel_rfl
@[go_sem] theorem ty_ze65 : zeT Try.prog 65 = some [.data .nilf] := by kernel_rfl
@[go_sem] theorem ty_zl65 : zlT Try.prog 65 = some 1 := by kernel_rfl
@[go_sem] theorem ty_sl65 : sliceT Try.prog 65 = none := by kernel_rfl
@[go_sem] theorem ty_ar65 : arrT Try.prog 65 = none := by kernel_rfl
@[go_sem] theorem ty_in65 : intT Try.prog 65 = none := by kernel_rfl
@[go_sem] theorem ty_bo65 : boolT Try.prog 65 = false := by kernel_rfl
@[go_sem] theorem ty_st65 : strT Try.prog 65 = false := by kernel_rfl
@[go_sem] theorem ty_zv65 : zvT Try.prog 65 = some (.data .nilf) := by kernel_rfl
@[go_sem] theorem ty_sz66 : szT Try.prog 66 = some 1 := by kernel_rfl
@[go_sem] theorem ty_by66 : byT Try.prog 66 = some 8 := by kernel_rfl
@[go_sem] theorem ty_ag66 : aggT Try.prog 66 = some false := by kernel_rfl
@[go_sem] theorem ty_un66 : (Try.prog.underlying 66).isSome = true := by kernel_rfl
@[go_sem] theorem ty_ze66 : zeT Try.prog 66 = some [.data .nilf] := by kernel_rfl
@[go_sem] theorem ty_zl66 : zlT Try.prog 66 = some 1 := by kernel_rfl
@[go_sem] theorem ty_sl66 : sliceT Try.prog 66 = none := by kernel_rfl
@[go_sem] theorem ty_ar66 : arrT Try.prog 66 = none := by kernel_rfl
@[go_sem] theorem ty_in66 : intT Try.prog 66 = none := by kernel_rfl
@[go_sem] theorem ty_bo66 : boolT Try.prog 66 = false := by kernel_rfl
@[go_sem] theorem ty_st66 : strT Try.prog 66 = false := by kernel_rfl
@[go_sem] theorem ty_zv66 : zvT Try.prog 66 = some (.data .nilf) := by kernel_rfl
@[go_sem] theorem ty_sz67 : szT Try.prog 67 = some 1 := by kernel_rfl
@[go_sem] theorem ty_by67 : byT Try.prog 67 = some 8 := by kernel_rfl
@[go_sem] theorem ty_ag67 : aggT Try.prog 67 = some false := by kernel_rfl
@[go_sem] theorem ty_un67 : (Try.prog.underlying 67).isSome = true := by kernel_rfl
@[go_sem] theorem ty_ze67 : zeT Try.prog 67 = some [.data .nilf] := by kernel_rfl
@[go_sem] theorem ty_zl67 : zlT Try.prog 67 = some 1 := by kernel_rfl
@[go_sem] theorem ty_sl67 : sliceT Try.prog 67 = none := by kernel_rfl
@[go_sem] theorem ty_ar67 : arrT Try.prog 67 = none := by kernel_rfl
@[go_sem] theorem ty_in67 : intT Try.prog 67 = none := by kernel_rfl
@[go_sem] theorem ty_bo67 : boolT Try.prog 67 = false := by kernel_rfl
@[go_sem] theorem ty_st67 : strT Try.prog 67 = false := by kernel_rfl
@[go_sem] theorem ty_zv67 : zvT Try.prog 67 = some (.data .nilf) := by kernel_rfl
@[go_sem] theorem ty_sz68 : szT Try.prog 68 = some 1 := by kernel_rfl
@[go_sem] theorem ty_by68 : byT Try.prog 68 = some 8 := by kernel_rfl
@[go_sem] theorem ty_ag68 : aggT Try.prog 68 = some false := by kernel_rfl
@[go_sem] theorem ty_un68 : (Try.prog.underlying 68).isSome = true := by kernel_rfl
@[go_sem] theorem ty_ze68 : zeT Try.prog 68 = some [.data .nilf] := by kernel_rfl
@[go_sem] theorem ty_zl68 : zlT Try.prog 68 = some 1 := by kernel_rfl
@[go_sem] theorem ty_sl68 : sliceT Try.prog 68 = none := by kernel_rfl
@[go_sem] theorem ty_ar68 : arrT Try.prog 68 = none := by kernel_rfl
@[go_sem] theorem ty_in68 : intT Try.prog 68 = none := by kernel_rfl
@[go_sem] theorem ty_bo68 : boolT Try.prog 68 = false := by kernel_rfl
@[go_sem] theorem ty_st68 : strT Try.prog 68 = false := by kernel_rfl
@[go_sem] theorem ty_zv68 : zvT Try.prog 68 = some (.data .nilf) := by kernel_rfl
@[go_sem] theorem ty_sz69 : szT Try.prog 69 = some 1 := by kernel_rfl
@[go_sem] theorem ty_by69 : byT Try.prog 69 = some 8 := by kernel_rfl
@[go_sem] theorem ty_ag69 : aggT Try.prog 69 = some false := by kernel_rfl
@[go_sem] theorem ty_un69 : (Try.prog.underlying 69).isSome = true := by kernel_rfl
@[go_sem] theorem ty_ze69 : zeT Try.prog 69 = some [.data .nilf] := by kernel_rfl
@[go_sem] theorem ty_zl69 : zlT Try.prog 69 = some 1 := by kernel_rfl
@[go_sem] theorem ty_sl69 : sliceT Try.prog 69 = none := by kernel_rfl
@[go_sem] theorem ty_ar69 : arrT Try.prog 69 = none := by kernel_rfl
@[go_sem] theorem ty_in69 : intT Try.prog 69 = none := by kernel_rfl
@[go_sem] theorem ty_bo69 : boolT Try.prog 69 = false := by kernel_rfl
@[go_sem] theorem ty_st69 : strT Try.prog 69 = false := by kernel_rfl
@[go_sem] theorem ty_zv69 : zvT Try.prog 69 = some (.data .nilf) := by kernel_rfl
@[go_sem] theorem ty_sz70 : szT Try.prog 70 = some 1 := by kernel_rfl
@[go_sem] theorem ty_by70 : byT Try.prog 70 = some 8 := by kernel_rfl
@[go_sem] theorem ty_ag70 : aggT Try.prog 70 = some false := by kernel_rfl
@[go_sem] theorem ty_un70 : (Try.prog.underlying 70).isSome = true := by kernel_rfl
@[go_sem] theorem ty_ze70 : zeT Try.prog 70 = some [.data .nilf] := by kernel_rfl
@[go_sem] theorem ty_zl70 : zlT Try.prog 70 = some 1 := by kernel_rfl
@[go_sem] theorem ty_sl70 : sliceT Try.prog 70 = none := by kernel_rfl
@[go_sem] theorem ty_ar70 : arrT Try.prog 70 = none := by kernel_rfl
@[go_sem] theorem ty_in70 : intT Try.prog 70 = none := by kernel_rfl
@[go_sem] theorem ty_bo70 : boolT Try.prog 70 = false := by kernel_rfl
@[go_sem] theorem ty_st70 : strT Try.prog 70 = false := by kernel_rfl
@[go_sem] theorem ty_zv70 : zvT Try.prog 70 = some (.data .nilf) := by kernel_rfl
@[go_sem] theorem ty_sz71 : szT Try.prog 71 = some 1 := by kernel_rfl
@[go_sem] theorem ty_by71 : byT Try.prog 71 = some 8 := by kernel_rfl
@[go_sem] theorem ty_ag71 : aggT Try.prog 71 = some false := by kernel_rfl
@[go_sem] theorem ty_un71 : (Try.prog.underlying 71).isSome = true := by kernel_rfl
@[go_sem] theorem ty_ze71 : zeT Try.prog 71 = some [.data .nilf] := by kernel_rfl
@[go_sem] theorem ty_zl71 : zlT Try.prog 71 = some 1 := by kernel_rfl
@[go_sem] theorem ty_sl71 : sliceT Try.prog 71 = none := by kernel_rfl
@[go_sem] theorem ty_ar71 : arrT Try.prog 71 = none := by kernel_rfl
@[go_sem] theorem ty_in71 : intT Try.prog 71 = none := by kernel_rfl
@[go_sem] theorem ty_bo71 : boolT Try.prog 71 = false := by kernel_rfl
@[go_sem] theorem ty_st71 : strT Try.prog 71 = false := by kernel_rfl
@[go_sem] theorem ty_zv71 : zvT Try.prog 71 = some (.data .nilf) := by kernel_rfl
@[go_sem] theorem ty_sz72 : szT Try.prog 72 = some 1 := by kernel_rfl
@[go_sem] theorem ty_by72 : byT Try.prog 72 = some 8 := by kernel_rfl
@[go_sem] theorem ty_ag72 : aggT Try.prog 72 = some false := by kernel_rfl
@[go_sem] theorem ty_un72 : (Try.prog.underlying 72).isSome = true := by kernel_rfl
@[go_sem] theorem ty_ze72 : zeT Try.prog 72 = some [.data .nilf] := by kernel_rfl
@[go_sem] theorem ty_zl72 : zlT Try.prog 72 = some 1 := by kernel_rfl
@[go_sem] theorem ty_sl72 : sliceT Try.prog 72 = none := by kernel_rfl
@[go_sem] theorem ty_ar72 : arrT Try.prog 72 = none := by kernel_rfl
@[go_sem] theorem ty_in72 : intT Try.prog 72 = none := by kernel_rfl
@[go_sem] theorem ty_bo72 : boolT Try.prog 72 = false := by kernel_rfl
@[go_sem] theorem ty_st72 : strT Try.prog 72 = false := by kernel_rfl
@[go_sem] theorem ty_zv72 : zvT Try.prog 72 = some (.data .nilf) := by kernel_rfl
@[go_sem] theorem ty_sz74 : szT Try.prog 74 = some 1 := by kernel_rfl
@[go_sem] theorem ty_by74 : byT Try.prog 74 = some 8 := by kernel_rfl
@[go_sem] theorem ty_ag74 : aggT Try.prog 74 = some false := by kernel_rfl
@[go_sem] theorem ty_un74 : (Try.prog.underlying 74).isSome = true := by kernel_rfl
@[go_sem] theorem ty_ze74 : zeT Try.prog 74 = some [.data .nilf] := by kernel_rfl
@[go_sem] theorem ty_zl74 : zlT Try.prog 74 = some 1 := by kernel_rfl
@[go_sem] theorem ty_sl74 : sliceT Try.prog 74 = none := by kernel_rfl
@[go_sem] theorem ty_ar74 : arrT Try.prog 74 = none := by kernel_rfl
@[go_sem] theorem ty_in74 : intT Try.prog 74 = none := by kernel_rfl
@[go_sem] theorem ty_bo74 : boolT Try.prog 74 = false := by kernel_rfl
@[go_sem] theorem ty_st74 : strT Try.prog 74 = false := by kernel_rfl
@[go_sem] theorem ty_zv74 : zvT Try.prog 74 = some (.data .nilf) := by kernel_rfl
@[go_sem] theorem ty_sz76 : szT Try.prog 76 = some 1 := by kernel_rfl
@[go_sem] theorem ty_by76 : byT Try.prog 76 = some 8 := by kernel_rfl
@[go_sem] theorem ty_ag76 : aggT Try.prog 76 = some false := by kernel_rfl
@[go_sem] theorem ty_un76 : (Try.prog.underlying 76).isSome = true := by kernel_rfl
@[go_sem] theorem ty_ze76 : zeT Try.prog 76 = some [.data .nilf] := by kernel_rfl
@[go_sem] theorem ty_zl76 : zlT Try.prog 76 = some 1 := by kernel_rfl
@[go_sem] theorem ty_sl76 : sliceT Try.prog 76 = none := by kernel_rfl
@[go_sem] theorem ty_ar76 : arrT Try.prog 76 = none := by kernel_rfl
@[go_sem] theorem ty_in76 : intT Try.prog 76 = none := by kernel_rfl
@[go_sem] theorem ty_bo76 : boolT Try.prog 76 = false := by kernel_rfl
@[go_sem] theorem ty_st76 : strT Try.prog 76 = false := by kernel_rfl
@[go_sem] theorem ty_zv76 : zvT Try.prog 76 = some (.data .nilf) := by kernel_rfl
@[go_sem] theorem ty_sz77 : szT Try.prog 77 = some 1 := by kernel_rfl
@[go_sem] theorem ty_by77 : byT Try.prog 77 = some 8 := by kernel_rfl
@[go_sem] theorem ty_ag77 : aggT Try.prog 77 = some false := by kernel_rfl
@[go_sem] theorem ty_un77 : (Try.prog.underlying 77).isSome = true := by kernel_rfl
@[go_sem] theorem ty_ze77 : zeT Try.prog 77 = some [.data .nilf] := by kernel_rfl
@[go_sem] theorem ty_zl77 : zlT Try.prog 77 = some 1 := by kernel_rfl
@[go_sem] theorem ty_sl77 : sliceT Try.prog 77 = none := by kernel_rfl
@[go_sem] theorem ty_ar77 : arrT Try.prog 77 = none := by kernel_rfl
@[go_sem] theorem ty_in77 : intT Try.prog 77 = none := by kernel_rfl
@[go_sem] theorem ty_bo77 : boolT Try.prog 77 = false := by kernel_rfl
@[go_sem] theorem ty_st77 : strT Try.prog 77 = false := by kernel_rfl
@[go_sem] theorem ty_zv77 : zvT Try.prog 77 = some (.data .nilf) := by kernel_rfl
@[go_sem] theorem ty_sz78 : szT Try.prog 78 = some 15 := by kernel_rfl
@[go_sem] theorem ty_by78 : byT Try.prog 78 = some 176 := by kernel_rfl
@[go_sem] theorem ty_ag78 : aggT Try.prog 78 = some true := by kernel_rfl
@[go_sem] theorem ty_un78 : (Try.prog.underlying 78).isSome = true := by kernel_rfl
@[go_sem] theorem ty_ze78 : zeT Try.prog 78 = some [.data (.int .i64 0), .data (.int .i64 0), .data (.int .i64 0), .data (.int .i64 0), .data (.int .i64 0), .data (.int .u32 0), .data (.str ByteArray.empty), .data (.int .u64 0), .data (.int .u64 0), .data (.int .i64 0), .data (.int .i64 0), .data (.int .i64 0), .emp 0, .emp 0, .emp 0] := by kernel_rfl
@[go_sem] theorem ty_zl78 : zlT Try.prog 78 = some 15 := by kernel_rfl
@[go_sem] theorem ty_sl78 : sliceT Try.prog 78 = none := by kernel_rfl
@[go_sem] theorem ty_ar78 : arrT Try.prog 78 = none := by kernel_rfl
@[go_sem] theorem ty_in78 : intT Try.prog 78 = none := by kernel_rfl
@[go_sem] theorem ty_bo78 : boolT Try.prog 78 = false := by kernel_rfl
@[go_sem] theorem ty_st78 : strT Try.prog 78 = false := by kernel_rfl
@[go_sem] theorem ty_zv78 : zvT Try.prog 78 = some (.agg [.data (.int .i64 0), .data (.int .i64 0), .data (.int .i64 0), .data (.int .i64 0), .data (.int .i64 0), .data (.int .u32 0), .data (.str ByteArray.empty), .data (.int .u64 0), .data (.int .u64 0), .data (.int .i64 0), .data (.int .i64 0), .data (.int .i64 0), .emp 0, .emp 0, .emp 0]) := by kernel_rfl
@[go_sem] theorem ty_fl78_0 : fldT Try.prog 78 0 = some (0, 3) := by kernel_rfl
@[go_sem] theorem ty_fl78_1 : fldT Try.prog 78 1 = some (1, 3) := by kernel_rfl
@[go_sem] theorem ty_fl78_2 : fldT Try.prog 78 2 = some (2, 30) := by kernel_rfl
@[go_sem] theorem ty_fl78_3 : fldT Try.prog 78 3 = some (11, 26) := by kernel_rfl
@[go_sem] theorem ty_pl78 : plT Try.prog 78 = some [(0, 1), (1, 1), (2, 9), (11, 4)] := by kernel_rfl
@[go_sem] theorem ty_sz79 : szT Try.prog 79 = some 15 := by kernel_rfl
@[go_sem] theorem ty_by79 : byT Try.prog 79 = some 176 := by kernel_rfl
@[go_sem] theorem ty_ag79 : aggT Try.prog 79 = some true := by kernel_rfl
@[go_sem] theorem ty_un79 : (Try.prog.underlying 79).isSome = true := by kernel_rfl
@[go_sem] theorem ty_ze79 : zeT Try.prog 79 = some [.data (.int .i64 0), .data (.int .i64 0), .data (.int .i64 0), .data (.int .i64 0), .data (.int .i64 0), .data (.int .u32 0), .data (.str ByteArray.empty), .data (.int .u64 0), .data (.int .u64 0), .data (.int .i64 0), .data (.int .i64 0), .data (.int .i64 0), .emp 0, .emp 0, .emp 0] := by kernel_rfl
@[go_sem] theorem ty_zl79 : zlT Try.prog 79 = some 15 := by kernel_rfl
@[go_sem] theorem ty_sl79 : sliceT Try.prog 79 = none := by kernel_rfl
@[go_sem] theorem ty_ar79 : arrT Try.prog 79 = none := by kernel_rfl
@[go_sem] theorem ty_in79 : intT Try.prog 79 = none := by kernel_rfl
@[go_sem] theorem ty_bo79 : boolT Try.prog 79 = false := by kernel_rfl
@[go_sem] theorem ty_st79 : strT Try.prog 79 = false := by kernel_rfl
@[go_sem] theorem ty_zv79 : zvT Try.prog 79 = some (.agg [.data (.int .i64 0), .data (.int .i64 0), .data (.int .i64 0), .data (.int .i64 0), .data (.int .i64 0), .data (.int .u32 0), .data (.str ByteArray.empty), .data (.int .u64 0), .data (.int .u64 0), .data (.int .i64 0), .data (.int .i64 0), .data (.int .i64 0), .emp 0, .emp 0, .emp 0]) := by kernel_rfl
@[go_sem] theorem ty_fl79_0 : fldT Try.prog 79 0 = some (0, 3) := by kernel_rfl
@[go_sem] theorem ty_fl79_1 : fldT Try.prog 79 1 = some (1, 3) := by kernel_rfl
@[go_sem] theorem ty_fl79_2 : fldT Try.prog 79 2 = some (2, 30) := by kernel_rfl
@[go_sem] theorem ty_fl79_3 : fldT Try.prog 79 3 = some (11, 26) := by kernel_rfl
@[go_sem] theorem ty_pl79 : plT Try.prog 79 = some [(0, 1), (1, 1), (2, 9), (11, 4)] := by kernel_rfl
@[go_sem] theorem ty_sz80 : szT Try.prog 80 = some 1 := by kernel_rfl
@[go_sem] theorem ty_by80 : byT Try.prog 80 = some 8 := by kernel_rfl
@[go_sem] theorem ty_ag80 : aggT Try.prog 80 = some false := by kernel_rfl
@[go_sem] theorem ty_un80 : (Try.prog.underlying 80).isSome = true := by kernel_rfl
@[go_sem] theorem ty_ze80 : zeT Try.prog 80 = some [.data .nilf] := by kernel_rfl
@[go_sem] theorem ty_zl80 : zlT Try.prog 80 = some 1 := by kernel_rfl
@[go_sem] theorem ty_sl80 : sliceT Try.prog 80 = none := by kernel_rfl
@[go_sem] theorem ty_ar80 : arrT Try.prog 80 = none := by kernel_rfl
@[go_sem] theorem ty_in80 : intT Try.prog 80 = none := by kernel_rfl
@[go_sem] theorem ty_bo80 : boolT Try.prog 80 = false := by kernel_rfl
@[go_sem] theorem ty_st80 : strT Try.prog 80 = false := by kernel_rfl
@[go_sem] theorem ty_zv80 : zvT Try.prog 80 = some (.data .nilf) := by kernel_rfl
@[go_sem] theorem ty_sz81 : szT Try.prog 81 = some 1 := by kernel_rfl
@[go_sem] theorem ty_by81 : byT Try.prog 81 = some 8 := by kernel_rfl
@[go_sem] theorem ty_ag81 : aggT Try.prog 81 = some false := by kernel_rfl
@[go_sem] theorem ty_un81 : (Try.prog.underlying 81).isSome = true := by kernel_rfl
@[go_sem] theorem ty_ze81 : zeT Try.prog 81 = some [.data .nilf] := by kernel_rfl
@[go_sem] theorem ty_zl81 : zlT Try.prog 81 = some 1 := by kernel_rfl
@[go_sem] theorem ty_sl81 : sliceT Try.prog 81 = none := by kernel_rfl
@[go_sem] theorem ty_ar81 : arrT Try.prog 81 = none := by kernel_rfl
@[go_sem] theorem ty_in81 : intT Try.prog 81 = none := by kernel_rfl
@[go_sem] theorem ty_bo81 : boolT Try.prog 81 = false := by kernel_rfl
@[go_sem] theorem ty_st81 : strT Try.prog 81 = false := by kernel_rfl
@[go_sem] theorem ty_zv81 : zvT Try.prog 81 = some (.data .nilf) := by kernel_rfl
@[go_sem] theorem ty_sz82 : szT Try.prog 82 = some 2 := by kernel_rfl
@[go_sem] theorem ty_by82 : byT Try.prog 82 = some 16 := by kernel_rfl
@[go_sem] theorem ty_ag82 : aggT Try.prog 82 = some true := by kernel_rfl
@[go_sem] theorem ty_un82 : (Try.prog.underlying 82).isSome = true := by kernel_rfl
@[go_sem] theorem ty_ze82 : zeT Try.prog 82 = some [.data (.int .i64 0), .data (.int .i64 0)] := by kernel_rfl
@[go_sem] theorem ty_zl82 : zlT Try.prog 82 = some 2 := by kernel_rfl
@[go_sem] theorem ty_sl82 : sliceT Try.prog 82 = none := by kernel_rfl
@[go_sem] theorem ty_ar82 : arrT Try.prog 82 = some (2, 3) := by kernel_rfl
@[go_sem] theorem ty_in82 : intT Try.prog 82 = none := by kernel_rfl
@[go_sem] theorem ty_bo82 : boolT Try.prog 82 = false := by kernel_rfl
@[go_sem] theorem ty_st82 : strT Try.prog 82 = false := by kernel_rfl
@[go_sem] theorem ty_zv82 : zvT Try.prog 82 = some (.data (.agg [(.int .i64 0), (.int .i64 0)])) := by kernel_rfl
@[go_sem] theorem ty_sz83 : szT Try.prog 83 = some 30 := by kernel_rfl
@[go_sem] theorem ty_by83 : byT Try.prog 83 = some 352 := by kernel_rfl
@[go_sem] theorem ty_ag83 : aggT Try.prog 83 = some true := by kernel_rfl
@[go_sem] theorem ty_un83 : (Try.prog.underlying 83).isSome = true := by kernel_rfl
@[go_sem] theorem ty_ze83 : zeT Try.prog 83 = some [.data (.int .i64 0), .data (.int .i64 0), .data (.int .i64 0), .data (.int .i64 0), .data (.int .i64 0), .data (.int .i64 0), .data (.int .i64 0), .data (.int .u32 0), .data (.str ByteArray.empty), .data (.int .u64 0), .data (.int .u64 0), .data (.int .i64 0), .data (.int .i64 0), .data (.int .i64 0), .data (.int .i64 0), .data (.int .i64 0), .data (.int .u32 0), .data (.str ByteArray.empty), .data (.int .u64 0), .data (.int .u64 0), .data (.int .i64 0), .data (.int .i64 0), .data (.int .i64 0), .emp 0, .emp 0, .emp 0, .data (.int .i64 0), .emp 0, .emp 0, .emp 0] := by kernel_rfl
@[go_sem] theorem ty_zl83 : zlT Try.prog 83 = some 30 := by kernel_rfl
@[go_sem] theorem ty_sl83 : sliceT Try.prog 83 = none := by kernel_rfl
@[go_sem] theorem ty_ar83 : arrT Try.prog 83 = none := by kernel_rfl
@[go_sem] theorem ty_in83 : intT Try.prog 83 = none := by kernel_rfl
@[go_sem] theorem ty_bo83 : boolT Try.prog 83 = false := by kernel_rfl
@[go_sem] theorem ty_st83 : strT Try.prog 83 = false := by kernel_rfl
@[go_sem] theorem ty_zv83 : zvT Try.prog 83 = some (.agg [.data (.int .i64 0), .data (.int .i64 0), .data (.int .i64 0), .data (.int .i64 0), .data (.int .i64 0), .data (.int .i64 0), .data (.int .i64 0), .data (.int .u32 0), .data (.str ByteArray.empty), .data (.int .u64 0), .data (.int .u64 0), .data (.int .i64 0), .data (.int .i64 0), .data (.int .i64 0), .data (.int .i64 0), .data (.int .i64 0), .data (.int .u32 0), .data (.str ByteArray.empty), .data (.int .u64 0), .data (.int .u64 0), .data (.int .i64 0), .data (.int .i64 0), .data (.int .i64 0), .emp 0, .emp 0, .emp 0, .data (.int .i64 0), .emp 0, .emp 0, .emp 0]) := by kernel_rfl
@[go_sem] theorem ty_fl83_0 : fldT Try.prog 83 0 = some (0, 82) := by kernel_rfl
@[go_sem] theorem ty_fl83_1 : fldT Try.prog 83 1 = some (2, 82) := by kernel_rfl
@[go_sem] theorem ty_fl83_2 : fldT Try.prog 83 2 = some (4, 30) := by kernel_rfl
@[go_sem] theorem ty_fl83_3 : fldT Try.prog 83 3 = some (13, 30) := by kernel_rfl
@[go_sem] theorem ty_fl83_4 : fldT Try.prog 83 4 = some (22, 26) := by kernel_rfl
@[go_sem] theorem ty_fl83_5 : fldT Try.prog 83 5 = some (26, 26) := by kernel_rfl
@[go_sem] theorem ty_pl83 : plT Try.prog 83 = some [(0, 2), (2, 2), (4, 9), (13, 9), (22, 4), (26, 4)] := by kernel_rfl
@[go_sem] theorem ty_sz84 : szT Try.prog 84 = some 30 := by kernel_rfl
@[go_sem] theorem ty_by84 : byT Try.prog 84 = some 352 := by kernel_rfl
@[go_sem] theorem ty_ag84 : aggT Try.prog 84 = some true := by kernel_rfl
@[go_sem] theorem ty_un84 : (Try.prog.underlying 84).isSome = true := by kernel_rfl
@[go_sem] theorem ty_ze84 : zeT Try.prog 84 = some [.data (.int .i64 0), .data (.int .i64 0), .data (.int .i64 0), .data (.int .i64 0), .data (.int .i64 0), .data (.int .i64 0), .data (.int .i64 0), .data (.int .u32 0), .data (.str ByteArray.empty), .data (.int .u64 0), .data (.int .u64 0), .data (.int .i64 0), .data (.int .i64 0), .data (.int .i64 0), .data (.int .i64 0), .data (.int .i64 0), .data (.int .u32 0), .data (.str ByteArray.empty), .data (.int .u64 0), .data (.int .u64 0), .data (.int .i64 0), .data (.int .i64 0), .data (.int .i64 0), .emp 0, .emp 0, .emp 0, .data (.int .i64 0), .emp 0, .emp 0, .emp 0] := by kernel_rfl
@[go_sem] theorem ty_zl84 : zlT Try.prog 84 = some 30 := by kernel_rfl
@[go_sem] theorem ty_sl84 : sliceT Try.prog 84 = none := by kernel_rfl
@[go_sem] theorem ty_ar84 : arrT Try.prog 84 = none := by kernel_rfl
@[go_sem] theorem ty_in84 : intT Try.prog 84 = none := by kernel_rfl
@[go_sem] theorem ty_bo84 : boolT Try.prog 84 = false := by kernel_rfl
@[go_sem] theorem ty_st84 : strT Try.prog 84 = false := by kernel_rfl
@[go_sem] theorem ty_zv84 : zvT Try.prog 84 = some (.agg [.data (.int .i64 0), .data (.int .i64 0), .data (.int .i64 0), .data (.int .i64 0), .data (.int .i64 0), .data (.int .i64 0), .data (.int .i64 0), .data (.int .u32 0), .data (.str ByteArray.empty), .data (.int .u64 0), .data (.int .u64 0), .data (.int .i64 0), .data (.int .i64 0), .data (.int .i64 0), .data (.int .i64 0), .data (.int .i64 0), .data (.int .u32 0), .data (.str ByteArray.empty), .data (.int .u64 0), .data (.int .u64 0), .data (.int .i64 0), .data (.int .i64 0), .data (.int .i64 0), .emp 0, .emp 0, .emp 0, .data (.int .i64 0), .emp 0, .emp 0, .emp 0]) := by kernel_rfl
@[go_sem] theorem ty_fl84_0 : fldT Try.prog 84 0 = some (0, 82) := by kernel_rfl
@[go_sem] theorem ty_fl84_1 : fldT Try.prog 84 1 = some (2, 82) := by kernel_rfl
@[go_sem] theorem ty_fl84_2 : fldT Try.prog 84 2 = some (4, 30) := by kernel_rfl
@[go_sem] theorem ty_fl84_3 : fldT Try.prog 84 3 = some (13, 30) := by kernel_rfl
@[go_sem] theorem ty_fl84_4 : fldT Try.prog 84 4 = some (22, 26) := by kernel_rfl
@[go_sem] theorem ty_fl84_5 : fldT Try.prog 84 5 = some (26, 26) := by kernel_rfl
@[go_sem] theorem ty_pl84 : plT Try.prog 84 = some [(0, 2), (2, 2), (4, 9), (13, 9), (22, 4), (26, 4)] := by kernel_rfl
@[go_sem] theorem ty_sz85 : szT Try.prog 85 = some 1 := by kernel_rfl
@[go_sem] theorem ty_by85 : byT Try.prog 85 = some 8 := by kernel_rfl
@[go_sem] theorem ty_ag85 : aggT Try.prog 85 = some false := by kernel_rfl
@[go_sem] theorem ty_un85 : (Try.prog.underlying 85).isSome = true := by kernel_rfl
@[go_sem] theorem ty_ze85 : zeT Try.prog 85 = some [.data .nilf] := by kernel_rfl
@[go_sem] theorem ty_zl85 : zlT Try.prog 85 = some 1 := by kernel_rfl
@[go_sem] theorem ty_sl85 : sliceT Try.prog 85 = none := by kernel_rfl
@[go_sem] theorem ty_ar85 : arrT Try.prog 85 = none := by kernel_rfl
@[go_sem] theorem ty_in85 : intT Try.prog 85 = none := by kernel_rfl
@[go_sem] theorem ty_bo85 : boolT Try.prog 85 = false := by kernel_rfl
@[go_sem] theorem ty_st85 : strT Try.prog 85 = false := by kernel_rfl
@[go_sem] theorem ty_zv85 : zvT Try.prog 85 = some (.data .nilf) := by kernel_rfl
@[go_sem] theorem ty_sz86 : szT Try.prog 86 = some 13 := by kernel_rfl
@[go_sem] theorem ty_by86 : byT Try.prog 86 = some 104 := by kernel_rfl
@[go_sem] theorem ty_ag86 : aggT Try.prog 86 = some true := by kernel_rfl
@[go_sem] theorem ty_un86 : (Try.prog.underlying 86).isSome = true := by kernel_rfl
@[go_sem] theorem ty_ze86 : zeT Try.prog 86 = some [.data (.int .i64 0), .data (.int .i64 0), .data (.int .i64 0), .data (.int .i64 0), .data (.int .i64 0), .data (.int .u32 0), .data (.str ByteArray.empty), .data (.int .u64 0), .data (.int .u64 0), .data (.int .i64 0), .data (.int .i64 0), .data (.int .u8 0), .data (.int .u8 0)] := by kernel_rfl
@[go_sem] theorem ty_zl86 : zlT Try.prog 86 = some 13 := by kernel_rfl
@[go_sem] theorem ty_sl86 : sliceT Try.prog 86 = none := by kernel_rfl
@[go_sem] theorem ty_ar86 : arrT Try.prog 86 = none := by kernel_rfl
@[go_sem] theorem ty_in86 : intT Try.prog 86 = none := by kernel_rfl
@[go_sem] theorem ty_bo86 : boolT Try.prog 86 = false := by kernel_rfl
@[go_sem] theorem ty_st86 : strT Try.prog 86 = false := by kernel_rfl
@[go_sem] theorem ty_zv86 : zvT Try.prog 86 = some (.data (.agg [(.int .i64 0), (.int .i64 0), (.int .i64 0), (.int .i64 0), (.int .i64 0), (.int .u32 0), (.str ByteArray.empty), (.int .u64 0), (.int .u64 0), (.int .i64 0), (.int .i64 0), (.int .u8 0), (.int .u8 0)])) := by kernel_rfl
@[go_sem] theorem ty_fl86_0 : fldT Try.prog 86 0 = some (0, 3) := by kernel_rfl
@[go_sem] theorem ty_fl86_1 : fldT Try.prog 86 1 = some (1, 3) := by kernel_rfl
@[go_sem] theorem ty_fl86_2 : fldT Try.prog 86 2 = some (2, 30) := by kernel_rfl
@[go_sem] theorem ty_fl86_3 : fldT Try.prog 86 3 = some (11, 5) := by kernel_rfl
@[go_sem] theorem ty_fl86_4 : fldT Try.prog 86 4 = some (12, 5) := by kernel_rfl
@[go_sem] theorem ty_pl86 : plT Try.prog 86 = some [(0, 1), (1, 1), (2, 9), (11, 1), (12, 1)] := by kernel_rfl
@[go_sem] theorem ty_sz87 : szT Try.prog 87 = some 13 := by kernel_rfl
@[go_sem] theorem ty_by87 : byT Try.prog 87 = some 104 := by kernel_rfl
@[go_sem] theorem ty_ag87 : aggT Try.prog 87 = some true := by kernel_rfl
@[go_sem] theorem ty_un87 : (Try.prog.underlying 87).isSome = true := by kernel_rfl
@[go_sem] theorem ty_ze87 : zeT Try.prog 87 = some [.data (.int .i64 0), .data (.int .i64 0), .data (.int .i64 0), .data (.int .i64 0), .data (.int .i64 0), .data (.int .u32 0), .data (.str ByteArray.empty), .data (.int .u64 0), .data (.int .u64 0), .data (.int .i64 0), .data (.int .i64 0), .data (.int .u8 0), .data (.int .u8 0)] := by kernel_rfl
@[go_sem] theorem ty_zl87 : zlT Try.prog 87 = some 13 := by kernel_rfl
@[go_sem] theorem ty_sl87 : sliceT Try.prog 87 = none := by kernel_rfl
@[go_sem] theorem ty_ar87 : arrT Try.prog 87 = none := by kernel_rfl
@[go_sem] theorem ty_in87 : intT Try.prog 87 = none := by kernel_rfl
@[go_sem] theorem ty_bo87 : boolT Try.prog 87 = false := by kernel_rfl
@[go_sem] theorem ty_st87 : strT Try.prog 87 = false := by kernel_rfl
@[go_sem] theorem ty_zv87 : zvT Try.prog 87 = some (.data (.agg [(.int .i64 0), (.int .i64 0), (.int .i64 0), (.int .i64 0), (.int .i64 0), (.int .u32 0), (.str ByteArray.empty), (.int .u64 0), (.int .u64 0), (.int .i64 0), (.int .i64 0), (.int .u8 0), (.int .u8 0)])) := by kernel_rfl
@[go_sem] theorem ty_fl87_0 : fldT Try.prog 87 0 = some (0, 3) := by kernel_rfl
@[go_sem] theorem ty_fl87_1 : fldT Try.prog 87 1 = some (1, 3) := by kernel_rfl
@[go_sem] theorem ty_fl87_2 : fldT Try.prog 87 2 = some (2, 30) := by kernel_rfl
@[go_sem] theorem ty_fl87_3 : fldT Try.prog 87 3 = some (11, 5) := by kernel_rfl
@[go_sem] theorem ty_fl87_4 : fldT Try.prog 87 4 = some (12, 5) := by kernel_rfl
@[go_sem] theorem ty_pl87 : plT Try.prog 87 = some [(0, 1), (1, 1), (2, 9), (11, 1), (12, 1)] := by kernel_rfl
@[go_sem] theorem ty_sz88 : szT Try.prog 88 = some 1 := by kernel_rfl
@[go_sem] theorem ty_by88 : byT Try.prog 88 = some 8 := by kernel_rfl
@[go_sem] theorem ty_ag88 : aggT Try.prog 88 = some false := by kernel_rfl
@[go_sem] theorem ty_un88 : (Try.prog.underlying 88).isSome = true := by kernel_rfl
@[go_sem] theorem ty_ze88 : zeT Try.prog 88 = some [.data .nilf] := by kernel_rfl
@[go_sem] theorem ty_zl88 : zlT Try.prog 88 = some 1 := by kernel_rfl
@[go_sem] theorem ty_sl88 : sliceT Try.prog 88 = none := by kernel_rfl
@[go_sem] theorem ty_ar88 : arrT Try.prog 88 = none := by kernel_rfl
@[go_sem] theorem ty_in88 : intT Try.prog 88 = none := by kernel_rfl
@[go_sem] theorem ty_bo88 : boolT Try.prog 88 = false := by kernel_rfl
@[go_sem] theorem ty_st88 : strT Try.prog 88 = false := by kernel_rfl
@[go_sem] theorem ty_zv88 : zvT Try.prog 88 = some (.data .nilf) := by kernel_rfl
@[go_sem] theorem ty_sz89 : szT Try.prog 89 = some 1 := by kernel_rfl
@[go_sem] theorem ty_by89 : byT Try.prog 89 = some 8 := by kernel_rfl
@[go_sem] theorem ty_ag89 : aggT Try.prog 89 = some false := by kernel_rfl
@[go_sem] theorem ty_un89 : (Try.prog.underlying 89).isSome = true := by kernel_rfl
@[go_sem] theorem ty_ze89 : zeT Try.prog 89 = some [.data .nilf] := by kernel_rfl
@[go_sem] theorem ty_zl89 : zlT Try.prog 89 = some 1 := by kernel_rfl
@[go_sem] theorem ty_sl89 : sliceT Try.prog 89 = none := by kernel_rfl
@[go_sem] theorem ty_ar89 : arrT Try.prog 89 = none := by kernel_rfl
@[go_sem] theorem ty_in89 : intT Try.prog 89 = none := by kernel_rfl
@[go_sem] theorem ty_bo89 : boolT Try.prog 89 = false := by kernel_rfl
@[go_sem] theorem ty_st89 : strT Try.prog 89 = false := by kernel_rfl
@[go_sem] theorem ty_zv89 : zvT Try.prog 89 = some (.data .nilf) := by kernel_rfl
@[go_sem] theorem ty_sz90 : szT Try.prog 90 = some 1 := by kernel_rfl
@[go_sem] theorem ty_by90 : byT Try.prog 90 = some 8 := by kernel_rfl
@[go_sem] theorem ty_ag90 : aggT Try.prog 90 = some false := by kernel_rfl
@[go_sem] theorem ty_un90 : (Try.prog.underlying 90).isSome = true := by kernel_rfl
@[go_sem] theorem ty_ze90 : zeT Try.prog 90 = some [.data .nilf] := by kernel_rfl
@[go_sem] theorem ty_zl90 : zlT Try.prog 90 = some 1 := by kernel_rfl
@[go_sem] theorem ty_sl90 : sliceT Try.prog 90 = none := by kernel_rfl
@[go_sem] theorem ty_ar90 : arrT Try.prog 90 = none := by kernel_rfl
@[go_sem] theorem ty_in90 : intT Try.prog 90 = none := by kernel_rfl
@[go_sem] theorem ty_bo90 : boolT Try.prog 90 = false := by kernel_rfl
@[go_sem] theorem ty_st90 : strT Try.prog 90 = false := by kernel_rfl
@[go_sem] theorem ty_zv90 : zvT Try.prog 90 = some (.data .nilf) := by kernel_rfl
@[go_sem] theorem ty_sz91 : szT Try.prog 91 = some 1 := by kernel_rfl
@[go_sem] theorem ty_by91 : byT Try.prog 91 = some 8 := by kernel_rfl
@[go_sem] theorem ty_ag91 : aggT Try.prog 91 = some false := by kernel_rfl
@[go_sem] theorem ty_un91 : (Try.prog.underlying 91).isSome = true := by kernel_rfl
@[go_sem] theorem ty_ze91 : zeT Try.prog 91 = some [.data .nilf] := by kernel_rfl
@[go_sem] theorem ty_zl91 : zlT Try.prog 91 = some 1 := by kernel_rfl
@[go_sem] theorem ty_sl91 : sliceT Try.prog 91 = none := by kernel_rfl
@[go_sem] theorem ty_ar91 : arrT Try.prog 91 = none := by kernel_rfl
@[go_sem] theorem ty_in91 : intT Try.prog 91 = none := by kernel_rfl
@[go_sem] theorem ty_bo91 : boolT Try.prog 91 = false := by kernel_rfl
@[go_sem] theorem ty_st91 : strT Try.prog 91 = false := by kernel_rfl
@[go_sem] theorem ty_zv91 : zvT Try.prog 91 = some (.data .nilf) := by kernel_rfl
@[go_sem] theorem ty_sz92 : szT Try.prog 92 = some 13 := by kernel_rfl
@[go_sem] theorem ty_by92 : byT Try.prog 92 = some 160 := by kernel_rfl
@[go_sem] theorem ty_ag92 : aggT Try.prog 92 = some true := by kernel_rfl
@[go_sem] theorem ty_un92 : (Try.prog.underlying 92).isSome = true := by kernel_rfl
@[go_sem] theorem ty_ze92 : zeT Try.prog 92 = some [.data (.int .i64 0), .emp 0, .emp 0, .emp 0, .data (.int .i64 0), .data (.int .i64 0), .data (.int .i64 0), .data (.int .u32 0), .data (.str ByteArray.empty), .data (.int .u64 0), .data (.int .u64 0), .data (.int .i64 0), .data (.int .i64 0)] := by kernel_rfl
@[go_sem] theorem ty_zl92 : zlT Try.prog 92 = some 13 := by kernel_rfl
@[go_sem] theorem ty_sl92 : sliceT Try.prog 92 = none := by kernel_rfl
@[go_sem] theorem ty_ar92 : arrT Try.prog 92 = none := by kernel_rfl
@[go_sem] theorem ty_in92 : intT Try.prog 92 = none := by kernel_rfl
@[go_sem] theorem ty_bo92 : boolT Try.prog 92 = false := by kernel_rfl
@[go_sem] theorem ty_st92 : strT Try.prog 92 = false := by kernel_rfl
@[go_sem] theorem ty_zv92 : zvT Try.prog 92 = some (.agg [.data (.int .i64 0), .emp 0, .emp 0, .emp 0, .data (.int .i64 0), .data (.int .i64 0), .data (.int .i64 0), .data (.int .u32 0), .data (.str ByteArray.empty), .data (.int .u64 0), .data (.int .u64 0), .data (.int .i64 0), .data (.int .i64 0)]) := by kernel_rfl
@[go_sem] theorem ty_fl92_0 : fldT Try.prog 92 0 = some (0, 26) := by kernel_rfl
@[go_sem] theorem ty_fl92_1 : fldT Try.prog 92 1 = some (4, 30) := by kernel_rfl
@[go_sem] theorem ty_pl92 : plT Try.prog 92 = some [(0, 4), (4, 9)] := by kernel_rfl
@[go_sem] theorem ty_sz93 : szT Try.prog 93 = some 13 := by kernel_rfl
@[go_sem] theorem ty_by93 : byT Try.prog 93 = some 160 := by kernel_rfl
@[go_sem] theorem ty_ag93 : aggT Try.prog 93 = some true := by kernel_rfl
@[go_sem] theorem ty_un93 : (Try.prog.underlying 93).isSome = true := by kernel_rfl
@[go_sem] theorem ty_ze93 : zeT Try.prog 93 = some [.data (.int .i64 0), .emp 0, .emp 0, .emp 0, .data (.int .i64 0), .data (.int .i64 0), .data (.int .i64 0), .data (.int .u32 0), .data (.str ByteArray.empty), .data (.int .u64 0), .data (.int .u64 0), .data (.int .i64 0), .data (.int .i64 0)] := by kernel_rfl
@[go_sem] theorem ty_zl93 : zlT Try.prog 93 = some 13 := by kernel_rfl
@[go_sem] theorem ty_sl93 : sliceT Try.prog 93 = none := by kernel_rfl
@[go_sem] theorem ty_ar93 : arrT Try.prog 93 = none := by kernel_rfl
@[go_sem] theorem ty_in93 : intT Try.prog 93 = none := by kernel_rfl
@[go_sem] theorem ty_bo93 : boolT Try.prog 93 = false := by kernel_rfl
@[go_sem] theorem ty_st93 : strT Try.prog 93 = false := by kernel_rfl
@[go_sem] theorem ty_zv93 : zvT Try.prog 93 = some (.agg [.data (.int .i64 0), .emp 0, .emp 0, .emp 0, .data (.int .i64 0), .data (.int .i64 0), .data (.int .i64 0), .data (.int .u32 0), .data (.str ByteArray.empty), .data (.int .u64 0), .data (.int .u64 0), .data (.int .i64 0), .data (.int .i64 0)]) := by kernel_rfl
@[go_sem] theorem ty_fl93_0 : fldT Try.prog 93 0 = some (0, 26) := by kernel_rfl
@[go_sem] theorem ty_fl93_1 : fldT Try.prog 93 1 = some (4, 30) := by kernel_rfl
@[go_sem] theorem ty_pl93 : plT Try.prog 93 = some [(0, 4), (4, 9)] := by kernel_rfl
@[go_sem] theorem ty_sz94 : szT Try.prog 94 = some 1 := by kernel_rfl
@[go_sem] theorem ty_by94 : byT Try.prog 94 = some 8 := by kernel_rfl
@[go_sem] theorem ty_ag94 : aggT Try.prog 94 = some false := by kernel_rfl
@[go_sem] theorem ty_un94 : (Try.prog.underlying 94).isSome = true := by kernel_rfl
@[go_sem] theorem ty_ze94 : zeT Try.prog 94 = some [.data .nilf] := by kernel_rfl
@[go_sem] theorem ty_zl94 : zlT Try.prog 94 = some 1 := by kernel_rfl
@[go_sem] theorem ty_sl94 : sliceT Try.prog 94 = none := by kernel_rfl
@[go_sem] theorem ty_ar94 : arrT Try.prog 94 = none := by kernel_rfl
@[go_sem] theorem ty_in94 : intT Try.prog 94 = none := by kernel_rfl
@[go_sem] theorem ty_bo94 : boolT Try.prog 94 = false := by kernel_rfl
@[go_sem] theorem ty_st94 : strT Try.prog 94 = false := by kernel_rfl
@[go_sem] theorem ty_zv94 : zvT Try.prog 94 = some (.data .nilf) := by kernel_rfl
@[go_sem] theorem ty_sz95 : szT Try.prog 95 = some 1 := by kernel_rfl
@[go_sem] theorem ty_by95 : byT Try.prog 95 = some 8 := by kernel_rfl
@[go_sem] theorem ty_ag95 : aggT Try.prog 95 = some false := by kernel_rfl
@[go_sem] theorem ty_un95 : (Try.prog.underlying 95).isSome = true := by kernel_rfl
@[go_sem] theorem ty_ze95 : zeT Try.prog 95 = some [.junk] := by kernel_rfl
@[go_sem] theorem ty_zl95 : zlT Try.prog 95 = some 1 := by kernel_rfl
@[go_sem] theorem ty_sl95 : sliceT Try.prog 95 = none := by kernel_rfl
@[go_sem] theorem ty_ar95 : arrT Try.prog 95 = none := by kernel_rfl
@[go_sem] theorem ty_in95 : intT Try.prog 95 = none := by kernel_rfl
@[go_sem] theorem ty_bo95 : boolT Try.prog 95 = false := by kernel_rfl
@[go_sem] theorem ty_st95 : strT Try.prog 95 = false := by kernel_rfl
@[go_sem] theorem ty_mp95 : mapT Try.prog 95 = some (3, 94) := by kernel_rfl
@[go_sem] theorem ty_zv95 : zvT Try.prog 95 = some (.junk) := by kernel_rfl
@[go_sem] theorem ty_sz96 : szT Try.prog 96 = some 1 := by kernel_rfl
@[go_sem] theorem ty_by96 : byT Try.prog 96 = some 8 := by kernel_rfl
@[go_sem] theorem ty_ag96 : aggT Try.prog 96 = some false := by kernel_rfl
@[go_sem] theorem ty_un96 : (Try.prog.underlying 96).isSome = true := by kernel_rfl
@[go_sem] theorem ty_ze96 : zeT Try.prog 96 = some [.data .nilf] := by kernel_rfl
@[go_sem] theorem ty_zl96 : zlT Try.prog 96 = some 1 := by kernel_rfl
@[go_sem] theorem ty_sl96 : sliceT Try.prog 96 = none := by kernel_rfl
@[go_sem] theorem ty_ar96 : arrT Try.prog 96 = none := by kernel_rfl
@[go_sem] theorem ty_in96 : intT Try.prog 96 = none := by kernel_rfl
@[go_sem] theorem ty_bo96 : boolT Try.prog 96 = false := by kernel_rfl
@[go_sem] theorem ty_st96 : strT Try.prog 96 = false := by kernel_rfl
@[go_sem] theorem ty_zv96 : zvT Try.prog 96 = some (.data .nilf) := by kernel_rfl
@[go_sem] theorem ty_sz97 : szT Try.prog 97 = some 1 := by kernel_rfl
@[go_sem] theorem ty_by97 : byT Try.prog 97 = some 8 := by kernel_rfl
@[go_sem] theorem ty_ag97 : aggT Try.prog 97 = some false := by kernel_rfl
@[go_sem] theorem ty_un97 : (Try.prog.underlying 97).isSome = true := by kernel_rfl
@[go_sem] theorem ty_ze97 : zeT Try.prog 97 = some [.data .nilf] := by kernel_rfl
@[go_sem] theorem ty_zl97 : zlT Try.prog 97 = some 1 := by kernel_rfl
@[go_sem] theorem ty_sl97 : sliceT Try.prog 97 = none := by kernel_rfl
@[go_sem] theorem ty_ar97 : arrT Try.prog 97 = none := by kernel_rfl
@[go_sem] theorem ty_in97 : intT Try.prog 97 = none := by kernel_rfl
@[go_sem] theorem ty_bo97 : boolT Try.prog 97 = false := by kernel_rfl
@[go_sem] theorem ty_st97 : strT Try.prog 97 = false := by kernel_rfl
@[go_sem] theorem ty_zv97 : zvT Try.prog 97 = some (.data .nilf) := by kernel_rfl
@[go_sem] theorem ty_sz98 : szT Try.prog 98 = some 1 := by kernel_rfl
@[go_sem] theorem ty_by98 : byT Try.prog 98 = some 8 := by kernel_rfl
@[go_sem] theorem ty_ag98 : aggT Try.prog 98 = some false := by kernel_rfl
@[go_sem] theorem ty_un98 : (Try.prog.underlying 98).isSome = true := by kernel_rfl
@[go_sem] theorem ty_ze98 : zeT Try.prog 98 = some [.data .nilf] := by kernel_rfl
@[go_sem] theorem ty_zl98 : zlT Try.prog 98 = some 1 := by kernel_rfl
@[go_sem] theorem ty_sl98 : sliceT Try.prog 98 = none := by kernel_rfl
@[go_sem] theorem ty_ar98 : arrT Try.prog 98 = none := by kernel_rfl
@[go_sem] theorem ty_in98 : intT Try.prog 98 = none := by kernel_rfl
@[go_sem] theorem ty_bo98 : boolT Try.prog 98 = false := by kernel_rfl
@[go_sem] theorem ty_st98 : strT Try.prog 98 = false := by kernel_rfl
@[go_sem] theorem ty_zv98 : zvT Try.prog 98 = some (.data .nilf) := by kernel_rfl
@[go_sem] theorem ty_sz99 : szT Try.prog 99 = some 1 := by kernel_rfl
@[go_sem] theorem ty_by99 : byT Try.prog 99 = some 8 := by kernel_rfl
@[go_sem] theorem ty_ag99 : aggT Try.prog 99 = some false := by kernel_rfl
@[go_sem] theorem ty_un99 : (Try.prog.underlying 99).isSome = true := by kernel_rfl
@[go_sem] theorem ty_ze99 : zeT Try.prog 99 = some [.data .nilf] := by kernel_rfl
@[go_sem] theorem ty_zl99 : zlT Try.prog 99 = some 1 := by kernel_rfl
@[go_sem] theorem ty_sl99 : sliceT Try.prog 99 = none := by kernel_rfl
@[go_sem] theorem ty_ar99 : arrT Try.prog 99 = none := by kernel_rfl
@[go_sem] theorem ty_in99 : intT Try.prog 99 = none := by kernel_rfl
@[go_sem] theorem ty_bo99 : boolT Try.prog 99 = false := by kernel_rfl
@[go_sem] theorem ty_st99 : strT Try.prog 99 = false := by kernel_rfl
@[go_sem] theorem ty_zv99 : zvT Try.prog 99 = some (.data .nilf) := by kernel_rfl
@[go_sem] theorem ty_sz100 : szT Try.prog 100 = some 1 := by kernel_rfl
@[go_sem] theorem ty_by100 : byT Try.prog 100 = some 8 := by kernel_rfl
@[go_sem] theorem ty_ag100 : aggT Try.prog 100 = some false := by kernel_rfl
@[go_sem] theorem ty_un100 : (Try.prog.underlying 100).isSome = true := by kernel_rfl
@[go_sem] theorem ty_ze100 : zeT Try.prog 100 = some [.data .nilf] := by kernel_rfl
@[go_sem] theorem ty_zl100 : zlT Try.prog 100 = some 1 := by kernel_rfl
@[go_sem] theorem ty_sl100 : sliceT Try.prog 100 = none := by kernel_rfl
@[go_sem] theorem ty_ar100 : arrT Try.prog 100 = none := by kernel_rfl
@[go_sem] theorem ty_in100 : intT Try.prog 100 = none := by kernel_rfl
@[go_sem] theorem ty_bo100 : boolT Try.prog 100 = false := by kernel_rfl
@[go_sem] theorem ty_st100 : strT Try.prog 100 = false := by kernel_rfl
@[go_sem] theorem ty_zv100 : zvT Try.prog 100 = some (.data .nilf) := by kernel_rfl
@[go_sem] theorem ty_sz101 : szT Try.prog 101 = some 1 := by kernel_rfl
@[go_sem] theorem ty_by101 : byT Try.prog 101 = some 8 := by kernel_rfl
@[go_sem] theorem ty_ag101 : aggT Try.prog 101 = some false := by kernel_rfl
@[go_sem] theorem ty_un101 : (Try.prog.underlying 101).isSome = true := by kernel_rfl
@[go_sem] theorem ty_ze101 : zeT Try.prog 101 = some [.data .nilf] := by kernel_rfl
@[go_sem] theorem ty_zl101 : zlT Try.prog 101 = some 1 := by kernel_rfl
@[go_sem] theorem ty_sl101 : sliceT Try.prog 101 = none := by kernel_rfl
@[go_sem] theorem ty_ar101 : arrT Try.prog 101 = none := by kernel_rfl
@[go_sem] theorem ty_in101 : intT Try.prog 101 = none := by kernel_rfl
@[go_sem] theorem ty_bo101 : boolT Try.prog 101 = false := by kernel_rfl
@[go_sem] theorem ty_st101 : strT Try.prog 101 = false := by kernel_rfl
@[go_sem] theorem ty_zv101 : zvT Try.prog 101 = some (.data .nilf) := by kernel_rfl
@[go_sem] theorem ty_sz102 : szT Try.prog 102 = some 11 := by kernel_rfl
@[go_sem] theorem ty_by102 : byT Try.prog 102 = some 96 := by kernel_rfl
@[go_sem] theorem ty_ag102 : aggT Try.prog 102 = some true := by kernel_rfl
@[go_sem] theorem ty_un102 : (Try.prog.underlying 102).isSome = true := by kernel_rfl
@[go_sem] theorem ty_ze102 : zeT Try.prog 102 = some [.data (.int .i64 0), .data (.int .i64 0), .data (.int .i64 0), .data (.int .i64 0), .data (.int .i64 0), .data (.int .u32 0), .data (.str ByteArray.empty), .data (.int .u64 0), .data (.int .u64 0), .data (.int .i64 0), .data (.int .i64 0)] := by kernel_rfl
@[go_sem] theorem ty_zl102 : zlT Try.prog 102 = some 11 := by kernel_rfl
@[go_sem] theorem ty_sl102 : sliceT Try.prog 102 = none := by kernel_rfl
@[go_sem] theorem ty_ar102 : arrT Try.prog 102 = none := by kernel_rfl
@[go_sem] theorem ty_in102 : intT Try.prog 102 = none := by kernel_rfl
@[go_sem] theorem ty_bo102 : boolT Try.prog 102 = false := by kernel_rfl
@[go_sem] theorem ty_st102 : strT Try.prog 102 = false := by kernel_rfl
@[go_sem] theorem ty_zv102 : zvT Try.prog 102 = some (.data (.agg [(.int .i64 0), (.int .i64 0), (.int .i64 0), (.int .i64 0), (.int .i64 0), (.int .u32 0), (.str ByteArray.empty), (.int .u64 0), (.int .u64 0), (.int .i64 0), (.int .i64 0)])) := by kernel_rfl
@[go_sem] theorem ty_fl102_0 : fldT Try.prog 102 0 = some (0, 3) := by kernel_rfl
@[go_sem] theorem ty_fl102_1 : fldT Try.prog 102 1 = some (1, 3) := by kernel_rfl
@[go_sem] theorem ty_fl102_2 : fldT Try.prog 102 2 = some (2, 30) := by kernel_rfl
@[go_sem] theorem ty_pl102 : plT Try.prog 102 = some [(0, 1), (1, 1), (2, 9)] := by kernel_rfl
@[go_sem] theorem ty_sz103 : szT Try.prog 103 = some 11 := by kernel_rfl
@[go_sem] theorem ty_by103 : byT Try.prog 103 = some 96 := by kernel_rfl
@[go_sem] theorem ty_ag103 : aggT Try.prog 103 = some true := by kernel_rfl
@[go_sem] theorem ty_un103 : (Try.prog.underlying 103).isSome = true := by kernel_rfl
@[go_sem] theorem ty_ze103 : zeT Try.prog 103 = some [.data (.int .i64 0), .data (.int .i64 0), .data (.int .i64 0), .data (.int .i64 0), .data (.int .i64 0), .data (.int .u32 0), .data (.str ByteArray.empty), .data (.int .u64 0), .data (.int .u64 0), .data (.int .i64 0), .data (.int .i64 0)] := by kernel_rfl
@[go_sem] theorem ty_zl103 : zlT Try.prog 103 = some 11 := by kernel_rfl
@[go_sem] theorem ty_sl103 : sliceT Try.prog 103 = none := by kernel_rfl
@[go_sem] theorem ty_ar103 : arrT Try.prog 103 = none := by kernel_rfl
@[go_sem] theorem ty_in103 : intT Try.prog 103 = none := by kernel_rfl
@[go_sem] theorem ty_bo103 : boolT Try.prog 103 = false := by kernel_rfl
@[go_sem] theorem ty_st103 : strT Try.prog 103 = false := by kernel_rfl
@[go_sem] theorem ty_zv103 : zvT Try.prog 103 = some (.data (.agg [(.int .i64 0), (.int .i64 0), (.int .i64 0), (.int .i64 0), (.int .i64 0), (.int .u32 0), (.str ByteArray.empty), (.int .u64 0), (.int .u64 0), (.int .i64 0), (.int .i64 0)])) := by kernel_rfl
@[go_sem] theorem ty_fl103_0 : fldT Try.prog 103 0 = some (0, 3) := by kernel_rfl
@[go_sem] theorem ty_fl103_1 : fldT Try.prog 103 1 = some (1, 3) := by kernel_rfl
@[go_sem] theorem ty_fl103_2 : fldT Try.prog 103 2 = some (2, 30) := by kernel_rfl
@[go_sem] theorem ty_pl103 : plT Try.prog 103 = some [(0, 1), (1, 1), (2, 9)] := by kernel_rfl
@[go_sem] theorem ty_sz104 : szT Try.prog 104 = some 1 := by kernel_rfl
@[go_sem] theorem ty_by104 : byT Try.prog 104 = some 8 := by kernel_rfl
@[go_sem] theorem ty_ag104 : aggT Try.prog 104 = some false := by kernel_rfl
@[go_sem] theorem ty_un104 : (Try.prog.underlying 104).isSome = true := by kernel_rfl
@[go_sem] theorem ty_ze104 : zeT Try.prog 104 = some [.data .nilf] := by kernel_rfl
@[go_sem] theorem ty_zl104 : zlT Try.prog 104 = some 1 := by kernel_rfl
@[go_sem] theorem ty_sl104 : sliceT Try.prog 104 = none := by kernel_rfl
@[go_sem] theorem ty_ar104 : arrT Try.prog 104 = none := by kernel_rfl
@[go_sem] theorem ty_in104 : intT Try.prog 104 = none := by kernel_rfl
@[go_sem] theorem ty_bo104 : boolT Try.prog 104 = false := by kernel_rfl
@[go_sem] theorem ty_st104 : strT Try.prog 104 = false := by kernel_rfl
@[go_sem] theorem ty_zv104 : zvT Try.prog 104 = some (.data .nilf) := by kernel_rfl
@[go_sem] theorem ty_sz105 : szT Try.prog 105 = some 1 := by kernel_rfl
@[go_sem] theorem ty_by105 : byT Try.prog 105 = some 24 := by kernel_rfl
@[go_sem] theorem ty_ag105 : aggT Try.prog 105 = some false := by kernel_rfl
@[go_sem] theorem ty_un105 : (Try.prog.underlying 105).isSome = true := by kernel_rfl
@[go_sem] theorem ty_ze105 : zeT Try.prog 105 = some [.emp 0] := by kernel_rfl
@[go_sem] theorem ty_zl105 : zlT Try.prog 105 = some 1 := by kernel_rfl
@[go_sem] theorem ty_sl105 : sliceT Try.prog 105 = some 143 := by kernel_rfl
@[go_sem] theorem ty_ar105 : arrT Try.prog 105 = none := by kernel_rfl
@[go_sem] theorem ty_in105 : intT Try.prog 105 = none := by kernel_rfl
@[go_sem] theorem ty_bo105 : boolT Try.prog 105 = false := by kernel_rfl
@[go_sem] theorem ty_st105 : strT Try.prog 105 = false := by kernel_rfl
@[go_sem] theorem ty_zv105 : zvT Try.prog 105 = some (.emp 0) := by kernel_rfl
@[go_sem] theorem ty_sz106 : szT Try.prog 106 = some 1 := by kernel_rfl
@[go_sem] theorem ty_by106 : byT Try.prog 106 = some 8 := by kernel_rfl
@[go_sem] theorem ty_ag106 : aggT Try.prog 106 = some false := by kernel_rfl
@[go_sem] theorem ty_un106 : (Try.prog.underlying 106).isSome = true := by kernel_rfl
@[go_sem] theorem ty_ze106 : zeT Try.prog 106 = some [.data .nilf] := by kernel_rfl
@[go_sem] theorem ty_zl106 : zlT Try.prog 106 = some 1 := by kernel_rfl
@[go_sem] theorem ty_sl106 : sliceT Try.prog 106 = none := by kernel_rfl
@[go_sem] theorem ty_ar106 : arrT Try.prog 106 = none := by kernel_rfl
@[go_sem] theorem ty_in106 : intT Try.prog 106 = none := by kernel_rfl
@[go_sem] theorem ty_bo106 : boolT Try.prog 106 = false := by kernel_rfl
@[go_sem] theorem ty_st106 : strT Try.prog 106 = false := by kernel_rfl
@[go_sem] theorem ty_zv106 : zvT Try.prog 106 = some (.data .nilf) := by kernel_rfl
@[go_sem] theorem ty_sz107 : szT Try.prog 107 = some 1 := by kernel_rfl
@[go_sem] theorem ty_by107 : byT Try.prog 107 = some 8 := by kernel_rfl
@[go_sem] theorem ty_ag107 : aggT Try.prog 107 = some false := by kernel_rfl
@[go_sem] theorem ty_un107 : (Try.prog.underlying 107).isSome = true := by kernel_rfl
@[go_sem] theorem ty_ze107 : zeT Try.prog 107 = some [.data .nilf] := by kernel_rfl
@[go_sem] theorem ty_zl107 : zlT Try.prog 107 = some 1 := by kernel_rfl
@[go_sem] theorem ty_sl107 : sliceT Try.prog 107 = none := by kernel_rfl
@[go_sem] theorem ty_ar107 : arrT Try.prog 107 = none := by kernel_rfl
@[go_sem] theorem ty_in107 : intT Try.prog 107 = none := by kernel_rfl
@[go_sem] theorem ty_bo107 : boolT Try.prog 107 = false := by kernel_rfl
@[go_sem] theorem ty_st107 : strT Try.prog 107 = false := by kernel_rfl
@[go_sem] theorem ty_zv107 : zvT Try.prog 107 = some (.data .nilf) := by kernel_rfl
@[go_sem] theorem ty_sz108 : szT Try.prog 108 = some 1 := by kernel_rfl
@[go_sem] theorem ty_by108 : byT Try.prog 108 = some 8 := by kernel_rfl
@[go_sem] theorem ty_ag108 : aggT Try.prog 108 = some false := by kernel_rfl
@[go_sem] theorem ty_un108 : (Try.prog.underlying 108).isSome = true := by kernel_rfl
@[go_sem] theorem ty_ze108 : zeT Try.prog 108 = some [.data .nilf] := by kernel_rfl
@[go_sem] theorem ty_zl108 : zlT Try.prog 108 = some 1 := by kernel_rfl
@[go_sem] theorem ty_sl108 : sliceT Try.prog 108 = none := by kernel_rfl
@[go_sem] theorem ty_ar108 : arrT Try.prog 108 = none := by kernel_rfl
@[go_sem] theorem ty_in108 : intT Try.prog 108 = none := by kernel_rfl
@[go_sem] theorem ty_bo108 : boolT Try.prog 108 = false := by kernel_rfl
@[go_sem] theorem ty_st108 : strT Try.prog 108 = false := by kernel_rfl
@[go_sem] theorem ty_zv108 : zvT Try.prog 108 = some (.data .nilf) := by kernel_rfl
@[go_sem] theorem ty_sz109 : szT Try.prog 109 = some 1 := by kernel_rfl
@[go_sem] theorem ty_by109 : byT Try.prog 109 = some 8 := by kernel_rfl
@[go_sem] theorem ty_ag109 : aggT Try.prog 109 = some false := by kernel_rfl
@[go_sem] theorem ty_un109 : (Try.prog.underlying 109).isSome = true := by kernel_rfl
@[go_sem] theorem ty_ze109 : zeT Try.prog 109 = some [.data .nilf] := by kernel_rfl
@[go_sem] theorem ty_zl109 : zlT Try.prog 109 = some 1 := by kernel_rfl
@[go_sem] theorem ty_sl109 : sliceT Try.prog 109 = none := by kernel_rfl
@[go_sem] theorem ty_ar109 : arrT Try.prog 109 = none := by kernel_rfl
@[go_sem] theorem ty_in109 : intT Try.prog 109 = none := by kernel_rfl
@[go_sem] theorem ty_bo109 : boolT Try.prog 109 = false := by kernel_rfl
@[go_sem] theorem ty_st109 : strT Try.prog 109 = false := by kernel_rfl
@[go_sem] theorem ty_zv109 : zvT Try.prog 109 = some (.data .nilf) := by kernel_rfl
@[go_sem] theorem ty_sz111 : szT Try.prog 111 = some 1 := by kernel_rfl
@[go_sem] theorem ty_by111 : byT Try.prog 111 = some 8 := by kernel_rfl
@[go_sem] theorem ty_ag111 : aggT Try.prog 111 = some false := by kernel_rfl
@[go_sem] theorem ty_un111 : (Try.prog.underlying 111).isSome = true := by kernel_rfl
@[go_sem] theorem ty_ze111 : zeT Try.prog 111 = some [.data .nilf] := by kernel_rfl
@[go_sem] theorem ty_zl111 : zlT Try.prog 111 = some 1 := by kernel_rfl
@[go_sem] theorem ty_sl111 : sliceT Try.prog 111 = none := by kernel_rfl
@[go_sem] theorem ty_ar111 : arrT Try.prog 111 = none := by kernel_rfl
@[go_sem] theorem ty_in111 : intT Try.prog 111 = none := by kernel_rfl
@[go_sem] theorem ty_bo111 : boolT Try.prog 111 = false := by kernel_rfl
@[go_sem] theorem ty_st111 : strT Try.prog 111 = false := by kernel_rfl
@[go_sem] theorem ty_zv111 : zvT Try.prog 111 = some (.data .nilf) := by kernel_rfl
@[go_sem] theorem ty_sz112 : szT Try.prog 112 = some 1 := by kernel_rfl
@[go_sem] theorem ty_by112 : byT Try.prog 112 = some 8 := by kernel_rfl
@[go_sem] theorem ty_ag112 : aggT Try.prog 112 = some false := by kernel_rfl
@[go_sem] theorem ty_un112 : (Try.prog.underlying 112).isSome = true := by kernel_rfl
@[go_sem] theorem ty_ze112 : zeT Try.prog 112 = some [.data .nilf] := by kernel_rfl
@[go_sem] theorem ty_zl112 : zlT Try.prog 112 = some 1 := by kernel_rfl
@[go_sem] theorem ty_sl112 : sliceT Try.prog 112 = none := by kernel_rfl
@[go_sem] theorem ty_ar112 : arrT Try.prog 112 = none := by kernel_rfl
@[go_sem] theorem ty_in112 : intT Try.prog 112 = none := by kernel_rfl
@[go_sem] theorem ty_bo112 : boolT Try.prog 112 = false := by kernel_rfl
@[go_sem] theorem ty_st112 : strT Try.prog 112 = false := by kernel_rfl
@[go_sem] theorem ty_zv112 : zvT Try.prog 112 = some (.data .nilf) := by kernel_rfl
@[go_sem] theorem ty_sz113 : szT Try.prog 113 = some 1 := by kernel_rfl
@[go_sem] theorem ty_by113 : byT Try.prog 113 = some 8 := by kernel_rfl
@[go_sem] theorem ty_ag113 : aggT Try.prog 113 = some false := by kernel_rfl
@[go_sem] theorem ty_un113 : (Try.prog.underlying 113).isSome = true := by kernel_rfl
@[go_sem] theorem ty_ze113 : zeT Try.prog 113 = some [.data .nilf] := by kernel_rfl
@[go_sem] theorem ty_zl113 : zlT Try.prog 113 = some 1 := by kernel_rfl
@[go_sem] theorem ty_sl113 : sliceT Try.prog 113 = none := by kernel_rfl
@[go_sem] theorem ty_ar113 : arrT Try.prog 113 = none := by kernel_rfl
@[go_sem] theorem ty_in113 : intT Try.prog 113 = none := by kernel_rfl
@[go_sem] theorem ty_bo113 : boolT Try.prog 113 = false := by kernel_rfl
@[go_sem] theorem ty_st113 : strT Try.prog 113 = false := by kernel_rfl
@[go_sem] theorem ty_zv113 : zvT Try.prog 113 = some (.data .nilf) := by kernel_rfl
@[go_sem] theorem ty_sz114 : szT Try.prog 114 = some 1 := by kernel_rfl
@[go_sem] theorem ty_by114 : byT Try.prog 114 = some 8 := by kernel_rfl
@[go_sem] theorem ty_ag114 : aggT Try.prog 114 = some false := by kernel_rfl
@[go_sem] theorem ty_un114 : (Try.prog.underlying 114).isSome = true := by kernel_rfl
@[go_sem] theorem ty_ze114 : zeT Try.prog 114 = some [.data .nilp] := by kernel_rfl
@[go_sem] theorem ty_zl114 : zlT Try.prog 114 = some 1 := by kernel_rfl
@[go_sem] theorem ty_sl114 : sliceT Try.prog 114 = none := by kernel_rfl
@[go_sem] theorem ty_ar114 : arrT Try.prog 114 = none := by kernel_rfl
@[go_sem] theorem ty_in114 : intT Try.prog 114 = none := by kernel_rfl
@[go_sem] theorem ty_bo114 : boolT Try.prog 114 = false := by kernel_rfl
@[go_sem] theorem ty_st114 : strT Try.prog 114 = false := by kernel_rfl
@[go_sem] theorem ty_zv114 : zvT Try.prog 114 = some (.data .nilp) := by kernel_rfl
@[go_sem] theorem ty_sz115 : szT Try.prog 115 = some 1 := by kernel_rfl
@[go_sem] theorem ty_by115 : byT Try.prog 115 = some 8 := by kernel_rfl
@[go_sem] theorem ty_ag115 : aggT Try.prog 115 = some false := by kernel_rfl
@[go_sem] theorem ty_un115 : (Try.prog.underlying 115).isSome = true := by kernel_rfl
@[go_sem] theorem ty_ze115 : zeT Try.prog 115 = some [.data .nilf] := by kernel_rfl
@[go_sem] theorem ty_zl115 : zlT Try.prog 115 = some 1 := by kernel_rfl
@[go_sem] theorem ty_sl115 : sliceT Try.prog 115 = none := by kernel_rfl
@[go_sem] theorem ty_ar115 : arrT Try.prog 115 = none := by kernel_rfl
@[go_sem] theorem ty_in115 : intT Try.prog 115 = none := by kernel_rfl
@[go_sem] theorem ty_bo115 : boolT Try.prog 115 = false := by kernel_rfl
@[go_sem] theorem ty_st115 : strT Try.prog 115 = false := by kernel_rfl
@[go_sem] theorem ty_zv115 : zvT Try.prog 115 = some (.data .nilf) := by kernel_rfl
@[go_sem] theorem ty_sz116 : szT Try.prog 116 = some 1 := by kernel_rfl
@[go_sem] theorem ty_by116 : byT Try.prog 116 = some 8 := by kernel_rfl
@[go_sem] theorem ty_ag116 : aggT Try.prog 116 = some false := by kernel_rfl
@[go_sem] theorem ty_un116 : (Try.prog.underlying 116).isSome = true := by kernel_rfl
@[go_sem] theorem ty_ze116 : zeT Try.prog 116 = some [.data .nilf] := by kernel_rfl
@[go_sem] theorem ty_zl116 : zlT Try.prog 116 = some 1 := by kernel_rfl
@[go_sem] theorem ty_sl116 : sliceT Try.prog 116 = none := by kernel_rfl
@[go_sem] theorem ty_ar116 : arrT Try.prog 116 = none := by kernel_rfl
@[go_sem] theorem ty_in116 : intT Try.prog 116 = none := by kernel_rfl
@[go_sem] theorem ty_bo116 : boolT Try.prog 116 = false := by kernel_rfl
@[go_sem] theorem ty_st116 : strT Try.prog 116 = false := by kernel_rfl
@[go_sem] theorem ty_zv116 : zvT Try.prog 116 = some (.data .nilf) := by kernel_rfl
@[go_sem] theorem ty_sz117 : szT Try.prog 117 = some 1 := by kernel_rfl
@[go_sem] theorem ty_by117 : byT Try.prog 117 = some 8 := by kernel_rfl
@[go_sem] theorem ty_ag117 : aggT Try.prog 117 = some false := by kernel_rfl
@[go_sem] theorem ty_un117 : (Try.prog.underlying 117).isSome = true := by kernel_rfl
@[go_sem] theorem ty_ze117 : zeT Try.prog 117 = some [.data .nilf] := by kernel_rfl
@[go_sem] theorem ty_zl117 : zlT Try.prog 117 = some 1 := by kernel_rfl
@[go_sem] theorem ty_sl117 : sliceT Try.prog 117 = none := by kernel_rfl
@[go_sem] theorem ty_ar117 : arrT Try.prog 117 = none := by kernel_rfl
@[go_sem] theorem ty_in117 : intT Try.prog 117 = none := by kernel_rfl
@[go_sem] theorem ty_bo117 : boolT Try.prog 117 = false := by kernel_rfl
@[go_sem] theorem ty_st117 : strT Try.prog 117 = false := by kernel_rfl
@[go_sem] theorem ty_zv117 : zvT Try.prog 117 = some (.data .nilf) := by kernel_rfl
@[go_sem] theorem ty_sz118 : szT Try.prog 118 = some 1 := by kernel_rfl
@[go_sem] theorem ty_by118 : byT Try.prog 118 = some 8 := by kernel_rfl
@[go_sem] theorem ty_ag118 : aggT Try.prog 118 = some false := by kernel_rfl
@[go_sem] theorem ty_un118 : (Try.prog.underlying 118).isSome = true := by kernel_rfl
@[go_sem] theorem ty_ze118 : zeT Try.prog 118 = some [.data .nilf] := by kernel_rfl
@[go_sem] theorem ty_zl118 : zlT Try.prog 118 = some 1 := by kernel_rfl
@[go_sem] theorem ty_sl118 : sliceT Try.prog 118 = none := by kernel_rfl
@[go_sem] theorem ty_ar118 : arrT Try.prog 118 = none := by kernel_rfl
@[go_sem] theorem ty_in118 : intT Try.prog 118 = none := by kernel_rfl
@[go_sem] theorem ty_bo118 : boolT Try.prog 118 = false := by kernel_rfl
@[go_sem] theorem ty_st118 : strT Try.prog 118 = false := by kernel_rfl
@[go_sem] theorem ty_zv118 : zvT Try.prog 118 = some (.data .nilf) := by kernel_rfl
@[go_sem] theorem ty_sz119 : szT Try.prog 119 = some 1 := by kernel_rfl
@[go_sem] theorem ty_by119 : byT Try.prog 119 = some 8 := by kernel_rfl
@[go_sem] theorem ty_ag119 : aggT Try.prog 119 = some false := by kernel_rfl
@[go_sem] theorem ty_un119 : (Try.prog.underlying 119).isSome = true := by kernel_rfl
@[go_sem] theorem ty_ze119 : zeT Try.prog 119 = some [.data .nilf] := by kernel_rfl
@[go_sem] theorem ty_zl119 : zlT Try.prog 119 = some 1 := by kernel_rfl
@[go_sem] theorem ty_sl119 : sliceT Try.prog 119 = none := by kernel_rfl
@[go_sem] theorem ty_ar119 : arrT Try.prog 119 = none := by kernel_rfl
@[go_sem] theorem ty_in119 : intT Try.prog 119 = none := by kernel_rfl
@[go_sem] theorem ty_bo119 : boolT Try.prog 119 = false := by kernel_rfl
@[go_sem] theorem ty_st119 : strT Try.prog 119 = false := by kernel_rfl
@[go_sem] theorem ty_zv119 : zvT Try.prog 119 = some (.data .nilf) := by kernel_rfl
@[go_sem] theorem ty_sz120 : szT Try.prog 120 = some 1 := by kernel_rfl
@[go_sem] theorem ty_by120 : byT Try.prog 120 = some 8 := by kernel_rfl
@[go_sem] theorem ty_ag120 : aggT Try.prog 120 = some false := by kernel_rfl
@[go_sem] theorem ty_un120 : (Try.prog.underlying 120).isSome = true := by kernel_rfl
@[go_sem] theorem ty_ze120 : zeT Try.prog 120 = some [.data .nilf] := by kernel_rfl
@[go_sem] theorem ty_zl120 : zlT Try.prog 120 = some 1 := by kernel_rfl
@[go_sem] theorem ty_sl120 : sliceT Try.prog 120 = none := by kernel_rfl
@[go_sem] theorem ty_ar120 : arrT Try.prog 120 = none := by kernel_rfl
@[go_sem] theorem ty_in120 : intT Try.prog 120 = none := by kernel_rfl
@[go_sem] theorem ty_bo120 : boolT Try.prog 120 = false := by kernel_rfl
@[go_sem] theorem ty_st120 : strT Try.prog 120 = false := by kernel_rfl
@[go_sem] theorem ty_zv120 : zvT Try.prog 120 = some (.data .nilf) := by kernel_rfl
@[go_sem] theorem ty_sz121 : szT Try.prog 121 = some 1 := by kernel_rfl
@[go_sem] theorem ty_by121 : byT Try.prog 121 = some 8 := by kernel_rfl
@[go_sem] theorem ty_ag121 : aggT Try.prog 121 = some false := by kernel_rfl
@[go_sem] theorem ty_un121 : (Try.prog.underlying 121).isSome = true := by kernel_rfl
@[go_sem] theorem ty_ze121 : zeT Try.prog 121 = some [.data .nilf] := by kernel_rfl
@[go_sem] theorem ty_zl121 : zlT Try.prog 121 = some 1 := by kernel_rfl
@[go_sem] theorem ty_sl121 : sliceT Try.prog 121 = none := by kernel_rfl
@[go_sem] theorem ty_ar121 : arrT Try.prog 121 = none := by kernel_rfl
@[go_sem] theorem ty_in121 : intT Try.prog 121 = none := by kernel_rfl
@[go_sem] theorem ty_bo121 : boolT Try.prog 121 = false := by kernel_rfl
@[go_sem] theorem ty_st121 : strT Try.prog 121 = false := by kernel_rfl
@[go_sem] theorem ty_zv121 : zvT Try.prog 121 = some (.data .nilf) := by kernel_rfl
@[go_sem] theorem ty_sz122 : szT Try.prog 122 = some 1 := by kernel_rfl
@[go_sem] theorem ty_by122 : byT Try.prog 122 = some 8 := by kernel_rfl
@[go_sem] theorem ty_ag122 : aggT Try.prog 122 = some false := by kernel_rfl
@[go_sem] theorem ty_un122 : (Try.prog.underlying 122).isSome = true := by kernel_rfl
@[go_sem] theorem ty_ze122 : zeT Try.prog 122 = some [.data .nilf] := by kernel_rfl
@[go_sem] theorem ty_zl122 : zlT Try.prog 122 = some 1 := by kernel_rfl
@[go_sem] theorem ty_sl122 : sliceT Try.prog 122 = none := by kernel_rfl
@[go_sem] theorem ty_ar122 : arrT Try.prog 122 = none := by kernel_rfl
@[go_sem] theorem ty_in122 : intT Try.prog 122 = none := by kernel_rfl
@[go_sem] theorem ty_bo122 : boolT Try.prog 122 = false := by kernel_rfl
@[go_sem] theorem ty_st122 : strT Try.prog 122 = false := by kernel_rfl
@[go_sem] theorem ty_zv122 : zvT Try.prog 122 = some (.data .nilf) := by kernel_rfl
@[go_sem] theorem ty_sz123 : szT Try.prog 123 = some 1 := by kernel_rfl
@[go_sem] theorem ty_by123 : byT Try.prog 123 = some 8 := by kernel_rfl
@[go_sem] theorem ty_ag123 : aggT Try.prog 123 = some false := by kernel_rfl
@[go_sem] theorem ty_un123 : (Try.prog.underlying 123).isSome = true := by kernel_rfl
@[go_sem] theorem ty_ze123 : zeT Try.prog 123 = some [.data .nilf] := by kernel_rfl
@[go_sem] theorem ty_zl123 : zlT Try.prog 123 = some 1 := by kernel_rfl
@[go_sem] theorem ty_sl123 : sliceT Try.prog 123 = none := by kernel_rfl
@[go_sem] theorem ty_ar123 : arrT Try.prog 123 = none := by kernel_rfl
@[go_sem] theorem ty_in123 : intT Try.prog 123 = none := by kernel_rfl
@[go_sem] theorem ty_bo123 : boolT Try.prog 123 = false := by kernel_rfl
@[go_sem] theorem ty_st123 : strT Try.prog 123 = false := by kernel_rfl
@[go_sem] theorem ty_zv123 : zvT Try.prog 123 = some (.data .nilf) := by kernel_rfl
@[go_sem] theorem ty_sz124 : szT Try.prog 124 = some 1 := by kernel_rfl
@[go_sem] theorem ty_by124 : byT Try.prog 124 = some 8 := by kernel_rfl
@[go_sem] theorem ty_ag124 : aggT Try.prog 124 = some false := by kernel_rfl
@[go_sem] theorem ty_un124 : (Try.prog.underlying 124).isSome = true := by kernel_rfl
@[go_sem] theorem ty_ze124 : zeT Try.prog 124 = some [.data .nilf] := by kernel_rfl
@[go_sem] theorem ty_zl124 : zlT Try.prog 124 = some 1 := by kernel_rfl
@[go_sem] theorem ty_sl124 : sliceT Try.prog 124 = none := by kernel_rfl
@[go_sem] theorem ty_ar124 : arrT Try.prog 124 = none := by kernel_rfl
@[go_sem] theorem ty_in124 : intT Try.prog 124 = none := by kernel_rfl
@[go_sem] theorem ty_bo124 : boolT Try.prog 124 = false := by kernel_rfl
@[go_sem] theorem ty_st124 : strT Try.prog 124 = false := by kernel_rfl
@[go_sem] theorem ty_zv124 : zvT Try.prog 124 = some (.data .nilf) := by kernel_rfl
@[go_sem] theorem ty_sz125 : szT Try.prog 125 = some 1 := by kernel_rfl
@[go_sem] theorem ty_by125 : byT Try.prog 125 = some 8 := by kernel_rfl
@[go_sem] theorem ty_ag125 : aggT Try.prog 125 = some false := by kernel_rfl
@[go_sem] theorem ty_un125 : (Try.prog.underlying 125).isSome = true := by kernel_rfl
@[go_sem] theorem ty_ze125 : zeT Try.prog 125 = some [.data .nilf] := by kernel_rfl
@[go_sem] theorem ty_zl125 : zlT Try.prog 125 = some 1 := by kernel_rfl
@[go_sem] theorem ty_sl125 : sliceT Try.prog 125 = none := by kernel_rfl
@[go_sem] theorem ty_ar125 : arrT Try.prog 125 = none := by kernel_rfl
@[go_sem] theorem ty_in125 : intT Try.prog 125 = none := by kernel_rfl
@[go_sem] theorem ty_bo125 : boolT Try.prog 125 = false := by kernel_rfl
@[go_sem] theorem ty_st125 : strT Try.prog 125 = false := by kernel_rfl
@[go_sem] theorem ty_zv125 : zvT Try.prog 125 = some (.data .nilf) := by kernel_rfl
@[go_sem] theorem ty_sz126 : szT Try.prog 126 = some 1 := by kernel_rfl
@[go_sem] theorem ty_by126 : byT Try.prog 126 = some 8 := by kernel_rfl
@[go_sem] theorem ty_ag126 : aggT Try.prog 126 = some false := by kernel_rfl
@[go_sem] theorem ty_un126 : (Try.prog.underlying 126).isSome = true := by kernel_rfl
@[go_sem] theorem ty_ze126 : zeT Try.prog 126 = some [.data .nilf] := by kernel_rfl
@[go_sem] theorem ty_zl126 : zlT Try.prog 126 = some 1 := by kernel_rfl
@[go_sem] theorem ty_sl126 : sliceT Try.prog 126 = none := by kernel_rfl
@[go_sem] theorem ty_ar126 : arrT Try.prog 126 = none := by kernel_rfl
@[go_sem] theorem ty_in126 : intT Try.prog 126 = none := by kernel_rfl
@[go_sem] theorem ty_bo126 : boolT Try.prog 126 = false := by kernel_rfl
@[go_sem] theorem ty_st126 : strT Try.prog 126 = false := by kernel_rfl
@[go_sem] theorem ty_zv126 : zvT Try.prog 126 = some (.data .nilf) := by kernel_rfl
@[go_sem] theorem ty_sz127 : szT Try.prog 127 = some 1 := by kernel_rfl
@[go_sem] theorem ty_by127 : byT Try.prog 127 = some 8 := by kernel_rfl
@[go_sem] theorem ty_ag127 : aggT Try.prog 127 = some false := by kernel_rfl
@[go_sem] theorem ty_un127 : (Try.prog.underlying 127).isSome = true := by kernel_rfl
@[go_sem] theorem ty_ze127 : zeT Try.prog 127 = some [.data .nilf] := by kernel_rfl
@[go_sem] theorem ty_zl127 : zlT Try.prog 127 = some 1 := by kernel_rfl
@[go_sem] theorem ty_sl127 : sliceT Try.prog 127 = none := by kernel_rfl
@[go_sem] theorem ty_ar127 : arrT Try.prog 127 = none := by kernel_rfl
@[go_sem] theorem ty_in127 : intT Try.prog 127 = none := by kernel_rfl
@[go_sem] theorem ty_bo127 : boolT Try.prog 127 = false := by kernel_rfl
@[go_sem] theorem ty_st127 : strT Try.prog 127 = false := by kernel_rfl
@[go_sem] theorem ty_zv127 : zvT Try.prog 127 = some (.data .nilf) := by kernel_rfl
@[go_sem] theorem ty_sz128 : szT Try.prog 128 = some 1 := by kernel_rfl
@[go_sem] theorem ty_by128 : byT Try.prog 128 = some 8 := by kernel_rfl
@[go_sem] theorem ty_ag128 : aggT Try.prog 128 = some false := by kernel_rfl
@[go_sem] theorem ty_un128 : (Try.prog.underlying 128).isSome = true := by kernel_rfl
@[go_sem] theorem ty_ze128 : zeT Try.prog 128 = some [.data .nilf] := by kernel_rfl
@[go_sem] theorem ty_zl128 : zlT Try.prog 128 = some 1 := by kernel_rfl
@[go_sem] theorem ty_sl128 : sliceT Try.prog 128 = none := by kernel_rfl
@[go_sem] theorem ty_ar128 : arrT Try.prog 128 = none := by kernel_rfl
@[go_sem] theorem ty_in128 : intT Try.prog 128 = none := by kernel_rfl
@[go_sem] theorem ty_bo128 : boolT Try.prog 128 = false := by kernel_rfl
@[go_sem] theorem ty_st128 : strT Try.prog 128 = false := by kernel_rfl
@[go_sem] theorem ty_zv128 : zvT Try.prog 128 = some (.data .nilf) := by kernel_rfl
@[go_sem] theorem ty_sz129 : szT Try.prog 129 = some 1 := by kernel_rfl
@[go_sem] theorem ty_by129 : byT Try.prog 129 = some 8 := by kernel_rfl
@[go_sem] theorem ty_ag129 : aggT Try.prog 129 = some false := by kernel_rfl
@[go_sem] theorem ty_un129 : (Try.prog.underlying 129).isSome = true := by kernel_rfl
@[go_sem] theorem ty_ze129 : zeT Try.prog 129 = some [.data .nilf] := by kernel_rfl
@[go_sem] theorem ty_zl129 : zlT Try.prog 129 = some 1 := by kernel_rfl
@[go_sem] theorem ty_sl129 : sliceT Try.prog 129 = none := by kernel_rfl
@[go_sem] theorem ty_ar129 : arrT Try.prog 129 = none := by kernel_rfl
@[go_sem] theorem ty_in129 : intT Try.prog 129 = none := by kernel_rfl
@[go_sem] theorem ty_bo129 : boolT Try.prog 129 = false := by kernel_rfl
@[go_sem] theorem ty_st129 : strT Try.prog 129 = false := by kernel_rfl
@[go_sem] theorem ty_zv129 : zvT Try.prog 129 = some (.data .nilf) := by kernel_rfl
@[go_sem] theorem ty_sz130 : szT Try.prog 130 = some 1 := by kernel_rfl
@[go_sem] theorem ty_by130 : byT Try.prog 130 = some 8 := by kernel_rfl
@[go_sem] theorem ty_ag130 : aggT Try.prog 130 = some false := by kernel_rfl
@[go_sem] theorem ty_un130 : (Try.prog.underlying 130).isSome = true := by kernel_rfl
@[go_sem] theorem ty_ze130 : zeT Try.prog 130 = some [.data .nilf] := by kernel_rfl
@[go_sem] theorem ty_zl130 : zlT Try.prog 130 = some 1 := by kernel_rfl
@[go_sem] theorem ty_sl130 : sliceT Try.prog 130 = none := by kernel_rfl
@[go_sem] theorem ty_ar130 : arrT Try.prog 130 = none := by kernel_rfl
@[go_sem] theorem ty_in130 : intT Try.prog 130 = none := by kernel_rfl
@[go_sem] theorem ty_bo130 : boolT Try.prog 130 = false := by kernel_rfl
@[go_sem] theorem ty_st130 : strT Try.prog 130 = false := by kernel_rfl
@[go_sem] theorem ty_zv130 : zvT Try.prog 130 = some (.data .nilf) := by kernel_rfl
@[go_sem] theorem ty_sz131 : szT Try.prog 131 = some 1 := by kernel_rfl
@[go_sem] theorem ty_by131 : byT Try.prog 131 = some 8 := by kernel_rfl
@[go_sem] theorem ty_ag131 : aggT Try.prog 131 = some false := by kernel_rfl
@[go_sem] theorem ty_un131 : (Try.prog.underlying 131).isSome = true := by kernel_rfl
@[go_sem] theorem ty_ze131 : zeT Try.prog 131 = some [.data .nilf] := by kernel_rfl
@[go_sem] theorem ty_zl131 : zlT Try.prog 131 = some 1 := by kernel_rfl
@[go_sem] theorem ty_sl131 : sliceT Try.prog 131 = none := by kernel_rfl
@[go_sem] theorem ty_ar131 : arrT Try.prog 131 = none := by kernel_rfl
@[go_sem] theorem ty_in131 : intT Try.prog 131 = none := by kernel_rfl
@[go_sem] theorem ty_bo131 : boolT Try.prog 131 = false := by kernel_rfl
@[go_sem] theorem ty_st131 : strT Try.prog 131 = false := by kernel_rfl
@[go_sem] theorem ty_zv131 : zvT Try.prog 131 = some (.data .nilf) := by kernel_rfl
@[go_sem] theorem ty_sz132 : szT Try.prog 132 = some 1 := by kernel_rfl
@[go_sem] theorem ty_by132 : byT Try.prog 132 = some 8 := by kernel_rfl
@[go_sem] theorem ty_ag132 : aggT Try.prog 132 = some false := by kernel_rfl
@[go_sem] theorem ty_un132 : (Try.prog.underlying 132).isSome = true := by kernel_rfl
@[go_sem] theorem ty_ze132 : zeT Try.prog 132 = some [.data .nilf] := by kernel_rfl
@[go_sem] theorem ty_zl132 : zlT Try.prog 132 = some 1 := by kernel_rfl
@[go_sem] theorem ty_sl132 : sliceT Try.prog 132 = none := by kernel_rfl
@[go_sem] theorem ty_ar132 : arrT Try.prog 132 = none := by kernel_rfl
@[go_sem] theorem ty_in132 : intT Try.prog 132 = none := by kernel_rfl
@[go_sem] theorem ty_bo132 : boolT Try.prog 132 = false := by kernel_rfl
@[go_sem] theorem ty_st132 : strT Try.prog 132 = false := by kernel_rfl
@[go_sem] theorem ty_zv132 : zvT Try.prog 132 = some (.data .nilf) := by kernel_rfl
@[go_sem] theorem ty_sz133 : szT Try.prog 133 = some 1 := by kernel_rfl
@[go_sem] theorem ty_by133 : byT Try.prog 133 = some 8 := by kernel_rfl
@[go_sem] theorem ty_ag133 : aggT Try.prog 133 = some false := by kernel_rfl
@[go_sem] theorem ty_un133 : (Try.prog.underlying 133).isSome = true := by kernel_rfl
@[go_sem] theorem ty_ze133 : zeT Try.prog 133 = some [.data .nilp] := by kernel_rfl
@[go_sem] theorem ty_zl133 : zlT Try.prog 133 = some 1 := by kernel_rfl
@[go_sem] theorem ty_sl133 : sliceT Try.prog 133 = none := by kernel_rfl
@[go_sem] theorem ty_ar133 : arrT Try.prog 133 = none := by kernel_rfl
@[go_sem] theorem ty_in133 : intT Try.prog 133 = none := by kernel_rfl
@[go_sem] theorem ty_bo133 : boolT Try.prog 133 = false := by kernel_rfl
@[go_sem] theorem ty_st133 : strT Try.prog 133 = false := by kernel_rfl
@[go_sem] theorem ty_zv133 : zvT Try.prog 133 = some (.data .nilp) := by kernel_rfl
@[go_sem] theorem ty_sz134 : szT Try.prog 134 = some 1 := by kernel_rfl
@[go_sem] theorem ty_by134 : byT Try.prog 134 = some 8 := by kernel_rfl
@[go_sem] theorem ty_ag134 : aggT Try.prog 134 = some false := by kernel_rfl
@[go_sem] theorem ty_un134 : (Try.prog.underlying 134).isSome = true := by kernel_rfl
@[go_sem] theorem ty_ze134 : zeT Try.prog 134 = some [.junk] := by kernel_rfl
@[go_sem] theorem ty_zl134 : zlT Try.prog 134 = some 1 := by kernel_rfl
@[go_sem] theorem ty_sl134 : sliceT Try.prog 134 = none := by kernel_rfl
@[go_sem] theorem ty_ar134 : arrT Try.prog 134 = none := by kernel_rfl
@[go_sem] theorem ty_in134 : intT Try.prog 134 = none := by kernel_rfl
@[go_sem] theorem ty_bo134 : boolT Try.prog 134 = false := by kernel_rfl
@[go_sem] theorem ty_st134 : strT Try.prog 134 = false := by kernel_rfl
@[go_sem] theorem ty_mp134 : mapT Try.prog 134 = some (3, 46) := by kernel_rfl
@[go_sem] theorem ty_zv134 : zvT Try.prog 134 = some (.junk) := by kernel_rfl
@[go_sem] theorem ty_sz136 : szT Try.prog 136 = some 1 := by kernel_rfl
@[go_sem] theorem ty_by136 : byT Try.prog 136 = some 8 := by kernel_rfl
@[go_sem] theorem ty_ag136 : aggT Try.prog 136 = some false := by kernel_rfl
@[go_sem] theorem ty_un136 : (Try.prog.underlying 136).isSome = true := by kernel_rfl
@[go_sem] theorem ty_ze136 : zeT Try.prog 136 = some [.data .nilf] := by kernel_rfl
@[go_sem] theorem ty_zl136 : zlT Try.prog 136 = some 1 := by kernel_rfl
@[go_sem] theorem ty_sl136 : sliceT Try.prog 136 = none := by kernel_rfl
@[go_sem] theorem ty_ar136 : arrT Try.prog 136 = none := by kernel_rfl
@[go_sem] theorem ty_in136 : intT Try.prog 136 = none := by kernel_rfl
@[go_sem] theorem ty_bo136 : boolT Try.prog 136 = false := by kernel_rfl
@[go_sem] theorem ty_st136 : strT Try.prog 136 = false := by kernel_rfl
@[go_sem] theorem ty_zv136 : zvT Try.prog 136 = some (.data .nilf) := by kernel_rfl
@[go_sem] theorem ty_sz138 : szT Try.prog 138 = some 1 := by kernel_rfl
@[go_sem] theorem ty_by138 : byT Try.prog 138 = some 8 := by kernel_rfl
@[go_sem] theorem ty_ag138 : aggT Try.prog 138 = some false := by kernel_rfl
@[go_sem] theorem ty_un138 : (Try.prog.underlying 138).isSome = true := by kernel_rfl
@[go_sem] theorem ty_ze138 : zeT Try.prog 138 = some [.data .nilf] := by kernel_rfl
@[go_sem] theorem ty_zl138 : zlT Try.prog 138 = some 1 := by kernel_rfl
@[go_sem] theorem ty_sl138 : sliceT Try.prog 138 = none := by kernel_rfl
@[go_sem] theorem ty_ar138 : arrT Try.prog 138 = none := by kernel_rfl
@[go_sem] theorem ty_in138 : intT Try.prog 138 = none := by kernel_rfl
@[go_sem] theorem ty_bo138 : boolT Try.prog 138 = false := by kernel_rfl
@[go_sem] theorem ty_st138 : strT Try.prog 138 = false := by kernel_rfl
@[go_sem] theorem ty_zv138 : zvT Try.prog 138 = some (.data .nilf) := by kernel_rfl
@[go_sem] theorem ty_sz139 : szT Try.prog 139 = some 1 := by kernel_rfl
@[go_sem] theorem ty_by139 : byT Try.prog 139 = some 8 := by kernel_rfl
@[go_sem] theorem ty_ag139 : aggT Try.prog 139 = some false := by kernel_rfl
@[go_sem] theorem ty_un139 : (Try.prog.underlying 139).isSome = true := by kernel_rfl
@[go_sem] theorem ty_ze139 : zeT Try.prog 139 = some [.data .nilf] := by kernel_rfl
@[go_sem] theorem ty_zl139 : zlT Try.prog 139 = some 1 := by kernel_rfl
@[go_sem] theorem ty_sl139 : sliceT Try.prog 139 = none := by kernel_rfl
@[go_sem] theorem ty_ar139 : arrT Try.prog 139 = none := by kernel_rfl
@[go_sem] theorem ty_in139 : intT Try.prog 139 = none := by kernel_rfl
@[go_sem] theorem ty_bo139 : boolT Try.prog 139 = false := by kernel_rfl
@[go_sem] theorem ty_st139 : strT Try.prog 139 = false := by kernel_rfl
@[go_sem] theorem ty_zv139 : zvT Try.prog 139 = some (.data .nilf) := by kernel_rfl
@[go_sem] theorem ty_sz140 : szT Try.prog 140 = some 1 := by kernel_rfl
@[go_sem] theorem ty_by140 : byT Try.prog 140 = some 8 := by kernel_rfl
@[go_sem] theorem ty_ag140 : aggT Try.prog 140 = some false := by kernel_rfl
@[go_sem] theorem ty_un140 : (Try.prog.underlying 140).isSome = true := by kernel_rfl
@[go_sem] theorem ty_ze140 : zeT Try.prog 140 = some [.data .nilf] := by kernel_rfl
@[go_sem] theorem ty_zl140 : zlT Try.prog 140 = some 1 := by kernel_rfl
@[go_sem] theorem ty_sl140 : sliceT Try.prog 140 = none := by kernel_rfl
@[go_sem] theorem ty_ar140 : arrT Try.prog 140 = none := by kernel_rfl
@[go_sem] theorem ty_in140 : intT Try.prog 140 = none := by kernel_rfl
@[go_sem] theorem ty_bo140 : boolT Try.prog 140 = false := by kernel_rfl
@[go_sem] theorem ty_st140 : strT Try.prog 140 = false := by kernel_rfl
@[go_sem] theorem ty_zv140 : zvT Try.prog 140 = some (.data .nilf) := by kernel_rfl
@[go_sem] theorem ty_sz141 : szT Try.prog 141 = some 1 := by kernel_rfl
@[go_sem] theorem ty_by141 : byT Try.prog 141 = some 8 := by kernel_rfl
@[go_sem] theorem ty_ag141 : aggT Try.prog 141 = some false := by kernel_rfl
@[go_sem] theorem ty_un141 : (Try.prog.underlying 141).isSome = true := by kernel_rfl
@[go_sem] theorem ty_ze141 : zeT Try.prog 141 = some [.data .nilf] := by kernel_rfl
@[go_sem] theorem ty_zl141 : zlT Try.prog 141 = some 1 := by kernel_rfl
@[go_sem] theorem ty_sl141 : sliceT Try.prog 141 = none := by kernel_rfl
@[go_sem] theorem ty_ar141 : arrT Try.prog 141 = none := by kernel_rfl
@[go_sem] theorem ty_in141 : intT Try.prog 141 = none := by kernel_rfl
@[go_sem] theorem ty_bo141 : boolT Try.prog 141 = false := by kernel_rfl
@[go_sem] theorem ty_st141 : strT Try.prog 141 = false := by kernel_rfl
@[go_sem] theorem ty_zv141 : zvT Try.prog 141 = some (.data .nilf) := by kernel_rfl
@[go_sem] theorem ty_sz142 : szT Try.prog 142 = some 1 := by kernel_rfl
@[go_sem] theorem ty_by142 : byT Try.prog 142 = some 16 := by kernel_rfl
@[go_sem] theorem ty_ag142 : aggT Try.prog 142 = some false := by kernel_rfl
@[go_sem] theorem ty_un142 : (Try.prog.underlying 142).isSome = true := by kernel_rfl
@[go_sem] theorem ty_ze142 : zeT Try.prog 142 = some [.data .nili] := by kernel_rfl
@[go_sem] theorem ty_zl142 : zlT Try.prog 142 = some 1 := by kernel_rfl
@[go_sem] theorem ty_sl142 : sliceT Try.prog 142 = none := by kernel_rfl
@[go_sem] theorem ty_ar142 : arrT Try.prog 142 = none := by kernel_rfl
@[go_sem] theorem ty_in142 : intT Try.prog 142 = none := by kernel_rfl
@[go_sem] theorem ty_bo142 : boolT Try.prog 142 = false := by kernel_rfl
@[go_sem] theorem ty_st142 : strT Try.prog 142 = false := by kernel_rfl
@[go_sem] theorem ty_zv142 : zvT Try.prog 142 = some (.data .nili) := by kernel_rfl
@[go_sem] theorem ty_sz143 : szT Try.prog 143 = some 1 := by kernel_rfl
@[go_sem] theorem ty_by143 : byT Try.prog 143 = some 16 := by kernel_rfl
@[go_sem] theorem ty_ag143 : aggT Try.prog 143 = some false := by kernel_rfl
@[go_sem] theorem ty_un143 : (Try.prog.underlying 143).isSome = true := by kernel_rfl
@[go_sem] theorem ty_ze143 : zeT Try.prog 143 = some [.data .nili] := by kernel_rfl
@[go_sem] theorem ty_zl143 : zlT Try.prog 143 = some 1 := by kernel_rfl
@[go_sem] theorem ty_sl143 : sliceT Try.prog 143 = none := by kernel_rfl
@[go_sem] theorem ty_ar143 : arrT Try.prog 143 = none := by kernel_rfl
@[go_sem] theorem ty_in143 : intT Try.prog 143 = none := by kernel_rfl
@[go_sem] theorem ty_bo143 : boolT Try.prog 143 = false := by kernel_rfl
@[go_sem] theorem ty_st143 : strT Try.prog 143 = false := by kernel_rfl
@[go_sem] theorem ty_zv143 : zvT Try.prog 143 = some (.data .nili) := by kernel_rfl
@[go_sem] theorem ty_sz144 : szT Try.prog 144 = some 1 := by kernel_rfl
@[go_sem] theorem ty_by144 : byT Try.prog 144 = some 8 := by kernel_rfl
@[go_sem] theorem ty_ag144 : aggT Try.prog 144 = some false := by kernel_rfl
@[go_sem] theorem ty_un144 : (Try.prog.underlying 144).isSome = true := by kernel_rfl
@[go_sem] theorem ty_ze144 : zeT Try.prog 144 = some [.data .nilf] := by kernel_rfl
@[go_sem] theorem ty_zl144 : zlT Try.prog 144 = some 1 := by kernel_rfl
@[go_sem] theorem ty_sl144 : sliceT Try.prog 144 = none := by kernel_rfl
@[go_sem] theorem ty_ar144 : arrT Try.prog 144 = none := by kernel_rfl
@[go_sem] theorem ty_in144 : intT Try.prog 144 = none := by kernel_rfl
@[go_sem] theorem ty_bo144 : boolT Try.prog 144 = false := by kernel_rfl
@[go_sem] theorem ty_st144 : strT Try.prog 144 = false := by kernel_rfl
@[go_sem] theorem ty_zv144 : zvT Try.prog 144 = some (.data .nilf) := by kernel_rfl
@[go_sem] theorem ty_sz145 : szT Try.prog 145 = some 2 := by kernel_rfl
@[go_sem] theorem ty_by145 : byT Try.prog 145 = some 16 := by kernel_rfl
@[go_sem] theorem ty_ag145 : aggT Try.prog 145 = some true := by kernel_rfl
@[go_sem] theorem ty_un145 : (Try.prog.underlying 145).isSome = true := by kernel_rfl
@[go_sem] theorem ty_ze145 : zeT Try.prog 145 = some [.data (.int .i64 0), .data (.int .u64 0)] := by kernel_rfl
@[go_sem] theorem ty_zl145 : zlT Try.prog 145 = some 2 := by kernel_rfl
@[go_sem] theorem ty_sl145 : sliceT Try.prog 145 = none := by kernel_rfl
@[go_sem] theorem ty_ar145 : arrT Try.prog 145 = none := by kernel_rfl
@[go_sem] theorem ty_in145 : intT Try.prog 145 = none := by kernel_rfl
@[go_sem] theorem ty_bo145 : boolT Try.prog 145 = false := by kernel_rfl
@[go_sem] theorem ty_st145 : strT Try.prog 145 = false := by kernel_rfl
@[go_sem] theorem ty_zv145 : zvT Try.prog 145 = some (.data (.agg [(.int .i64 0), (.int .u64 0)])) := by kernel_rfl
@[go_sem] theorem ty_fl145_0 : fldT Try.prog 145 0 = some (0, 3) := by kernel_rfl
@[go_sem] theorem ty_fl145_1 : fldT Try.prog 145 1 = some (1, 28) := by kernel_rfl
@[go_sem] theorem ty_pl145 : plT Try.prog 145 = some [(0, 1), (1, 1)] := by kernel_rfl
@[go_sem] theorem ty_sz146 : szT Try.prog 146 = some 2 := by kernel_rfl
@[go_sem] theorem ty_by146 : byT Try.prog 146 = some 16 := by kernel_rfl
@[go_sem] theorem ty_ag146 : aggT Try.prog 146 = some true := by kernel_rfl
@[go_sem] theorem ty_un146 : (Try.prog.underlying 146).isSome = true := by kernel_rfl
@[go_sem] theorem ty_ze146 : zeT Try.prog 146 = some [.data (.int .i64 0), .data (.int .u64 0)] := by kernel_rfl
@[go_sem] theorem ty_zl146 : zlT Try.prog 146 = some 2 := by kernel_rfl
@[go_sem] theorem ty_sl146 : sliceT Try.prog 146 = none := by kernel_rfl
@[go_sem] theorem ty_ar146 : arrT Try.prog 146 = none := by kernel_rfl
@[go_sem] theorem ty_in146 : intT Try.prog 146 = none := by kernel_rfl
@[go_sem] theorem ty_bo146 : boolT Try.prog 146 = false := by kernel_rfl
@[go_sem] theorem ty_st146 : strT Try.prog 146 = false := by kernel_rfl
@[go_sem] theorem ty_zv146 : zvT Try.prog 146 = some (.data (.agg [(.int .i64 0), (.int .u64 0)])) := by kernel_rfl
@[go_sem] theorem ty_fl146_0 : fldT Try.prog 146 0 = some (0, 3) := by kernel_rfl
@[go_sem] theorem ty_fl146_1 : fldT Try.prog 146 1 = some (1, 28) := by kernel_rfl
@[go_sem] theorem ty_pl146 : plT Try.prog 146 = some [(0, 1), (1, 1)] := by kernel_rfl
@[go_sem] theorem ty_sz147 : szT Try.prog 147 = some 1 := by kernel_rfl
@[go_sem] theorem ty_by147 : byT Try.prog 147 = some 8 := by kernel_rfl
@[go_sem] theorem ty_ag147 : aggT Try.prog 147 = some false := by kernel_rfl
@[go_sem] theorem ty_un147 : (Try.prog.underlying 147).isSome = true := by kernel_rfl
@[go_sem] theorem ty_ze147 : zeT Try.prog 147 = some [.data .nilf] := by kernel_rfl
@[go_sem] theorem ty_zl147 : zlT Try.prog 147 = some 1 := by kernel_rfl
@[go_sem] theorem ty_sl147 : sliceT Try.prog 147 = none := by kernel_rfl
@[go_sem] theorem ty_ar147 : arrT Try.prog 147 = none := by kernel_rfl
@[go_sem] theorem ty_in147 : intT Try.prog 147 = none := by kernel_rfl
@[go_sem] theorem ty_bo147 : boolT Try.prog 147 = false := by kernel_rfl
@[go_sem] theorem ty_st147 : strT Try.prog 147 = false := by kernel_rfl
@[go_sem] theorem ty_zv147 : zvT Try.prog 147 = some (.data .nilf) := by kernel_rfl
@[go_sem] theorem ty_sz148 : szT Try.prog 148 = some 1 := by kernel_rfl
@[go_sem] theorem ty_by148 : byT Try.prog 148 = some 8 := by kernel_rfl
@[go_sem] theorem ty_ag148 : aggT Try.prog 148 = some false := by kernel_rfl
@[go_sem] theorem ty_un148 : (Try.prog.underlying 148).isSome = true := by kernel_rfl
@[go_sem] theorem ty_ze148 : zeT Try.prog 148 = some [.data .nilf] := by kernel_rfl
@[go_sem] theorem ty_zl148 : zlT Try.prog 148 = some 1 := by kernel_rfl
@[go_sem] theorem ty_sl148 : sliceT Try.prog 148 = none := by kernel_rfl
@[go_sem] theorem ty_ar148 : arrT Try.prog 148 = none := by kernel_rfl
@[go_sem] theorem ty_in148 : intT Try.prog 148 = none := by kernel_rfl
@[go_sem] theorem ty_bo148 : boolT Try.prog 148 = false := by kernel_rfl
@[go_sem] theorem ty_st148 : strT Try.prog 148 = false := by kernel_rfl
@[go_sem] theorem ty_zv148 : zvT Try.prog 148 = some (.data .nilf) := by kernel_rfl
@[go_sem] theorem ty_sz149 : szT Try.prog 149 = some 1 := by kernel_rfl
@[go_sem] theorem ty_by149 : byT Try.prog 149 = some 8 := by kernel_rfl
@[go_sem] theorem ty_ag149 : aggT Try.prog 149 = some false := by kernel_rfl
@[go_sem] theorem ty_un149 : (Try.prog.underlying 149).isSome = true := by kernel_rfl
@[go_sem] theorem ty_ze149 : zeT Try.prog 149 = some [.data .nilf] := by kernel_rfl
@[go_sem] theorem ty_zl149 : zlT Try.prog 149 = some 1 := by kernel_rfl
@[go_sem] theorem ty_sl149 : sliceT Try.prog 149 = none := by kernel_rfl
@[go_sem] theorem ty_ar149 : arrT Try.prog 149 = none := by kernel_rfl
@[go_sem] theorem ty_in149 : intT Try.prog 149 = none := by kernel_rfl
@[go_sem] theorem ty_bo149 : boolT Try.prog 149 = false := by kernel_rfl
@[go_sem] theorem ty_st149 : strT Try.prog 149 = false := by kernel_rfl
@[go_sem] theorem ty_zv149 : zvT Try.prog 149 = some (.data .nilf) := by kernel_rfl
@[go_sem] theorem ty_sz150 : szT Try.prog 150 = some 1 := by kernel_rfl
@[go_sem] theorem ty_by150 : byT Try.prog 150 = some 16 := by kernel_rfl
@[go_sem] theorem ty_ag150 : aggT Try.prog 150 = some false := by kernel_rfl
@[go_sem] theorem ty_un150 : (Try.prog.underlying 150).isSome = true := by kernel_rfl
@[go_sem] theorem ty_ze150 : zeT Try.prog 150 = some [.data (.str ByteArray.empty)] := by kernel_rfl
@[go_sem] theorem ty_zl150 : zlT Try.prog 150 = some 1 := by kernel_rfl
@[go_sem] theorem ty_sl150 : sliceT Try.prog 150 = none := by kernel_rfl
@[go_sem] theorem ty_ar150 : arrT Try.prog 150 = none := by kernel_rfl
@[go_sem] theorem ty_in150 : intT Try.prog 150 = none := by kernel_rfl
@[go_sem] theorem ty_bo150 : boolT Try.prog 150 = false := by kernel_rfl
@[go_sem] theorem ty_st150 : strT Try.prog 150 = true := by kernel_rfl
@[go_sem] theorem ty_ks150 (s : ByteArray) : keyT Try.prog 150 (.str s) = true := by kernel_rfl
@[go_sem] theorem ty_zv150 : zvT Try.prog 150 = some (.data (.str ByteArray.empty)) := by kernel_rfl
@[go_sem] theorem ty_sz151 : szT Try.prog 151 = some 1 := by kernel_rfl
@[go_sem] theorem ty_by151 : byT Try.prog 151 = some 8 := by kernel_rfl
@[go_sem] theorem ty_ag151 : aggT Try.prog 151 = some false := by kernel_rfl
@[go_sem] theorem ty_un151 : (Try.prog.underlying 151).isSome = true := by kernel_rfl
@[go_sem] theorem ty_ze151 : zeT Try.prog 151 = some [.data .nilf] := by kernel_rfl
@[go_sem] theorem ty_zl151 : zlT Try.prog 151 = some 1 := by kernel_rfl
@[go_sem] theorem ty_sl151 : sliceT Try.prog 151 = none := by kernel_rfl
@[go_sem] theorem ty_ar151 : arrT Try.prog 151 = none := by kernel_rfl
@[go_sem] theorem ty_in151 : intT Try.prog 151 = none := by kernel_rfl
@[go_sem] theorem ty_bo151 : boolT Try.prog 151 = false := by kernel_rfl
@[go_sem] theorem ty_st151 : strT Try.prog 151 = false := by kernel_rfl
@[go_sem] theorem ty_zv151 : zvT Try.prog 151 = some (.data .nilf) := by kernel_rfl
@[go_sem] theorem ty_sz152 : szT Try.prog 152 = some 1 := by kernel_rfl
@[go_sem] theorem ty_by152 : byT Try.prog 152 = some 24 := by kernel_rfl
@[go_sem] theorem ty_ag152 : aggT Try.prog 152 = some true := by kernel_rfl
@[go_sem] theorem ty_un152 : (Try.prog.underlying 152).isSome = true := by kernel_rfl
@[go_sem] theorem ty_ze152 : zeT Try.prog 152 = some [.emp 0] := by kernel_rfl
@[go_sem] theorem ty_zl152 : zlT Try.prog 152 = some 1 := by kernel_rfl
@[go_sem] theorem ty_sl152 : sliceT Try.prog 152 = none := by kernel_rfl
@[go_sem] theorem ty_ar152 : arrT Try.prog 152 = none := by kernel_rfl
@[go_sem] theorem ty_in152 : intT Try.prog 152 = none := by kernel_rfl
@[go_sem] theorem ty_bo152 : boolT Try.prog 152 = false := by kernel_rfl
@[go_sem] theorem ty_st152 : strT Try.prog 152 = false := by kernel_rfl
@[go_sem] theorem ty_zv152 : zvT Try.prog 152 = some (.agg [.emp 0]) := by kernel_rfl
@[go_sem] theorem ty_fl152_0 : fldT Try.prog 152 0 = some (0, 54) := by kernel_rfl
@[go_sem] theorem ty_pl152 : plT Try.prog 152 = some [(0, 1)] := by kernel_rfl
@[go_sem] theorem ty_sz153 : szT Try.prog 153 = some 1 := by kernel_rfl
@[go_sem] theorem ty_by153 : byT Try.prog 153 = some 24 := by kernel_rfl
@[go_sem] theorem ty_ag153 : aggT Try.prog 153 = some true := by kernel_rfl
@[go_sem] theorem ty_un153 : (Try.prog.underlying 153).isSome = true := by kernel_rfl
@[go_sem] theorem ty_ze153 : zeT Try.prog 153 = some [.emp 0] := by kernel_rfl
@[go_sem] theorem ty_zl153 : zlT Try.prog 153 = some 1 := by kernel_rfl
@[go_sem] theorem ty_sl153 : sliceT Try.prog 153 = none := by kernel_rfl
@[go_sem] theorem ty_ar153 : arrT Try.prog 153 = none := by kernel_rfl
@[go_sem] theorem ty_in153 : intT Try.prog 153 = none := by kernel_rfl
@[go_sem] theorem ty_bo153 : boolT Try.prog 153 = false := by kernel_rfl
@[go_sem] theorem ty_st153 : strT Try.prog 153 = false := by kernel_rfl
@[go_sem] theorem ty_zv153 : zvT Try.prog 153 = some (.agg [.emp 0]) := by kernel_rfl
@[go_sem] theorem ty_fl153_0 : fldT Try.prog 153 0 = some (0, 54) := by kernel_rfl
@[go_sem] theorem ty_pl153 : plT Try.prog 153 = some [(0, 1)] := by kernel_rfl
@[go_sem] theorem ty_sz154 : szT Try.prog 154 = some 1 := by kernel_rfl
@[go_sem] theorem ty_by154 : byT Try.prog 154 = some 8 := by kernel_rfl
@[go_sem] theorem ty_ag154 : aggT Try.prog 154 = some false := by kernel_rfl
@[go_sem] theorem ty_un154 : (Try.prog.underlying 154).isSome = true := by kernel_rfl
@[go_sem] theorem ty_ze154 : zeT Try.prog 154 = some [.data .nilf] := by kernel_rfl
@[go_sem] theorem ty_zl154 : zlT Try.prog 154 = some 1 := by kernel_rfl
@[go_sem] theorem ty_sl154 : sliceT Try.prog 154 = none := by kernel_rfl
@[go_sem] theorem ty_ar154 : arrT Try.prog 154 = none := by kernel_rfl
@[go_sem] theorem ty_in154 : intT Try.prog 154 = none := by kernel_rfl
@[go_sem] theorem ty_bo154 : boolT Try.prog 154 = false := by kernel_rfl
@[go_sem] theorem ty_st154 : strT Try.prog 154 = false := by kernel_rfl
@[go_sem] theorem ty_zv154 : zvT Try.prog 154 = some (.data .nilf) := by kernel_rfl
@[go_sem] theorem ty_sz155 : szT Try.prog 155 = some 1 := by kernel_rfl
@[go_sem] theorem ty_by155 : byT Try.prog 155 = some 8 := by kernel_rfl
@[go_sem] theorem ty_ag155 : aggT Try.prog 155 = some false := by kernel_rfl
@[go_sem] theorem ty_un155 : (Try.prog.underlying 155).isSome = true := by kernel_rfl
@[go_sem] theorem ty_ze155 : zeT Try.prog 155 = some [.data .nilf] := by kernel_rfl
@[go_sem] theorem ty_zl155 : zlT Try.prog 155 = some 1 := by kernel_rfl
@[go_sem] theorem ty_sl155 : sliceT Try.prog 155 = none := by kernel_rfl
@[go_sem] theorem ty_ar155 : arrT Try.prog 155 = none := by kernel_rfl
@[go_sem] theorem ty_in155 : intT Try.prog 155 = none := by kernel_rfl
@[go_sem] theorem ty_bo155 : boolT Try.prog 155 = false := by kernel_rfl
@[go_sem] theorem ty_st155 : strT Try.prog 155 = false := by kernel_rfl
@[go_sem] theorem ty_zv155 : zvT Try.prog 155 = some (.data .nilf) := by kernel_rfl
@[go_sem] theorem ty_sz156 : szT Try.prog 156 = some 1 := by kernel_rfl
@[go_sem] theorem ty_by156 : byT Try.prog 156 = some 8 := by kernel_rfl
@[go_sem] theorem ty_ag156 : aggT Try.prog 156 = some false := by kernel_rfl
@[go_sem] theorem ty_un156 : (Try.prog.underlying 156).isSome = true := by kernel_rfl
@[go_sem] theorem ty_ze156 : zeT Try.prog 156 = some [.data .nilf] := by kernel_rfl
@[go_sem] theorem ty_zl156 : zlT Try.prog 156 = some 1 := by kernel_rfl
@[go_sem] theorem ty_sl156 : sliceT Try.prog 156 = none := by kernel_rfl
@[go_sem] theorem ty_ar156 : arrT Try.prog 156 = none := by kernel_rfl
@[go_sem] theorem ty_in156 : intT Try.prog 156 = none := by kernel_rfl
@[go_sem] theorem ty_bo156 : boolT Try.prog 156 = false := by kernel_rfl
@[go_sem] theorem ty_st156 : strT Try.prog 156 = false := by kernel_rfl
@[go_sem] theorem ty_zv156 : zvT Try.prog 156 = some (.data .nilf) := by kernel_rfl
@[go_sem] theorem ty_sz157 : szT Try.prog 157 = some 1 := by kernel_rfl
@[go_sem] theorem ty_by157 : byT Try.prog 157 = some 8 := by kernel_rfl
@[go_sem] theorem ty_ag157 : aggT Try.prog 157 = some false := by kernel_rfl
@[go_sem] theorem ty_un157 : (Try.prog.underlying 157).isSome = true := by kernel_rfl
@[go_sem] theorem ty_ze157 : zeT Try.prog 157 = some [.data .nilf] := by kernel_rfl
@[go_sem] theorem ty_zl157 : zlT Try.prog 157 = some 1 := by kernel_rfl
@[go_sem] theorem ty_sl157 : sliceT Try.prog 157 = none := by kernel_rfl
@[go_sem] theorem ty_ar157 : arrT Try.prog 157 = none := by kernel_rfl
@[go_sem] theorem ty_in157 : intT Try.prog 157 = none := by kernel_rfl
@[go_sem] theorem ty_bo157 : boolT Try.prog 157 = false := by kernel_rfl
@[go_sem] theorem ty_st157 : strT Try.prog 157 = false := by kernel_rfl
@[go_sem] theorem ty_zv157 : zvT Try.prog 157 = some (.data .nilf) := by kernel_rfl
@[go_sem] theorem ty_sz158 : szT Try.prog 158 = some 1 := by kernel_rfl
@[go_sem] theorem ty_by158 : byT Try.prog 158 = some 8 := by kernel_rfl
@[go_sem] theorem ty_ag158 : aggT Try.prog 158 = some false := by kernel_rfl
@[go_sem] theorem ty_un158 : (Try.prog.underlying 158).isSome = true := by kernel_rfl
@[go_sem] theorem ty_ze158 : zeT Try.prog 158 = some [.data .nilf] := by kernel_rfl
@[go_sem] theorem ty_zl158 : zlT Try.prog 158 = some 1 := by kernel_rfl
@[go_sem] theorem ty_sl158 : sliceT Try.prog 158 = none := by kernel_rfl
@[go_sem] theorem ty_ar158 : arrT Try.prog 158 = none := by kernel_rfl
@[go_sem] theorem ty_in158 : intT Try.prog 158 = none := by kernel_rfl
@[go_sem] theorem ty_bo158 : boolT Try.prog 158 = false := by kernel_rfl
@[go_sem] theorem ty_st158 : strT Try.prog 158 = false := by kernel_rfl
@[go_sem] theorem ty_zv158 : zvT Try.prog 158 = some (.data .nilf) := by kernel_rfl
@[go_sem] theorem ty_sz159 : szT Try.prog 159 = some 1 := by kernel_rfl
@[go_sem] theorem ty_by159 : byT Try.prog 159 = some 8 := by kernel_rfl
@[go_sem] theorem ty_ag159 : aggT Try.prog 159 = some false := by kernel_rfl
@[go_sem] theorem ty_un159 : (Try.prog.underlying 159).isSome = true := by kernel_rfl
@[go_sem] theorem ty_ze159 : zeT Try.prog 159 = some [.data .nilf] := by kernel_rfl
@[go_sem] theorem ty_zl159 : zlT Try.prog 159 = some 1 := by kernel_rfl
@[go_sem] theorem ty_sl159 : sliceT Try.prog 159 = none := by kernel_rfl
@[go_sem] theorem ty_ar159 : arrT Try.prog 159 = none := by kernel_rfl
@[go_sem] theorem ty_in159 : intT Try.prog 159 = none := by kernel_rfl
@[go_sem] theorem ty_bo159 : boolT Try.prog 159 = false := by kernel_rfl
@[go_sem] theorem ty_st159 : strT Try.prog 159 = false := by kernel_rfl
@[go_sem] theorem ty_zv159 : zvT Try.prog 159 = some (.data .nilf) := by kernel_rfl
@[go_sem] theorem ty_sz160 : szT Try.prog 160 = some 1 := by kernel_rfl
@[go_sem] theorem ty_by160 : byT Try.prog 160 = some 8 := by kernel_rfl
@[go_sem] theorem ty_ag160 : aggT Try.prog 160 = some false := by kernel_rfl
@[go_sem] theorem ty_un160 : (Try.prog.underlying 160).isSome = true := by kernel_rfl
@[go_sem] theorem ty_ze160 : zeT Try.prog 160 = some [.data .nilf] := by kernel_rfl
@[go_sem] theorem ty_zl160 : zlT Try.prog 160 = some 1 := by kernel_rfl
@[go_sem] theorem ty_sl160 : sliceT Try.prog 160 = none := by kernel_rfl
@[go_sem] theorem ty_ar160 : arrT Try.prog 160 = none := by kernel_rfl
@[go_sem] theorem ty_in160 : intT Try.prog 160 = none := by kernel_rfl
@[go_sem] theorem ty_bo160 : boolT Try.prog 160 = false := by kernel_rfl
@[go_sem] theorem ty_st160 : strT Try.prog 160 = false := by kernel_rfl
@[go_sem] theorem ty_zv160 : zvT Try.prog 160 = some (.data .nilf) := by kernel_rfl
@[go_sem] theorem ty_sz161 : szT Try.prog 161 = some 1 := by kernel_rfl
@[go_sem] theorem ty_by161 : byT Try.prog 161 = some 8 := by kernel_rfl
@[go_sem] theorem ty_ag161 : aggT Try.prog 161 = some false := by kernel_rfl
@[go_sem] theorem ty_un161 : (Try.prog.underlying 161).isSome = true := by kernel_rfl
@[go_sem] theorem ty_ze161 : zeT Try.prog 161 = some [.data .nilf] := by kernel_rfl
@[go_sem] theorem ty_zl161 : zlT Try.prog 161 = some 1 := by kernel_rfl
@[go_sem] theorem ty_sl161 : sliceT Try.prog 161 = none := by kernel_rfl
@[go_sem] theorem ty_ar161 : arrT Try.prog 161 = none := by kernel_rfl
@[go_sem] theorem ty_in161 : intT Try.prog 161 = none := by kernel_rfl
@[go_sem] theorem ty_bo161 : boolT Try.prog 161 = false := by kernel_rfl
@[go_sem] theorem ty_st161 : strT Try.prog 161 = false := by kernel_rfl
@[go_sem] theorem ty_zv161 : zvT Try.prog 161 = some (.data .nilf) := by kernel_rfl
@[go_sem] theorem ty_sz162 : szT Try.prog 162 = some 1 := by kernel_rfl
@[go_sem] theorem ty_by162 : byT Try.prog 162 = some 8 := by kernel_rfl
@[go_sem] theorem ty_ag162 : aggT Try.prog 162 = some false := by kernel_rfl
@[go_sem] theorem ty_un162 : (Try.prog.underlying 162).isSome = true := by kernel_rfl
@[go_sem] theorem ty_ze162 : zeT Try.prog 162 = some [.data .nilf] := by kernel_rfl
@[go_sem] theorem ty_zl162 : zlT Try.prog 162 = some 1 := by kernel_rfl
@[go_sem] theorem ty_sl162 : sliceT Try.prog 162 = none := by kernel_rfl
@[go_sem] theorem ty_ar162 : arrT Try.prog 162 = none := by kernel_rfl
@[go_sem] theorem ty_in162 : intT Try.prog 162 = none := by kernel_rfl
@[go_sem] theorem ty_bo162 : boolT Try.prog 162 = false := by kernel_rfl
@[go_sem] theorem ty_st162 : strT Try.prog 162 = false := by kernel_rfl
@[go_sem] theorem ty_zv162 : zvT Try.prog 162 = some (.data .nilf) := by kernel_rfl
@[go_sem] theorem ty_sz163 : szT Try.prog 163 = some 1 := by kernel_rfl
@[go_sem] theorem ty_by163 : byT Try.prog 163 = some 8 := by kernel_rfl
@[go_sem] theorem ty_ag163 : aggT Try.prog 163 = some false := by kernel_rfl
@[go_sem] theorem ty_un163 : (Try.prog.underlying 163).isSome = true := by kernel_rfl
@[go_sem] theorem ty_ze163 : zeT Try.prog 163 = some [.data .nilf] := by kernel_rfl
@[go_sem] theorem ty_zl163 : zlT Try.prog 163 = some 1 := by kernel_rfl
@[go_sem] theorem ty_sl163 : sliceT Try.prog 163 = none := by kernel_rfl
@[go_sem] theorem ty_ar163 : arrT Try.prog 163 = none := by kernel_rfl
@[go_sem] theorem ty_in163 : intT Try.prog 163 = none := by kernel_rfl
@[go_sem] theorem ty_bo163 : boolT Try.prog 163 = false := by kernel_rfl
@[go_sem] theorem ty_st163 : strT Try.prog 163 = false := by kernel_rfl
@[go_sem] theorem ty_zv163 : zvT Try.prog 163 = some (.data .nilf) := by kernel_rfl
@[go_sem] theorem ty_sz164 : szT Try.prog 164 = some 1 := by kernel_rfl
@[go_sem] theorem ty_by164 : byT Try.prog 164 = some 8 := by kernel_rfl
@[go_sem] theorem ty_ag164 : aggT Try.prog 164 = some false := by kernel_rfl
@[go_sem] theorem ty_un164 : (Try.prog.underlying 164).isSome = true := by kernel_rfl
@[go_sem] theorem ty_ze164 : zeT Try.prog 164 = some [.data .nilf] := by kernel_rfl
@[go_sem] theorem ty_zl164 : zlT Try.prog 164 = some 1 := by kernel_rfl
@[go_sem] theorem ty_sl164 : sliceT Try.prog 164 = none := by kernel_rfl
@[go_sem] theorem ty_ar164 : arrT Try.prog 164 = none := by kernel_rfl
@[go_sem] theorem ty_in164 : intT Try.prog 164 = none := by kernel_rfl
@[go_sem] theorem ty_bo164 : boolT Try.prog 164 = false := by kernel_rfl
@[go_sem] theorem ty_st164 : strT Try.prog 164 = false := by kernel_rfl
@[go_sem] theorem ty_zv164 : zvT Try.prog 164 = some (.data .nilf) := by kernel_rfl
@[go_sem] theorem ty_sz165 : szT Try.prog 165 = some 1 := by kernel_rfl
@[go_sem] theorem ty_by165 : byT Try.prog 165 = some 8 := by kernel_rfl
@[go_sem] theorem ty_ag165 : aggT Try.prog 165 = some false := by kernel_rfl
@[go_sem] theorem ty_un165 : (Try.prog.underlying 165).isSome = true := by kernel_rfl
@[go_sem] theorem ty_ze165 : zeT Try.prog 165 = some [.data .nilf] := by kernel_rfl
@[go_sem] theorem ty_zl165 : zlT Try.prog 165 = some 1 := by kernel_rfl
@[go_sem] theorem ty_sl165 : sliceT Try.prog 165 = none := by kernel_rfl
@[go_sem] theorem ty_ar165 : arrT Try.prog 165 = none := by kernel_rfl
@[go_sem] theorem ty_in165 : intT Try.prog 165 = none := by kernel_rfl
@[go_sem] theorem ty_bo165 : boolT Try.prog 165 = false := by kernel_rfl
@[go_sem] theorem ty_st165 : strT Try.prog 165 = false := by kernel_rfl
@[go_sem] theorem ty_zv165 : zvT Try.prog 165 = some (.data .nilf) := by kernel_rfl
@[go_sem] theorem ty_sz166 : szT Try.prog 166 = some 1 := by kernel_rfl
@[go_sem] theorem ty_by166 : byT Try.prog 166 = some 8 := by kernel_rfl
@[go_sem] theorem ty_ag166 : aggT Try.prog 166 = some false := by kernel_rfl
@[go_sem] theorem ty_un166 : (Try.prog.underlying 166).isSome = true := by kernel_rfl
@[go_sem] theorem ty_ze166 : zeT Try.prog 166 = some [.data .nilf] := by kernel_rfl
@[go_sem] theorem ty_zl166 : zlT Try.prog 166 = some 1 := by kernel_rfl
@[go_sem] theorem ty_sl166 : sliceT Try.prog 166 = none := by kernel_rfl
@[go_sem] theorem ty_ar166 : arrT Try.prog 166 = none := by kernel_rfl
@[go_sem] theorem ty_in166 : intT Try.prog 166 = none := by kernel_rfl
@[go_sem] theorem ty_bo166 : boolT Try.prog 166 = false := by kernel_rfl
@[go_sem] theorem ty_st166 : strT Try.prog 166 = false := by kernel_rfl
@[go_sem] theorem ty_zv166 : zvT Try.prog 166 = some (.data .nilf) := by kernel_rfl
@[go_sem] theorem ty_sz167 : szT Try.prog 167 = some 1 := by kernel_rfl
@[go_sem] theorem ty_by167 : byT Try.prog 167 = some 8 := by kernel_rfl
@[go_sem] theorem ty_ag167 : aggT Try.prog 167 = some false := by kernel_rfl
@[go_sem] theorem ty_un167 : (Try.prog.underlying 167).isSome = true := by kernel_rfl
@[go_sem] theorem ty_ze167 : zeT Try.prog 167 = some [.data .nilf] := by kernel_rfl
@[go_sem] theorem ty_zl167 : zlT Try.prog 167 = some 1 := by kernel_rfl
@[go_sem] theorem ty_sl167 : sliceT Try.prog 167 = none := by kernel_rfl
@[go_sem] theorem ty_ar167 : arrT Try.prog 167 = none := by kernel_rfl
@[go_sem] theorem ty_in167 : intT Try.prog 167 = none := by kernel_rfl
@[go_sem] theorem ty_bo167 : boolT Try.prog 167 = false := by kernel_rfl
@[go_sem] theorem ty_st167 : strT Try.prog 167 = false := by kernel_rfl
@[go_sem] theorem ty_zv167 : zvT Try.prog 167 = some (.data .nilf) := by kernel_rfl
@[go_sem] theorem ty_sz168 : szT Try.prog 168 = some 1 := by kernel_rfl
@[go_sem] theorem ty_by168 : byT Try.prog 168 = some 8 := by kernel_rfl
@[go_sem] theorem ty_ag168 : aggT Try.prog 168 = some false := by kernel_rfl
@[go_sem] theorem ty_un168 : (Try.prog.underlying 168).isSome = true := by kernel_rfl
@[go_sem] theorem ty_ze168 : zeT Try.prog 168 = some [.data .nilf] := by kernel_rfl
@[go_sem] theorem ty_zl168 : zlT Try.prog 168 = some 1 := by kernel_rfl
@[go_sem] theorem ty_sl168 : sliceT Try.prog 168 = none := by kernel_rfl
@[go_sem] theorem ty_ar168 : arrT Try.prog 168 = none := by kernel_rfl
@[go_sem] theorem ty_in168 : intT Try.prog 168 = none := by kernel_rfl
@[go_sem] theorem ty_bo168 : boolT Try.prog 168 = false := by kernel_rfl
@[go_sem] theorem ty_st168 : strT Try.prog 168 = false := by kernel_rfl
@[go_sem] theorem ty_zv168 : zvT Try.prog 168 = some (.data .nilf) := by kernel_rfl
@[go_sem] theorem ty_sz169 : szT Try.prog 169 = some 1 := by kernel_rfl
@[go_sem] theorem ty_by169 : byT Try.prog 169 = some 8 := by kernel_rfl
@[go_sem] theorem ty_ag169 : aggT Try.prog 169 = some false := by kernel_rfl
@[go_sem] theorem ty_un169 : (Try.prog.underlying 169).isSome = true := by kernel_rfl
@[go_sem] theorem ty_ze169 : zeT Try.prog 169 = some [.data .nilf] := by kernel_rfl
@[go_sem] theorem ty_zl169 : zlT Try.prog 169 = some 1 := by kernel_rfl
@[go_sem] theorem ty_sl169 : sliceT Try.prog 169 = none := by kernel_rfl
@[go_sem] theorem ty_ar169 : arrT Try.prog 169 = none := by kernel_rfl
@[go_sem] theorem ty_in169 : intT Try.prog 169 = none := by kernel_rfl
@[go_sem] theorem ty_bo169 : boolT Try.prog 169 = false := by kernel_rfl
@[go_sem] theorem ty_st169 : strT Try.prog 169 = false := by kernel_rfl
@[go_sem] theorem ty_zv169 : zvT Try.prog 169 = some (.data .nilf) := by kernel_rfl
@[go_sem] theorem ty_sz170 : szT Try.prog 170 = some 1 := by kernel_rfl
@[go_sem] theorem ty_by170 : byT Try.prog 170 = some 8 := by kernel_rfl
@[go_sem] theorem ty_ag170 : aggT Try.prog 170 = some false := by kernel_rfl
@[go_sem] theorem ty_un170 : (Try.prog.underlying 170).isSome = true := by kernel_rfl
@[go_sem] theorem ty_ze170 : zeT Try.prog 170 = some [.data .nilf] := by kernel_rfl
@[go_sem] theorem ty_zl170 : zlT Try.prog 170 = some 1 := by kernel_rfl
@[go_sem] theorem ty_sl170 : sliceT Try.prog 170 = none := by kernel_rfl
@[go_sem] theorem ty_ar170 : arrT Try.prog 170 = none := by kernel_rfl
@[go_sem] theorem ty_in170 : intT Try.prog 170 = none := by kernel_rfl
@[go_sem] theorem ty_bo170 : boolT Try.prog 170 = false := by kernel_rfl
@[go_sem] theorem ty_st170 : strT Try.prog 170 = false := by kernel_rfl
@[go_sem] theorem ty_zv170 : zvT Try.prog 170 = some (.data .nilf) := by kernel_rfl
@[go_sem] theorem ty_sz171 : szT Try.prog 171 = some 1 := by kernel_rfl
@[go_sem] theorem ty_by171 : byT Try.prog 171 = some 8 := by kernel_rfl
@[go_sem] theorem ty_ag171 : aggT Try.prog 171 = some false := by kernel_rfl
@[go_sem] theorem ty_un171 : (Try.prog.underlying 171).isSome = true := by kernel_rfl
@[go_sem] theorem ty_ze171 : zeT Try.prog 171 = some [.data .nilf] := by kernel_rfl
@[go_sem] theorem ty_zl171 : zlT Try.prog 171 = some 1 := by kernel_rfl
@[go_sem] theorem ty_sl171 : sliceT Try.prog 171 = none := by kernel_rfl
@[go_sem] theorem ty_ar171 : arrT Try.prog 171 = none := by kernel_rfl
@[go_sem] theorem ty_in171 : intT Try.prog 171 = none := by kernel_rfl
@[go_sem] theorem ty_bo171 : boolT Try.prog 171 = false := by kernel_rfl
@[go_sem] theorem ty_st171 : strT Try.prog 171 = false := by kernel_rfl
@[go_sem] theorem ty_zv171 : zvT Try.prog 171 = some (.data .nilf) := by kernel_rfl
@[go_sem] theorem ty_sz172 : szT Try.prog 172 = some 1 := by kernel_rfl
@[go_sem] theorem ty_by172 : byT Try.prog 172 = some 8 := by kernel_rfl
@[go_sem] theorem ty_ag172 : aggT Try.prog 172 = some false := by kernel_rfl
@[go_sem] theorem ty_un172 : (Try.prog.underlying 172).isSome = true := by kernel_rfl
@[go_sem] theorem ty_ze172 : zeT Try.prog 172 = some [.data .nilf] := by kernel_rfl
@[go_sem] theorem ty_zl172 : zlT Try.prog 172 = some 1 := by kernel_rfl
@[go_sem] theorem ty_sl172 : sliceT Try.prog 172 = none := by kernel_rfl
@[go_sem] theorem ty_ar172 : arrT Try.prog 172 = none := by kernel_rfl
@[go_sem] theorem ty_in172 : intT Try.prog 172 = none := by kernel_rfl
@[go_sem] theorem ty_bo172 : boolT Try.prog 172 = false := by kernel_rfl
@[go_sem] theorem ty_st172 : strT Try.prog 172 = false := by kernel_rfl
@[go_sem] theorem ty_zv172 : zvT Try.prog 172 = some (.data .nilf) := by kernel_rfl
@[go_sem] theorem ty_sz173 : szT Try.prog 173 = some 1 := by kernel_rfl
@[go_sem] theorem ty_by173 : byT Try.prog 173 = some 8 := by kernel_rfl
@[go_sem] theorem ty_ag173 : aggT Try.prog 173 = some false := by kernel_rfl
@[go_sem] theorem ty_un173 : (Try.prog.underlying 173).isSome = true := by kernel_rfl
@[go_sem] theorem ty_ze173 : zeT Try.prog 173 = some [.data .nilf] := by kernel_rfl
@[go_sem] theorem ty_zl173 : zlT Try.prog 173 = some 1 := by kernel_rfl
@[go_sem] theorem ty_sl173 : sliceT Try.prog 173 = none := by kernel_rfl
@[go_sem] theorem ty_ar173 : arrT Try.prog 173 = none := by kernel_rfl
@[go_sem] theorem ty_in173 : intT Try.prog 173 = none := by kernel_rfl
@[go_sem] theorem ty_bo173 : boolT Try.prog 173 = false := by kernel_rfl
@[go_sem] theorem ty_st173 : strT Try.prog 173 = false := by kernel_rfl
@[go_sem] theorem ty_zv173 : zvT Try.prog 173 = some (.data .nilf) := by kernel_rfl
@[go_sem] theorem ty_sz174 : szT Try.prog 174 = some 1 := by kernel_rfl
@[go_sem] theorem ty_by174 : byT Try.prog 174 = some 8 := by kernel_rfl
@[go_sem] theorem ty_ag174 : aggT Try.prog 174 = some false := by kernel_rfl
@[go_sem] theorem ty_un174 : (Try.prog.underlying 174).isSome = true := by kernel_rfl
@[go_sem] theorem ty_ze174 : zeT Try.prog 174 = some [.data .nilf] := by kernel_rfl
@[go_sem] theorem ty_zl174 : zlT Try.prog 174 = some 1 := by kernel_rfl
@[go_sem] theorem ty_sl174 : sliceT Try.prog 174 = none := by kernel_rfl
@[go_sem] theorem ty_ar174 : arrT Try.prog 174 = none := by kernel_rfl
@[go_sem] theorem ty_in174 : intT Try.prog 174 = none := by kernel_rfl
@[go_sem] theorem ty_bo174 : boolT Try.prog 174 = false := by kernel_rfl
@[go_sem] theorem ty_st174 : strT Try.prog 174 = false := by kernel_rfl
@[go_sem] theorem ty_zv174 : zvT Try.prog 174 = some (.data .nilf) := by kernel_rfl
@[go_sem] theorem ty_sz175 : szT Try.prog 175 = some 1 := by kernel_rfl
@[go_sem] theorem ty_by175 : byT Try.prog 175 = some 8 := by kernel_rfl
@[go_sem] theorem ty_ag175 : aggT Try.prog 175 = some false := by kernel_rfl
@[go_sem] theorem ty_un175 : (Try.prog.underlying 175).isSome = true := by kernel_rfl
@[go_sem] theorem ty_ze175 : zeT Try.prog 175 = some [.data .nilf] := by kernel_rfl
@[go_sem] theorem ty_zl175 : zlT Try.prog 175 = some 1 := by kernel_rfl
@[go_sem] theorem ty_sl175 : sliceT Try.prog 175 = none := by kernel_rfl
@[go_sem] theorem ty_ar175 : arrT Try.prog 175 = none := by kernel_rfl
@[go_sem] theorem ty_in175 : intT Try.prog 175 = none := by kernel_rfl
@[go_sem] theorem ty_bo175 : boolT Try.prog 175 = false := by kernel_rfl
@[go_sem] theorem ty_st175 : strT Try.prog 175 = false := by kernel_rfl
@[go_sem] theorem ty_zv175 : zvT Try.prog 175 = some (.data .nilf) := by kernel_rfl
@[go_sem] theorem ty_sz176 : szT Try.prog 176 = some 1 := by kernel_rfl
@[go_sem] theorem ty_by176 : byT Try.prog 176 = some 8 := by kernel_rfl
@[go_sem] theorem ty_ag176 : aggT Try.prog 176 = some false := by kernel_rfl
@[go_sem] theorem ty_un176 : (Try.prog.underlying 176).isSome = true := by kernel_rfl
@[go_sem] theorem ty_ze176 : zeT Try.prog 176 = some [.data .nilf] := by kernel_rfl
@[go_sem] theorem ty_zl176 : zlT Try.prog 176 = some 1 := by kernel_rfl
@[go_sem] theorem ty_sl176 : sliceT Try.prog 176 = none := by kernel_rfl
@[go_sem] theorem ty_ar176 : arrT Try.prog 176 = none := by kernel_rfl
@[go_sem] theorem ty_in176 : intT Try.prog 176 = none := by kernel_rfl
@[go_sem] theorem ty_bo176 : boolT Try.prog 176 = false := by kernel_rfl
@[go_sem] theorem ty_st176 : strT Try.prog 176 = false := by kernel_rfl
@[go_sem] theorem ty_zv176 : zvT Try.prog 176 = some (.data .nilf) := by kernel_rfl
@[go_sem] theorem ty_sz177 : szT Try.prog 177 = some 1 := by kernel_rfl
@[go_sem] theorem ty_by177 : byT Try.prog 177 = some 8 := by kernel_rfl
@[go_sem] theorem ty_ag177 : aggT Try.prog 177 = some false := by kernel_rfl
@[go_sem] theorem ty_un177 : (Try.prog.underlying 177).isSome = true := by kernel_rfl
@[go_sem] theorem ty_ze177 : zeT Try.prog 177 = some [.data (.int .u64 0)] := by kernel_rfl
@[go_sem] theorem ty_zl177 : zlT Try.prog 177 = some 1 := by kernel_rfl
@[go_sem] theorem ty_sl177 : sliceT Try.prog 177 = none := by kernel_rfl
@[go_sem] theorem ty_ar177 : arrT Try.prog 177 = none := by kernel_rfl
@[go_sem] theorem ty_in177 : intT Try.prog 177 = some .u64 := by kernel_rfl
@[go_sem] theorem ty_bo177 : boolT Try.prog 177 = false := by kernel_rfl
@[go_sem] theorem ty_st177 : strT Try.prog 177 = false := by kernel_rfl
@[go_sem] theorem ty_ki177  (n : Int) : keyT Try.prog 177 (.int .u64 n) = true := by kernel_rfl
@[go_sem] theorem ty_zv177 : zvT Try.prog 177 = some (.data (.int .u64 0)) := by kernel_rfl
@[go_sem] theorem ty_sz180 : szT Try.prog 180 = some 0 := by kernel_rfl
@[go_sem] theorem ty_by180 : byT Try.prog 180 = some 0 := by kernel_rfl
@[go_sem] theorem ty_ag180 : aggT Try.prog 180 = some true := by kernel_rfl
@[go_sem] theorem ty_un180 : (Try.prog.underlying 180).isSome = true := by kernel_rfl
@[go_sem] theorem ty_ze180 : zeT Try.prog 180 = some [] := by kernel_rfl
@[go_sem] theorem ty_zl180 : zlT Try.prog 180 = some 0 := by kernel_rfl
@[go_sem] theorem ty_sl180 : sliceT Try.prog 180 = none := by kernel_rfl
@[go_sem] theorem ty_ar180 : arrT Try.prog 180 = some (0, 16) := by kernel_rfl
@[go_sem] theorem ty_in180 : intT Try.prog 180 = none := by kernel_rfl
@[go_sem] theorem ty_bo180 : boolT Try.prog 180 = false := by kernel_rfl
@[go_sem] theorem ty_st180 : strT Try.prog 180 = false := by kernel_rfl
@[go_sem] theorem ty_zv180 : zvT Try.prog 180 = some (.data (.agg [])) := by kernel_rfl
@[go_sem] theorem ty_sz185 : szT Try.prog 185 = some 1 := by kernel_rfl
@[go_sem] theorem ty_by185 : byT Try.prog 185 = some 8 := by kernel_rfl
@[go_sem] theorem ty_ag185 : aggT Try.prog 185 = some false := by kernel_rfl
@[go_sem] theorem ty_un185 : (Try.prog.underlying 185).isSome = true := by kernel_rfl
@[go_sem] theorem ty_ze185 : zeT Try.prog 185 = some [.data .nilf] := by kernel_rfl
@[go_sem] theorem ty_zl185 : zlT Try.prog 185 = some 1 := by kernel_rfl
@[go_sem] theorem ty_sl185 : sliceT Try.prog 185 = none := by kernel_rfl
@[go_sem] theorem ty_ar185 : arrT Try.prog 185 = none := by kernel_rfl
@[go_sem] theorem ty_in185 : intT Try.prog 185 = none := by kernel_rfl
@[go_sem] theorem ty_bo185 : boolT Try.prog 185 = false := by kernel_rfl
@[go_sem] theorem ty_st185 : strT Try.prog 185 = false := by kernel_rfl
@[go_sem] theorem ty_zv185 : zvT Try.prog 185 = some (.data .nilf) := by kernel_rfl
@[go_sem] theorem ty_sz186 : szT Try.prog 186 = some 1 := by kernel_rfl
@[go_sem] theorem ty_by186 : byT Try.prog 186 = some 8 := by kernel_rfl
@[go_sem] theorem ty_ag186 : aggT Try.prog 186 = some false := by kernel_rfl
@[go_sem] theorem ty_un186 : (Try.prog.underlying 186).isSome = true := by kernel_rfl
@[go_sem] theorem ty_ze186 : zeT Try.prog 186 = some [.data .nilp] := by kernel_rfl
@[go_sem] theorem ty_zl186 : zlT Try.prog 186 = some 1 := by kernel_rfl
@[go_sem] theorem ty_sl186 : sliceT Try.prog 186 = none := by kernel_rfl
@[go_sem] theorem ty_ar186 : arrT Try.prog 186 = none := by kernel_rfl
@[go_sem] theorem ty_in186 : intT Try.prog 186 = none := by kernel_rfl
@[go_sem] theorem ty_bo186 : boolT Try.prog 186 = false := by kernel_rfl
@[go_sem] theorem ty_st186 : strT Try.prog 186 = false := by kernel_rfl
@[go_sem] theorem ty_zv186 : zvT Try.prog 186 = some (.data .nilp) := by kernel_rfl
@[go_sem] theorem ty_sz191 : szT Try.prog 191 = some 1 := by kernel_rfl
@[go_sem] theorem ty_by191 : byT Try.prog 191 = some 8 := by kernel_rfl
@[go_sem] theorem ty_ag191 : aggT Try.prog 191 = some false := by kernel_rfl
@[go_sem] theorem ty_un191 : (Try.prog.underlying 191).isSome = true := by kernel_rfl
@[go_sem] theorem ty_ze191 : zeT Try.prog 191 = some [.data .nilp] := by kernel_rfl
@[go_sem] theorem ty_zl191 : zlT Try.prog 191 = some 1 := by kernel_rfl
@[go_sem] theorem ty_sl191 : sliceT Try.prog 191 = none := by kernel_rfl
@[go_sem] theorem ty_ar191 : arrT Try.prog 191 = none := by kernel_rfl
@[go_sem] theorem ty_in191 : intT Try.prog 191 = none := by kernel_rfl
@[go_sem] theorem ty_bo191 : boolT Try.prog 191 = false := by kernel_rfl
@[go_sem] theorem ty_st191 : strT Try.prog 191 = false := by kernel_rfl
@[go_sem] theorem ty_zv191 : zvT Try.prog 191 = some (.data .nilp) := by kernel_rfl
theorem mixed : Try.prog.follows .mixedOrders = true := by kernel_rfl
end Go.Proofs.Ytedcnbkhdkchoaa
