/- The closed facts on the types. -/
import Derived.Test.YtjecieidmgkbaaaR
import Derived.Test.YtjecieidmgkbaaaChecked
import Derived.KernelRfl
namespace Go.Proofs.Ytjecieidmgkbaaa

@[go_sem] theorem ty_sz1 : szT Try.prog 1 = some 1 := by kernel_rfl
@[go_sem] theorem ty_by1 : byT Try.prog 1 = some 8 := by kernel_rfl
@[go_sem] theorem ty_ag1 : aggT Try.prog 1 = some false := by kernel_rfl
@[go_sem] theorem ty_un1 : (Try.prog.underlying 1).isSome = true := by kernel_rfl
@[go_sem] theorem ty_ze1 : zeT Try.prog 1 = some [.data .nilf] := by kernel_rfl
@[go_sem] theorem ty_zl1 : zlT Try.prog 1 = some 1 := by kernel_rfl
@[go_sem] theorem ty_sl1 : sliceT Try.prog 1 = none := by kernel_rfl
@[go_sem] theorem ty_ar1 : arrT Try.prog 1 = none := by kernel_rfl
@[go_sem] theorem ty_in1 : intT Try.prog 1 = none := by kernel_rfl
@[go_sem] theorem ty_bo1 : boolT Try.prog 1 = false := by kernel_rfl
@[go_sem] theorem ty_st1 : strT Try.prog 1 = false := by kernel_rfl
@[go_sem] theorem ty_zv1 : zvT Try.prog 1 = some (.data .nilf) := by kernel_rfl
@[go_sem] theorem ty_sz2 : szT Try.prog 2 = some 1 := by kernel_rfl
@[go_sem] theorem ty_by2 : byT Try.prog 2 = some 8 := by kernel_rfl
@[go_sem] theorem ty_ag2 : aggT Try.prog 2 = some false := by kernel_rfl
@[go_sem] theorem ty_un2 : (Try.prog.underlying 2).isSome = true := by kernel_rfl
@[go_sem] theorem ty_ze2 : zeT Try.prog 2 = some [.data (.int .i64 0)] := by kernel_rfl
@[go_sem] theorem ty_zl2 : zlT Try.prog 2 = some 1 := by kernel_rfl
@[go_sem] theorem ty_sl2 : sliceT Try.prog 2 = none := by kernel_rfl
@[go_sem] theorem ty_ar2 : arrT Try.prog 2 = none := by kernel_rfl
@[go_sem] theorem ty_in2 : intT Try.prog 2 = some .i64 := by kernel_rfl
@[go_sem] theorem ty_bo2 : boolT Try.prog 2 = false := by kernel_rfl
@[go_sem] theorem ty_st2 : strT Try.prog 2 = false := by kernel_rfl
@[go_sem] theorem ty_ki2  (n : Int) : keyT Try.prog 2 (.int .i64 n) = true := by kernel_rfl
@[go_sem] theorem ty_zv2 : zvT Try.prog 2 = some (.data (.int .i64 0)) := by kernel_rfl
@[go_sem] theorem ty_sz3 : szT Try.prog 3 = some 1 := by kernel_rfl
@[go_sem] theorem ty_by3 : byT Try.prog 3 = some 8 := by kernel_rfl
@[go_sem] theorem ty_ag3 : aggT Try.prog 3 = some false := by kernel_rfl
@[go_sem] theorem ty_un3 : (Try.prog.underlying 3).isSome = true := by kernel_rfl
@[go_sem] theorem ty_ze3 : zeT Try.prog 3 = some [.data (.int .i64 0)] := by kernel_rfl
@[go_sem] theorem ty_zl3 : zlT Try.prog 3 = some 1 := by kernel_rfl
@[go_sem] theorem ty_sl3 : sliceT Try.prog 3 = none := by kernel_rfl
@[go_sem] theorem ty_ar3 : arrT Try.prog 3 = none := by kernel_rfl
@[go_sem] theorem ty_in3 : intT Try.prog 3 = some .i64 := by kernel_rfl
@[go_sem] theorem ty_bo3 : boolT Try.prog 3 = false := by kernel_rfl
@[go_sem] theorem ty_st3 : strT Try.prog 3 = false := by kernel_rfl
@[go_sem] theorem ty_ki3  (n : Int) : keyT Try.prog 3 (.int .i64 n) = true := by kernel_rfl
@[go_sem] theorem ty_zv3 : zvT Try.prog 3 = some (.data (.int .i64 0)) := by kernel_rfl
@[go_sem] theorem ty_sz4 : szT Try.prog 4 = some 1 := by kernel_rfl
@[go_sem] theorem ty_by4 : byT Try.prog 4 = some 1 := by kernel_rfl
@[go_sem] theorem ty_ag4 : aggT Try.prog 4 = some false := by kernel_rfl
@[go_sem] theorem ty_un4 : (Try.prog.underlying 4).isSome = true := by kernel_rfl
@[go_sem] theorem ty_ze4 : zeT Try.prog 4 = some [.data (.bool false)] := by kernel_rfl
@[go_sem] theorem ty_zl4 : zlT Try.prog 4 = some 1 := by kernel_rfl
@[go_sem] theorem ty_sl4 : sliceT Try.prog 4 = none := by kernel_rfl
@[go_sem] theorem ty_ar4 : arrT Try.prog 4 = none := by kernel_rfl
@[go_sem] theorem ty_in4 : intT Try.prog 4 = none := by kernel_rfl
@[go_sem] theorem ty_bo4 : boolT Try.prog 4 = true := by kernel_rfl
@[go_sem] theorem ty_st4 : strT Try.prog 4 = false := by kernel_rfl
@[go_sem] theorem ty_kb4 (b : Bool) : keyT Try.prog 4 (.bool b) = true := by kernel_rfl
@[go_sem] theorem ty_zv4 : zvT Try.prog 4 = some (.data (.bool false)) := by kernel_rfl
@[go_sem] theorem ty_sz5 : szT Try.prog 5 = some 1 := by kernel_rfl
@[go_sem] theorem ty_by5 : byT Try.prog 5 = some 1 := by kernel_rfl
@[go_sem] theorem ty_ag5 : aggT Try.prog 5 = some false := by kernel_rfl
@[go_sem] theorem ty_un5 : (Try.prog.underlying 5).isSome = true := by kernel_rfl
@[go_sem] theorem ty_ze5 : zeT Try.prog 5 = some [.data (.int .u8 0)] := by kernel_rfl
@[go_sem] theorem ty_zl5 : zlT Try.prog 5 = some 1 := by kernel_rfl
@[go_sem] theorem ty_sl5 : sliceT Try.prog 5 = none := by kernel_rfl
@[go_sem] theorem ty_ar5 : arrT Try.prog 5 = none := by kernel_rfl
@[go_sem] theorem ty_in5 : intT Try.prog 5 = some .u8 := by kernel_rfl
@[go_sem] theorem ty_bo5 : boolT Try.prog 5 = false := by kernel_rfl
@[go_sem] theorem ty_st5 : strT Try.prog 5 = false := by kernel_rfl
@[go_sem] theorem ty_ki5  (n : Int) : keyT Try.prog 5 (.int .u8 n) = true := by kernel_rfl
@[go_sem] theorem ty_zv5 : zvT Try.prog 5 = some (.data (.int .u8 0)) := by kernel_rfl
@[go_sem] theorem ty_sz9 : szT Try.prog 9 = some 1 := by kernel_rfl
@[go_sem] theorem ty_by9 : byT Try.prog 9 = some 16 := by kernel_rfl
@[go_sem] theorem ty_ag9 : aggT Try.prog 9 = some false := by kernel_rfl
@[go_sem] theorem ty_un9 : (Try.prog.underlying 9).isSome = true := by kernel_rfl
@[go_sem] theorem ty_ze9 : zeT Try.prog 9 = some [.data (.str ByteArray.empty)] := by kernel_rfl
@[go_sem] theorem ty_zl9 : zlT Try.prog 9 = some 1 := by kernel_rfl
@[go_sem] theorem ty_sl9 : sliceT Try.prog 9 = none := by kernel_rfl
@[go_sem] theorem ty_ar9 : arrT Try.prog 9 = none := by kernel_rfl
@[go_sem] theorem ty_in9 : intT Try.prog 9 = none := by kernel_rfl
@[go_sem] theorem ty_bo9 : boolT Try.prog 9 = false := by kernel_rfl
@[go_sem] theorem ty_st9 : strT Try.prog 9 = true := by kernel_rfl
@[go_sem] theorem ty_ks9 (s : ByteArray) : keyT Try.prog 9 (.str s) = true := by kernel_rfl
@[go_sem] theorem ty_zv9 : zvT Try.prog 9 = some (.data (.str ByteArray.empty)) := by kernel_rfl
@[go_sem] theorem ty_sz12 : szT Try.prog 12 = some 1 := by kernel_rfl
@[go_sem] theorem ty_by12 : byT Try.prog 12 = some 8 := by kernel_rfl
@[go_sem] theorem ty_ag12 : aggT Try.prog 12 = some false := by kernel_rfl
@[go_sem] theorem ty_un12 : (Try.prog.underlying 12).isSome = true := by kernel_rfl
@[go_sem] theorem ty_ze12 : zeT Try.prog 12 = some [.data (.int .u64 0)] := by kernel_rfl
@[go_sem] theorem ty_zl12 : zlT Try.prog 12 = some 1 := by kernel_rfl
@[go_sem] theorem ty_sl12 : sliceT Try.prog 12 = none := by kernel_rfl
@[go_sem] theorem ty_ar12 : arrT Try.prog 12 = none := by kernel_rfl
@[go_sem] theorem ty_in12 : intT Try.prog 12 = some .u64 := by kernel_rfl
@[go_sem] theorem ty_bo12 : boolT Try.prog 12 = false := by kernel_rfl
@[go_sem] theorem ty_st12 : strT Try.prog 12 = false := by kernel_rfl
@[go_sem] theorem ty_ki12  (n : Int) : keyT Try.prog 12 (.int .u64 n) = true := by kernel_rfl
@[go_sem] theorem ty_zv12 : zvT Try.prog 12 = some (.data (.int .u64 0)) := by kernel_rfl
@[go_sem] theorem ty_sz20 : szT Try.prog 20 = some 1 := by kernel_rfl
@[go_sem] theorem ty_by20 : byT Try.prog 20 = some 16 := by kernel_rfl
@[go_sem] theorem ty_ag20 : aggT Try.prog 20 = some false := by kernel_rfl
@[go_sem] theorem ty_un20 : (Try.prog.underlying 20).isSome = true := by kernel_rfl
@[go_sem] theorem ty_ze20 : zeT Try.prog 20 = some [.data .nili] := by kernel_rfl
@[go_sem] theorem ty_zl20 : zlT Try.prog 20 = some 1 := by kernel_rfl
@[go_sem] theorem ty_sl20 : sliceT Try.prog 20 = none := by kernel_rfl
@[go_sem] theorem ty_ar20 : arrT Try.prog 20 = none := by kernel_rfl
@[go_sem] theorem ty_in20 : intT Try.prog 20 = none := by kernel_rfl
@[go_sem] theorem ty_bo20 : boolT Try.prog 20 = false := by kernel_rfl
@[go_sem] theorem ty_st20 : strT Try.prog 20 = false := by kernel_rfl
@[go_sem] theorem ty_zv20 : zvT Try.prog 20 = some (.data .nili) := by kernel_rfl
@[go_sem] theorem ty_sz21 : szT Try.prog 21 = some 1 := by kernel_rfl
@[go_sem] theorem ty_by21 : byT Try.prog 21 = some 4 := by kernel_rfl
@[go_sem] theorem ty_ag21 : aggT Try.prog 21 = some false := by kernel_rfl
@[go_sem] theorem ty_un21 : (Try.prog.underlying 21).isSome = true := by kernel_rfl
@[go_sem] theorem ty_ze21 : zeT Try.prog 21 = some [.data (.int .i32 0)] := by kernel_rfl
@[go_sem] theorem ty_zl21 : zlT Try.prog 21 = some 1 := by kernel_rfl
@[go_sem] theorem ty_sl21 : sliceT Try.prog 21 = none := by kernel_rfl
@[go_sem] theorem ty_ar21 : arrT Try.prog 21 = none := by kernel_rfl
@[go_sem] theorem ty_in21 : intT Try.prog 21 = some .i32 := by kernel_rfl
@[go_sem] theorem ty_bo21 : boolT Try.prog 21 = false := by kernel_rfl
@[go_sem] theorem ty_st21 : strT Try.prog 21 = false := by kernel_rfl
@[go_sem] theorem ty_ki21  (n : Int) : keyT Try.prog 21 (.int .i32 n) = true := by kernel_rfl
@[go_sem] theorem ty_zv21 : zvT Try.prog 21 = some (.data (.int .i32 0)) := by kernel_rfl
@[go_sem] theorem ty_sz22 : szT Try.prog 22 = some 1 := by kernel_rfl
@[go_sem] theorem ty_by22 : byT Try.prog 22 = some 24 := by kernel_rfl
@[go_sem] theorem ty_ag22 : aggT Try.prog 22 = some false := by kernel_rfl
@[go_sem] theorem ty_un22 : (Try.prog.underlying 22).isSome = true := by kernel_rfl
@[go_sem] theorem ty_ze22 : zeT Try.prog 22 = some [.emp 0] := by kernel_rfl
@[go_sem] theorem ty_zl22 : zlT Try.prog 22 = some 1 := by kernel_rfl
@[go_sem] theorem ty_sl22 : sliceT Try.prog 22 = some 48 := by kernel_rfl
@[go_sem] theorem ty_ar22 : arrT Try.prog 22 = none := by kernel_rfl
@[go_sem] theorem ty_in22 : intT Try.prog 22 = none := by kernel_rfl
@[go_sem] theorem ty_bo22 : boolT Try.prog 22 = false := by kernel_rfl
@[go_sem] theorem ty_st22 : strT Try.prog 22 = false := by kernel_rfl
@[go_sem] theorem ty_zv22 : zvT Try.prog 22 = some (.emp 0) := by kernel_rfl
@[go_sem] theorem ty_sz23 : szT Try.prog 23 = some 1 := by kernel_rfl
@[go_sem] theorem ty_by23 : byT Try.prog 23 = some 24 := by kernel_rfl
@[go_sem] theorem ty_ag23 : aggT Try.prog 23 = some false := by kernel_rfl
@[go_sem] theorem ty_un23 : (Try.prog.underlying 23).isSome = true := by kernel_rfl
@[go_sem] theorem ty_ze23 : zeT Try.prog 23 = some [.emp 0] := by kernel_rfl
@[go_sem] theorem ty_zl23 : zlT Try.prog 23 = some 1 := by kernel_rfl
@[go_sem] theorem ty_sl23 : sliceT Try.prog 23 = some 46 := by kernel_rfl
@[go_sem] theorem ty_ar23 : arrT Try.prog 23 = none := by kernel_rfl
@[go_sem] theorem ty_in23 : intT Try.prog 23 = none := by kernel_rfl
@[go_sem] theorem ty_bo23 : boolT Try.prog 23 = false := by kernel_rfl
@[go_sem] theorem ty_st23 : strT Try.prog 23 = false := by kernel_rfl
@[go_sem] theorem ty_zv23 : zvT Try.prog 23 = some (.emp 0) := by kernel_rfl
@[go_sem] theorem ty_sz24 : szT Try.prog 24 = some 1 := by kernel_rfl
@[go_sem] theorem ty_by24 : byT Try.prog 24 = some 24 := by kernel_rfl
@[go_sem] theorem ty_ag24 : aggT Try.prog 24 = some false := by kernel_rfl
@[go_sem] theorem ty_un24 : (Try.prog.underlying 24).isSome = true := by kernel_rfl
@[go_sem] theorem ty_ze24 : zeT Try.prog 24 = some [.emp 0] := by kernel_rfl
@[go_sem] theorem ty_zl24 : zlT Try.prog 24 = some 1 := by kernel_rfl
@[go_sem] theorem ty_sl24 : sliceT Try.prog 24 = some 51 := by kernel_rfl
@[go_sem] theorem ty_ar24 : arrT Try.prog 24 = none := by kernel_rfl
@[go_sem] theorem ty_in24 : intT Try.prog 24 = none := by kernel_rfl
@[go_sem] theorem ty_bo24 : boolT Try.prog 24 = false := by kernel_rfl
@[go_sem] theorem ty_st24 : strT Try.prog 24 = false := by kernel_rfl
@[go_sem] theorem ty_zv24 : zvT Try.prog 24 = some (.emp 0) := by kernel_rfl
@[go_sem] theorem ty_sz25 : szT Try.prog 25 = some 4 := by kernel_rfl
@[go_sem] theorem ty_by25 : byT Try.prog 25 = some 80 := by kernel_rfl
@[go_sem] theorem ty_ag25 : aggT Try.prog 25 = some true := by kernel_rfl
@[go_sem] theorem ty_un25 : (Try.prog.underlying 25).isSome = true := by kernel_rfl
@[go_sem] theorem ty_ze25 : zeT Try.prog 25 = some [.data (.int .i64 0), .emp 0, .emp 0, .emp 0] := by kernel_rfl
@[go_sem] theorem ty_zl25 : zlT Try.prog 25 = some 4 := by kernel_rfl
@[go_sem] theorem ty_sl25 : sliceT Try.prog 25 = none := by kernel_rfl
@[go_sem] theorem ty_ar25 : arrT Try.prog 25 = none := by kernel_rfl
@[go_sem] theorem ty_in25 : intT Try.prog 25 = none := by kernel_rfl
@[go_sem] theorem ty_bo25 : boolT Try.prog 25 = false := by kernel_rfl
@[go_sem] theorem ty_st25 : strT Try.prog 25 = false := by kernel_rfl
@[go_sem] theorem ty_zv25 : zvT Try.prog 25 = some (.agg [.data (.int .i64 0), .emp 0, .emp 0, .emp 0]) := by kernel_rfl
@[go_sem] theorem ty_fl25_0 : fldT Try.prog 25 0 = some (0, 3) := by kernel_rfl
@[go_sem] theorem ty_fl25_1 : fldT Try.prog 25 1 = some (1, 22) := by kernel_rfl
@[go_sem] theorem ty_fl25_2 : fldT Try.prog 25 2 = some (2, 23) := by kernel_rfl
@[go_sem] theorem ty_fl25_3 : fldT Try.prog 25 3 = some (3, 24) := by kernel_rfl
@[go_sem] theorem ty_pl25 : plT Try.prog 25 = some [(0, 1), (1, 1), (2, 1), (3, 1)] := by kernel_rfl
@[go_sem] theorem ty_sz26 : szT Try.prog 26 = some 4 := by kernel_rfl
@[go_sem] theorem ty_by26 : byT Try.prog 26 = some 80 := by kernel_rfl
@[go_sem] theorem ty_ag26 : aggT Try.prog 26 = some true := by kernel_rfl
@[go_sem] theorem ty_un26 : (Try.prog.underlying 26).isSome = true := by kernel_rfl
@[go_sem] theorem ty_ze26 : zeT Try.prog 26 = some [.data (.int .i64 0), .emp 0, .emp 0, .emp 0] := by kernel_rfl
@[go_sem] theorem ty_zl26 : zlT Try.prog 26 = some 4 := by kernel_rfl
@[go_sem] theorem ty_sl26 : sliceT Try.prog 26 = none := by kernel_rfl
@[go_sem] theorem ty_ar26 : arrT Try.prog 26 = none := by kernel_rfl
@[go_sem] theorem ty_in26 : intT Try.prog 26 = none := by kernel_rfl
@[go_sem] theorem ty_bo26 : boolT Try.prog 26 = false := by kernel_rfl
@[go_sem] theorem ty_st26 : strT Try.prog 26 = false := by kernel_rfl
@[go_sem] theorem ty_zv26 : zvT Try.prog 26 = some (.agg [.data (.int .i64 0), .emp 0, .emp 0, .emp 0]) := by kernel_rfl
@[go_sem] theorem ty_fl26_0 : fldT Try.prog 26 0 = some (0, 3) := by kernel_rfl
@[go_sem] theorem ty_fl26_1 : fldT Try.prog 26 1 = some (1, 22) := by kernel_rfl
@[go_sem] theorem ty_fl26_2 : fldT Try.prog 26 2 = some (2, 23) := by kernel_rfl
@[go_sem] theorem ty_fl26_3 : fldT Try.prog 26 3 = some (3, 24) := by kernel_rfl
@[go_sem] theorem ty_pl26 : plT Try.prog 26 = some [(0, 1), (1, 1), (2, 1), (3, 1)] := by kernel_rfl
@[go_sem] theorem ty_sz27 : szT Try.prog 27 = some 1 := by kernel_rfl
@[go_sem] theorem ty_by27 : byT Try.prog 27 = some 4 := by kernel_rfl
@[go_sem] theorem ty_ag27 : aggT Try.prog 27 = some false := by kernel_rfl
@[go_sem] theorem ty_un27 : (Try.prog.underlying 27).isSome = true := by kernel_rfl
@[go_sem] theorem ty_ze27 : zeT Try.prog 27 = some [.data (.int .u32 0)] := by kernel_rfl
@[go_sem] theorem ty_zl27 : zlT Try.prog 27 = some 1 := by kernel_rfl
@[go_sem] theorem ty_sl27 : sliceT Try.prog 27 = none := by kernel_rfl
@[go_sem] theorem ty_ar27 : arrT Try.prog 27 = none := by kernel_rfl
@[go_sem] theorem ty_in27 : intT Try.prog 27 = some .u32 := by kernel_rfl
@[go_sem] theorem ty_bo27 : boolT Try.prog 27 = false := by kernel_rfl
@[go_sem] theorem ty_st27 : strT Try.prog 27 = false := by kernel_rfl
@[go_sem] theorem ty_ki27  (n : Int) : keyT Try.prog 27 (.int .u32 n) = true := by kernel_rfl
@[go_sem] theorem ty_zv27 : zvT Try.prog 27 = some (.data (.int .u32 0)) := by kernel_rfl
@[go_sem] theorem ty_sz28 : szT Try.prog 28 = some 1 := by kernel_rfl
@[go_sem] theorem ty_by28 : byT Try.prog 28 = some 8 := by kernel_rfl
@[go_sem] theorem ty_ag28 : aggT Try.prog 28 = some false := by kernel_rfl
@[go_sem] theorem ty_un28 : (Try.prog.underlying 28).isSome = true := by kernel_rfl
@[go_sem] theorem ty_ze28 : zeT Try.prog 28 = some [.data (.int .u64 0)] := by kernel_rfl
@[go_sem] theorem ty_zl28 : zlT Try.prog 28 = some 1 := by kernel_rfl
@[go_sem] theorem ty_sl28 : sliceT Try.prog 28 = none := by kernel_rfl
@[go_sem] theorem ty_ar28 : arrT Try.prog 28 = none := by kernel_rfl
@[go_sem] theorem ty_in28 : intT Try.prog 28 = some .u64 := by kernel_rfl
@[go_sem] theorem ty_bo28 : boolT Try.prog 28 = false := by kernel_rfl
@[go_sem] theorem ty_st28 : strT Try.prog 28 = false := by kernel_rfl
@[go_sem] theorem ty_ki28  (n : Int) : keyT Try.prog 28 (.int .u64 n) = true := by kernel_rfl
@[go_sem] theorem ty_zv28 : zvT Try.prog 28 = some (.data (.int .u64 0)) := by kernel_rfl
@[go_sem] theorem ty_sz29 : szT Try.prog 29 = some 9 := by kernel_rfl
@[go_sem] theorem ty_by29 : byT Try.prog 29 = some 80 := by kernel_rfl
@[go_sem] theorem ty_ag29 : aggT Try.prog 29 = some true := by kernel_rfl
@[go_sem] theorem ty_un29 : (Try.prog.underlying 29).isSome = true := by kernel_rfl
@[go_sem] theorem ty_ze29 : zeT Try.prog 29 = some [.data (.int .i64 0), .data (.int .i64 0), .data (.int .i64 0), .data (.int .u32 0), .data (.str ByteArray.empty), .data (.int .u64 0), .data (.int .u64 0), .data (.int .i64 0), .data (.int .i64 0)] := by kernel_rfl
@[go_sem] theorem ty_zl29 : zlT Try.prog 29 = some 9 := by kernel_rfl
@[go_sem] theorem ty_sl29 : sliceT Try.prog 29 = none := by kernel_rfl
@[go_sem] theorem ty_ar29 : arrT Try.prog 29 = none := by kernel_rfl
@[go_sem] theorem ty_in29 : intT Try.prog 29 = none := by kernel_rfl
@[go_sem] theorem ty_bo29 : boolT Try.prog 29 = false := by kernel_rfl
@[go_sem] theorem ty_st29 : strT Try.prog 29 = false := by kernel_rfl
@[go_sem] theorem ty_zv29 : zvT Try.prog 29 = some (.data (.agg [(.int .i64 0), (.int .i64 0), (.int .i64 0), (.int .u32 0), (.str ByteArray.empty), (.int .u64 0), (.int .u64 0), (.int .i64 0), (.int .i64 0)])) := by kernel_rfl
@[go_sem] theorem ty_fl29_0 : fldT Try.prog 29 0 = some (0, 3) := by kernel_rfl
@[go_sem] theorem ty_fl29_1 : fldT Try.prog 29 1 = some (1, 3) := by kernel_rfl
@[go_sem] theorem ty_fl29_2 : fldT Try.prog 29 2 = some (2, 3) := by kernel_rfl
@[go_sem] theorem ty_fl29_3 : fldT Try.prog 29 3 = some (3, 27) := by kernel_rfl
@[go_sem] theorem ty_fl29_4 : fldT Try.prog 29 4 = some (4, 9) := by kernel_rfl
@[go_sem] theorem ty_fl29_5 : fldT Try.prog 29 5 = some (5, 28) := by kernel_rfl
@[go_sem] theorem ty_fl29_6 : fldT Try.prog 29 6 = some (6, 28) := by kernel_rfl
@[go_sem] theorem ty_fl29_7 : fldT Try.prog 29 7 = some (7, 3) := by kernel_rfl
@[go_sem] theorem ty_fl29_8 : fldT Try.prog 29 8 = some (8, 3) := by kernel_rfl
@[go_sem] theorem ty_pl29 : plT Try.prog 29 = some [(0, 1), (1, 1), (2, 1), (3, 1), (4, 1), (5, 1), (6, 1), (7, 1), (8, 1)] := by kernel_rfl
@[go_sem] theorem ty_sz30 : szT Try.prog 30 = some 9 := by kernel_rfl
@[go_sem] theorem ty_by30 : byT Try.prog 30 = some 80 := by kernel_rfl
@[go_sem] theorem ty_ag30 : aggT Try.prog 30 = some true := by kernel_rfl
@[go_sem] theorem ty_un30 : (Try.prog.underlying 30).isSome = true := by kernel_rfl
@[go_sem] theorem ty_ze30 : zeT Try.prog 30 = some [.data (.int .i64 0), .data (.int .i64 0), .data (.int .i64 0), .data (.int .u32 0), .data (.str ByteArray.empty), .data (.int .u64 0), .data (.int .u64 0), .data (.int .i64 0), .data (.int .i64 0)] := by kernel_rfl
@[go_sem] theorem ty_zl30 : zlT Try.prog 30 = some 9 := by kernel_rfl
@[go_sem] theorem ty_sl30 : sliceT Try.prog 30 = none := by kernel_rfl
@[go_sem] theorem ty_ar30 : arrT Try.prog 30 = none := by kernel_rfl
@[go_sem] theorem ty_in30 : intT Try.prog 30 = none := by kernel_rfl
@[go_sem] theorem ty_bo30 : boolT Try.prog 30 = false := by kernel_rfl
@[go_sem] theorem ty_st30 : strT Try.prog 30 = false := by kernel_rfl
@[go_sem] theorem ty_zv30 : zvT Try.prog 30 = some (.data (.agg [(.int .i64 0), (.int .i64 0), (.int .i64 0), (.int .u32 0), (.str ByteArray.empty), (.int .u64 0), (.int .u64 0), (.int .i64 0), (.int .i64 0)])) := by kernel_rfl
@[go_sem] theorem ty_fl30_0 : fldT Try.prog 30 0 = some (0, 3) := by kernel_rfl
@[go_sem] theorem ty_fl30_1 : fldT Try.prog 30 1 = some (1, 3) := by kernel_rfl
@[go_sem] theorem ty_fl30_2 : fldT Try.prog 30 2 = some (2, 3) := by kernel_rfl
@[go_sem] theorem ty_fl30_3 : fldT Try.prog 30 3 = some (3, 27) := by kernel_rfl
@[go_sem] theorem ty_fl30_4 : fldT Try.prog 30 4 = some (4, 9) := by kernel_rfl
@[go_sem] theorem ty_fl30_5 : fldT Try.prog 30 5 = some (5, 28) := by kernel_rfl
@[go_sem] theorem ty_fl30_6 : fldT Try.prog 30 6 = some (6, 28) := by kernel_rfl
@[go_sem] theorem ty_fl30_7 : fldT Try.prog 30 7 = some (7, 3) := by kernel_rfl
@[go_sem] theorem ty_fl30_8 : fldT Try.prog 30 8 = some (8, 3) := by kernel_rfl
@[go_sem] theorem ty_pl30 : plT Try.prog 30 = some [(0, 1), (1, 1), (2, 1), (3, 1), (4, 1), (5, 1), (6, 1), (7, 1), (8, 1)] := by kernel_rfl
@[go_sem] theorem ty_sz31 : szT Try.prog 31 = some 1 := by kernel_rfl
@[go_sem] theorem ty_by31 : byT Try.prog 31 = some 8 := by kernel_rfl
@[go_sem] theorem ty_ag31 : aggT Try.prog 31 = some false := by kernel_rfl
@[go_sem] theorem ty_un31 : (Try.prog.underlying 31).isSome = true := by kernel_rfl
@[go_sem] theorem ty_ze31 : zeT Try.prog 31 = some [.data .nilf] := by kernel_rfl
@[go_sem] theorem ty_zl31 : zlT Try.prog 31 = some 1 := by kernel_rfl
@[go_sem] theorem ty_sl31 : sliceT Try.prog 31 = none := by kernel_rfl
@[go_sem] theorem ty_ar31 : arrT Try.prog 31 = none := by kernel_rfl
@[go_sem] theorem ty_in31 : intT Try.prog 31 = none := by kernel_rfl
@[go_sem] theorem ty_bo31 : boolT Try.prog 31 = false := by kernel_rfl
@[go_sem] theorem ty_st31 : strT Try.prog 31 = false := by kernel_rfl
@[go_sem] theorem ty_zv31 : zvT Try.prog 31 = some (.data .nilf) := by kernel_rfl
@[go_sem] theorem ty_sz32 : szT Try.prog 32 = some 1 := by kernel_rfl
@[go_sem] theorem ty_by32 : byT Try.prog 32 = some 8 := by kernel_rfl
@[go_sem] theorem ty_ag32 : aggT Try.prog 32 = some false := by kernel_rfl
@[go_sem] theorem ty_un32 : (Try.prog.underlying 32).isSome = true := by kernel_rfl
@[go_sem] theorem ty_ze32 : zeT Try.prog 32 = some [.data .nilf] := by kernel_rfl
@[go_sem] theorem ty_zl32 : zlT Try.prog 32 = some 1 := by kernel_rfl
@[go_sem] theorem ty_sl32 : sliceT Try.prog 32 = none := by kernel_rfl
@[go_sem] theorem ty_ar32 : arrT Try.prog 32 = none := by kernel_rfl
@[go_sem] theorem ty_in32 : intT Try.prog 32 = none := by kernel_rfl
@[go_sem] theorem ty_bo32 : boolT Try.prog 32 = false := by kernel_rfl
@[go_sem] theorem ty_st32 : strT Try.prog 32 = false := by kernel_rfl
@[go_sem] theorem ty_zv32 : zvT Try.prog 32 = some (.data .nilf) := by kernel_rfl
@[go_sem] theorem ty_sz33 : szT Try.prog 33 = some 1 := by kernel_rfl
@[go_sem] theorem ty_by33 : byT Try.prog 33 = some 8 := by kernel_rfl
@[go_sem] theorem ty_ag33 : aggT Try.prog 33 = some false := by kernel_rfl
@[go_sem] theorem ty_un33 : (Try.prog.underlying 33).isSome = true := by kernel_rfl
@[go_sem] theorem ty_ze33 : zeT Try.prog 33 = some [.data (.int .i64 0)] := by kernel_rfl
@[go_sem] theorem ty_zl33 : zlT Try.prog 33 = some 1 := by kernel_rfl
@[go_sem] theorem ty_sl33 : sliceT Try.prog 33 = none := by kernel_rfl
@[go_sem] theorem ty_ar33 : arrT Try.prog 33 = none := by kernel_rfl
@[go_sem] theorem ty_in33 : intT Try.prog 33 = some .i64 := by kernel_rfl
@[go_sem] theorem ty_bo33 : boolT Try.prog 33 = false := by kernel_rfl
@[go_sem] theorem ty_st33 : strT Try.prog 33 = false := by kernel_rfl
@[go_sem] theorem ty_ki33  (n : Int) : keyT Try.prog 33 (.int .i64 n) = true := by kernel_rfl
@[go_sem] theorem ty_zv33 : zvT Try.prog 33 = some (.data (.int .i64 0)) := by kernel_rfl
@[go_sem] theorem ty_sz35 : szT Try.prog 35 = some 1 := by kernel_rfl
@[go_sem] theorem ty_by35 : byT Try.prog 35 = some 8 := by kernel_rfl
@[go_sem] theorem ty_ag35 : aggT Try.prog 35 = some false := by kernel_rfl
@[go_sem] theorem ty_un35 : (Try.prog.underlying 35).isSome = true := by kernel_rfl
@[go_sem] theorem ty_ze35 : zeT Try.prog 35 = some [.data .nilf] := by kernel_rfl
@[go_sem] theorem ty_zl35 : zlT Try.prog 35 = some 1 := by kernel_rfl
@[go_sem] theorem ty_sl35 : sliceT Try.prog 35 = none := by kernel_rfl
@[go_sem] theorem ty_ar35 : arrT Try.prog 35 = none := by kernel_rfl
@[go_sem] theorem ty_in35 : intT Try.prog 35 = none := by kernel_rfl
@[go_sem] theorem ty_bo35 : boolT Try.prog 35 = false := by kernel_rfl
@[go_sem] theorem ty_st35 : strT Try.prog 35 = false := by kernel_rfl
@[go_sem] theorem ty_zv35 : zvT Try.prog 35 = some (.data .nilf) := by kernel_rfl
@[go_sem] theorem ty_sz37 : szT Try.prog 37 = some 1 := by kernel_rfl
@[go_sem] theorem ty_by37 : byT Try.prog 37 = some 8 := by kernel_rfl
@[go_sem] theorem ty_ag37 : aggT Try.prog 37 = some false := by kernel_rfl
@[go_sem] theorem ty_un37 : (Try.prog.underlying 37).isSome = true := by kernel_rfl
@[go_sem] theorem ty_ze37 : zeT Try.prog 37 = some [.data .nilf] := by kernel_rfl
@[go_sem] theorem ty_zl37 : zlT Try.prog 37 = some 1 := by kernel_rfl
@[go_sem] theorem ty_sl37 : sliceT Try.prog 37 = none := by kernel_rfl
@[go_sem] theorem ty_ar37 : arrT Try.prog 37 = none := by kernel_rfl
@[go_sem] theorem ty_in37 : intT Try.prog 37 = none := by kernel_rfl
@[go_sem] theorem ty_bo37 : boolT Try.prog 37 = false := by kernel_rfl
@[go_sem] theorem ty_st37 : strT Try.prog 37 = false := by kernel_rfl
@[go_sem] theorem ty_zv37 : zvT Try.prog 37 = some (.data .nilf) := by kernel_rfl
@[go_sem] theorem ty_sz38 : szT Try.prog 38 = some 1 := by kernel_rfl
@[go_sem] theorem ty_by38 : byT Try.prog 38 = some 8 := by kernel_rfl
@[go_sem] theorem ty_ag38 : aggT Try.prog 38 = some false := by kernel_rfl
@[go_sem] theorem ty_un38 : (Try.prog.underlying 38).isSome = true := by kernel_rfl
@[go_sem] theorem ty_ze38 : zeT Try.prog 38 = some [.data .nilf] := by kernel_rfl
@[go_sem] theorem ty_zl38 : zlT Try.prog 38 = some 1 := by kernel_rfl
@[go_sem] theorem ty_sl38 : sliceT Try.prog 38 = none := by kernel_rfl
@[go_sem] theorem ty_ar38 : arrT Try.prog 38 = none := by kernel_rfl
@[go_sem] theorem ty_in38 : intT Try.prog 38 = none := by kernel_rfl
@[go_sem] theorem ty_bo38 : boolT Try.prog 38 = false := by kernel_rfl
@[go_sem] theorem ty_st38 : strT Try.prog 38 = false := by kernel_rfl
@[go_sem] theorem ty_zv38 : zvT Try.prog 38 = some (.data .nilf) := by kernel_rfl
@[go_sem] theorem ty_sz39 : szT Try.prog 39 = some 1 := by kernel_rfl
@[go_sem] theorem ty_by39 : byT Try.prog 39 = some 8 := by kernel_rfl
@[go_sem] theorem ty_ag39 : aggT Try.prog 39 = some false := by kernel_rfl
@[go_sem] theorem ty_un39 : (Try.prog.underlying 39).isSome = true := by kernel_rfl
@[go_sem] theorem ty_ze39 : zeT Try.prog 39 = some [.data .nilf] := by kernel_rfl
@[go_sem] theorem ty_zl39 : zlT Try.prog 39 = some 1 := by kernel_rfl
@[go_sem] theorem ty_sl39 : sliceT Try.prog 39 = none := by kernel_rfl
@[go_sem] theorem ty_ar39 : arrT Try.prog 39 = none := by kernel_rfl
@[go_sem] theorem ty_in39 : intT Try.prog 39 = none := by kernel_rfl
@[go_sem] theorem ty_bo39 : boolT Try.prog 39 = false := by kernel_rfl
@[go_sem] theorem ty_st39 : strT Try.prog 39 = false := by kernel_rfl
@[go_sem] theorem ty_zv39 : zvT Try.prog 39 = some (.data .nilf) := by kernel_rfl
@[go_sem] theorem ty_sz40 : szT Try.prog 40 = some 1 := by kernel_rfl
@[go_sem] theorem ty_by40 : byT Try.prog 40 = some 8 := by kernel_rfl
@[go_sem] theorem ty_ag40 : aggT Try.prog 40 = some false := by kernel_rfl
@[go_sem] theorem ty_un40 : (Try.prog.underlying 40).isSome = true := by kernel_rfl
@[go_sem] theorem ty_ze40 : zeT Try.prog 40 = some [.data .nilf] := by kernel_rfl
@[go_sem] theorem ty_zl40 : zlT Try.prog 40 = some 1 := by kernel_rfl
@[go_sem] theorem ty_sl40 : sliceT Try.prog 40 = none := by kernel_rfl
@[go_sem] theorem ty_ar40 : arrT Try.prog 40 = none := by kernel_rfl
@[go_sem] theorem ty_in40 : intT Try.prog 40 = none := by kernel_rfl
@[go_sem] theorem ty_bo40 : boolT Try.prog 40 = false := by kernel_rfl
@[go_sem] theorem ty_st40 : strT Try.prog 40 = false := by kernel_rfl
@[go_sem] theorem ty_zv40 : zvT Try.prog 40 = some (.data .nilf) := by kernel_rfl
@[go_sem] theorem ty_sz41 : szT Try.prog 41 = some 1 := by kernel_rfl
@[go_sem] theorem ty_by41 : byT Try.prog 41 = some 24 := by kernel_rfl
@[go_sem] theorem ty_ag41 : aggT Try.prog 41 = some false := by kernel_rfl
@[go_sem] theorem ty_un41 : (Try.prog.underlying 41).isSome = true := by kernel_rfl
@[go_sem] theorem ty_ze41 : zeT Try.prog 41 = some [.emp 0] := by kernel_rfl
@[go_sem] theorem ty_zl41 : zlT Try.prog 41 = some 1 := by kernel_rfl
@[go_sem] theorem ty_sl41 : sliceT Try.prog 41 = some 30 := by kernel_rfl
@[go_sem] theorem ty_ar41 : arrT Try.prog 41 = none := by kernel_rfl
@[go_sem] theorem ty_in41 : intT Try.prog 41 = none := by kernel_rfl
@[go_sem] theorem ty_bo41 : boolT Try.prog 41 = false := by kernel_rfl
@[go_sem] theorem ty_st41 : strT Try.prog 41 = false := by kernel_rfl
@[go_sem] theorem ty_zv41 : zvT Try.prog 41 = some (.emp 0) := by kernel_rfl
@[go_sem] theorem ty_sz42 : szT Try.prog 42 = some 1 := by kernel_rfl
@[go_sem] theorem ty_by42 : byT Try.prog 42 = some 8 := by kernel_rfl
@[go_sem] theorem ty_ag42 : aggT Try.prog 42 = some false := by kernel_rfl
@[go_sem] theorem ty_un42 : (Try.prog.underlying 42).isSome = true := by kernel_rfl
@[go_sem] theorem ty_ze42 : zeT Try.prog 42 = some [.data .nilf] := by kernel_rfl
@[go_sem] theorem ty_zl42 : zlT Try.prog 42 = some 1 := by kernel_rfl
@[go_sem] theorem ty_sl42 : sliceT Try.prog 42 = none := by kernel_rfl
@[go_sem] theorem ty_ar42 : arrT Try.prog 42 = none := by kernel_rfl
@[go_sem] theorem ty_in42 : intT Try.prog 42 = none := by kernel_rfl
@[go_sem] theorem ty_bo42 : boolT Try.prog 42 = false := by kernel_rfl
@[go_sem] theorem ty_st42 : strT Try.prog 42 = false := by kernel_rfl
@[go_sem] theorem ty_zv42 : zvT Try.prog 42 = some (.data .nilf) := by kernel_rfl
@[go_sem] theorem ty_sz44 : szT Try.prog 44 = some 1 := by kernel_rfl
@[go_sem] theorem ty_by44 : byT Try.prog 44 = some 8 := by kernel_rfl
@[go_sem] theorem ty_ag44 : aggT Try.prog 44 = some false := by kernel_rfl
@[go_sem] theorem ty_un44 : (Try.prog.underlying 44).isSome = true := by kernel_rfl
@[go_sem] theorem ty_ze44 : zeT Try.prog 44 = some [.data .nilf] := by kernel_rfl
@[go_sem] theorem ty_zl44 : zlT Try.prog 44 = some 1 := by kernel_rfl
@[go_sem] theorem ty_sl44 : sliceT Try.prog 44 = none := by kernel_rfl
@[go_sem] theorem ty_ar44 : arrT Try.prog 44 = none := by kernel_rfl
@[go_sem] theorem ty_in44 : intT Try.prog 44 = none := by kernel_rfl
@[go_sem] theorem ty_bo44 : boolT Try.prog 44 = false := by kernel_rfl
@[go_sem] theorem ty_st44 : strT Try.prog 44 = false := by kernel_rfl
@[go_sem] theorem ty_zv44 : zvT Try.prog 44 = some (.data .nilf) := by kernel_rfl
@[go_sem] theorem ty_sz45 : szT Try.prog 45 = some 5 := by kernel_rfl
@[go_sem] theorem ty_by45 : byT Try.prog 45 = some 40 := by kernel_rfl
@[go_sem] theorem ty_ag45 : aggT Try.prog 45 = some true := by kernel_rfl
@[go_sem] theorem ty_un45 : (Try.prog.underlying 45).isSome = true := by kernel_rfl
@[go_sem] theorem ty_ze45 : zeT Try.prog 45 = some [.data (.int .i64 0), .data (.int .i64 0), .data (.int .u64 0), .data (.int .u64 0), .data (.int .i64 0)] := by kernel_rfl
@[go_sem] theorem ty_zl45 : zlT Try.prog 45 = some 5 := by kernel_rfl
@[go_sem] theorem ty_sl45 : sliceT Try.prog 45 = none := by kernel_rfl
@[go_sem] theorem ty_ar45 : arrT Try.prog 45 = none := by kernel_rfl
@[go_sem] theorem ty_in45 : intT Try.prog 45 = none := by kernel_rfl
@[go_sem] theorem ty_bo45 : boolT Try.prog 45 = false := by kernel_rfl
@[go_sem] theorem ty_st45 : strT Try.prog 45 = false := by kernel_rfl
@[go_sem] theorem ty_zv45 : zvT Try.prog 45 = some (.data (.agg [(.int .i64 0), (.int .i64 0), (.int .u64 0), (.int .u64 0), (.int .i64 0)])) := by kernel_rfl
@[go_sem] theorem ty_fl45_0 : fldT Try.prog 45 0 = some (0, 3) := by kernel_rfl
@[go_sem] theorem ty_fl45_1 : fldT Try.prog 45 1 = some (1, 3) := by kernel_rfl
@[go_sem] theorem ty_fl45_2 : fldT Try.prog 45 2 = some (2, 28) := by kernel_rfl
@[go_sem] theorem ty_fl45_3 : fldT Try.prog 45 3 = some (3, 28) := by kernel_rfl
@[go_sem] theorem ty_fl45_4 : fldT Try.prog 45 4 = some (4, 3) := by kernel_rfl
@[go_sem] theorem ty_pl45 : plT Try.prog 45 = some [(0, 1), (1, 1), (2, 1), (3, 1), (4, 1)] := by kernel_rfl
@[go_sem] theorem ty_sz46 : szT Try.prog 46 = some 5 := by kernel_rfl
@[go_sem] theorem ty_by46 : byT Try.prog 46 = some 40 := by kernel_rfl
@[go_sem] theorem ty_ag46 : aggT Try.prog 46 = some true := by kernel_rfl
@[go_sem] theorem ty_un46 : (Try.prog.underlying 46).isSome = true := by kernel_rfl
@[go_sem] theorem ty_ze46 : zeT Try.prog 46 = some [.data (.int .i64 0), .data (.int .i64 0), .data (.int .u64 0), .data (.int .u64 0), .data (.int .i64 0)] := by kernel_rfl
@[go_sem] theorem ty_zl46 : zlT Try.prog 46 = some 5 := by kernel_rfl
@[go_sem] theorem ty_sl46 : sliceT Try.prog 46 = none := by kernel_rfl
@[go_sem] theorem ty_ar46 : arrT Try.prog 46 = none := by kernel_rfl
@[go_sem] theorem ty_in46 : intT Try.prog 46 = none := by kernel_rfl
@[go_sem] theorem ty_bo46 : boolT Try.prog 46 = false := by kernel_rfl
@[go_sem] theorem ty_st46 : strT Try.prog 46 = false := by kernel_rfl
@[go_sem] theorem ty_zv46 : zvT Try.prog 46 = some (.data (.agg [(.int .i64 0), (.int .i64 0), (.int .u64 0), (.int .u64 0), (.int .i64 0)])) := by kernel_rfl
@[go_sem] theorem ty_fl46_0 : fldT Try.prog 46 0 = some (0, 3) := by kernel_rfl
@[go_sem] theorem ty_fl46_1 : fldT Try.prog 46 1 = some (1, 3) := by kernel_rfl
@[go_sem] theorem ty_fl46_2 : fldT Try.prog 46 2 = some (2, 28) := by kernel_rfl
@[go_sem] theorem ty_fl46_3 : fldT Try.prog 46 3 = some (3, 28) := by kernel_rfl
@[go_sem] theorem ty_fl46_4 : fldT Try.prog 46 4 = some (4, 3) := by kernel_rfl
@[go_sem] theorem ty_pl46 : plT Try.prog 46 = some [(0, 1), (1, 1), (2, 1), (3, 1), (4, 1)] := by kernel_rfl
@[go_sem] theorem ty_sz47 : szT Try.prog 47 = some 6 := by kernel_rfl
@[go_sem] theorem ty_by47 : byT Try.prog 47 = some 56 := by kernel_rfl
@[go_sem] theorem ty_ag47 : aggT Try.prog 47 = some true := by kernel_rfl
@[go_sem] theorem ty_un47 : (Try.prog.underlying 47).isSome = true := by kernel_rfl
@[go_sem] theorem ty_ze47 : zeT Try.prog 47 = some [.data (.int .i64 0), .data (.int .i64 0), .data (.int .u32 0), .data (.str ByteArray.empty), .data (.int .u64 0), .data (.int .u64 0)] := by kernel_rfl
@[go_sem] theorem ty_zl47 : zlT Try.prog 47 = some 6 := by kernel_rfl
@[go_sem] theorem ty_sl47 : sliceT Try.prog 47 = none := by kernel_rfl
@[go_sem] theorem ty_ar47 : arrT Try.prog 47 = none := by kernel_rfl
@[go_sem] theorem ty_in47 : intT Try.prog 47 = none := by kernel_rfl
@[go_sem] theorem ty_bo47 : boolT Try.prog 47 = false := by kernel_rfl
@[go_sem] theorem ty_st47 : strT Try.prog 47 = false := by kernel_rfl
@[go_sem] theorem ty_zv47 : zvT Try.prog 47 = some (.data (.agg [(.int .i64 0), (.int .i64 0), (.int .u32 0), (.str ByteArray.empty), (.int .u64 0), (.int .u64 0)])) := by kernel_rfl
@[go_sem] theorem ty_fl47_0 : fldT Try.prog 47 0 = some (0, 3) := by kernel_rfl
@[go_sem] theorem ty_fl47_1 : fldT Try.prog 47 1 = some (1, 3) := by kernel_rfl
@[go_sem] theorem ty_fl47_2 : fldT Try.prog 47 2 = some (2, 27) := by kernel_rfl
@[go_sem] theorem ty_fl47_3 : fldT Try.prog 47 3 = some (3, 9) := by kernel_rfl
@[go_sem] theorem ty_fl47_4 : fldT Try.prog 47 4 = some (4, 28) := by kernel_rfl
@[go_sem] theorem ty_fl47_5 : fldT Try.prog 47 5 = some (5, 28) := by kernel_rfl
@[go_sem] theorem ty_pl47 : plT Try.prog 47 = some [(0, 1), (1, 1), (2, 1), (3, 1), (4, 1), (5, 1)] := by kernel_rfl
@[go_sem] theorem ty_sz48 : szT Try.prog 48 = some 6 := by kernel_rfl
@[go_sem] theorem ty_by48 : byT Try.prog 48 = some 56 := by kernel_rfl
@[go_sem] theorem ty_ag48 : aggT Try.prog 48 = some true := by kernel_rfl
@[go_sem] theorem ty_un48 : (Try.prog.underlying 48).isSome = true := by kernel_rfl
@[go_sem] theorem ty_ze48 : zeT Try.prog 48 = some [.data (.int .i64 0), .data (.int .i64 0), .data (.int .u32 0), .data (.str ByteArray.empty), .data (.int .u64 0), .data (.int .u64 0)] := by kernel_rfl
@[go_sem] theorem ty_zl48 : zlT Try.prog 48 = some 6 := by kernel_rfl
@[go_sem] theorem ty_sl48 : sliceT Try.prog 48 = none := by kernel_rfl
@[go_sem] theorem ty_ar48 : arrT Try.prog 48 = none := by kernel_rfl
@[go_sem] theorem ty_in48 : intT Try.prog 48 = none := by kernel_rfl
@[go_sem] theorem ty_bo48 : boolT Try.prog 48 = false := by kernel_rfl
@[go_sem] theorem ty_st48 : strT Try.prog 48 = false := by kernel_rfl
@[go_sem] theorem ty_zv48 : zvT Try.prog 48 = some (.data (.agg [(.int .i64 0), (.int .i64 0), (.int .u32 0), (.str ByteArray.empty), (.int .u64 0), (.int .u64 0)])) := by kernel_rfl
@[go_sem] theorem ty_fl48_0 : fldT Try.prog 48 0 = some (0, 3) := by kernel_rfl
@[go_sem] theorem ty_fl48_1 : fldT Try.prog 48 1 = some (1, 3) := by kernel_rfl
@[go_sem] theorem ty_fl48_2 : fldT Try.prog 48 2 = some (2, 27) := by kernel_rfl
@[go_sem] theorem ty_fl48_3 : fldT Try.prog 48 3 = some (3, 9) := by kernel_rfl
@[go_sem] theorem ty_fl48_4 : fldT Try.prog 48 4 = some (4, 28) := by kernel_rfl
@[go_sem] theorem ty_fl48_5 : fldT Try.prog 48 5 = some (5, 28) := by kernel_rfl
@[go_sem] theorem ty_pl48 : plT Try.prog 48 = some [(0, 1), (1, 1), (2, 1), (3, 1), (4, 1), (5, 1)] := by kernel_rfl
@[go_sem] theorem ty_sz49 : szT Try.prog 49 = some 1 := by kernel_rfl
@[go_sem] theorem ty_by49 : byT Try.prog 49 = some 8 := by kernel_rfl
@[go_sem] theorem ty_ag49 : aggT Try.prog 49 = some false := by kernel_rfl
@[go_sem] theorem ty_un49 : (Try.prog.underlying 49).isSome = true := by kernel_rfl
@[go_sem] theorem ty_ze49 : zeT Try.prog 49 = some [.data .nilf] := by kernel_rfl
@[go_sem] theorem ty_zl49 : zlT Try.prog 49 = some 1 := by kernel_rfl
@[go_sem] theorem ty_sl49 : sliceT Try.prog 49 = none := by kernel_rfl
@[go_sem] theorem ty_ar49 : arrT Try.prog 49 = none := by kernel_rfl
@[go_sem] theorem ty_in49 : intT Try.prog 49 = none := by kernel_rfl
@[go_sem] theorem ty_bo49 : boolT Try.prog 49 = false := by kernel_rfl
@[go_sem] theorem ty_st49 : strT Try.prog 49 = false := by kernel_rfl
@[go_sem] theorem ty_zv49 : zvT Try.prog 49 = some (.data .nilf) := by kernel_rfl
@[go_sem] theorem ty_sz50 : szT Try.prog 50 = some 3 := by kernel_rfl
@[go_sem] theorem ty_by50 : byT Try.prog 50 = some 32 := by kernel_rfl
@[go_sem] theorem ty_ag50 : aggT Try.prog 50 = some true := by kernel_rfl
@[go_sem] theorem ty_un50 : (Try.prog.underlying 50).isSome = true := by kernel_rfl
@[go_sem] theorem ty_ze50 : zeT Try.prog 50 = some [.data (.str ByteArray.empty), .data (.int .i64 0), .data (.int .i64 0)] := by kernel_rfl
@[go_sem] theorem ty_zl50 : zlT Try.prog 50 = some 3 := by kernel_rfl
@[go_sem] theorem ty_sl50 : sliceT Try.prog 50 = none := by kernel_rfl
@[go_sem] theorem ty_ar50 : arrT Try.prog 50 = none := by kernel_rfl
@[go_sem] theorem ty_in50 : intT Try.prog 50 = none := by kernel_rfl
@[go_sem] theorem ty_bo50 : boolT Try.prog 50 = false := by kernel_rfl
@[go_sem] theorem ty_st50 : strT Try.prog 50 = false := by kernel_rfl
@[go_sem] theorem ty_zv50 : zvT Try.prog 50 = some (.data (.agg [(.str ByteArray.empty), (.int .i64 0), (.int .i64 0)])) := by kernel_rfl
@[go_sem] theorem ty_fl50_0 : fldT Try.prog 50 0 = some (0, 9) := by kernel_rfl
@[go_sem] theorem ty_fl50_1 : fldT Try.prog 50 1 = some (1, 3) := by kernel_rfl
@[go_sem] theorem ty_fl50_2 : fldT Try.prog 50 2 = some (2, 3) := by kernel_rfl
@[go_sem] theorem ty_pl50 : plT Try.prog 50 = some [(0, 1), (1, 1), (2, 1)] := by kernel_rfl
@[go_sem] theorem ty_sz51 : szT Try.prog 51 = some 3 := by kernel_rfl
@[go_sem] theorem ty_by51 : byT Try.prog 51 = some 32 := by kernel_rfl
@[go_sem] theorem ty_ag51 : aggT Try.prog 51 = some true := by kernel_rfl
@[go_sem] theorem ty_un51 : (Try.prog.underlying 51).isSome = true := by kernel_rfl
@[go_sem] theorem ty_ze51 : zeT Try.prog 51 = some [.data (.str ByteArray.empty), .data (.int .i64 0), .data (.int .i64 0)] := by kernel_rfl
@[go_sem] theorem ty_zl51 : zlT Try.prog 51 = some 3 := by kernel_rfl
@[go_sem] theorem ty_sl51 : sliceT Try.prog 51 = none := by kernel_rfl
@[go_sem] theorem ty_ar51 : arrT Try.prog 51 = none := by kernel_rfl
@[go_sem] theorem ty_in51 : intT Try.prog 51 = none := by kernel_rfl
@[go_sem] theorem ty_bo51 : boolT Try.prog 51 = false := by kernel_rfl
@[go_sem] theorem ty_st51 : strT Try.prog 51 = false := by kernel_rfl
@[go_sem] theorem ty_zv51 : zvT Try.prog 51 = some (.data (.agg [(.str ByteArray.empty), (.int .i64 0), (.int .i64 0)])) := by kernel_rfl
@[go_sem] theorem ty_fl51_0 : fldT Try.prog 51 0 = some (0, 9) := by kernel_rfl
@[go_sem] theorem ty_fl51_1 : fldT Try.prog 51 1 = some (1, 3) := by kernel_rfl
@[go_sem] theorem ty_fl51_2 : fldT Try.prog 51 2 = some (2, 3) := by kernel_rfl
@[go_sem] theorem ty_pl51 : plT Try.prog 51 = some [(0, 1), (1, 1), (2, 1)] := by kernel_rfl
@[go_sem] theorem ty_sz52 : szT Try.prog 52 = some 1 := by kernel_rfl
@[go_sem] theorem ty_by52 : byT Try.prog 52 = some 8 := by kernel_rfl
@[go_sem] theorem ty_ag52 : aggT Try.prog 52 = some false := by kernel_rfl
@[go_sem] theorem ty_un52 : (Try.prog.underlying 52).isSome = true := by kernel_rfl
@[go_sem] theorem ty_ze52 : zeT Try.prog 52 = some [.data .nilf] := by kernel_rfl
@[go_sem] theorem ty_zl52 : zlT Try.prog 52 = some 1 := by kernel_rfl
@[go_sem] theorem ty_sl52 : sliceT Try.prog 52 = none := by kernel_rfl
@[go_sem] theorem ty_ar52 : arrT Try.prog 52 = none := by kernel_rfl
@[go_sem] theorem ty_in52 : intT Try.prog 52 = none := by kernel_rfl
@[go_sem] theorem ty_bo52 : boolT Try.prog 52 = false := by kernel_rfl
@[go_sem] theorem ty_st52 : strT Try.prog 52 = false := by kernel_rfl
@[go_sem] theorem ty_zv52 : zvT Try.prog 52 = some (.data .nilf) := by kernel_rfl
@[go_sem] theorem ty_sz53 : szT Try.prog 53 = some 1 := by kernel_rfl
@[go_sem] theorem ty_by53 : byT Try.prog 53 = some 8 := by kernel_rfl
@[go_sem] theorem ty_ag53 : aggT Try.prog 53 = some false := by kernel_rfl
@[go_sem] theorem ty_un53 : (Try.prog.underlying 53).isSome = true := by kernel_rfl
@[go_sem] theorem ty_ze53 : zeT Try.prog 53 = some [.data .nilf] := by kernel_rfl
@[go_sem] theorem ty_zl53 : zlT Try.prog 53 = some 1 := by kernel_rfl
@[go_sem] theorem ty_sl53 : sliceT Try.prog 53 = none := by kernel_rfl
@[go_sem] theorem ty_ar53 : arrT Try.prog 53 = none := by kernel_rfl
@[go_sem] theorem ty_in53 : intT Try.prog 53 = none := by kernel_rfl
@[go_sem] theorem ty_bo53 : boolT Try.prog 53 = false := by kernel_rfl
@[go_sem] theorem ty_st53 : strT Try.prog 53 = false := by kernel_rfl
@[go_sem] theorem ty_zv53 : zvT Try.prog 53 = some (.data .nilf) := by kernel_rfl
@[go_sem] theorem ty_sz54 : szT Try.prog 54 = some 1 := by kernel_rfl
@[go_sem] theorem ty_by54 : byT Try.prog 54 = some 8 := by kernel_rfl
@[go_sem] theorem ty_ag54 : aggT Try.prog 54 = some false := by kernel_rfl
@[go_sem] theorem ty_un54 : (Try.prog.underlying 54).isSome = true := by kernel_rfl
@[go_sem] theorem ty_ze54 : zeT Try.prog 54 = some [.data .nilf] := by kernel_rfl
@[go_sem] theorem ty_zl54 : zlT Try.prog 54 = some 1 := by kernel_rfl
@[go_sem] theorem ty_sl54 : sliceT Try.prog 54 = none := by kernel_rfl
@[go_sem] theorem ty_ar54 : arrT Try.prog 54 = none := by kernel_rfl
@[go_sem] theorem ty_in54 : intT Try.prog 54 = none := by kernel_rfl
@[go_sem] theorem ty_bo54 : boolT Try.prog 54 = false := by kernel_rfl
@[go_sem] theorem ty_st54 : strT Try.prog 54 = false := by kernel_rfl
@[go_sem] theorem ty_zv54 : zvT Try.prog 54 = some (.data .nilf) := by kernel_rfl
@[go_sem] theorem ty_sz55 : szT Try.prog 55 = some 1 := by kernel_rfl
@[go_sem] theorem ty_by55 : byT Try.prog 55 = some 8 := by kernel_rfl
@[go_sem] theorem ty_ag55 : aggT Try.prog 55 = some false := by kernel_rfl
@[go_sem] theorem ty_un55 : (Try.prog.underlying 55).isSome = true := by kernel_rfl
@[go_sem] theorem ty_ze55 : zeT Try.prog 55 = some [.data .nilf] := by kernel_rfl
@[go_sem] theorem ty_zl55 : zlT Try.prog 55 = some 1 := by kernel_rfl
@[go_sem] theorem ty_sl55 : sliceT Try.prog 55 = none := by kernel_rfl
@[go_sem] theorem ty_ar55 : arrT Try.prog 55 = none := by kernel_rfl
@[go_sem] theorem ty_in55 : intT Try.prog 55 = none := by kernel_rfl
@[go_sem] theorem ty_bo55 : boolT Try.prog 55 = false := by kernel_rfl
@[go_sem] theorem ty_st55 : strT Try.prog 55 = false := by kernel_rfl
@[go_sem] theorem ty_zv55 : zvT Try.prog 55 = some (.data .nilf) := by kernel_rfl
@[go_sem] theorem ty_sz56 : szT Try.prog 56 = some 1 := by kernel_rfl
@[go_sem] theorem ty_by56 : byT Try.prog 56 = some 8 := by kernel_rfl
@[go_sem] theorem ty_ag56 : aggT Try.prog 56 = some false := by kernel_rfl
@[go_sem] theorem ty_un56 : (Try.prog.underlying 56).isSome = true := by kernel_rfl
@[go_sem] theorem ty_ze56 : zeT Try.prog 56 = some [.data .nilf] := by kernel_rfl
@[go_sem] theorem ty_zl56 : zlT Try.prog 56 = some 1 := by kernel_rfl
@[go_sem] theorem ty_sl56 : sliceT Try.prog 56 = none := by kernel_rfl
@[go_sem] theorem ty_ar56 : arrT Try.prog 56 = none := by kernel_rfl
@[go_sem] theorem ty_in56 : intT Try.prog 56 = none := by kernel_rfl
@[go_sem] theorem ty_bo56 : boolT Try.prog 56 = false := by kernel_rfl
@[go_sem] theorem ty_st56 : strT Try.prog 56 = false := by kernel_rfl
@[go_sem] theorem ty_zv56 : zvT Try.prog 56 = some (.data .nilf) := by kernel_rfl
@[go_sem] theorem ty_sz57 : szT Try.prog 57 = some 13 := by kernel_rfl
@[go_sem] theorem ty_by57 : byT Try.prog 57 = some 160 := by kernel_rfl
@[go_sem] theorem ty_ag57 : aggT Try.prog 57 = some true := by kernel_rfl
@[go_sem] theorem ty_un57 : (Try.prog.underlying 57).isSome = true := by kernel_rfl
@[go_sem] theorem ty_ze57 : zeT Try.prog 57 = some [.data (.int .i64 0), .emp 0, .emp 0, .emp 0, .data (.int .i64 0), .data (.int .i64 0), .data (.int .i64 0), .data (.int .u32 0), .data (.str ByteArray.empty), .data (.int .u64 0), .data (.int .u64 0), .data (.int .i64 0), .data (.int .i64 0)] := by kernel_rfl
@[go_sem] theorem ty_zl57 : zlT Try.prog 57 = some 13 := by kernel_rfl
@[go_sem] theorem ty_sl57 : sliceT Try.prog 57 = none := by kernel_rfl
@[go_sem] theorem ty_ar57 : arrT Try.prog 57 = none := by kernel_rfl
@[go_sem] theorem ty_in57 : intT Try.prog 57 = none := by kernel_rfl
@[go_sem] theorem ty_bo57 : boolT Try.prog 57 = false := by kernel_rfl
@[go_sem] theorem ty_st57 : strT Try.prog 57 = false := by kernel_rfl
@[go_sem] theorem ty_zv57 : zvT Try.prog 57 = some (.agg [.data (.int .i64 0), .emp 0, .emp 0, .emp 0, .data (.int .i64 0), .data (.int .i64 0), .data (.int .i64 0), .data (.int .u32 0), .data (.str ByteArray.empty), .data (.int .u64 0), .data (.int .u64 0), .data (.int .i64 0), .data (.int .i64 0)]) := by kernel_rfl
@[go_sem] theorem ty_fl57_0 : fldT Try.prog 57 0 = some (0, 26) := by kernel_rfl
@[go_sem] theorem ty_fl57_1 : fldT Try.prog 57 1 = some (4, 30) := by kernel_rfl
@[go_sem] theorem ty_pl57 : plT Try.prog 57 = some [(0, 4), (4, 9)] := by kernel_rfl
@[go_sem] theorem ty_sz58 : szT Try.prog 58 = some 13 := by kernel_rfl
@[go_sem] theorem ty_by58 : byT Try.prog 58 = some 160 := by kernel_rfl
@[go_sem] theorem ty_ag58 : aggT Try.prog 58 = some true := by kernel_rfl
@[go_sem] theorem ty_un58 : (Try.prog.underlying 58).isSome = true := by kernel_rfl
@[go_sem] theorem ty_ze58 : zeT Try.prog 58 = some [.data (.int .i64 0), .emp 0, .emp 0, .emp 0, .data (.int .i64 0), .data (.int .i64 0), .data (.int .i64 0), .data (.int .u32 0), .data (.str ByteArray.empty), .data (.int .u64 0), .data (.int .u64 0), .data (.int .i64 0), .data (.int .i64 0)] := by kernel_rfl
@[go_sem] theorem ty_zl58 : zlT Try.prog 58 = some 13 := by kernel_rfl
@[go_sem] theorem ty_sl58 : sliceT Try.prog 58 = none := by kernel_rfl
@[go_sem] theorem ty_ar58 : arrT Try.prog 58 = none := by kernel_rfl
@[go_sem] theorem ty_in58 : intT Try.prog 58 = none := by kernel_rfl
@[go_sem] theorem ty_bo58 : boolT Try.prog 58 = false := by kernel_rfl
@[go_sem] theorem ty_st58 : strT Try.prog 58 = false := by kernel_rfl
@[go_sem] theorem ty_zv58 : zvT Try.prog 58 = some (.agg [.data (.int .i64 0), .emp 0, .emp 0, .emp 0, .data (.int .i64 0), .data (.int .i64 0), .data (.int .i64 0), .data (.int .u32 0), .data (.str ByteArray.empty), .data (.int .u64 0), .data (.int .u64 0), .data (.int .i64 0), .data (.int .i64 0)]) := by kernel_rfl
@[go_sem] theorem ty_fl58_0 : fldT Try.prog 58 0 = some (0, 26) := by kernel_rfl
@[go_sem] theorem ty_fl58_1 : fldT Try.prog 58 1 = some (4, 30) := by kernel_rfl
@[go_sem] theorem ty_pl58 : plT Try.prog 58 = some [(0, 4), (4, 9)] := by kernel_rfl
@[go_sem] theorem ty_sz59 : szT Try.prog 59 = some 1 := by kernel_rfl
@[go_sem] theorem ty_by59 : byT Try.prog 59 = some 8 := by kernel_rfl
@[go_sem] theorem ty_ag59 : aggT Try.prog 59 = some false := by kernel_rfl
@[go_sem] theorem ty_un59 : (Try.prog.underlying 59).isSome = true := by kernel_rfl
@[go_sem] theorem ty_ze59 : zeT Try.prog 59 = some [.data .nilf] := by kernel_rfl
@[go_sem] theorem ty_zl59 : zlT Try.prog 59 = some 1 := by kernel_rfl
@[go_sem] theorem ty_sl59 : sliceT Try.prog 59 = none := by kernel_rfl
@[go_sem] theorem ty_ar59 : arrT Try.prog 59 = none := by kernel_rfl
@[go_sem] theorem ty_in59 : intT Try.prog 59 = none := by kernel_rfl
@[go_sem] theorem ty_bo59 : boolT Try.prog 59 = false := by kernel_rfl
@[go_sem] theorem ty_st59 : strT Try.prog 59 = false := by kernel_rfl
@[go_sem] theorem ty_zv59 : zvT Try.prog 59 = some (.data .nilf) := by kernel_rfl
@[go_sem] theorem ty_sz60 : szT Try.prog 60 = some 1 := by kernel_rfl
@[go_sem] theorem ty_by60 : byT Try.prog 60 = some 8 := by kernel_rfl
@[go_sem] theorem ty_ag60 : aggT Try.prog 60 = some false := by kernel_rfl
@[go_sem] theorem ty_un60 : (Try.prog.underlying 60).isSome = true := by kernel_rfl
@[go_sem] theorem ty_ze60 : zeT Try.prog 60 = some [.junk] := by kernel_rfl
@[go_sem] theorem ty_zl60 : zlT Try.prog 60 = some 1 := by kernel_rfl
@[go_sem] theorem ty_sl60 : sliceT Try.prog 60 = none := by kernel_rfl
@[go_sem] theorem ty_ar60 : arrT Try.prog 60 = none := by kernel_rfl
@[go_sem] theorem ty_in60 : intT Try.prog 60 = none := by kernel_rfl
@[go_sem] theorem ty_bo60 : boolT Try.prog 60 = false := by kernel_rfl
@[go_sem] theorem ty_st60 : strT Try.prog 60 = false := by kernel_rfl
@[go_sem] theorem ty_mp60 : mapT Try.prog 60 = some (3, 59) := by kernel_rfl
@[go_sem] theorem ty_zv60 : zvT Try.prog 60 = some (.junk) := by kernel_rfl
@[go_sem] theorem ty_sz61 : szT Try.prog 61 = some 1 := by kernel_rfl
@[go_sem] theorem ty_by61 : byT Try.prog 61 = some 8 := by kernel_rfl
@[go_sem] theorem ty_ag61 : aggT Try.prog 61 = some false := by kernel_rfl
@[go_sem] theorem ty_un61 : (Try.prog.underlying 61).isSome = true := by kernel_rfl
@[go_sem] theorem ty_ze61 : zeT Try.prog 61 = some [.data .nilf] := by kernel_rfl
@[go_sem] theorem ty_zl61 : zlT Try.prog 61 = some 1 := by kernel_rfl
@[go_sem] theorem ty_sl61 : sliceT Try.prog 61 = none := by kernel_rfl
@[go_sem] theorem ty_ar61 : arrT Try.prog 61 = none := by kernel_rfl
@[go_sem] theorem ty_in61 : intT Try.prog 61 = none := by kernel_rfl
@[go_sem] theorem ty_bo61 : boolT Try.prog 61 = false := by kernel_rfl
@[go_sem] theorem ty_st61 : strT Try.prog 61 = false := by kernel_rfl
@[go_sem] theorem ty_zv61 : zvT Try.prog 61 = some (.data .nilf) := by kernel_rfl
@[go_sem] theorem ty_sz62 : szT Try.prog 62 = some 1 := by kernel_rfl
@[go_sem] theorem ty_by62 : byT Try.prog 62 = some 8 := by kernel_rfl
@[go_sem] theorem ty_ag62 : aggT Try.prog 62 = some false := by kernel_rfl
@[go_sem] theorem ty_un62 : (Try.prog.underlying 62).isSome = true := by kernel_rfl
@[go_sem] theorem ty_ze62 : zeT Try.prog 62 = some [.data .nilf] := by kernel_rfl
@[go_sem] theorem ty_zl62 : zlT Try.prog 62 = some 1 := by kernel_rfl
@[go_sem] theorem ty_sl62 : sliceT Try.prog 62 = none := by kernel_rfl
@[go_sem] theorem ty_ar62 : arrT Try.prog 62 = none := by kernel_rfl
@[go_sem] theorem ty_in62 : intT Try.prog 62 = none := by kernel_rfl
@[go_sem] theorem ty_bo62 : boolT Try.prog 62 = false := by kernel_rfl
@[go_sem] theorem ty_st62 : strT Try.prog 62 = false := by kernel_rfl
@[go_sem] theorem ty_zv62 : zvT Try.prog 62 = some (.data .nilf) := by kernel_rfl
@[go_sem] theorem ty_sz63 : szT Try.prog 63 = some 1 := by kernel_rfl
@[go_sem] theorem ty_by63 : byT Try.prog 63 = some 8 := by kernel_rfl
@[go_sem] theorem ty_ag63 : aggT Try.prog 63 = some false := by kernel_rfl
@[go_sem] theorem ty_un63 : (Try.prog.underlying 63).isSome = true := by kernel_rfl
@[go_sem] theorem ty_ze63 : zeT Try.prog 63 = some [.data .nilf] := by kernel_rfl
@[go_sem] theorem ty_zl63 : zlT Try.prog 63 = some 1 := by kernel_rfl
@[go_sem] theorem ty_sl63 : sliceT Try.prog 63 = none := by kernel_rfl
@[go_sem] theorem ty_ar63 : arrT Try.prog 63 = none := by kernel_rfl
@[go_sem] theorem ty_in63 : intT Try.prog 63 = none := by kernel_rfl
@[go_sem] theorem ty_bo63 : boolT Try.prog 63 = false := by kernel_rfl
@[go_sem] theorem ty_st63 : strT Try.prog 63 = false := by kernel_rfl
@[go_sem] theorem ty_zv63 : zvT Try.prog 63 = some (.data .nilf) := by kernel_rfl
@[go_sem] theorem ty_sz64 : szT Try.prog 64 = some 1 := by kernel_rfl
@[go_sem] theorem ty_by64 : byT Try.prog 64 = some 8 := by kernel_rfl
@[go_sem] theorem ty_ag64 : aggT Try.prog 64 = some false := by kernel_rfl
@[go_sem] theorem ty_un64 : (Try.prog.underlying 64).isSome = true := by kernel_rfl
@[go_sem] theorem ty_ze64 : zeT Try.prog 64 = some [.data .nilf] := by kernel_rfl
@[go_sem] theorem ty_zl64 : zlT Try.prog 64 = some 1 := by kernel_rfl
@[go_sem] theorem ty_sl64 : sliceT Try.prog 64 = none := by kernel_rfl
@[go_sem] theorem ty_ar64 : arrT Try.prog 64 = none := by kernel_rfl
@[go_sem] theorem ty_in64 : intT Try.prog 64 = none := by kernel_rfl
@[go_sem] theorem ty_bo64 : boolT Try.prog 64 = false := by kernel_rfl
@[go_sem] theorem ty_st64 : strT Try.prog 64 = false := by kernel_rfl
@[go_sem] theorem ty_zv64 : zvT Try.prog 64 = some (.data .nilf) := by kernel_rfl
@[go_sem] theorem ty_sz65 : szT Try.prog 65 = some 1 := by kernel_rfl
@[go_sem] theorem ty_by65 : byT Try.prog 65 = some 8 := by kernel_rfl
@[go_sem] theorem ty_ag65 : aggT Try.prog 65 = some false := by kernel_rfl
@[go_sem] theorem ty_un65 : (Try.prog.underlying 65).isSome = true := by kernel_rfl
@[go_sem] theorem ty_ze65 : zeT Try.prog 65 = some [.data .nilf] := by kernel_rfl
@[go_sem] theorem ty_zl65 : zlT Try.prog 65 = some 1 := by kernel_rfl
@[go_sem] theorem ty_sl65 : sliceT Try.prog 65 = none := by kernel_rfl
@[go_sem] theorem ty_ar65 : arrT Try.prog 65 = none := by kernel_rfl
@[go_sem] theorem ty_in65 : intT Try.prog 65 = none := by kernel_rfl
@[go_sem] theorem ty_bo65 : boolT Try.prog 65 = false := by kernel_rfl
@[go_sem] theorem ty_st65 : strT Try.prog 65 = false := by kernel_rfl
@[go_sem] theorem ty_zv65 : zvT Try.prog 65 = some (.data .nilf) := by kernel_rfl
@[go_sem] theorem ty_sz66 : szT Try.prog 66 = some 1 := by kernel_rfl
@[go_sem] theorem ty_by66 : byT Try.prog 66 = some 8 := by kernel_rfl
@[go_sem] theorem ty_ag66 : aggT Try.prog 66 = some false := by kernel_rfl
@[go_sem] theorem ty_un66 : (Try.prog.underlying 66).isSome = true := by kernel_rfl
@[go_sem] theorem ty_ze66 : zeT Try.prog 66 = some [.data .nilf] := by kernel_rfl
@[go_sem] theorem ty_zl66 : zlT Try.prog 66 = some 1 := by kernel_rfl
@[go_sem] theorem ty_sl66 : sliceT Try.prog 66 = none := by kernel_rfl
@[go_sem] theorem ty_ar66 : arrT Try.prog 66 = none := by kernel_rfl
@[go_sem] theorem ty_in66 : intT Try.prog 66 = none := by kernel_rfl
@[go_sem] theorem ty_bo66 : boolT Try.prog 66 = false := by kernel_rfl
@[go_sem] theorem ty_st66 : strT Try.prog 66 = false := by kernel_rfl
@[go_sem] theorem ty_zv66 : zvT Try.prog 66 = some (.data .nilf) := by kernel_rfl
@[go_sem] theorem ty_sz67 : szT Try.prog 67 = some 1 := by kernel_rfl
@[go_sem] theorem ty_by67 : byT Try.prog 67 = some 8 := by kernel_rfl
@[go_sem] theorem ty_ag67 : aggT Try.prog 67 = some false := by kernel_rfl
@[go_sem] theorem ty_un67 : (Try.prog.underlying 67).isSome = true := by kernel_rfl
@[go_sem] theorem ty_ze67 : zeT Try.prog 67 = some [.data .nilf] := by kernel_rfl
@[go_sem] theorem ty_zl67 : zlT Try.prog 67 = some 1 := by kernel_rfl
@[go_sem] theorem ty_sl67 : sliceT Try.prog 67 = none := by kernel_rfl
@[go_sem] theorem ty_ar67 : arrT Try.prog 67 = none := by kernel_rfl
@[go_sem] theorem ty_in67 : intT Try.prog 67 = none := by kernel_rfl
@[go_sem] theorem ty_bo67 : boolT Try.prog 67 = false := by kernel_rfl
@[go_sem] theorem ty_st67 : strT Try.prog 67 = false := by kernel_rfl
@[go_sem] theorem ty_zv67 : zvT Try.prog 67 = some (.data .nilf) := by kernel_rfl
@[go_sem] theorem ty_sz68 : szT Try.prog 68 = some 1 := by kernel_rfl
@[go_sem] theorem ty_by68 : byT Try.prog 68 = some 8 := by kernel_rfl
@[go_sem] theorem ty_ag68 : aggT Try.prog 68 = some false := by kernel_rfl
@[go_sem] theorem ty_un68 : (Try.prog.underlying 68).isSome = true := by kernel_rfl
@[go_sem] theorem ty_ze68 : zeT Try.prog 68 = some [.data .nilf] := by kernel_rfl
@[go_sem] theorem ty_zl68 : zlT Try.prog 68 = some 1 := by kernel_rfl
@[go_sem] theorem ty_sl68 : sliceT Try.prog 68 = none := by kernel_rfl
@[go_sem] theorem ty_ar68 : arrT Try.prog 68 = none := by kernel_rfl
@[go_sem] theorem ty_in68 : intT Try.prog 68 = none := by kernel_rfl
@[go_sem] theorem ty_bo68 : boolT Try.prog 68 = false := by kernel_rfl
@[go_sem] theorem ty_st68 : strT Try.prog 68 = false := by kernel_rfl
@[go_sem] theorem ty_zv68 : zvT Try.prog 68 = some (.data .nilf) := by kernel_rfl
@[go_sem] theorem ty_sz69 : szT Try.prog 69 = some 1 := by kernel_rfl
@[go_sem] theorem ty_by69 : byT Try.prog 69 = some 8 := by kernel_rfl
@[go_sem] theorem ty_ag69 : aggT Try.prog 69 = some false := by kernel_rfl
@[go_sem] theorem ty_un69 : (Try.prog.underlying 69).isSome = true := by kernel_rfl
@[go_sem] theorem ty_ze69 : zeT Try.prog 69 = some [.data .nilf] := by kernel_rfl
@[go_sem] theorem ty_zl69 : zlT Try.prog 69 = some 1 := by kernel_rfl
@[go_sem] theorem ty_sl69 : sliceT Try.prog 69 = none := by kernel_rfl
@[go_sem] theorem ty_ar69 : arrT Try.prog 69 = none := by kernel_rfl
@[go_sem] theorem ty_in69 : intT Try.prog 69 = none := by kernel_rfl
@[go_sem] theorem ty_bo69 : boolT Try.prog 69 = false := by kernel_rfl
@[go_sem] theorem ty_st69 : strT Try.prog 69 = false := by kernel_rfl
@[go_sem] theorem ty_zv69 : zvT Try.prog 69 = some (.data .nilf) := by kernel_rfl
@[go_sem] theorem ty_sz70 : szT Try.prog 70 = some 1 := by kernel_rfl
@[go_sem] theorem ty_by70 : byT Try.prog 70 = some 8 := by kernel_rfl
@[go_sem] theorem ty_ag70 : aggT Try.prog 70 = some false := by kernel_rfl
@[go_sem] theorem ty_un70 : (Try.prog.underlying 70).isSome = true := by kernel_rfl
@[go_sem] theorem ty_ze70 : zeT Try.prog 70 = some [.data .nilf] := by kernel_rfl
@[go_sem] theorem ty_zl70 : zlT Try.prog 70 = some 1 := by kernel_rfl
@[go_sem] theorem ty_sl70 : sliceT Try.prog 70 = none := by kernel_rfl
@[go_sem] theorem ty_ar70 : arrT Try.prog 70 = none := by kernel_rfl
@[go_sem] theorem ty_in70 : intT Try.prog 70 = none := by kernel_rfl
@[go_sem] theorem ty_bo70 : boolT Try.prog 70 = false := by kernel_rfl
@[go_sem] theorem ty_st70 : strT Try.prog 70 = false := by kernel_rfl
@[go_sem] theorem ty_zv70 : zvT Try.prog 70 = some (.data .nilf) := by kernel_rfl
@[go_sem] theorem ty_sz71 : szT Try.prog 71 = some 1 := by kernel_rfl
@[go_sem] theorem ty_by71 : byT Try.prog 71 = some 8 := by kernel_rfl
@[go_sem] theorem ty_ag71 : aggT Try.prog 71 = some false := by kernel_rfl
@[go_sem] theorem ty_un71 : (Try.prog.underlying 71).isSome = true := by kernel_rfl
@[go_sem] theorem ty_ze71 : zeT Try.prog 71 = some [.data .nilf] := by kernel_rfl
@[go_sem] theorem ty_zl71 : zlT Try.prog 71 = some 1 := by kernel_rfl
@[go_sem] theorem ty_sl71 : sliceT Try.prog 71 = none := by kernel_rfl
@[go_sem] theorem ty_ar71 : arrT Try.prog 71 = none := by kernel_rfl
@[go_sem] theorem ty_in71 : intT Try.prog 71 = none := by kernel_rfl
@[go_sem] theorem ty_bo71 : boolT Try.prog 71 = false := by kernel_rfl
@[go_sem] theorem ty_st71 : strT Try.prog 71 = false := by kernel_rfl
@[go_sem] theorem ty_zv71 : zvT Try.prog 71 = some (.data .nilf) := by kernel_rfl
@[go_sem] theorem ty_sz72 : szT Try.prog 72 = some 1 := by kernel_rfl
@[go_sem] theorem ty_by72 : byT Try.prog 72 = some 8 := by kernel_rfl
@[go_sem] theorem ty_ag72 : aggT Try.prog 72 = some false := by kernel_rfl
@[go_sem] theorem ty_un72 : (Try.prog.underlying 72).isSome = true := by kernel_rfl
@[go_sem] theorem ty_ze72 : zeT Try.prog 72 = some [.data .nilf] := by kernel_rfl
@[go_sem] theorem ty_zl72 : zlT Try.prog 72 = some 1 := by kernel_rfl
@[go_sem] theorem ty_sl72 : sliceT Try.prog 72 = none := by kernel_rfl
@[go_sem] theorem ty_ar72 : arrT Try.prog 72 = none := by kernel_rfl
@[go_sem] theorem ty_in72 : intT Try.prog 72 = none := by kernel_rfl
@[go_sem] theorem ty_bo72 : boolT Try.prog 72 = false := by kernel_rfl
@[go_sem] theorem ty_st72 : strT Try.prog 72 = false := by kernel_rfl
@[go_sem] theorem ty_zv72 : zvT Try.prog 72 = some (.data .nilf) := by kernel_rfl
@[go_sem] theorem ty_sz73 : szT Try.prog 73 = some 1 := by kernel_rfl
@[go_sem] theorem ty_by73 : byT Try.prog 73 = some 8 := by kernel_rfl
@[go_sem] theorem ty_ag73 : aggT Try.prog 73 = some false := by kernel_rfl
@[go_sem] theorem ty_un73 : (Try.prog.underlying 73).isSome = true := by kernel_rfl
@[go_sem] theorem ty_ze73 : zeT Try.prog 73 = some [.data .nilf] := by kernel_rfl
@[go_sem] theorem ty_zl73 : zlT Try.prog 73 = some 1 := by kernel_rfl
@[go_sem] theorem ty_sl73 : sliceT Try.prog 73 = none := by kernel_rfl
@[go_sem] theorem ty_ar73 : arrT Try.prog 73 = none := by kernel_rfl
@[go_sem] theorem ty_in73 : intT Try.prog 73 = none := by kernel_rfl
@[go_sem] theorem ty_bo73 : boolT Try.prog 73 = false := by kernel_rfl
@[go_sem] theorem ty_st73 : strT Try.prog 73 = false := by kernel_rfl
@[go_sem] theorem ty_zv73 : zvT Try.prog 73 = some (.data .nilf) := by kernel_rfl
@[go_sem] theorem ty_sz74 : szT Try.prog 74 = some 1 := by kernel_rfl
@[go_sem] theorem ty_by74 : byT Try.prog 74 = some 8 := by kernel_rfl
@[go_sem] theorem ty_ag74 : aggT Try.prog 74 = some false := by kernel_rfl
@[go_sem] theorem ty_un74 : (Try.prog.underlying 74).isSome = true := by kernel_rfl
@[go_sem] theorem ty_ze74 : zeT Try.prog 74 = some [.data .nilf] := by kernel_rfl
@[go_sem] theorem ty_zl74 : zlT Try.prog 74 = some 1 := by kernel_rfl
@[go_sem] theorem ty_sl74 : sliceT Try.prog 74 = none := by kernel_rfl
@[go_sem] theorem ty_ar74 : arrT Try.prog 74 = none := by kernel_rfl
@[go_sem] theorem ty_in74 : intT Try.prog 74 = none := by kernel_rfl
@[go_sem] theorem ty_bo74 : boolT Try.prog 74 = false := by kernel_rfl
@[go_sem] theorem ty_st74 : strT Try.prog 74 = false := by kernel_rfl
@[go_sem] theorem ty_zv74 : zvT Try.prog 74 = some (.data .nilf) := by kernel_rfl
@[go_sem] theorem ty_sz75 : szT Try.prog 75 = some 1 := by kernel_rfl
@[go_sem] theorem ty_by75 : byT Try.prog 75 = some 8 := by kernel_rfl
@[go_sem] theorem ty_ag75 : aggT Try.prog 75 = some false := by kernel_rfl
@[go_sem] theorem ty_un75 : (Try.prog.underlying 75).isSome = true := by kernel_rfl
@[go_sem] theorem ty_ze75 : zeT Try.prog 75 = some [.data .nilp] := by kernel_rfl
@[go_sem] theorem ty_zl75 : zlT Try.prog 75 = some 1 := by kernel_rfl
@[go_sem] theorem ty_sl75 : sliceT Try.prog 75 = none := by kernel_rfl
@[go_sem] theorem ty_ar75 : arrT Try.prog 75 = none := by kernel_rfl
@[go_sem] theorem ty_in75 : intT Try.prog 75 = none := by kernel_rfl
@[go_sem] theorem ty_bo75 : boolT Try.prog 75 = false := by kernel_rfl
@[go_sem] theorem ty_st75 : strT Try.prog 75 = false := by kernel_rfl
@[go_sem] theorem ty_zv75 : zvT Try.prog 75 = some (.data .nilp) := by kernel_rfl
@[go_sem] theorem ty_sz76 : szT Try.prog 76 = some 1 := by kernel_rfl
@[go_sem] theorem ty_by76 : byT Try.prog 76 = some 8 := by kernel_rfl
@[go_sem] theorem ty_ag76 : aggT Try.prog 76 = some false := by kernel_rfl
@[go_sem] theorem ty_un76 : (Try.prog.underlying 76).isSome = true := by kernel_rfl
@[go_sem] theorem ty_ze76 : zeT Try.prog 76 = some [.junk] := by kernel_rfl
@[go_sem] theorem ty_zl76 : zlT Try.prog 76 = some 1 := by kernel_rfl
@[go_sem] theorem ty_sl76 : sliceT Try.prog 76 = none := by kernel_rfl
@[go_sem] theorem ty_ar76 : arrT Try.prog 76 = none := by kernel_rfl
@[go_sem] theorem ty_in76 : intT Try.prog 76 = none := by kernel_rfl
@[go_sem] theorem ty_bo76 : boolT Try.prog 76 = false := by kernel_rfl
@[go_sem] theorem ty_st76 : strT Try.prog 76 = false := by kernel_rfl
@[go_sem] theorem ty_mp76 : mapT Try.prog 76 = some (3, 46) := by kernel_rfl
@[go_sem] theorem ty_zv76 : zvT Try.prog 76 = some (.junk) := by kernel_rfl
@[go_sem] theorem ty_sz78 : szT Try.prog 78 = some 1 := by kernel_rfl
@[go_sem] theorem ty_by78 : byT Try.prog 78 = some 8 := by kernel_rfl
@[go_sem] theorem ty_ag78 : aggT Try.prog 78 = some false := by kernel_rfl
@[go_sem] theorem ty_un78 : (Try.prog.underlying 78).isSome = true := by kernel_rfl
@[go_sem] theorem ty_ze78 : zeT Try.prog 78 = some [.data .nilf] := by kernel_rfl
@[go_sem] theorem ty_zl78 : zlT Try.prog 78 = some 1 := by kernel_rfl
@[go_sem] theorem ty_sl78 : sliceT Try.prog 78 = none := by kernel_rfl
@[go_sem] theorem ty_ar78 : arrT Try.prog 78 = none := by kernel_rfl
@[go_sem] theorem ty_in78 : intT Try.prog 78 = none := by kernel_rfl
@[go_sem] theorem ty_bo78 : boolT Try.prog 78 = false := by kernel_rfl
@[go_sem] theorem ty_st78 : strT Try.prog 78 = false := by kernel_rfl
@[go_sem] theorem ty_zv78 : zvT Try.prog 78 = some (.data .nilf) := by kernel_rfl
@[go_sem] theorem ty_sz80 : szT Try.prog 80 = some 1 := by kernel_rfl
@[go_sem] theorem ty_by80 : byT Try.prog 80 = some 8 := by kernel_rfl
@[go_sem] theorem ty_ag80 : aggT Try.prog 80 = some false := by kernel_rfl
@[go_sem] theorem ty_un80 : (Try.prog.underlying 80).isSome = true := by kernel_rfl
@[go_sem] theorem ty_ze80 : zeT Try.prog 80 = some [.data .nilf] := by kernel_rfl
@[go_sem] theorem ty_zl80 : zlT Try.prog 80 = some 1 := by kernel_rfl
@[go_sem] theorem ty_sl80 : sliceT Try.prog 80 = none := by kernel_rfl
@[go_sem] theorem ty_ar80 : arrT Try.prog 80 = none := by kernel_rfl
@[go_sem] theorem ty_in80 : intT Try.prog 80 = none := by kernel_rfl
@[go_sem] theorem ty_bo80 : boolT Try.prog 80 = false := by kernel_rfl
@[go_sem] theorem ty_st80 : strT Try.prog 80 = false := by kernel_rfl
@[go_sem] theorem ty_zv80 : zvT Try.prog 80 = some (.data .nilf) := by kernel_rfl
@[go_sem] theorem ty_sz81 : szT Try.prog 81 = some 1 := by kernel_rfl
@[go_sem] theorem ty_by81 : byT Try.prog 81 = some 8 := by kernel_rfl
@[go_sem] theorem ty_ag81 : aggT Try.prog 81 = some false := by kernel_rfl
@[go_sem] theorem ty_un81 : (Try.prog.underlying 81).isSome = true := by kernel_rfl
@[go_sem] theorem ty_ze81 : zeT Try.prog 81 = some [.data .nilf] := by kernel_rfl
@[go_sem] theorem ty_zl81 : zlT Try.prog 81 = some 1 := by kernel_rfl
@[go_sem] theorem ty_sl81 : sliceT Try.prog 81 = none := by kernel_rfl
@[go_sem] theorem ty_ar81 : arrT Try.prog 81 = none := by kernel_rfl
@[go_sem] theorem ty_in81 : intT Try.prog 81 = none := by kernel_rfl
@[go_sem] theorem ty_bo81 : boolT Try.prog 81 = false := by kernel_rfl
@[go_sem] theorem ty_st81 : strT Try.prog 81 = false := by kernel_rfl
@[go_sem] theorem ty_zv81 : zvT Try.prog 81 = some (.data .nilf) := by kernel_rfl
@[go_sem] theorem ty_sz82 : szT Try.prog 82 = some 1 := by kernel_rfl
@[go_sem] theorem ty_by82 : byT Try.prog 82 = some 8 := by kernel_rfl
@[go_sem] theorem ty_ag82 : aggT Try.prog 82 = some false := by kernel_rfl
@[go_sem] theorem ty_un82 : (Try.prog.underlying 82).isSome = true := by kernel_rfl
@[go_sem] theorem ty_ze82 : zeT Try.prog 82 = some [.data .nilf] := by kernel_rfl
@[go_sem] theorem ty_zl82 : zlT Try.prog 82 = some 1 := by kernel_rfl
@[go_sem] theorem ty_sl82 : sliceT Try.prog 82 = none := by kernel_rfl
@[go_sem] theorem ty_ar82 : arrT Try.prog 82 = none := by kernel_rfl
@[go_sem] theorem ty_in82 : intT Try.prog 82 = none := by kernel_rfl
@[go_sem] theorem ty_bo82 : boolT Try.prog 82 = false := by kernel_rfl
@[go_sem] theorem ty_st82 : strT Try.prog 82 = false := by kernel_rfl
@[go_sem] theorem ty_zv82 : zvT Try.prog 82 = some (.data .nilf) := by kernel_rfl
@[go_sem] theorem ty_sz83 : szT Try.prog 83 = some 1 := by kernel_rfl
@[go_sem] theorem ty_by83 : byT Try.prog 83 = some 8 := by kernel_rfl
@[go_sem] theorem ty_ag83 : aggT Try.prog 83 = some false := by kernel_rfl
@[go_sem] theorem ty_un83 : (Try.prog.underlying 83).isSome = true := by kernel_rfl
@[go_sem] theorem ty_ze83 : zeT Try.prog 83 = some [.data .nilf] := by kernel_rfl
@[go_sem] theorem ty_zl83 : zlT Try.prog 83 = some 1 := by kernel_rfl
@[go_sem] theorem ty_sl83 : sliceT Try.prog 83 = none := by kernel_rfl
@[go_sem] theorem ty_ar83 : arrT Try.prog 83 = none := by kernel_rfl
@[go_sem] theorem ty_in83 : intT Try.prog 83 = none := by kernel_rfl
@[go_sem] theorem ty_bo83 : boolT Try.prog 83 = false := by kernel_rfl
@[go_sem] theorem ty_st83 : strT Try.prog 83 = false := by kernel_rfl
@[go_sem] theorem ty_zv83 : zvT Try.prog 83 = some (.data .nilf) := by kernel_rfl
@[go_sem] theorem ty_sz85 : szT Try.prog 85 = some 1 := by kernel_rfl
@[go_sem] theorem ty_by85 : byT Try.prog 85 = some 8 := by kernel_rfl
@[go_sem] theorem ty_ag85 : aggT Try.prog 85 = some false := by kernel_rfl
@[go_sem] theorem ty_un85 : (Try.prog.underlying 85).isSome = true := by kernel_rfl
@[go_sem] theorem ty_ze85 : zeT Try.prog 85 = some [.data .nilf] := by kernel_rfl
@[go_sem] theorem ty_zl85 : zlT Try.prog 85 = some 1 := by kernel_rfl
@[go_sem] theorem ty_sl85 : sliceT Try.prog 85 = none := by kernel_rfl
@[go_sem] theorem ty_ar85 : arrT Try.prog 85 = none := by kernel_rfl
@[go_sem] theorem ty_in85 : intT Try.prog 85 = none := by kernel_rfl
@[go_sem] theorem ty_bo85 : boolT Try.prog 85 = false := by kernel_rfl
@[go_sem] theorem ty_st85 : strT Try.prog 85 = false := by kernel_rfl
@[go_sem] theorem ty_zv85 : zvT Try.prog 85 = some (.data .nilf) := by kernel_rfl
@[go_sem] theorem ty_sz86 : szT Try.prog 86 = some 1 := by kernel_rfl
@[go_sem] theorem ty_by86 : byT Try.prog 86 = some 8 := by kernel_rfl
@[go_sem] theorem ty_ag86 : aggT Try.prog 86 = some false := by kernel_rfl
@[go_sem] theorem ty_un86 : (Try.prog.underlying 86).isSome = true := by kernel_rfl
@[go_sem] theorem ty_ze86 : zeT Try.prog 86 = some [.data .nilf] := by kernel_rfl
@[go_sem] theorem ty_zl86 : zlT Try.prog 86 = some 1 := by kernel_rfl
@[go_sem] theorem ty_sl86 : sliceT Try.prog 86 = none := by kernel_rfl
@[go_sem] theorem ty_ar86 : arrT Try.prog 86 = none := by kernel_rfl
@[go_sem] theorem ty_in86 : intT Try.prog 86 = none := by kernel_rfl
@[go_sem] theorem ty_bo86 : boolT Try.prog 86 = false := by kernel_rfl
@[go_sem] theorem ty_st86 : strT Try.prog 86 = false := by kernel_rfl
@[go_sem] theorem ty_zv86 : zvT Try.prog 86 = some (.data .nilf) := by kernel_rfl
@[go_sem] theorem ty_sz87 : szT Try.prog 87 = some 1 := by kernel_rfl
@[go_sem] theorem ty_by87 : byT Try.prog 87 = some 8 := by kernel_rfl
@[go_sem] theorem ty_ag87 : aggT Try.prog 87 = some false := by kernel_rfl
@[go_sem] theorem ty_un87 : (Try.prog.underlying 87).isSome = true := by kernel_rfl
@[go_sem] theorem ty_ze87 : zeT Try.prog 87 = some [.data .nilf] := by kernel_rfl
@[go_sem] theorem ty_zl87 : zlT Try.prog 87 = some 1 := by kernel_rfl
@[go_sem] theorem ty_sl87 : sliceT Try.prog 87 = none := by kernel_rfl
@[go_sem] theorem ty_ar87 : arrT Try.prog 87 = none := by kernel_rfl
@[go_sem] theorem ty_in87 : intT Try.prog 87 = none := by kernel_rfl
@[go_sem] theorem ty_bo87 : boolT Try.prog 87 = false := by kernel_rfl
@[go_sem] theorem ty_st87 : strT Try.prog 87 = false := by kernel_rfl
@[go_sem] theorem ty_zv87 : zvT Try.prog 87 = some (.data .nilf) := by kernel_rfl
@[go_sem] theorem ty_sz88 : szT Try.prog 88 = some 1 := by kernel_rfl
@[go_sem] theorem ty_by88 : byT Try.prog 88 = some 8 := by kernel_rfl
@[go_sem] theorem ty_ag88 : aggT Try.prog 88 = some false := by kernel_rfl
@[go_sem] theorem ty_un88 : (Try.prog.underlying 88).isSome = true := by kernel_rfl
@[go_sem] theorem ty_ze88 : zeT Try.prog 88 = some [.data .nilf] := by kernel_rfl
@[go_sem] theorem ty_zl88 : zlT Try.prog 88 = some 1 := by kernel_rfl
@[go_sem] theorem ty_sl88 : sliceT Try.prog 88 = none := by kernel_rfl
@[go_sem] theorem ty_ar88 : arrT Try.prog 88 = none := by kernel_rfl
@[go_sem] theorem ty_in88 : intT Try.prog 88 = none := by kernel_rfl
@[go_sem] theorem ty_bo88 : boolT Try.prog 88 = false := by kernel_rfl
@[go_sem] theorem ty_st88 : strT Try.prog 88 = false := by kernel_rfl
@[go_sem] theorem ty_zv88 : zvT Try.prog 88 = some (.data .nilf) := by kernel_rfl
@[go_sem] theorem ty_sz89 : szT Try.prog 89 = some 1 := by kernel_rfl
@[go_sem] theorem ty_by89 : byT Try.prog 89 = some 8 := by kernel_rfl
@[go_sem] theorem ty_ag89 : aggT Try.prog 89 = some false := by kernel_rfl
@[go_sem] theorem ty_un89 : (Try.prog.underlying 89).isSome = true := by kernel_rfl
@[go_sem] theorem ty_ze89 : zeT Try.prog 89 = some [.data .nilf] := by kernel_rfl
@[go_sem] theorem ty_zl89 : zlT Try.prog 89 = some 1 := by kernel_rfl
@[go_sem] theorem ty_sl89 : sliceT Try.prog 89 = none := by kernel_rfl
@[go_sem] theorem ty_ar89 : arrT Try.prog 89 = none := by kernel_rfl
@[go_sem] theorem ty_in89 : intT Try.prog 89 = none := by kernel_rfl
@[go_sem] theorem ty_bo89 : boolT Try.prog 89 = false := by kernel_rfl
@[go_sem] theorem ty_st89 : strT Try.prog 89 = false := by kernel_rfl
@[go_sem] theorem ty_zv89 : zvT Try.prog 89 = some (.data .nilf) := by kernel_rfl
@[go_sem] theorem ty_sz90 : szT Try.prog 90 = some 1 := by kernel_rfl
@[go_sem] theorem ty_by90 : byT Try.prog 90 = some 8 := by kernel_rfl
@[go_sem] theorem ty_ag90 : aggT Try.prog 90 = some false := by kernel_rfl
@[go_sem] theorem ty_un90 : (Try.prog.underlying 90).isSome = true := by kernel_rfl
@[go_sem] theorem ty_ze90 : zeT Try.prog 90 = some [.data .nilf] := by kernel_rfl
@[go_sem] theorem ty_zl90 : zlT Try.prog 90 = some 1 := by kernel_rfl
@[go_sem] theorem ty_sl90 : sliceT Try.prog 90 = none := by kernel_rfl
@[go_sem] theorem ty_ar90 : arrT Try.prog 90 = none := by kernel_rfl
@[go_sem] theorem ty_in90 : intT Try.prog 90 = none := by kernel_rfl
@[go_sem] theorem ty_bo90 : boolT Try.prog 90 = false := by kernel_rfl
@[go_sem] theorem ty_st90 : strT Try.prog 90 = false := by kernel_rfl
@[go_sem] theorem ty_zv90 : zvT Try.prog 90 = some (.data .nilf) := by kernel_rfl
@[go_sem] theorem ty_sz91 : szT Try.prog 91 = some 1 := by kernel_rfl
@[go_sem] theorem ty_by91 : byT Try.prog 91 = some 8 := by kernel_rfl
@[go_sem] theorem ty_ag91 : aggT Try.prog 91 = some false := by kernel_rfl
@[go_sem] theorem ty_un91 : (Try.prog.underlying 91).isSome = true := by kernel_rfl
@[go_sem] theorem ty_ze91 : zeT Try.prog 91 = some [.data .nilf] := by kernel_rfl
@[go_sem] theorem ty_zl91 : zlT Try.prog 91 = some 1 := by kernel_rfl
@[go_sem] theorem ty_sl91 : sliceT Try.prog 91 = none := by kernel_rfl
@[go_sem] theorem ty_ar91 : arrT Try.prog 91 = none := by kernel_rfl
@[go_sem] theorem ty_in91 : intT Try.prog 91 = none := by kernel_rfl
@[go_sem] theorem ty_bo91 : boolT Try.prog 91 = false := by kernel_rfl
@[go_sem] theorem ty_st91 : strT Try.prog 91 = false := by kernel_rfl
@[go_sem] theorem ty_zv91 : zvT Try.prog 91 = some (.data .nilf) := by kernel_rfl
@[go_sem] theorem ty_sz92 : szT Try.prog 92 = some 1 := by kernel_rfl
@[go_sem] theorem ty_by92 : byT Try.prog 92 = some 8 := by kernel_rfl
@[go_sem] theorem ty_ag92 : aggT Try.prog 92 = some false := by kernel_rfl
@[go_sem] theorem ty_un92 : (Try.prog.underlying 92).isSome = true := by kernel_rfl
@[go_sem] theorem ty_ze92 : zeT Try.prog 92 = some [.data .nilf] := by kernel_rfl
@[go_sem] theorem ty_zl92 : zlT Try.prog 92 = some 1 := by kernel_rfl
@[go_sem] theorem ty_sl92 : sliceT Try.prog 92 = none := by kernel_rfl
@[go_sem] theorem ty_ar92 : arrT Try.prog 92 = none := by kernel_rfl
@[go_sem] theorem ty_in92 : intT Try.prog 92 = none := by kernel_rfl
@[go_sem] theorem ty_bo92 : boolT Try.prog 92 = false := by kernel_rfl
@[go_sem] theorem ty_st92 : strT Try.prog 92 = false := by kernel_rfl
@[go_sem] theorem ty_zv92 : zvT Try.prog 92 = some (.data .nilf) := by kernel_rfl
@[go_sem] theorem ty_sz93 : szT Try.prog 93 = some 1 := by kernel_rfl
@[go_sem] theorem ty_by93 : byT Try.prog 93 = some 8 := by kernel_rfl
@[go_sem] theorem ty_ag93 : aggT Try.prog 93 = some false := by kernel_rfl
@[go_sem] theorem ty_un93 : (Try.prog.underlying 93).isSome = true := by kernel_rfl
@[go_sem] theorem ty_ze93 : zeT Try.prog 93 = some [.data .nilf] := by kernel_rfl
@[go_sem] theorem ty_zl93 : zlT Try.prog 93 = some 1 := by kernel_rfl
@[go_sem] theorem ty_sl93 : sliceT Try.prog 93 = none := by kernel_rfl
@[go_sem] theorem ty_ar93 : arrT Try.prog 93 = none := by kernel_rfl
@[go_sem] theorem ty_in93 : intT Try.prog 93 = none := by kernel_rfl
@[go_sem] theorem ty_bo93 : boolT Try.prog 93 = false := by kernel_rfl
@[go_sem] theorem ty_st93 : strT Try.prog 93 = false := by kernel_rfl
@[go_sem] theorem ty_zv93 : zvT Try.prog 93 = some (.data .nilf) := by kernel_rfl
@[go_sem] theorem ty_sz94 : szT Try.prog 94 = some 1 := by kernel_rfl
@[go_sem] theorem ty_by94 : byT Try.prog 94 = some 8 := by kernel_rfl
@[go_sem] theorem ty_ag94 : aggT Try.prog 94 = some false := by kernel_rfl
@[go_sem] theorem ty_un94 : (Try.prog.underlying 94).isSome = true := by kernel_rfl
@[go_sem] theorem ty_ze94 : zeT Try.prog 94 = some [.data .nilf] := by kernel_rfl
@[go_sem] theorem ty_zl94 : zlT Try.prog 94 = some 1 := by kernel_rfl
@[go_sem] theorem ty_sl94 : sliceT Try.prog 94 = none := by kernel_rfl
@[go_sem] theorem ty_ar94 : arrT Try.prog 94 = none := by kernel_rfl
@[go_sem] theorem ty_in94 : intT Try.prog 94 = none := by kernel_rfl
@[go_sem] theorem ty_bo94 : boolT Try.prog 94 = false := by kernel_rfl
@[go_sem] theorem ty_st94 : strT Try.prog 94 = false := by kernel_rfl
@[go_sem] theorem ty_zv94 : zvT Try.prog 94 = some (.data .nilf) := by kernel_rfl
@[go_sem] theorem ty_sz95 : szT Try.prog 95 = some 1 := by kernel_rfl
@[go_sem] theorem ty_by95 : byT Try.prog 95 = some 8 := by kernel_rfl
@[go_sem] theorem ty_ag95 : aggT Try.prog 95 = some false := by kernel_rfl
@[go_sem] theorem ty_un95 : (Try.prog.underlying 95).isSome = true := by kernel_rfl
@[go_sem] theorem ty_ze95 : zeT Try.prog 95 = some [.data .nilf] := by kernel_rfl
@[go_sem] theorem ty_zl95 : zlT Try.prog 95 = some 1 := by kernel_rfl
@[go_sem] theorem ty_sl95 : sliceT Try.prog 95 = none := by kernel_rfl
@[go_sem] theorem ty_ar95 : arrT Try.prog 95 = none := by kernel_rfl
@[go_sem] theorem ty_in95 : intT Try.prog 95 = none := by kernel_rfl
@[go_sem] theorem ty_bo95 : boolT Try.prog 95 = false := by kernel_rfl
@[go_sem] theorem ty_st95 : strT Try.prog 95 = false := by kernel_rfl
@[go_sem] theorem ty_zv95 : zvT Try.prog 95 = some (.data .nilf) := by kernel_rfl
@[go_sem] theorem ty_sz98 : szT Try.prog 98 = some 0 := by kernel_rfl
@[go_sem] theorem ty_by98 : byT Try.prog 98 = some 0 := by kernel_rfl
@[go_sem] theorem ty_ag98 : aggT Try.prog 98 = some true := by kernel_rfl
@[go_sem] theorem ty_un98 : (Try.prog.underlying 98).isSome = true := by kernel_rfl
@[go_sem] theorem ty_ze98 : zeT Try.prog 98 = some [] := by kernel_rfl
@[go_sem] theorem ty_zl98 : zlT Try.prog 98 = some 0 := by kernel_rfl
@[go_sem] theorem ty_sl98 : sliceT Try.prog 98 = none := by kernel_rfl
@[go_sem] theorem ty_ar98 : arrT Try.prog 98 = some (0, 16) := by kernel_rfl
@[go_sem] theorem ty_in98 : intT Try.prog 98 = none := by kernel_rfl
@[go_sem] theorem ty_bo98 : boolT Try.prog 98 = false := by kernel_rfl
@[go_sem] theorem ty_st98 : strT Try.prog 98 = false := by kernel_rfl
@[go_sem] theorem ty_zv98 : zvT Try.prog 98 = some (.data (.agg [])) := by kernel_rfl
@[go_sem] theorem ty_sz101 : szT Try.prog 101 = some 1 := by kernel_rfl
@[go_sem] theorem ty_by101 : byT Try.prog 101 = some 8 := by kernel_rfl
@[go_sem] theorem ty_ag101 : aggT Try.prog 101 = some false := by kernel_rfl
@[go_sem] theorem ty_un101 : (Try.prog.underlying 101).isSome = true := by kernel_rfl
@[go_sem] theorem ty_ze101 : zeT Try.prog 101 = some [.data .nilf] := by kernel_rfl
@[go_sem] theorem ty_zl101 : zlT Try.prog 101 = some 1 := by kernel_rfl
@[go_sem] theorem ty_sl101 : sliceT Try.prog 101 = none := by kernel_rfl
@[go_sem] theorem ty_ar101 : arrT Try.prog 101 = none := by kernel_rfl
@[go_sem] theorem ty_in101 : intT Try.prog 101 = none := by kernel_rfl
@[go_sem] theorem ty_bo101 : boolT Try.prog 101 = false := by kernel_rfl
@[go_sem] theorem ty_st101 : strT Try.prog 101 = false := by kernel_rfl
@[go_sem] theorem ty_zv101 : zvT Try.prog 101 = some (.data .nilf) := by kernel_rfl
@[go_sem] theorem ty_sz104 : szT Try.prog 104 = some 1 := by kernel_rfl
@[go_sem] theorem ty_by104 : byT Try.prog 104 = some 8 := by kernel_rfl
@[go_sem] theorem ty_ag104 : aggT Try.prog 104 = some false := by kernel_rfl
@[go_sem] theorem ty_un104 : (Try.prog.underlying 104).isSome = true := by kernel_rfl
@[go_sem] theorem ty_ze104 : zeT Try.prog 104 = some [.data .nilf] := by kernel_rfl
@[go_sem] theorem ty_zl104 : zlT Try.prog 104 = some 1 := by kernel_rfl
@[go_sem] theorem ty_sl104 : sliceT Try.prog 104 = none := by kernel_rfl
@[go_sem] theorem ty_ar104 : arrT Try.prog 104 = none := by kernel_rfl
@[go_sem] theorem ty_in104 : intT Try.prog 104 = none := by kernel_rfl
@[go_sem] theorem ty_bo104 : boolT Try.prog 104 = false := by kernel_rfl
@[go_sem] theorem ty_st104 : strT Try.prog 104 = false := by kernel_rfl
@[go_sem] theorem ty_zv104 : zvT Try.prog 104 = some (.data .nilf) := by kernel_rfl
@[go_sem] theorem ty_sz105 : szT Try.prog 105 = some 1 := by kernel_rfl
@[go_sem] theorem ty_by105 : byT Try.prog 105 = some 8 := by kernel_rfl
@[go_sem] theorem ty_ag105 : aggT Try.prog 105 = some false := by kernel_rfl
@[go_sem] theorem ty_un105 : (Try.prog.underlying 105).isSome = true := by kernel_rfl
@[go_sem] theorem ty_ze105 : zeT Try.prog 105 = some [.data .nilp] := by kernel_rfl
@[go_sem] theorem ty_zl105 : zlT Try.prog 105 = some 1 := by kernel_rfl
@[go_sem] theorem ty_sl105 : sliceT Try.prog 105 = none := by kernel_rfl
@[go_sem] theorem ty_ar105 : arrT Try.prog 105 = none := by kernel_rfl
@[go_sem] theorem ty_in105 : intT Try.prog 105 = none := by kernel_rfl
@[go_sem] theorem ty_bo105 : boolT Try.prog 105 = false := by kernel_rfl
@[go_sem] theorem ty_st105 : strT Try.prog 105 = false := by kernel_rfl
@[go_sem] theorem ty_zv105 : zvT Try.prog 105 = some (.data .nilp) := by kernel_rfl
@[go_sem] theorem ty_sz110 : szT Try.prog 110 = some 1 := by kernel_rfl
@[go_sem] theorem ty_by110 : byT Try.prog 110 = some 8 := by kernel_rfl
@[go_sem] theorem ty_ag110 : aggT Try.prog 110 = some false := by kernel_rfl
@[go_sem] theorem ty_un110 : (Try.prog.underlying 110).isSome = true := by kernel_rfl
@[go_sem] theorem ty_ze110 : zeT Try.prog 110 = some [.data .nilp] := by kernel_rfl
@[go_sem] theorem ty_zl110 : zlT Try.prog 110 = some 1 := by kernel_rfl
@[go_sem] theorem ty_sl110 : sliceT Try.prog 110 = none := by kernel_rfl
@[go_sem] theorem ty_ar110 : arrT Try.prog 110 = none := by kernel_rfl
@[go_sem] theorem ty_in110 : intT Try.prog 110 = none := by kernel_rfl
@[go_sem] theorem ty_bo110 : boolT Try.prog 110 = false := by kernel_rfl
@[go_sem] theorem ty_st110 : strT Try.prog 110 = false := by kernel_rfl
@[go_sem] theorem ty_zv110 : zvT Try.prog 110 = some (.data .nilp) := by kernel_rfl
theorem mixed : Try.prog.follows .mixedOrders = true := by kernel_rfl
end Go.Proofs.Ytjecieidmgkbaaa
