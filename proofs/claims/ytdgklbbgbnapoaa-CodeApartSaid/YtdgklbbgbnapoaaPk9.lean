/- The closed facts on the types. -/
import Derived.Test.YtdgklbbgbnapoaaPk8
import Derived.Test.YtdgklbbgbnapoaaChecked
import Derived.KernelRfl
namespace Go.Proofs.Ytdgklbbgbnapoaa

@[go_sem] theorem ty_sz1 : szT Try.prog 1 = some 1 := by kernel_rfl
@[go_sem] theorem ty_by1 : byT Try.prog 1 = some 8 := by kernel_rfl
@[go_sem] theorem ty_ag1 : aggT Try.prog 1 = some false := by kernel_rfl
@[go_sem] theorem ty_un1 : (Try.prog.underlying 1).isSome = true := by kernel_rfl
@[go_sem] theorem ty_ze1 : zeT Try.prog 1 = some [.data .nilf] := by kernel_rfl
@[go_sem] theorem ty_zl1 : zlT Try.prog 1 = some 1 := by kernel_rfl
@[go_sem] theorem ty_sl1 : sliceT Try.prog 1 = none := by kernel_rfl
@[go_sem] theorem ty_ar1 : arrT Try.prog 1 = none := by kernel_rfl
@[go_sem] theorem ty_in1 : intT Try.prog 1 = none := by kernel_rfl
@[go_sem] theorem ty_bo1 : boolT Try.prog 1 = false := by kernel_rfl
@[go_sem] theorem ty_co1 : concT Try.prog 1 = true := by kernel_rfl
@[go_sem] theorem ty_bt1 : bytT Try.prog 1 = false := by kernel_rfl
@[go_sem] theorem ty_st1 : strT Try.prog 1 = false := by kernel_rfl
@[go_sem] theorem ty_zv1 : zvT Try.prog 1 = some (.data .nilf) := by kernel_rfl
@[go_sem] theorem ty_sz2 : szT Try.prog 2 = some 1 := by kernel_rfl
@[go_sem] theorem ty_by2 : byT Try.prog 2 = some 8 := by kernel_rfl
@[go_sem] theorem ty_ag2 : aggT Try.prog 2 = some false := by kernel_rfl
@[go_sem] theorem ty_un2 : (Try.prog.underlying 2).isSome = true := by kernel_rfl
@[go_sem] theorem ty_ze2 : zeT Try.prog 2 = some [.data (.int .i64 0)] := by kernel_rfl
@[go_sem] theorem ty_zl2 : zlT Try.prog 2 = some 1 := by kernel_rfl
@[go_sem] theorem ty_sl2 : sliceT Try.prog 2 = none := by kernel_rfl
@[go_sem] theorem ty_ar2 : arrT Try.prog 2 = none := by kernel_rfl
@[go_sem] theorem ty_in2 : intT Try.prog 2 = some .i64 := by kernel_rfl
@[go_sem] theorem ty_bo2 : boolT Try.prog 2 = false := by kernel_rfl
@[go_sem] theorem ty_co2 : concT Try.prog 2 = true := by kernel_rfl
@[go_sem] theorem ty_bt2 : bytT Try.prog 2 = false := by kernel_rfl
@[go_sem] theorem ty_st2 : strT Try.prog 2 = false := by kernel_rfl
@[go_sem] theorem ty_ki2  (n : Int) : keyT Try.prog 2 (.int .i64 n) = true := by kernel_rfl
@[go_sem] theorem ty_zv2 : zvT Try.prog 2 = some (.data (.int .i64 0)) := by kernel_rfl
@[go_sem] theorem ty_sz3 : szT Try.prog 3 = some 1 := by kernel_rfl
@[go_sem] theorem ty_by3 : byT Try.prog 3 = some 8 := by kernel_rfl
@[go_sem] theorem ty_ag3 : aggT Try.prog 3 = some false := by kernel_rfl
@[go_sem] theorem ty_un3 : (Try.prog.underlying 3).isSome = true := by kernel_rfl
@[go_sem] theorem ty_ze3 : zeT Try.prog 3 = some [.data (.int .i64 0)] := by kernel_rfl
@[go_sem] theorem ty_zl3 : zlT Try.prog 3 = some 1 := by kernel_rfl
@[go_sem] theorem ty_sl3 : sliceT Try.prog 3 = none := by kernel_rfl
@[go_sem] theorem ty_ar3 : arrT Try.prog 3 = none := by kernel_rfl
@[go_sem] theorem ty_in3 : intT Try.prog 3 = some .i64 := by kernel_rfl
@[go_sem] theorem ty_bo3 : boolT Try.prog 3 = false := by kernel_rfl
@[go_sem] theorem ty_co3 : concT Try.prog 3 = true := by kernel_rfl
@[go_sem] theorem ty_bt3 : bytT Try.prog 3 = false := by kernel_rfl
@[go_sem] theorem ty_st3 : strT Try.prog 3 = false := by kernel_rfl
@[go_sem] theorem ty_ki3  (n : Int) : keyT Try.prog 3 (.int .i64 n) = true := by kernel_rfl
@[go_sem] theorem ty_zv3 : zvT Try.prog 3 = some (.data (.int .i64 0)) := by kernel_rfl
@[go_sem] theorem ty_sz4 : szT Try.prog 4 = some 1 := by kernel_rfl
@[go_sem] theorem ty_by4 : byT Try.prog 4 = some 1 := by kernel_rfl
@[go_sem] theorem ty_ag4 : aggT Try.prog 4 = some false := by kernel_rfl
@[go_sem] theorem ty_un4 : (Try.prog.underlying 4).isSome = true := by kernel_rfl
@[go_sem] theorem ty_ze4 : zeT Try.prog 4 = some [.data (.bool false)] := by kernel_rfl
@[go_sem] theorem ty_zl4 : zlT Try.prog 4 = some 1 := by kernel_rfl
@[go_sem] theorem ty_sl4 : sliceT Try.prog 4 = none := by kernel_rfl
@[go_sem] theorem ty_ar4 : arrT Try.prog 4 = none := by kernel_rfl
@[go_sem] theorem ty_in4 : intT Try.prog 4 = none := by kernel_rfl
@[go_sem] theorem ty_bo4 : boolT Try.prog 4 = true := by kernel_rfl
@[go_sem] theorem ty_co4 : concT Try.prog 4 = true := by kernel_rfl
@[go_sem] theorem ty_bt4 : bytT Try.prog 4 = false := by kernel_rfl
@[go_sem] theorem ty_st4 : strT Try.prog 4 = false := by kernel_rfl
@[go_sem] theorem ty_kb4 (b : Bool) : keyT Try.prog 4 (.bool b) = true := by kernel_rfl
@[go_sem] theorem ty_zv4 : zvT Try.prog 4 = some (.data (.bool false)) := by kernel_rfl
@[go_sem] theorem ty_sz5 : szT Try.prog 5 = some 1 := by kernel_rfl
@[go_sem] theorem ty_by5 : byT Try.prog 5 = some 1 := by kernel_rfl
@[go_sem] theorem ty_ag5 : aggT Try.prog 5 = some false := by kernel_rfl
@[go_sem] theorem ty_un5 : (Try.prog.underlying 5).isSome = true := by kernel_rfl
@[go_sem] theorem ty_ze5 : zeT Try.prog 5 = some [.data (.int .u8 0)] := by kernel_rfl
@[go_sem] theorem ty_zl5 : zlT Try.prog 5 = some 1 := by kernel_rfl
@[go_sem] theorem ty_sl5 : sliceT Try.prog 5 = none := by kernel_rfl
@[go_sem] theorem ty_ar5 : arrT Try.prog 5 = none := by kernel_rfl
@[go_sem] theorem ty_in5 : intT Try.prog 5 = some .u8 := by kernel_rfl
@[go_sem] theorem ty_bo5 : boolT Try.prog 5 = false := by kernel_rfl
@[go_sem] theorem ty_co5 : concT Try.prog 5 = true := by kernel_rfl
@[go_sem] theorem ty_bt5 : bytT Try.prog 5 = false := by kernel_rfl
@[go_sem] theorem ty_st5 : strT Try.prog 5 = false := by kernel_rfl
@[go_sem] theorem ty_ki5  (n : Int) : keyT Try.prog 5 (.int .u8 n) = true := by kernel_rfl
@[go_sem] theorem ty_zv5 : zvT Try.prog 5 = some (.data (.int .u8 0)) := by kernel_rfl
@[go_sem] theorem ty_sz9 : szT Try.prog 9 = some 1 := by kernel_rfl
@[go_sem] theorem ty_by9 : byT Try.prog 9 = some 16 := by kernel_rfl
@[go_sem] theorem ty_ag9 : aggT Try.prog 9 = some false := by kernel_rfl
@[go_sem] theorem ty_un9 : (Try.prog.underlying 9).isSome = true := by kernel_rfl
@[go_sem] theorem ty_ze9 : zeT Try.prog 9 = some [.data (.str ByteArray.empty)] := by kernel_rfl
@[go_sem] theorem ty_zl9 : zlT Try.prog 9 = some 1 := by kernel_rfl
@[go_sem] theorem ty_sl9 : sliceT Try.prog 9 = none := by kernel_rfl
@[go_sem] theorem ty_ar9 : arrT Try.prog 9 = none := by kernel_rfl
@[go_sem] theorem ty_in9 : intT Try.prog 9 = none := by kernel_rfl
@[go_sem] theorem ty_bo9 : boolT Try.prog 9 = false := by kernel_rfl
@[go_sem] theorem ty_co9 : concT Try.prog 9 = true := by kernel_rfl
@[go_sem] theorem ty_bt9 : bytT Try.prog 9 = false := by kernel_rfl
@[go_sem] theorem ty_st9 : strT Try.prog 9 = true := by kernel_rfl
@[go_sem] theorem ty_ks9 (s : ByteArray) : keyT Try.prog 9 (.str s) = true := by kernel_rfl
@[go_sem] theorem ty_zv9 : zvT Try.prog 9 = some (.data (.str ByteArray.empty)) := by kernel_rfl
@[go_sem] theorem ty_sz12 : szT Try.prog 12 = some 1 := by kernel_rfl
@[go_sem] theorem ty_by12 : byT Try.prog 12 = some 8 := by kernel_rfl
@[go_sem] theorem ty_ag12 : aggT Try.prog 12 = some false := by kernel_rfl
@[go_sem] theorem ty_un12 : (Try.prog.underlying 12).isSome = true := by kernel_rfl
@[go_sem] theorem ty_ze12 : zeT Try.prog 12 = some [.data (.int .u64 0)] := by kernel_rfl
@[go_sem] theorem ty_zl12 : zlT Try.prog 12 = some 1 := by kernel_rfl
@[go_sem] theorem ty_sl12 : sliceT Try.prog 12 = none := by kernel_rfl
@[go_sem] theorem ty_ar12 : arrT Try.prog 12 = none := by kernel_rfl
@[go_sem] theorem ty_in12 : intT Try.prog 12 = some .u64 := by kernel_rfl
@[go_sem] theorem ty_bo12 : boolT Try.prog 12 = false := by kernel_rfl
@[go_sem] theorem ty_co12 : concT Try.prog 12 = true := by kernel_rfl
@[go_sem] theorem ty_bt12 : bytT Try.prog 12 = false := by kernel_rfl
@[go_sem] theorem ty_st12 : strT Try.prog 12 = false := by kernel_rfl
@[go_sem] theorem ty_ki12  (n : Int) : keyT Try.prog 12 (.int .u64 n) = true := by kernel_rfl
@[go_sem] theorem ty_zv12 : zvT Try.prog 12 = some (.data (.int .u64 0)) := by kernel_rfl
@[go_sem] theorem ty_sz20 : szT Try.prog 20 = some 1 := by kernel_rfl
@[go_sem] theorem ty_by20 : byT Try.prog 20 = some 16 := by kernel_rfl
@[go_sem] theorem ty_ag20 : aggT Try.prog 20 = some false := by kernel_rfl
@[go_sem] theorem ty_un20 : (Try.prog.underlying 20).isSome = true := by kernel_rfl
@[go_sem] theorem ty_ze20 : zeT Try.prog 20 = some [.data .nili] := by kernel_rfl
@[go_sem] theorem ty_zl20 : zlT Try.prog 20 = some 1 := by kernel_rfl
@[go_sem] theorem ty_sl20 : sliceT Try.prog 20 = none := by kernel_rfl
@[go_sem] theorem ty_ar20 : arrT Try.prog 20 = none := by kernel_rfl
@[go_sem] theorem ty_in20 : intT Try.prog 20 = none := by kernel_rfl
@[go_sem] theorem ty_bo20 : boolT Try.prog 20 = false := by kernel_rfl
@[go_sem] theorem ty_co20 : concT Try.prog 20 = false := by kernel_rfl
@[go_sem] theorem ty_bt20 : bytT Try.prog 20 = false := by kernel_rfl
@[go_sem] theorem ty_st20 : strT Try.prog 20 = false := by kernel_rfl
@[go_sem] theorem ty_zv20 : zvT Try.prog 20 = some (.data .nili) := by kernel_rfl
@[go_sem] theorem ty_sz21 : szT Try.prog 21 = some 1 := by kernel_rfl
@[go_sem] theorem ty_by21 : byT Try.prog 21 = some 4 := by kernel_rfl
@[go_sem] theorem ty_ag21 : aggT Try.prog 21 = some false := by kernel_rfl
@[go_sem] theorem ty_un21 : (Try.prog.underlying 21).isSome = true := by kernel_rfl
@[go_sem] theorem ty_ze21 : zeT Try.prog 21 = some [.data (.int .i32 0)] := by kernel_rfl
@[go_sem] theorem ty_zl21 : zlT Try.prog 21 = some 1 := by kernel_rfl
@[go_sem] theorem ty_sl21 : sliceT Try.prog 21 = none := by kernel_rfl
@[go_sem] theorem ty_ar21 : arrT Try.prog 21 = none := by kernel_rfl
@[go_sem] theorem ty_in21 : intT Try.prog 21 = some .i32 := by kernel_rfl
@[go_sem] theorem ty_bo21 : boolT Try.prog 21 = false := by kernel_rfl
@[go_sem] theorem ty_co21 : concT Try.prog 21 = true := by kernel_rfl
@[go_sem] theorem ty_bt21 : bytT Try.prog 21 = false := by kernel_rfl
@[go_sem] theorem ty_st21 : strT Try.prog 21 = false := by kernel_rfl
@[go_sem] theorem ty_ki21  (n : Int) : keyT Try.prog 21 (.int .i32 n) = true := by kernel_rfl
@[go_sem] theorem ty_zv21 : zvT Try.prog 21 = some (.data (.int .i32 0)) := by kernel_rfl
@[go_sem] theorem ty_sz22 : szT Try.prog 22 = some 1 := by kernel_rfl
@[go_sem] theorem ty_by22 : byT Try.prog 22 = some 4 := by kernel_rfl
@[go_sem] theorem ty_ag22 : aggT Try.prog 22 = some false := by kernel_rfl
@[go_sem] theorem ty_un22 : (Try.prog.underlying 22).isSome = true := by kernel_rfl
@[go_sem] theorem ty_ze22 : zeT Try.prog 22 = some [.data (.int .u32 0)] := by kernel_rfl
@[go_sem] theorem ty_zl22 : zlT Try.prog 22 = some 1 := by kernel_rfl
@[go_sem] theorem ty_sl22 : sliceT Try.prog 22 = none := by kernel_rfl
@[go_sem] theorem ty_ar22 : arrT Try.prog 22 = none := by kernel_rfl
@[go_sem] theorem ty_in22 : intT Try.prog 22 = some .u32 := by kernel_rfl
@[go_sem] theorem ty_bo22 : boolT Try.prog 22 = false := by kernel_rfl
@[go_sem] theorem ty_co22 : concT Try.prog 22 = true := by kernel_rfl
@[go_sem] theorem ty_bt22 : bytT Try.prog 22 = false := by kernel_rfl
@[go_sem] theorem ty_st22 : strT Try.prog 22 = false := by kernel_rfl
@[go_sem] theorem ty_ki22  (n : Int) : keyT Try.prog 22 (.int .u32 n) = true := by kernel_rfl
@[go_sem] theorem ty_zv22 : zvT Try.prog 22 = some (.data (.int .u32 0)) := by kernel_rfl
@[go_sem] theorem ty_sz23 : szT Try.prog 23 = some 1 := by kernel_rfl
@[go_sem] theorem ty_by23 : byT Try.prog 23 = some 8 := by kernel_rfl
@[go_sem] theorem ty_ag23 : aggT Try.prog 23 = some false := by kernel_rfl
@[go_sem] theorem ty_un23 : (Try.prog.underlying 23).isSome = true := by kernel_rfl
@[go_sem] theorem ty_ze23 : zeT Try.prog 23 = some [.data (.int .u64 0)] := by kernel_rfl
@[go_sem] theorem ty_zl23 : zlT Try.prog 23 = some 1 := by kernel_rfl
@[go_sem] theorem ty_sl23 : sliceT Try.prog 23 = none := by kernel_rfl
@[go_sem] theorem ty_ar23 : arrT Try.prog 23 = none := by kernel_rfl
@[go_sem] theorem ty_in23 : intT Try.prog 23 = some .u64 := by kernel_rfl
@[go_sem] theorem ty_bo23 : boolT Try.prog 23 = false := by kernel_rfl
@[go_sem] theorem ty_co23 : concT Try.prog 23 = true := by kernel_rfl
@[go_sem] theorem ty_bt23 : bytT Try.prog 23 = false := by kernel_rfl
@[go_sem] theorem ty_st23 : strT Try.prog 23 = false := by kernel_rfl
@[go_sem] theorem ty_ki23  (n : Int) : keyT Try.prog 23 (.int .u64 n) = true := by kernel_rfl
@[go_sem] theorem ty_zv23 : zvT Try.prog 23 = some (.data (.int .u64 0)) := by kernel_rfl
@[go_sem] theorem ty_sz24 : szT Try.prog 24 = some 9 := by kernel_rfl
@[go_sem] theorem ty_by24 : byT Try.prog 24 = some 80 := by kernel_rfl
@[go_sem] theorem ty_ag24 : aggT Try.prog 24 = some true := by kernel_rfl
@[go_sem] theorem ty_un24 : (Try.prog.underlying 24).isSome = true := by kernel_rfl
@[go_sem] theorem ty_ze24 : zeT Try.prog 24 = some [.data (.int .i64 0), .data (.int .i64 0), .data (.int .i64 0), .data (.int .u32 0), .data (.str ByteArray.empty), .data (.int .u64 0), .data (.int .u64 0), .data (.int .i64 0), .data (.int .i64 0)] := by kernel_rfl
@[go_sem] theorem ty_zl24 : zlT Try.prog 24 = some 9 := by kernel_rfl
@[go_sem] theorem ty_sl24 : sliceT Try.prog 24 = none := by kernel_rfl
@[go_sem] theorem ty_ar24 : arrT Try.prog 24 = none := by kernel_rfl
@[go_sem] theorem ty_in24 : intT Try.prog 24 = none := by kernel_rfl
@[go_sem] theorem ty_bo24 : boolT Try.prog 24 = false := by kernel_rfl
@[go_sem] theorem ty_co24 : concT Try.prog 24 = true := by kernel_rfl
@[go_sem] theorem ty_bt24 : bytT Try.prog 24 = false := by kernel_rfl
@[go_sem] theorem ty_st24 : strT Try.prog 24 = false := by kernel_rfl
@[go_sem] theorem ty_zv24 : zvT Try.prog 24 = some (.data (.agg [(.int .i64 0), (.int .i64 0), (.int .i64 0), (.int .u32 0), (.str ByteArray.empty), (.int .u64 0), (.int .u64 0), (.int .i64 0), (.int .i64 0)])) := by kernel_rfl
@[go_sem] theorem ty_fl24_0 : fldT Try.prog 24 0 = some (0, 3) := by kernel_rfl
@[go_sem] theorem ty_fl24_1 : fldT Try.prog 24 1 = some (1, 3) := by kernel_rfl
@[go_sem] theorem ty_fl24_2 : fldT Try.prog 24 2 = some (2, 3) := by kernel_rfl
@[go_sem] theorem ty_fl24_3 : fldT Try.prog 24 3 = some (3, 22) := by kernel_rfl
@[go_sem] theorem ty_fl24_4 : fldT Try.prog 24 4 = some (4, 9) := by kernel_rfl
@[go_sem] theorem ty_fl24_5 : fldT Try.prog 24 5 = some (5, 23) := by kernel_rfl
@[go_sem] theorem ty_fl24_6 : fldT Try.prog 24 6 = some (6, 23) := by kernel_rfl
@[go_sem] theorem ty_fl24_7 : fldT Try.prog 24 7 = some (7, 3) := by kernel_rfl
@[go_sem] theorem ty_fl24_8 : fldT Try.prog 24 8 = some (8, 3) := by kernel_rfl
@[go_sem] theorem ty_pl24 : plT Try.prog 24 = some [(0, 1), (1, 1), (2, 1), (3, 1), (4, 1), (5, 1), (6, 1), (7, 1), (8, 1)] := by kernel_rfl
@[go_sem] theorem ty_sz25 : szT Try.prog 25 = some 9 := by kernel_rfl
@[go_sem] theorem ty_by25 : byT Try.prog 25 = some 80 := by kernel_rfl
@[go_sem] theorem ty_ag25 : aggT Try.prog 25 = some true := by kernel_rfl
@[go_sem] theorem ty_un25 : (Try.prog.underlying 25).isSome = true := by kernel_rfl
@[go_sem] theorem ty_ze25 : zeT Try.prog 25 = some [.data (.int .i64 0), .data (.int .i64 0), .data (.int .i64 0), .data (.int .u32 0), .data (.str ByteArray.empty), .data (.int .u64 0), .data (.int .u64 0), .data (.int .i64 0), .data (.int .i64 0)] := by kernel_rfl
@[go_sem] theorem ty_zl25 : zlT Try.prog 25 = some 9 := by kernel_rfl
@[go_sem] theorem ty_sl25 : sliceT Try.prog 25 = none := by kernel_rfl
@[go_sem] theorem ty_ar25 : arrT Try.prog 25 = none := by kernel_rfl
@[go_sem] theorem ty_in25 : intT Try.prog 25 = none := by kernel_rfl
@[go_sem] theorem ty_bo25 : boolT Try.prog 25 = false := by kernel_rfl
@[go_sem] theorem ty_co25 : concT Try.prog 25 = true := by kernel_rfl
@[go_sem] theorem ty_bt25 : bytT Try.prog 25 = false := by kernel_rfl
@[go_sem] theorem ty_st25 : strT Try.prog 25 = false := by kernel_rfl
@[go_sem] theorem ty_zv25 : zvT Try.prog 25 = some (.data (.agg [(.int .i64 0), (.int .i64 0), (.int .i64 0), (.int .u32 0), (.str ByteArray.empty), (.int .u64 0), (.int .u64 0), (.int .i64 0), (.int .i64 0)])) := by kernel_rfl
@[go_sem] theorem ty_fl25_0 : fldT Try.prog 25 0 = some (0, 3) := by kernel_rfl
@[go_sem] theorem ty_fl25_1 : fldT Try.prog 25 1 = some (1, 3) := by kernel_rfl
@[go_sem] theorem ty_fl25_2 : fldT Try.prog 25 2 = some (2, 3) := by kernel_rfl
@[go_sem] theorem ty_fl25_3 : fldT Try.prog 25 3 = some (3, 22) := by kernel_rfl
@[go_sem] theorem ty_fl25_4 : fldT Try.prog 25 4 = some (4, 9) := by kernel_rfl
@[go_sem] theorem ty_fl25_5 : fldT Try.prog 25 5 = some (5, 23) := by kernel_rfl
@[go_sem] theorem ty_fl25_6 : fldT Try.prog 25 6 = some (6, 23) := by kernel_rfl
@[go_sem] theorem ty_fl25_7 : fldT Try.prog 25 7 = some (7, 3) := by kernel_rfl
@[go_sem] theorem ty_fl25_8 : fldT Try.prog 25 8 = some (8, 3) := by kernel_rfl
@[go_sem] theorem ty_pl25 : plT Try.prog 25 = some [(0, 1), (1, 1), (2, 1), (3, 1), (4, 1), (5, 1), (6, 1), (7, 1), (8, 1)] := by kernel_rfl
@[go_sem] theorem ty_sz26 : szT Try.prog 26 = some 1 := by kernel_rfl
@[go_sem] theorem ty_by26 : byT Try.prog 26 = some 24 := by kernel_rfl
@[go_sem] theorem ty_ag26 : aggT Try.prog 26 = some false := by kernel_rfl
@[go_sem] theorem ty_un26 : (Try.prog.underlying 26).isSome = true := by kernel_rfl
@[go_sem] theorem ty_ze26 : zeT Try.prog 26 = some [.emp 0] := by kernel_rfl
@[go_sem] theorem ty_zl26 : zlT Try.prog 26 = some 1 := by kernel_rfl
@[go_sem] theorem ty_sl26 : sliceT Try.prog 26 = some 5 := by kernel_rfl
@[go_sem] theorem ty_ar26 : arrT Try.prog 26 = none := by kernel_rfl
@[go_sem] theorem ty_in26 : intT Try.prog 26 = none := by kernel_rfl
@[go_sem] theorem ty_bo26 : boolT Try.prog 26 = false := by kernel_rfl
@[go_sem] theorem ty_co26 : concT Try.prog 26 = true := by kernel_rfl
@[go_sem] theorem ty_bt26 : bytT Try.prog 26 = true := by kernel_rfl
@[go_sem] theorem ty_st26 : strT Try.prog 26 = false := by kernel_rfl
@[go_sem] theorem ty_zv26 : zvT Try.prog 26 = some (.emp 0) := by kernel_rfl
@[go_sem] theorem ty_sz27 : szT Try.prog 27 = some 12 := by kernel_rfl
@[go_sem] theorem ty_by27 : byT Try.prog 27 = some 120 := by kernel_rfl
@[go_sem] theorem ty_ag27 : aggT Try.prog 27 = some true := by kernel_rfl
@[go_sem] theorem ty_un27 : (Try.prog.underlying 27).isSome = true := by kernel_rfl
@[go_sem] theorem ty_ze27 : zeT Try.prog 27 = some [.data (.int .i64 0), .data (.int .i64 0), .data (.int .i64 0), .data (.int .i64 0), .data (.int .i64 0), .data (.int .u32 0), .data (.str ByteArray.empty), .data (.int .u64 0), .data (.int .u64 0), .data (.int .i64 0), .data (.int .i64 0), .emp 0] := by kernel_rfl
@[go_sem] theorem ty_zl27 : zlT Try.prog 27 = some 12 := by kernel_rfl
@[go_sem] theorem ty_sl27 : sliceT Try.prog 27 = none := by kernel_rfl
@[go_sem] theorem ty_ar27 : arrT Try.prog 27 = none := by kernel_rfl
@[go_sem] theorem ty_in27 : intT Try.prog 27 = none := by kernel_rfl
@[go_sem] theorem ty_bo27 : boolT Try.prog 27 = false := by kernel_rfl
@[go_sem] theorem ty_co27 : concT Try.prog 27 = true := by kernel_rfl
@[go_sem] theorem ty_bt27 : bytT Try.prog 27 = false := by kernel_rfl
@[go_sem] theorem ty_st27 : strT Try.prog 27 = false := by kernel_rfl
@[go_sem] theorem ty_zv27 : zvT Try.prog 27 = some (.agg [.data (.int .i64 0), .data (.int .i64 0), .data (.int .i64 0), .data (.int .i64 0), .data (.int .i64 0), .data (.int .u32 0), .data (.str ByteArray.empty), .data (.int .u64 0), .data (.int .u64 0), .data (.int .i64 0), .data (.int .i64 0), .emp 0]) := by kernel_rfl
@[go_sem] theorem ty_fl27_0 : fldT Try.prog 27 0 = some (0, 3) := by kernel_rfl
@[go_sem] theorem ty_fl27_1 : fldT Try.prog 27 1 = some (1, 3) := by kernel_rfl
@[go_sem] theorem ty_fl27_2 : fldT Try.prog 27 2 = some (2, 25) := by kernel_rfl
@[go_sem] theorem ty_fl27_3 : fldT Try.prog 27 3 = some (11, 26) := by kernel_rfl
@[go_sem] theorem ty_pl27 : plT Try.prog 27 = some [(0, 1), (1, 1), (2, 9), (11, 1)] := by kernel_rfl
@[go_sem] theorem ty_sz28 : szT Try.prog 28 = some 12 := by kernel_rfl
@[go_sem] theorem ty_by28 : byT Try.prog 28 = some 120 := by kernel_rfl
@[go_sem] theorem ty_ag28 : aggT Try.prog 28 = some true := by kernel_rfl
@[go_sem] theorem ty_un28 : (Try.prog.underlying 28).isSome = true := by kernel_rfl
@[go_sem] theorem ty_ze28 : zeT Try.prog 28 = some [.data (.int .i64 0), .data (.int .i64 0), .data (.int .i64 0), .data (.int .i64 0), .data (.int .i64 0), .data (.int .u32 0), .data (.str ByteArray.empty), .data (.int .u64 0), .data (.int .u64 0), .data (.int .i64 0), .data (.int .i64 0), .emp 0] := by kernel_rfl
@[go_sem] theorem ty_zl28 : zlT Try.prog 28 = some 12 := by kernel_rfl
@[go_sem] theorem ty_sl28 : sliceT Try.prog 28 = none := by kernel_rfl
@[go_sem] theorem ty_ar28 : arrT Try.prog 28 = none := by kernel_rfl
@[go_sem] theorem ty_in28 : intT Try.prog 28 = none := by kernel_rfl
@[go_sem] theorem ty_bo28 : boolT Try.prog 28 = false := by kernel_rfl
@[go_sem] theorem ty_co28 : concT Try.prog 28 = true := by kernel_rfl
@[go_sem] theorem ty_bt28 : bytT Try.prog 28 = false := by kernel_rfl
@[go_sem] theorem ty_st28 : strT Try.prog 28 = false := by kernel_rfl
@[go_sem] theorem ty_zv28 : zvT Try.prog 28 = some (.agg [.data (.int .i64 0), .data (.int .i64 0), .data (.int .i64 0), .data (.int .i64 0), .data (.int .i64 0), .data (.int .u32 0), .data (.str ByteArray.empty), .data (.int .u64 0), .data (.int .u64 0), .data (.int .i64 0), .data (.int .i64 0), .emp 0]) := by kernel_rfl
@[go_sem] theorem ty_fl28_0 : fldT Try.prog 28 0 = some (0, 3) := by kernel_rfl
@[go_sem] theorem ty_fl28_1 : fldT Try.prog 28 1 = some (1, 3) := by kernel_rfl
@[go_sem] theorem ty_fl28_2 : fldT Try.prog 28 2 = some (2, 25) := by kernel_rfl
@[go_sem] theorem ty_fl28_3 : fldT Try.prog 28 3 = some (11, 26) := by kernel_rfl
@[go_sem] theorem ty_pl28 : plT Try.prog 28 = some [(0, 1), (1, 1), (2, 9), (11, 1)] := by kernel_rfl
@[go_sem] theorem ty_sz29 : szT Try.prog 29 = some 1 := by kernel_rfl
@[go_sem] theorem ty_by29 : byT Try.prog 29 = some 8 := by kernel_rfl
@[go_sem] theorem ty_ag29 : aggT Try.prog 29 = some false := by kernel_rfl
@[go_sem] theorem ty_un29 : (Try.prog.underlying 29).isSome = true := by kernel_rfl
@[go_sem] theorem ty_ze29 : zeT Try.prog 29 = some [.data .nilf] := by kernel_rfl
@[go_sem] theorem ty_zl29 : zlT Try.prog 29 = some 1 := by kernel_rfl
@[go_sem] theorem ty_sl29 : sliceT Try.prog 29 = none := by kernel_rfl
@[go_sem] theorem ty_ar29 : arrT Try.prog 29 = none := by kernel_rfl
@[go_sem] theorem ty_in29 : intT Try.prog 29 = none := by kernel_rfl
@[go_sem] theorem ty_bo29 : boolT Try.prog 29 = false := by kernel_rfl
@[go_sem] theorem ty_co29 : concT Try.prog 29 = true := by kernel_rfl
@[go_sem] theorem ty_bt29 : bytT Try.prog 29 = false := by kernel_rfl
@[go_sem] theorem ty_st29 : strT Try.prog 29 = false := by kernel_rfl
@[go_sem] theorem ty_zv29 : zvT Try.prog 29 = some (.data .nilf) := by kernel_rfl
@[go_sem] theorem ty_sz30 : szT Try.prog 30 = some 1 := by kernel_rfl
@[go_sem] theorem ty_by30 : byT Try.prog 30 = some 8 := by kernel_rfl
@[go_sem] theorem ty_ag30 : aggT Try.prog 30 = some false := by kernel_rfl
@[go_sem] theorem ty_un30 : (Try.prog.underlying 30).isSome = true := by kernel_rfl
@[go_sem] theorem ty_ze30 : zeT Try.prog 30 = some [.data (.int .i64 0)] := by kernel_rfl
@[go_sem] theorem ty_zl30 : zlT Try.prog 30 = some 1 := by kernel_rfl
@[go_sem] theorem ty_sl30 : sliceT Try.prog 30 = none := by kernel_rfl
@[go_sem] theorem ty_ar30 : arrT Try.prog 30 = none := by kernel_rfl
@[go_sem] theorem ty_in30 : intT Try.prog 30 = some .i64 := by kernel_rfl
@[go_sem] theorem ty_bo30 : boolT Try.prog 30 = false := by kernel_rfl
@[go_sem] theorem ty_co30 : concT Try.prog 30 = true := by kernel_rfl
@[go_sem] theorem ty_bt30 : bytT Try.prog 30 = false := by kernel_rfl
@[go_sem] theorem ty_st30 : strT Try.prog 30 = false := by kernel_rfl
@[go_sem] theorem ty_ki30  (n : Int) : keyT Try.prog 30 (.int .i64 n) = true := by kernel_rfl
@[go_sem] theorem ty_zv30 : zvT Try.prog 30 = some (.data (.int .i64 0)) := by kernel_rfl
@[go_sem] theorem ty_sz32 : szT Try.prog 32 = some 1 := by kernel_rfl
@[go_sem] theorem ty_by32 : byT Try.prog 32 = some 8 := by kernel_rfl
@[go_sem] theorem ty_ag32 : aggT Try.prog 32 = some false := by kernel_rfl
@[go_sem] theorem ty_un32 : (Try.prog.underlying 32).isSome = true := by kernel_rfl
@[go_sem] theorem ty_ze32 : zeT Try.prog 32 = some [.data .nilf] := by kernel_rfl
@[go_sem] theorem ty_zl32 : zlT Try.prog 32 = some 1 := by kernel_rfl
@[go_sem] theorem ty_sl32 : sliceT Try.prog 32 = none := by kernel_rfl
@[go_sem] theorem ty_ar32 : arrT Try.prog 32 = none := by kernel_rfl
@[go_sem] theorem ty_in32 : intT Try.prog 32 = none := by kernel_rfl
@[go_sem] theorem ty_bo32 : boolT Try.prog 32 = false := by kernel_rfl
@[go_sem] theorem ty_co32 : concT Try.prog 32 = true := by kernel_rfl
@[go_sem] theorem ty_bt32 : bytT Try.prog 32 = false := by kernel_rfl
@[go_sem] theorem ty_st32 : strT Try.prog 32 = false := by kernel_rfl
@[go_sem] theorem ty_zv32 : zvT Try.prog 32 = some (.data .nilf) := by kernel_rfl
@[go_sem] theorem ty_sz34 : szT Try.prog 34 = some 1 := by kernel_rfl
@[go_sem] theorem ty_by34 : byT Try.prog 34 = some 8 := by kernel_rfl
@[go_sem] theorem ty_ag34 : aggT Try.prog 34 = some false := by kernel_rfl
@[go_sem] theorem ty_un34 : (Try.prog.underlying 34).isSome = true := by kernel_rfl
@[go_sem] theorem ty_ze34 : zeT Try.prog 34 = some [.data .nilf] := by kernel_rfl
@[go_sem] theorem ty_zl34 : zlT Try.prog 34 = some 1 := by kernel_rfl
@[go_sem] theorem ty_sl34 : sliceT Try.prog 34 = none := by kernel_rfl
@[go_sem] theorem ty_ar34 : arrT Try.prog 34 = none := by kernel_rfl
@[go_sem] theorem ty_in34 : intT Try.prog 34 = none := by kernel_rfl
@[go_sem] theorem ty_bo34 : boolT Try.prog 34 = false := by kernel_rfl
@[go_sem] theorem ty_co34 : concT Try.prog 34 = true := by kernel_rfl
@[go_sem] theorem ty_bt34 : bytT Try.prog 34 = false := by kernel_rfl
@[go_sem] theorem ty_st34 : strT Try.prog 34 = false := by kernel_rfl
@[go_sem] theorem ty_zv34 : zvT Try.prog 34 = some (.data .nilf) := by kernel_rfl
@[go_sem] theorem ty_sz36 : szT Try.prog 36 = some 1 := by kernel_rfl
@[go_sem] theorem ty_by36 : byT Try.prog 36 = some 8 := by kernel_rfl
@[go_sem] theorem ty_ag36 : aggT Try.prog 36 = some false := by kernel_rfl
@[go_sem] theorem ty_un36 : (Try.prog.underlying 36).isSome = true := by kernel_rfl
@[go_sem] theorem ty_ze36 : zeT Try.prog 36 = some [.data .nilf] := by kernel_rfl
@[go_sem] theorem ty_zl36 : zlT Try.prog 36 = some 1 := by kernel_rfl
@[go_sem] theorem ty_sl36 : sliceT Try.prog 36 = none := by kernel_rfl
@[go_sem] theorem ty_ar36 : arrT Try.prog 36 = none := by kernel_rfl
@[go_sem] theorem ty_in36 : intT Try.prog 36 = none := by kernel_rfl
@[go_sem] theorem ty_bo36 : boolT Try.prog 36 = false := by kernel_rfl
@[go_sem] theorem ty_co36 : concT Try.prog 36 = true := by kernel_rfl
@[go_sem] theorem ty_bt36 : bytT Try.prog 36 = false := by kernel_rfl
@[go_sem] theorem ty_st36 : strT Try.prog 36 = false := by kernel_rfl
@[go_sem] theorem ty_zv36 : zvT Try.prog 36 = some (.data .nilf) := by kernel_rfl
@[go_sem] theorem ty_sz38 : szT Try.prog 38 = some 1 := by kernel_rfl
@[go_sem] theorem ty_by38 : byT Try.prog 38 = some 8 := by kernel_rfl
@[go_sem] theorem ty_ag38 : aggT Try.prog 38 = some false := by kernel_rfl
@[go_sem] theorem ty_un38 : (Try.prog.underlying 38).isSome = true := by kernel_rfl
@[go_sem] theorem ty_ze38 : zeT Try.prog 38 = some [.data .nilf] := by kernel_rfl
@[go_sem] theorem ty_zl38 : zlT Try.prog 38 = some 1 := by kernel_rfl
@[go_sem] theorem ty_sl38 : sliceT Try.prog 38 = none := by kernel_rfl
@[go_sem] theorem ty_ar38 : arrT Try.prog 38 = none := by kernel_rfl
@[go_sem] theorem ty_in38 : intT Try.prog 38 = none := by kernel_rfl
@[go_sem] theorem ty_bo38 : boolT Try.prog 38 = false := by kernel_rfl
@[go_sem] theorem ty_co38 : concT Try.prog 38 = true := by kernel_rfl
@[go_sem] theorem ty_bt38 : bytT Try.prog 38 = false := by kernel_rfl
@[go_sem] theorem ty_st38 : strT Try.prog 38 = false := by kernel_rfl
@[go_sem] theorem ty_zv38 : zvT Try.prog 38 = some (.data .nilf) := by kernel_rfl
@[go_sem] theorem ty_sz39 : szT Try.prog 39 = some 1 := by kernel_rfl
@[go_sem] theorem ty_by39 : byT Try.prog 39 = some 8 := by kernel_rfl
@[go_sem] theorem ty_ag39 : aggT Try.prog 39 = some false := by kernel_rfl
@[go_sem] theorem ty_un39 : (Try.prog.underlying 39).isSome = true := by kernel_rfl
@[go_sem] theorem ty_ze39 : zeT Try.prog 39 = some [.data .nilf] := by kernel_rfl
@[go_sem] theorem ty_zl39 : zlT Try.prog 39 = some 1 := by kernel_rfl
@[go_sem] theorem ty_sl39 : sliceT Try.prog 39 = none := by kernel_rfl
@[go_sem] theorem ty_ar39 : arrT Try.prog 39 = none := by kernel_rfl
@[go_sem] theorem ty_in39 : intT Try.prog 39 = none := by kernel_rfl
@[go_sem] theorem ty_bo39 : boolT Try.prog 39 = false := by kernel_rfl
@[go_sem] theorem ty_co39 : concT Try.prog 39 = true := by kernel_rfl
@[go_sem] theorem ty_bt39 : bytT Try.prog 39 = false := by kernel_rfl
@[go_sem] theorem ty_st39 : strT Try.prog 39 = false := by kernel_rfl
@[go_sem] theorem ty_zv39 : zvT Try.prog 39 = some (.data .nilf) := by kernel_rfl
@[go_sem] theorem ty_sz40 : szT Try.prog 40 = some 1 := by kernel_rfl
@[go_sem] theorem ty_by40 : byT Try.prog 40 = some 8 := by kernel_rfl
@[go_sem] theorem ty_ag40 : aggT Try.prog 40 = some false := by kernel_rfl
@[go_sem] theorem ty_un40 : (Try.prog.underlying 40).isSome = true := by kernel_rfl
@[go_sem] theorem ty_ze40 : zeT Try.prog 40 = some [.data .nilf] := by kernel_rfl
@[go_sem] theorem ty_zl40 : zlT Try.prog 40 = some 1 := by kernel_rfl
@[go_sem] theorem ty_sl40 : sliceT Try.prog 40 = none := by kernel_rfl
@[go_sem] theorem ty_ar40 : arrT Try.prog 40 = none := by kernel_rfl
@[go_sem] theorem ty_in40 : intT Try.prog 40 = none := by kernel_rfl
@[go_sem] theorem ty_bo40 : boolT Try.prog 40 = false := by kernel_rfl
@[go_sem] theorem ty_co40 : concT Try.prog 40 = true := by kernel_rfl
@[go_sem] theorem ty_bt40 : bytT Try.prog 40 = false := by kernel_rfl
@[go_sem] theorem ty_st40 : strT Try.prog 40 = false := by kernel_rfl
@[go_sem] theorem ty_zv40 : zvT Try.prog 40 = some (.data .nilf) := by kernel_rfl
@[go_sem] theorem ty_sz41 : szT Try.prog 41 = some 1 := by kernel_rfl
@[go_sem] theorem ty_by41 : byT Try.prog 41 = some 24 := by kernel_rfl
@[go_sem] theorem ty_ag41 : aggT Try.prog 41 = some false := by kernel_rfl
@[go_sem] theorem ty_un41 : (Try.prog.underlying 41).isSome = true := by kernel_rfl
@[go_sem] theorem ty_ze41 : zeT Try.prog 41 = some [.emp 0] := by kernel_rfl
@[go_sem] theorem ty_zl41 : zlT Try.prog 41 = some 1 := by kernel_rfl
@[go_sem] theorem ty_sl41 : sliceT Try.prog 41 = some 89 := by kernel_rfl
@[go_sem] theorem ty_ar41 : arrT Try.prog 41 = none := by kernel_rfl
@[go_sem] theorem ty_in41 : intT Try.prog 41 = none := by kernel_rfl
@[go_sem] theorem ty_bo41 : boolT Try.prog 41 = false := by kernel_rfl
@[go_sem] theorem ty_co41 : concT Try.prog 41 = true := by kernel_rfl
@[go_sem] theorem ty_bt41 : bytT Try.prog 41 = false := by kernel_rfl
@[go_sem] theorem ty_st41 : strT Try.prog 41 = false := by kernel_rfl
@[go_sem] theorem ty_zv41 : zvT Try.prog 41 = some (.emp 0) := by kernel_rfl
@[go_sem] theorem ty_sz42 : szT Try.prog 42 = some 1 := by kernel_rfl
@[go_sem] theorem ty_by42 : byT Try.prog 42 = some 24 := by kernel_rfl
@[go_sem] theorem ty_ag42 : aggT Try.prog 42 = some false := by kernel_rfl
@[go_sem] theorem ty_un42 : (Try.prog.underlying 42).isSome = true := by kernel_rfl
@[go_sem] theorem ty_ze42 : zeT Try.prog 42 = some [.emp 0] := by kernel_rfl
@[go_sem] theorem ty_zl42 : zlT Try.prog 42 = some 1 := by kernel_rfl
@[go_sem] theorem ty_sl42 : sliceT Try.prog 42 = some 94 := by kernel_rfl
@[go_sem] theorem ty_ar42 : arrT Try.prog 42 = none := by kernel_rfl
@[go_sem] theorem ty_in42 : intT Try.prog 42 = none := by kernel_rfl
@[go_sem] theorem ty_bo42 : boolT Try.prog 42 = false := by kernel_rfl
@[go_sem] theorem ty_co42 : concT Try.prog 42 = true := by kernel_rfl
@[go_sem] theorem ty_bt42 : bytT Try.prog 42 = false := by kernel_rfl
@[go_sem] theorem ty_st42 : strT Try.prog 42 = false := by kernel_rfl
@[go_sem] theorem ty_zv42 : zvT Try.prog 42 = some (.emp 0) := by kernel_rfl
@[go_sem] theorem ty_sz43 : szT Try.prog 43 = some 1 := by kernel_rfl
@[go_sem] theorem ty_by43 : byT Try.prog 43 = some 24 := by kernel_rfl
@[go_sem] theorem ty_ag43 : aggT Try.prog 43 = some false := by kernel_rfl
@[go_sem] theorem ty_un43 : (Try.prog.underlying 43).isSome = true := by kernel_rfl
@[go_sem] theorem ty_ze43 : zeT Try.prog 43 = some [.emp 0] := by kernel_rfl
@[go_sem] theorem ty_zl43 : zlT Try.prog 43 = some 1 := by kernel_rfl
@[go_sem] theorem ty_sl43 : sliceT Try.prog 43 = some 91 := by kernel_rfl
@[go_sem] theorem ty_ar43 : arrT Try.prog 43 = none := by kernel_rfl
@[go_sem] theorem ty_in43 : intT Try.prog 43 = none := by kernel_rfl
@[go_sem] theorem ty_bo43 : boolT Try.prog 43 = false := by kernel_rfl
@[go_sem] theorem ty_co43 : concT Try.prog 43 = true := by kernel_rfl
@[go_sem] theorem ty_bt43 : bytT Try.prog 43 = false := by kernel_rfl
@[go_sem] theorem ty_st43 : strT Try.prog 43 = false := by kernel_rfl
@[go_sem] theorem ty_zv43 : zvT Try.prog 43 = some (.emp 0) := by kernel_rfl
@[go_sem] theorem ty_sz44 : szT Try.prog 44 = some 4 := by kernel_rfl
@[go_sem] theorem ty_by44 : byT Try.prog 44 = some 80 := by kernel_rfl
@[go_sem] theorem ty_ag44 : aggT Try.prog 44 = some true := by kernel_rfl
@[go_sem] theorem ty_un44 : (Try.prog.underlying 44).isSome = true := by kernel_rfl
@[go_sem] theorem ty_ze44 : zeT Try.prog 44 = some [.data (.int .i64 0), .emp 0, .emp 0, .emp 0] := by kernel_rfl
@[go_sem] theorem ty_zl44 : zlT Try.prog 44 = some 4 := by kernel_rfl
@[go_sem] theorem ty_sl44 : sliceT Try.prog 44 = none := by kernel_rfl
@[go_sem] theorem ty_ar44 : arrT Try.prog 44 = none := by kernel_rfl
@[go_sem] theorem ty_in44 : intT Try.prog 44 = none := by kernel_rfl
@[go_sem] theorem ty_bo44 : boolT Try.prog 44 = false := by kernel_rfl
@[go_sem] theorem ty_co44 : concT Try.prog 44 = true := by kernel_rfl
@[go_sem] theorem ty_bt44 : bytT Try.prog 44 = false := by kernel_rfl
@[go_sem] theorem ty_st44 : strT Try.prog 44 = false := by kernel_rfl
@[go_sem] theorem ty_zv44 : zvT Try.prog 44 = some (.agg [.data (.int .i64 0), .emp 0, .emp 0, .emp 0]) := by kernel_rfl
@[go_sem] theorem ty_fl44_0 : fldT Try.prog 44 0 = some (0, 3) := by kernel_rfl
@[go_sem] theorem ty_fl44_1 : fldT Try.prog 44 1 = some (1, 41) := by kernel_rfl
@[go_sem] theorem ty_fl44_2 : fldT Try.prog 44 2 = some (2, 42) := by kernel_rfl
@[go_sem] theorem ty_fl44_3 : fldT Try.prog 44 3 = some (3, 43) := by kernel_rfl
@[go_sem] theorem ty_pl44 : plT Try.prog 44 = some [(0, 1), (1, 1), (2, 1), (3, 1)] := by kernel_rfl
@[go_sem] theorem ty_sz45 : szT Try.prog 45 = some 4 := by kernel_rfl
@[go_sem] theorem ty_by45 : byT Try.prog 45 = some 80 := by kernel_rfl
@[go_sem] theorem ty_ag45 : aggT Try.prog 45 = some true := by kernel_rfl
@[go_sem] theorem ty_un45 : (Try.prog.underlying 45).isSome = true := by kernel_rfl
@[go_sem] theorem ty_ze45 : zeT Try.prog 45 = some [.data (.int .i64 0), .emp 0, .emp 0, .emp 0] := by kernel_rfl
@[go_sem] theorem ty_zl45 : zlT Try.prog 45 = some 4 := by kernel_rfl
@[go_sem] theorem ty_sl45 : sliceT Try.prog 45 = none := by kernel_rfl
@[go_sem] theorem ty_ar45 : arrT Try.prog 45 = none := by kernel_rfl
@[go_sem] theorem ty_in45 : intT Try.prog 45 = none := by kernel_rfl
@[go_sem] theorem ty_bo45 : boolT Try.prog 45 = false := by kernel_rfl
@[go_sem] theorem ty_co45 : concT Try.prog 45 = true := by kernel_rfl
@[go_sem] theorem ty_bt45 : bytT Try.prog 45 = false := by kernel_rfl
@[go_sem] theorem ty_st45 : strT Try.prog 45 = false := by kernel_rfl
@[go_sem] theorem ty_zv45 : zvT Try.prog 45 = some (.agg [.data (.int .i64 0), .emp 0, .emp 0, .emp 0]) := by kernel_rfl
@[go_sem] theorem ty_fl45_0 : fldT Try.prog 45 0 = some (0, 3) := by kernel_rfl
@[go_sem] theorem ty_fl45_1 : fldT Try.prog 45 1 = some (1, 41) := by kernel_rfl
@[go_sem] theorem ty_fl45_2 : fldT Try.prog 45 2 = some (2, 42) := by kernel_rfl
@[go_sem] theorem ty_fl45_3 : fldT Try.prog 45 3 = some (3, 43) := by kernel_rfl
@[go_sem] theorem ty_pl45 : plT Try.prog 45 = some [(0, 1), (1, 1), (2, 1), (3, 1)] := by kernel_rfl
@[go_sem] theorem ty_sz46 : szT Try.prog 46 = some 1 := by kernel_rfl
@[go_sem] theorem ty_by46 : byT Try.prog 46 = some 8 := by kernel_rfl
@[go_sem] theorem ty_ag46 : aggT Try.prog 46 = some false := by kernel_rfl
@[go_sem] theorem ty_un46 : (Try.prog.underlying 46).isSome = true := by kernel_rfl
@[go_sem] theorem ty_ze46 : zeT Try.prog 46 = some [.data .nilf] := by kernel_rfl
@[go_sem] theorem ty_zl46 : zlT Try.prog 46 = some 1 := by kernel_rfl
@[go_sem] theorem ty_sl46 : sliceT Try.prog 46 = none := by kernel_rfl
@[go_sem] theorem ty_ar46 : arrT Try.prog 46 = none := by kernel_rfl
@[go_sem] theorem ty_in46 : intT Try.prog 46 = none := by kernel_rfl
@[go_sem] theorem ty_bo46 : boolT Try.prog 46 = false := by kernel_rfl
@[go_sem] theorem ty_co46 : concT Try.prog 46 = true := by kernel_rfl
@[go_sem] theorem ty_bt46 : bytT Try.prog 46 = false := by kernel_rfl
@[go_sem] theorem ty_st46 : strT Try.prog 46 = false := by kernel_rfl
@[go_sem] theorem ty_zv46 : zvT Try.prog 46 = some (.data .nilf) := by kernel_rfl
@[go_sem] theorem ty_sz47 : szT Try.prog 47 = some 1 := by kernel_rfl
@[go_sem] theorem ty_by47 : byT Try.prog 47 = some 8 := by kernel_rfl
@[go_sem] theorem ty_ag47 : aggT Try.prog 47 = some false := by kernel_rfl
@[go_sem] theorem ty_un47 : (Try.prog.underlying 47).isSome = true := by kernel_rfl
@[go_sem] theorem ty_ze47 : zeT Try.prog 47 = some [.data .nilf] := by kernel_rfl
@[go_sem] theorem ty_zl47 : zlT Try.prog 47 = some 1 := by kernel_rfl
@[go_sem] theorem ty_sl47 : sliceT Try.prog 47 = none := by kernel_rfl
@[go_sem] theorem ty_ar47 : arrT Try.prog 47 = none := by kernel_rfl
@[go_sem] theorem ty_in47 : intT Try.prog 47 = none := by kernel_rfl
@[go_sem] theorem ty_bo47 : boolT Try.prog 47 = false := by kernel_rfl
@[go_sem] theorem ty_co47 : concT Try.prog 47 = true := by kernel_rfl
@[go_sem] theorem ty_bt47 : bytT Try.prog 47 = false := by kernel_rfl
@[go_sem] theorem ty_st47 : strT Try.prog 47 = false := by kernel_rfl
@[go_sem] theorem ty_zv47 : zvT Try.prog 47 = some (.data .nilf) := by kernel_rfl
@[go_sem] theorem ty_sz48 : szT Try.prog 48 = some 1 := by kernel_rfl
@[go_sem] theorem ty_by48 : byT Try.prog 48 = some 8 := by kernel_rfl
@[go_sem] theorem ty_ag48 : aggT Try.prog 48 = some false := by kernel_rfl
@[go_sem] theorem ty_un48 : (Try.prog.underlying 48).isSome = true := by kernel_rfl
@[go_sem] theorem ty_ze48 : zeT Try.prog 48 = some [.data .nilf] := by kernel_rfl
@[go_sem] theorem ty_zl48 : zlT Try.prog 48 = some 1 := by kernel_rfl
@[go_sem] theorem ty_sl48 : sliceT Try.prog 48 = none := by kernel_rfl
@[go_sem] theorem ty_ar48 : arrT Try.prog 48 = none := by kernel_rfl
@[go_sem] theorem ty_in48 : intT Try.prog 48 = none := by kernel_rfl
@[go_sem] theorem ty_bo48 : boolT Try.prog 48 = false := by kernel_rfl
@[go_sem] theorem ty_co48 : concT Try.prog 48 = true := by kernel_rfl
@[go_sem] theorem ty_bt48 : bytT Try.prog 48 = false := by kernel_rfl
@[go_sem] theorem ty_st48 : strT Try.prog 48 = false := by kernel_rfl
@[go_sem] theorem ty_zv48 : zvT Try.prog 48 = some (.data .nilf) := by kernel_rfl
@[go_sem] theorem ty_sz50 : szT Try.prog 50 = some 1 := by kernel_rfl
@[go_sem] theorem ty_by50 : byT Try.prog 50 = some 8 := by kernel_rfl
@[go_sem] theorem ty_ag50 : aggT Try.prog 50 = some false := by kernel_rfl
@[go_sem] theorem ty_un50 : (Try.prog.underlying 50).isSome = true := by kernel_rfl
@[go_sem] theorem ty_ze50 : zeT Try.prog 50 = some [.data .nilf] := by kernel_rfl
@[go_sem] theorem ty_zl50 : zlT Try.prog 50 = some 1 := by kernel_rfl
@[go_sem] theorem ty_sl50 : sliceT Try.prog 50 = none := by kernel_rfl
@[go_sem] theorem ty_ar50 : arrT Try.prog 50 = none := by kernel_rfl
@[go_sem] theorem ty_in50 : intT Try.prog 50 = none := by kernel_rfl
@[go_sem] theorem ty_bo50 : boolT Try.prog 50 = false := by kernel_rfl
@[go_sem] theorem ty_co50 : concT Try.prog 50 = true := by kernel_rfl
@[go_sem] theorem ty_bt50 : bytT Try.prog 50 = false := by kernel_rfl
@[go_sem] theorem ty_st50 : strT Try.prog 50 = false := by kernel_rfl
@[go_sem] theorem ty_zv50 : zvT Try.prog 50 = some (.data .nilf) := by kernel_rfl
@[go_sem] theorem ty_sz52 : szT Try.prog 52 = some 1 := by kernel_rfl
@[go_sem] theorem ty_by52 : byT Try.prog 52 = some 8 := by kernel_rfl
@[go_sem] theorem ty_ag52 : aggT Try.prog 52 = some false := by kernel_rfl
@[go_sem] theorem ty_un52 : (Try.prog.underlying 52).isSome = true := by kernel_rfl
@[go_sem] theorem ty_ze52 : zeT Try.prog 52 = some [.data .nilf] := by kernel_rfl
@[go_sem] theorem ty_zl52 : zlT Try.prog 52 = some 1 := by kernel_rfl
@[go_sem] theorem ty_sl52 : sliceT Try.prog 52 = none := by kernel_rfl
@[go_sem] theorem ty_ar52 : arrT Try.prog 52 = none := by kernel_rfl
@[go_sem] theorem ty_in52 : intT Try.prog 52 = none := by kernel_rfl
@[go_sem] theorem ty_bo52 : boolT Try.prog 52 = false := by kernel_rfl
@[go_sem] theorem ty_co52 : concT Try.prog 52 = true := by kernel_rfl
@[go_sem] theorem ty_bt52 : bytT Try.prog 52 = false := by kernel_rfl
@[go_sem] theorem ty_st52 : strT Try.prog 52 = false := by kernel_rfl
@[go_sem] theorem ty_zv52 : zvT Try.prog 52 = some (.data .nilf) := by kernel_rfl
@[go_sem] theorem ty_sz53 : szT Try.prog 53 = some 1 := by kernel_rfl
@[go_sem] theorem ty_by53 : byT Try.prog 53 = some 8 := by kernel_rfl
@[go_sem] theorem ty_ag53 : aggT Try.prog 53 = some false := by kernel_rfl
@[go_sem] theorem ty_un53 : (Try.prog.underlying 53).isSome = true := by kernel_rfl
@[go_sem] theorem ty_ze53 : zeT Try.prog 53 = some [.data .nilf] := by kernel_rfl
@[go_sem] theorem ty_zl53 : zlT Try.prog 53 = some 1 := by kernel_rfl
@[go_sem] theorem ty_sl53 : sliceT Try.prog 53 = none := by kernel_rfl
@[go_sem] theorem ty_ar53 : arrT Try.prog 53 = none := by kernel_rfl
@[go_sem] theorem ty_in53 : intT Try.prog 53 = none := by kernel_rfl
@[go_sem] theorem ty_bo53 : boolT Try.prog 53 = false := by kernel_rfl
@[go_sem] theorem ty_co53 : concT Try.prog 53 = true := by kernel_rfl
@[go_sem] theorem ty_bt53 : bytT Try.prog 53 = false := by kernel_rfl
@[go_sem] theorem ty_st53 : strT Try.prog 53 = false := by kernel_rfl
@[go_sem] theorem ty_zv53 : zvT Try.prog 53 = some (.data .nilf) := by kernel_rfl
@[go_sem] theorem ty_sz54 : szT Try.prog 54 = some 1 := by kernel_rfl
@[go_sem] theorem ty_by54 : byT Try.prog 54 = some 8 := by kernel_rfl
@[go_sem] theorem ty_ag54 : aggT Try.prog 54 = some false := by kernel_rfl
@[go_sem] theorem ty_un54 : (Try.prog.underlying 54).isSome = true := by kernel_rfl
@[go_sem] theorem ty_ze54 : zeT Try.prog 54 = some [.data .nilf] := by kernel_rfl
@[go_sem] theorem ty_zl54 : zlT Try.prog 54 = some 1 := by kernel_rfl
@[go_sem] theorem ty_sl54 : sliceT Try.prog 54 = none := by kernel_rfl
@[go_sem] theorem ty_ar54 : arrT Try.prog 54 = none := by kernel_rfl
@[go_sem] theorem ty_in54 : intT Try.prog 54 = none := by kernel_rfl
@[go_sem] theorem ty_bo54 : boolT Try.prog 54 = false := by kernel_rfl
@[go_sem] theorem ty_co54 : concT Try.prog 54 = true := by kernel_rfl
@[go_sem] theorem ty_bt54 : bytT Try.prog 54 = false := by kernel_rfl
@[go_sem] theorem ty_st54 : strT Try.prog 54 = false := by kernel_rfl
@[go_sem] theorem ty_zv54 : zvT Try.prog 54 = some (.data .nilf) := by kernel_rfl
@[go_sem] theorem ty_sz56 : szT Try.prog 56 = some 1 := by kernel_rfl
@[go_sem] theorem ty_by56 : byT Try.prog 56 = some 8 := by kernel_rfl
@[go_sem] theorem ty_ag56 : aggT Try.prog 56 = some false := by kernel_rfl
@[go_sem] theorem ty_un56 : (Try.prog.underlying 56).isSome = true := by kernel_rfl
@[go_sem] theorem ty_ze56 : zeT Try.prog 56 = some [.data .nilf] := by kernel_rfl
@[go_sem] theorem ty_zl56 : zlT Try.prog 56 = some 1 := by kernel_rfl
@[go_sem] theorem ty_sl56 : sliceT Try.prog 56 = none := by kernel_rfl
@[go_sem] theorem ty_ar56 : arrT Try.prog 56 = none := by kernel_rfl
@[go_sem] theorem ty_in56 : intT Try.prog 56 = none := by kernel_rfl
@[go_sem] theorem ty_bo56 : boolT Try.prog 56 = false := by kernel_rfl
@[go_sem] theorem ty_co56 : concT Try.prog 56 = true := by kernel_rfl
@[go_sem] theorem ty_bt56 : bytT Try.prog 56 = false := by kernel_rfl
@[go_sem] theorem ty_st56 : strT Try.prog 56 = false := by kernel_rfl
@[go_sem] theorem ty_zv56 : zvT Try.prog 56 = some (.data .nilf) := by kernel_rfl
@[go_sem] theorem ty_sz58 : szT Try.prog 58 = some 1 := by kernel_rfl
@[go_sem] theorem ty_by58 : byT Try.prog 58 = some 8 := by kernel_rfl
@[go_sem] theorem ty_ag58 : aggT Try.prog 58 = some false := by kernel_rfl
@[go_sem] theorem ty_un58 : (Try.prog.underlying 58).isSome = true := by kernel_rfl
@[go_sem] theorem ty_ze58 : zeT Try.prog 58 = some [.data .nilf] := by kernel_rfl
@[go_sem] theorem ty_zl58 : zlT Try.prog 58 = some 1 := by kernel_rfl
@[go_sem] theorem ty_sl58 : sliceT Try.prog 58 = none := by kernel_rfl
@[go_sem] theorem ty_ar58 : arrT Try.prog 58 = none := by kernel_rfl
@[go_sem] theorem ty_in58 : intT Try.prog 58 = none := by kernel_rfl
@[go_sem] theorem ty_bo58 : boolT Try.prog 58 = false := by kernel_rfl
@[go_sem] theorem ty_co58 : concT Try.prog 58 = true := by kernel_rfl
@[go_sem] theorem ty_bt58 : bytT Try.prog 58 = false := by kernel_rfl
@[go_sem] theorem ty_st58 : strT Try.prog 58 = false := by kernel_rfl
@[go_sem] theorem ty_zv58 : zvT Try.prog 58 = some (.data .nilf) := by kernel_rfl
@[go_sem] theorem ty_sz59 : szT Try.prog 59 = some 1 := by kernel_rfl
@[go_sem] theorem ty_by59 : byT Try.prog 59 = some 8 := by kernel_rfl
@[go_sem] theorem ty_ag59 : aggT Try.prog 59 = some false := by kernel_rfl
@[go_sem] theorem ty_un59 : (Try.prog.underlying 59).isSome = true := by kernel_rfl
@[go_sem] theorem ty_ze59 : zeT Try.prog 59 = some [.data .nilf] := by kernel_rfl
@[go_sem] theorem ty_zl59 : zlT Try.prog 59 = some 1 := by kernel_rfl
@[go_sem] theorem ty_sl59 : sliceT Try.prog 59 = none := by kernel_rfl
@[go_sem] theorem ty_ar59 : arrT Try.prog 59 = none := by kernel_rfl
@[go_sem] theorem ty_in59 : intT Try.prog 59 = none := by kernel_rfl
@[go_sem] theorem ty_bo59 : boolT Try.prog 59 = false := by kernel_rfl
@[go_sem] theorem ty_co59 : concT Try.prog 59 = true := by kernel_rfl
@[go_sem] theorem ty_bt59 : bytT Try.prog 59 = false := by kernel_rfl
@[go_sem] theorem ty_st59 : strT Try.prog 59 = false := by kernel_rfl
@[go_sem] theorem ty_zv59 : zvT Try.prog 59 = some (.data .nilf) := by kernel_rfl
@[go_sem] theorem ty_sz60 : szT Try.prog 60 = some 1 := by kernel_rfl
@[go_sem] theorem ty_by60 : byT Try.prog 60 = some 8 := by kernel_rfl
@[go_sem] theorem ty_ag60 : aggT Try.prog 60 = some false := by kernel_rfl
@[go_sem] theorem ty_un60 : (Try.prog.underlying 60).isSome = true := by kernel_rfl
@[go_sem] theorem ty_ze60 : zeT Try.prog 60 = some [.data .nilf] := by kernel_rfl
@[go_sem] theorem ty_zl60 : zlT Try.prog 60 = some 1 := by kernel_rfl
@[go_sem] theorem ty_sl60 : sliceT Try.prog 60 = none := by kernel_rfl
@[go_sem] theorem ty_ar60 : arrT Try.prog 60 = none := by kernel_rfl
@[go_sem] theorem ty_in60 : intT Try.prog 60 = none := by kernel_rfl
@[go_sem] theorem ty_bo60 : boolT Try.prog 60 = false := by kernel_rfl
@[go_sem] theorem ty_co60 : concT Try.prog 60 = true := by kernel_rfl
@[go_sem] theorem ty_bt60 : bytT Try.prog 60 = false := by kernel_rfl
@[go_sem] theorem ty_st60 : strT Try.prog 60 = false := by kernel_rfl
@[go_sem] theorem ty_zv60 : zvT Try.prog 60 = some (.data .nilf) := by kernel_rfl
@[go_sem] theorem ty_sz61 : szT Try.prog 61 = some 15 := by kernel_rfl
@[go_sem] theorem ty_by61 : byT Try.prog 61 = some 176 := by kernel_rfl
@[go_sem] theorem ty_ag61 : aggT Try.prog 61 = some true := by kernel_rfl
@[go_sem] theorem ty_un61 : (Try.prog.underlying 61).isSome = true := by kernel_rfl
@[go_sem] theorem ty_ze61 : zeT Try.prog 61 = some [.data (.int .i64 0), .data (.int .i64 0), .data (.int .i64 0), .data (.int .i64 0), .data (.int .i64 0), .data (.int .u32 0), .data (.str ByteArray.empty), .data (.int .u64 0), .data (.int .u64 0), .data (.int .i64 0), .data (.int .i64 0), .data (.int .i64 0), .emp 0, .emp 0, .emp 0] := by kernel_rfl
@[go_sem] theorem ty_zl61 : zlT Try.prog 61 = some 15 := by kernel_rfl
@[go_sem] theorem ty_sl61 : sliceT Try.prog 61 = none := by kernel_rfl
@[go_sem] theorem ty_ar61 : arrT Try.prog 61 = none := by kernel_rfl
@[go_sem] theorem ty_in61 : intT Try.prog 61 = none := by kernel_rfl
@[go_sem] theorem ty_bo61 : boolT Try.prog 61 = false := by kernel_rfl
@[go_sem] theorem ty_co61 : concT Try.prog 61 = true := by kernel_rfl
@[go_sem] theorem ty_bt61 : bytT Try.prog 61 = false := by kernel_rfl
@[go_sem] theorem ty_st61 : strT Try.prog 61 = false := by kernel_rfl
@[go_sem] theorem ty_zv61 : zvT Try.prog 61 = some (.agg [.data (.int .i64 0), .data (.int .i64 0), .data (.int .i64 0), .data (.int .i64 0), .data (.int .i64 0), .data (.int .u32 0), .data (.str ByteArray.empty), .data (.int .u64 0), .data (.int .u64 0), .data (.int .i64 0), .data (.int .i64 0), .data (.int .i64 0), .emp 0, .emp 0, .emp 0]) := by kernel_rfl
@[go_sem] theorem ty_fl61_0 : fldT Try.prog 61 0 = some (0, 3) := by kernel_rfl
@[go_sem] theorem ty_fl61_1 : fldT Try.prog 61 1 = some (1, 3) := by kernel_rfl
@[go_sem] theorem ty_fl61_2 : fldT Try.prog 61 2 = some (2, 25) := by kernel_rfl
@[go_sem] theorem ty_fl61_3 : fldT Try.prog 61 3 = some (11, 45) := by kernel_rfl
@[go_sem] theorem ty_pl61 : plT Try.prog 61 = some [(0, 1), (1, 1), (2, 9), (11, 4)] := by kernel_rfl
@[go_sem] theorem ty_sz62 : szT Try.prog 62 = some 15 := by kernel_rfl
@[go_sem] theorem ty_by62 : byT Try.prog 62 = some 176 := by kernel_rfl
@[go_sem] theorem ty_ag62 : aggT Try.prog 62 = some true := by kernel_rfl
@[go_sem] theorem ty_un62 : (Try.prog.underlying 62).isSome = true := by kernel_rfl
@[go_sem] theorem ty_ze62 : zeT Try.prog 62 = some [.data (.int .i64 0), .data (.int .i64 0), .data (.int .i64 0), .data (.int .i64 0), .data (.int .i64 0), .data (.int .u32 0), .data (.str ByteArray.empty), .data (.int .u64 0), .data (.int .u64 0), .data (.int .i64 0), .data (.int .i64 0), .data (.int .i64 0), .emp 0, .emp 0, .emp 0] := by kernel_rfl
@[go_sem] theorem ty_zl62 : zlT Try.prog 62 = some 15 := by kernel_rfl
@[go_sem] theorem ty_sl62 : sliceT Try.prog 62 = none := by kernel_rfl
@[go_sem] theorem ty_ar62 : arrT Try.prog 62 = none := by kernel_rfl
@[go_sem] theorem ty_in62 : intT Try.prog 62 = none := by kernel_rfl
@[go_sem] theorem ty_bo62 : boolT Try.prog 62 = false := by kernel_rfl
@[go_sem] theorem ty_co62 : concT Try.prog 62 = true := by kernel_rfl
@[go_sem] theorem ty_bt62 : bytT Try.prog 62 = false := by kernel_rfl
@[go_sem] theorem ty_st62 : strT Try.prog 62 = false := by kernel_rfl
@[go_sem] theorem ty_zv62 : zvT Try.prog 62 = some (.agg [.data (.int .i64 0), .data (.int .i64 0), .data (.int .i64 0), .data (.int .i64 0), .data (.int .i64 0), .data (.int .u32 0), .data (.str ByteArray.empty), .data (.int .u64 0), .data (.int .u64 0), .data (.int .i64 0), .data (.int .i64 0), .data (.int .i64 0), .emp 0, .emp 0, .emp 0]) := by kernel_rfl
@[go_sem] theorem ty_fl62_0 : fldT Try.prog 62 0 = some (0, 3) := by kernel_rfl
@[go_sem] theorem ty_fl62_1 : fldT Try.prog 62 1 = some (1, 3) := by kernel_rfl
@[go_sem] theorem ty_fl62_2 : fldT Try.prog 62 2 = some (2, 25) := by kernel_rfl
@[go_sem] theorem ty_fl62_3 : fldT Try.prog 62 3 = some (11, 45) := by kernel_rfl
@[go_sem] theorem ty_pl62 : plT Try.prog 62 = some [(0, 1), (1, 1), (2, 9), (11, 4)] := by kernel_rfl
@[go_sem] theorem ty_sz63 : szT Try.prog 63 = some 1 := by kernel_rfl
@[go_sem] theorem ty_by63 : byT Try.prog 63 = some 8 := by kernel_rfl
@[go_sem] theorem ty_ag63 : aggT Try.prog 63 = some false := by kernel_rfl
@[go_sem] theorem ty_un63 : (Try.prog.underlying 63).isSome = true := by kernel_rfl
@[go_sem] theorem ty_ze63 : zeT Try.prog 63 = some [.data .nilf] := by kernel_rfl
@[go_sem] theorem ty_zl63 : zlT Try.prog 63 = some 1 := by kernel_rfl
@[go_sem] theorem ty_sl63 : sliceT Try.prog 63 = none := by kernel_rfl
@[go_sem] theorem ty_ar63 : arrT Try.prog 63 = none := by kernel_rfl
@[go_sem] theorem ty_in63 : intT Try.prog 63 = none := by kernel_rfl
@[go_sem] theorem ty_bo63 : boolT Try.prog 63 = false := by kernel_rfl
@[go_sem] theorem ty_co63 : concT Try.prog 63 = true := by kernel_rfl
@[go_sem] theorem ty_bt63 : bytT Try.prog 63 = false := by kernel_rfl
@[go_sem] theorem ty_st63 : strT Try.prog 63 = false := by kernel_rfl
@[go_sem] theorem ty_zv63 : zvT Try.prog 63 = some (.data .nilf) := by kernel_rfl
@[go_sem] theorem ty_sz64 : szT Try.prog 64 = some 1 := by kernel_rfl
@[go_sem] theorem ty_by64 : byT Try.prog 64 = some 8 := by kernel_rfl
@[go_sem] theorem ty_ag64 : aggT Try.prog 64 = some false := by kernel_rfl
@[go_sem] theorem ty_un64 : (Try.prog.underlying 64).isSome = true := by kernel_rfl
@[go_sem] theorem ty_ze64 : zeT Try.prog 64 = some [.data .nilf] := by kernel_rfl
@[go_sem] theorem ty_zl64 : zlT Try.prog 64 = some 1 := by kernel_rfl
@[go_sem] theorem ty_sl64 : sliceT Try.prog 64 = none := by kernel_rfl
@[go_sem] theorem ty_ar64 : arrT Try.prog 64 = none := by kernel_rfl
@[go_sem] theorem ty_in64 : intT Try.prog 64 = none := by kernel_rfl
@[go_sem] theorem ty_bo64 : boolT Try.prog 64 = false := by kernel_rfl
@[go_sem] theorem ty_co64 : concT Try.prog 64 = true := by kernel_rfl
@[go_sem] theorem ty_bt64 : bytT Try.prog 64 = false := by kernel_rfl
@[go_sem] theorem ty_st64 : strT Try.prog 64 = false := by kernel_rfl
@[go_sem] theorem ty_zv64 : zvT Try.prog 64 = some (.data .nilf) := by kernel_rfl
@[go_sem] theorem ty_sz65 : szT Try.prog 65 = some 2 := by kernel_rfl
@[go_sem] theorem ty_by65 : byT Try.prog 65 = some 16 := by kernel_rfl
@[go_sem] theorem ty_ag65 : aggT Try.prog 65 = some true := by kernel_rfl
@[go_sem] theorem ty_un65 : (Try.prog.underlying 65).isSome = true := by kernel_rfl
@[go_sem] theorem ty_ze65 : zeT Try.prog 65 = some [.data (.int .i64 0), .data (.int .i64 0)] := by kernel_rfl
@[go_sem] theorem ty_zl65 : zlT Try.prog 65 = some 2 := by kernel_rfl
@[go_sem] theorem ty_sl65 : sliceT Try.prog 65 = none := by kernel_rfl
@[go_sem] theorem ty_ar65 : arrT Try.prog 65 = some (2, 3) := by kernel_rfl
@[go_sem] theorem ty_in65 : intT Try.prog 65 = none := by kernel_rfl
@[go_sem] theorem ty_bo65 : boolT Try.prog 65 = false := by kernel_rfl
@[go_sem] theorem ty_co65 : concT Try.prog 65 = true := by kernel_rfl
@[go_sem] theorem ty_bt65 : bytT Try.prog 65 = false := by kernel_rfl
@[go_sem] theorem ty_st65 : strT Try.prog 65 = false := by kernel_rfl
@[go_sem] theorem ty_zv65 : zvT Try.prog 65 = some (.data (.agg [(.int .i64 0), (.int .i64 0)])) := by kernel_rfl
@[go_sem] theorem ty_sz66 : szT Try.prog 66 = some 30 := by kernel_rfl
@[go_sem] theorem ty_by66 : byT Try.prog 66 = some 352 := by kernel_rfl
@[go_sem] theorem ty_ag66 : aggT Try.prog 66 = some true := by kernel_rfl
@[go_sem] theorem ty_un66 : (Try.prog.underlying 66).isSome = true := by kernel_rfl
@[go_sem] theorem ty_ze66 : zeT Try.prog 66 = some [.data (.int .i64 0), .data (.int .i64 0), .data (.int .i64 0), .data (.int .i64 0), .data (.int .i64 0), .data (.int .i64 0), .data (.int .i64 0), .data (.int .u32 0), .data (.str ByteArray.empty), .data (.int .u64 0), .data (.int .u64 0), .data (.int .i64 0), .data (.int .i64 0), .data (.int .i64 0), .data (.int .i64 0), .data (.int .i64 0), .data (.int .u32 0), .data (.str ByteArray.empty), .data (.int .u64 0), .data (.int .u64 0), .data (.int .i64 0), .data (.int .i64 0), .data (.int .i64 0), .emp 0, .emp 0, .emp 0, .data (.int .i64 0), .emp 0, .emp 0, .emp 0] := by kernel_rfl
@[go_sem] theorem ty_zl66 : zlT Try.prog 66 = some 30 := by kernel_rfl
@[go_sem] theorem ty_sl66 : sliceT Try.prog 66 = none := by kernel_rfl
@[go_sem] theorem ty_ar66 : arrT Try.prog 66 = none := by kernel_rfl
@[go_sem] theorem ty_in66 : intT Try.prog 66 = none := by kernel_rfl
@[go_sem] theorem ty_bo66 : boolT Try.prog 66 = false := by kernel_rfl
@[go_sem] theorem ty_co66 : concT Try.prog 66 = true := by kernel_rfl
@[go_sem] theorem ty_bt66 : bytT Try.prog 66 = false := by kernel_rfl
@[go_sem] theorem ty_st66 : strT Try.prog 66 = false := by kernel_rfl
@[go_sem] theorem ty_zv66 : zvT Try.prog 66 = some (.agg [.data (.int .i64 0), .data (.int .i64 0), .data (.int .i64 0), .data (.int .i64 0), .data (.int .i64 0), .data (.int .i64 0), .data (.int .i64 0), .data (.int .u32 0), .data (.str ByteArray.empty), .data (.int .u64 0), .data (.int .u64 0), .data (.int .i64 0), .data (.int .i64 0), .data (.int .i64 0), .data (.int .i64 0), .data (.int .i64 0), .data (.int .u32 0), .data (.str ByteArray.empty), .data (.int .u64 0), .data (.int .u64 0), .data (.int .i64 0), .data (.int .i64 0), .data (.int .i64 0), .emp 0, .emp 0, .emp 0, .data (.int .i64 0), .emp 0, .emp 0, .emp 0]) := by kernel_rfl
@[go_sem] theorem ty_fl66_0 : fldT Try.prog 66 0 = some (0, 65) := by kernel_rfl
@[go_sem] theorem ty_fl66_1 : fldT Try.prog 66 1 = some (2, 65) := by kernel_rfl
@[go_sem] theorem ty_fl66_2 : fldT Try.prog 66 2 = some (4, 25) := by kernel_rfl
@[go_sem] theorem ty_fl66_3 : fldT Try.prog 66 3 = some (13, 25) := by kernel_rfl
@[go_sem] theorem ty_fl66_4 : fldT Try.prog 66 4 = some (22, 45) := by kernel_rfl
@[go_sem] theorem ty_fl66_5 : fldT Try.prog 66 5 = some (26, 45) := by kernel_rfl
@[go_sem] theorem ty_pl66 : plT Try.prog 66 = some [(0, 2), (2, 2), (4, 9), (13, 9), (22, 4), (26, 4)] := by kernel_rfl
@[go_sem] theorem ty_sz67 : szT Try.prog 67 = some 30 := by kernel_rfl
@[go_sem] theorem ty_by67 : byT Try.prog 67 = some 352 := by kernel_rfl
@[go_sem] theorem ty_ag67 : aggT Try.prog 67 = some true := by kernel_rfl
@[go_sem] theorem ty_un67 : (Try.prog.underlying 67).isSome = true := by kernel_rfl
@[go_sem] theorem ty_ze67 : zeT Try.prog 67 = some [.data (.int .i64 0), .data (.int .i64 0), .data (.int .i64 0), .data (.int .i64 0), .data (.int .i64 0), .data (.int .i64 0), .data (.int .i64 0), .data (.int .u32 0), .data (.str ByteArray.empty), .data (.int .u64 0), .data (.int .u64 0), .data (.int .i64 0), .data (.int .i64 0), .data (.int .i64 0), .data (.int .i64 0), .data (.int .i64 0), .data (.int .u32 0), .data (.str ByteArray.empty), .data (.int .u64 0), .data (.int .u64 0), .data (.int .i64 0), .data (.int .i64 0), .data (.int .i64 0), .emp 0, .emp 0, .emp 0, .data (.int .i64 0), .emp 0, .emp 0, .emp 0] := by kernel_rfl
@[go_sem] theorem ty_zl67 : zlT Try.prog 67 = some 30 := by kernel_rfl
@[go_sem] theorem ty_sl67 : sliceT Try.prog 67 = none := by kernel_rfl
@[go_sem] theorem ty_ar67 : arrT Try.prog 67 = none := by kernel_rfl
@[go_sem] theorem ty_in67 : intT Try.prog 67 = none := by kernel_rfl
@[go_sem] theorem ty_bo67 : boolT Try.prog 67 = false := by kernel_rfl
@[go_sem] theorem ty_co67 : concT Try.prog 67 = true := by kernel_rfl
@[go_sem] theorem ty_bt67 : bytT Try.prog 67 = false := by kernel_rfl
@[go_sem] theorem ty_st67 : strT Try.prog 67 = false := by kernel_rfl
@[go_sem] theorem ty_zv67 : zvT Try.prog 67 = some (.agg [.data (.int .i64 0), .data (.int .i64 0), .data (.int .i64 0), .data (.int .i64 0), .data (.int .i64 0), .data (.int .i64 0), .data (.int .i64 0), .data (.int .u32 0), .data (.str ByteArray.empty), .data (.int .u64 0), .data (.int .u64 0), .data (.int .i64 0), .data (.int .i64 0), .data (.int .i64 0), .data (.int .i64 0), .data (.int .i64 0), .data (.int .u32 0), .data (.str ByteArray.empty), .data (.int .u64 0), .data (.int .u64 0), .data (.int .i64 0), .data (.int .i64 0), .data (.int .i64 0), .emp 0, .emp 0, .emp 0, .data (.int .i64 0), .emp 0, .emp 0, .emp 0]) := by kernel_rfl
@[go_sem] theorem ty_fl67_0 : fldT Try.prog 67 0 = some (0, 65) := by kernel_rfl
@[go_sem] theorem ty_fl67_1 : fldT Try.prog 67 1 = some (2, 65) := by kernel_rfl
@[go_sem] theorem ty_fl67_2 : fldT Try.prog 67 2 = some (4, 25) := by kernel_rfl
@[go_sem] theorem ty_fl67_3 : fldT Try.prog 67 3 = some (13, 25) := by kernel_rfl
@[go_sem] theorem ty_fl67_4 : fldT Try.prog 67 4 = some (22, 45) := by kernel_rfl
@[go_sem] theorem ty_fl67_5 : fldT Try.prog 67 5 = some (26, 45) := by kernel_rfl
@[go_sem] theorem ty_pl67 : plT Try.prog 67 = some [(0, 2), (2, 2), (4, 9), (13, 9), (22, 4), (26, 4)] := by kernel_rfl
@[go_sem] theorem ty_sz68 : szT Try.prog 68 = some 1 := by kernel_rfl
@[go_sem] theorem ty_by68 : byT Try.prog 68 = some 8 := by kernel_rfl
@[go_sem] theorem ty_ag68 : aggT Try.prog 68 = some false := by kernel_rfl
@[go_sem] theorem ty_un68 : (Try.prog.underlying 68).isSome = true := by kernel_rfl
@[go_sem] theorem ty_ze68 : zeT Try.prog 68 = some [.data .nilf] := by kernel_rfl
@[go_sem] theorem ty_zl68 : zlT Try.prog 68 = some 1 := by kernel_rfl
@[go_sem] theorem ty_sl68 : sliceT Try.prog 68 = none := by kernel_rfl
@[go_sem] theorem ty_ar68 : arrT Try.prog 68 = none := by kernel_rfl
@[go_sem] theorem ty_in68 : intT Try.prog 68 = none := by kernel_rfl
@[go_sem] theorem ty_bo68 : boolT Try.prog 68 = false := by kernel_rfl
@[go_sem] theorem ty_co68 : concT Try.prog 68 = true := by kernel_rfl
@[go_sem] theorem ty_bt68 : bytT Try.prog 68 = false := by kernel_rfl
@[go_sem] theorem ty_st68 : strT Try.prog 68 = false := by kernel_rfl
@[go_sem] theorem ty_zv68 : zvT Try.prog 68 = some (.data .nilf) := by kernel_rfl
@[go_sem] theorem ty_sz69 : szT Try.prog 69 = some 13 := by kernel_rfl
@[go_sem] theorem ty_by69 : byT Try.prog 69 = some 104 := by kernel_rfl
@[go_sem] theorem ty_ag69 : aggT Try.prog 69 = some true := by kernel_rfl
@[go_sem] theorem ty_un69 : (Try.prog.underlying 69).isSome = true := by kernel_rfl
@[go_sem] theorem ty_ze69 : zeT Try.prog 69 = some [.data (.int .i64 0), .data (.int .i64 0), .data (.int .i64 0), .data (.int .i64 0), .data (.int .i64 0), .data (.int .u32 0), .data (.str ByteArray.empty), .data (.int .u64 0), .data (.int .u64 0), .data (.int .i64 0), .data (.int .i64 0), .data (.int .u8 0), .data (.int .u8 0)] := by kernel_rfl
@[go_sem] theorem ty_zl69 : zlT Try.prog 69 = some 13 := by kernel_rfl
@[go_sem] theorem ty_sl69 : sliceT Try.prog 69 = none := by kernel_rfl
@[go_sem] theorem ty_ar69 : arrT Try.prog 69 = none := by kernel_rfl
@[go_sem] theorem ty_in69 : intT Try.prog 69 = none := by kernel_rfl
@[go_sem] theorem ty_bo69 : boolT Try.prog 69 = false := by kernel_rfl
@[go_sem] theorem ty_co69 : concT Try.prog 69 = true := by kernel_rfl
@[go_sem] theorem ty_bt69 : bytT Try.prog 69 = false := by kernel_rfl
@[go_sem] theorem ty_st69 : strT Try.prog 69 = false := by kernel_rfl
@[go_sem] theorem ty_zv69 : zvT Try.prog 69 = some (.data (.agg [(.int .i64 0), (.int .i64 0), (.int .i64 0), (.int .i64 0), (.int .i64 0), (.int .u32 0), (.str ByteArray.empty), (.int .u64 0), (.int .u64 0), (.int .i64 0), (.int .i64 0), (.int .u8 0), (.int .u8 0)])) := by kernel_rfl
@[go_sem] theorem ty_fl69_0 : fldT Try.prog 69 0 = some (0, 3) := by kernel_rfl
@[go_sem] theorem ty_fl69_1 : fldT Try.prog 69 1 = some (1, 3) := by kernel_rfl
@[go_sem] theorem ty_fl69_2 : fldT Try.prog 69 2 = some (2, 25) := by kernel_rfl
@[go_sem] theorem ty_fl69_3 : fldT Try.prog 69 3 = some (11, 5) := by kernel_rfl
@[go_sem] theorem ty_fl69_4 : fldT Try.prog 69 4 = some (12, 5) := by kernel_rfl
@[go_sem] theorem ty_pl69 : plT Try.prog 69 = some [(0, 1), (1, 1), (2, 9), (11, 1), (12, 1)] := by kernel_rfl
@[go_sem] theorem ty_sz70 : szT Try.prog 70 = some 13 := by kernel_rfl
@[go_sem] theorem ty_by70 : byT Try.prog 70 = some 104 := by kernel_rfl
@[go_sem] theorem ty_ag70 : aggT Try.prog 70 = some true := by kernel_rfl
@[go_sem] theorem ty_un70 : (Try.prog.underlying 70).isSome = true := by kernel_rfl
@[go_sem] theorem ty_ze70 : zeT Try.prog 70 = some [.data (.int .i64 0), .data (.int .i64 0), .data (.int .i64 0), .data (.int .i64 0), .data (.int .i64 0), .data (.int .u32 0), .data (.str ByteArray.empty), .data (.int .u64 0), .data (.int .u64 0), .data (.int .i64 0), .data (.int .i64 0), .data (.int .u8 0), .data (.int .u8 0)] := by kernel_rfl
@[go_sem] theorem ty_zl70 : zlT Try.prog 70 = some 13 := by kernel_rfl
@[go_sem] theorem ty_sl70 : sliceT Try.prog 70 = none := by kernel_rfl
@[go_sem] theorem ty_ar70 : arrT Try.prog 70 = none := by kernel_rfl
@[go_sem] theorem ty_in70 : intT Try.prog 70 = none := by kernel_rfl
@[go_sem] theorem ty_bo70 : boolT Try.prog 70 = false := by kernel_rfl
@[go_sem] theorem ty_co70 : concT Try.prog 70 = true := by kernel_rfl
@[go_sem] theorem ty_bt70 : bytT Try.prog 70 = false := by kernel_rfl
@[go_sem] theorem ty_st70 : strT Try.prog 70 = false := by kernel_rfl
@[go_sem] theorem ty_zv70 : zvT Try.prog 70 = some (.data (.agg [(.int .i64 0), (.int .i64 0), (.int .i64 0), (.int .i64 0), (.int .i64 0), (.int .u32 0), (.str ByteArray.empty), (.int .u64 0), (.int .u64 0), (.int .i64 0), (.int .i64 0), (.int .u8 0), (.int .u8 0)])) := by kernel_rfl
@[go_sem] theorem ty_fl70_0 : fldT Try.prog 70 0 = some (0, 3) := by kernel_rfl
@[go_sem] theorem ty_fl70_1 : fldT Try.prog 70 1 = some (1, 3) := by kernel_rfl
@[go_sem] theorem ty_fl70_2 : fldT Try.prog 70 2 = some (2, 25) := by kernel_rfl
@[go_sem] theorem ty_fl70_3 : fldT Try.prog 70 3 = some (11, 5) := by kernel_rfl
@[go_sem] theorem ty_fl70_4 : fldT Try.prog 70 4 = some (12, 5) := by kernel_rfl
@[go_sem] theorem ty_pl70 : plT Try.prog 70 = some [(0, 1), (1, 1), (2, 9), (11, 1), (12, 1)] := by kernel_rfl
@[go_sem] theorem ty_sz71 : szT Try.prog 71 = some 1 := by kernel_rfl
@[go_sem] theorem ty_by71 : byT Try.prog 71 = some 8 := by kernel_rfl
@[go_sem] theorem ty_ag71 : aggT Try.prog 71 = some false := by kernel_rfl
@[go_sem] theorem ty_un71 : (Try.prog.underlying 71).isSome = true := by kernel_rfl
@[go_sem] theorem ty_ze71 : zeT Try.prog 71 = some [.data .nilf] := by kernel_rfl
@[go_sem] theorem ty_zl71 : zlT Try.prog 71 = some 1 := by kernel_rfl
@[go_sem] theorem ty_sl71 : sliceT Try.prog 71 = none := by kernel_rfl
@[go_sem] theorem ty_ar71 : arrT Try.prog 71 = none := by kernel_rfl
@[go_sem] theorem ty_in71 : intT Try.prog 71 = none := by kernel_rfl
@[go_sem] theorem ty_bo71 : boolT Try.prog 71 = false := by kernel_rfl
@[go_sem] theorem ty_co71 : concT Try.prog 71 = true := by kernel_rfl
@[go_sem] theorem ty_bt71 : bytT Try.prog 71 = false := by kernel_rfl
@[go_sem] theorem ty_st71 : strT Try.prog 71 = false := by kernel_rfl
@[go_sem] theorem ty_zv71 : zvT Try.prog 71 = some (.data .nilf) := by kernel_rfl
@[go_sem] theorem ty_sz72 : szT Try.prog 72 = some 1 := by kernel_rfl
@[go_sem] theorem ty_by72 : byT Try.prog 72 = some 8 := by kernel_rfl
@[go_sem] theorem ty_ag72 : aggT Try.prog 72 = some false := by kernel_rfl
@[go_sem] theorem ty_un72 : (Try.prog.underlying 72).isSome = true := by kernel_rfl
@[go_sem] theorem ty_ze72 : zeT Try.prog 72 = some [.data .nilf] := by kernel_rfl
@[go_sem] theorem ty_zl72 : zlT Try.prog 72 = some 1 := by kernel_rfl
@[go_sem] theorem ty_sl72 : sliceT Try.prog 72 = none := by kernel_rfl
@[go_sem] theorem ty_ar72 : arrT Try.prog 72 = none := by kernel_rfl
@[go_sem] theorem ty_in72 : intT Try.prog 72 = none := by kernel_rfl
@[go_sem] theorem ty_bo72 : boolT Try.prog 72 = false := by kernel_rfl
@[go_sem] theorem ty_co72 : concT Try.prog 72 = true := by kernel_rfl
@[go_sem] theorem ty_bt72 : bytT Try.prog 72 = false := by kernel_rfl
@[go_sem] theorem ty_st72 : strT Try.prog 72 = false := by kernel_rfl
@[go_sem] theorem ty_zv72 : zvT Try.prog 72 = some (.data .nilf) := by kernel_rfl
@[go_sem] theorem ty_sz73 : szT Try.prog 73 = some 11 := by kernel_rfl
@[go_sem] theorem ty_by73 : byT Try.prog 73 = some 96 := by kernel_rfl
@[go_sem] theorem ty_ag73 : aggT Try.prog 73 = some true := by kernel_rfl
@[go_sem] theorem ty_un73 : (Try.prog.underlying 73).isSome = true := by kernel_rfl
@[go_sem] theorem ty_ze73 : zeT Try.prog 73 = some [.data (.int .i64 0), .data (.int .i64 0), .data (.int .i64 0), .data (.int .i64 0), .data (.int .i64 0), .data (.int .u32 0), .data (.str ByteArray.empty), .data (.int .u64 0), .data (.int .u64 0), .data (.int .i64 0), .data (.int .i64 0)] := by kernel_rfl
@[go_sem] theorem ty_zl73 : zlT Try.prog 73 = some 11 := by kernel_rfl
@[go_sem] theorem ty_sl73 : sliceT Try.prog 73 = none := by kernel_rfl
@[go_sem] theorem ty_ar73 : arrT Try.prog 73 = none := by kernel_rfl
@[go_sem] theorem ty_in73 : intT Try.prog 73 = none := by kernel_rfl
@[go_sem] theorem ty_bo73 : boolT Try.prog 73 = false := by kernel_rfl
@[go_sem] theorem ty_co73 : concT Try.prog 73 = true := by kernel_rfl
@[go_sem] theorem ty_bt73 : bytT Try.prog 73 = false := by kernel_rfl
@[go_sem] theorem ty_st73 : strT Try.prog 73 = false := by kernel_rfl
@[go_sem] theorem ty_zv73 : zvT Try.prog 73 = some (.data (.agg [(.int .i64 0), (.int .i64 0), (.int .i64 0), (.int .i64 0), (.int .i64 0), (.int .u32 0), (.str ByteArray.empty), (.int .u64 0), (.int .u64 0), (.int .i64 0), (.int .i64 0)])) := by kernel_rfl
@[go_sem] theorem ty_fl73_0 : fldT Try.prog 73 0 = some (0, 3) := by kernel_rfl
@[go_sem] theorem ty_fl73_1 : fldT Try.prog 73 1 = some (1, 3) := by kernel_rfl
@[go_sem] theorem ty_fl73_2 : fldT Try.prog 73 2 = some (2, 25) := by kernel_rfl
@[go_sem] theorem ty_pl73 : plT Try.prog 73 = some [(0, 1), (1, 1), (2, 9)] := by kernel_rfl
@[go_sem] theorem ty_sz74 : szT Try.prog 74 = some 11 := by kernel_rfl
@[go_sem] theorem ty_by74 : byT Try.prog 74 = some 96 := by kernel_rfl
@[go_sem] theorem ty_ag74 : aggT Try.prog 74 = some true := by kernel_rfl
@[go_sem] theorem ty_un74 : (Try.prog.underlying 74).isSome = true := by kernel_rfl
@[go_sem] theorem ty_ze74 : zeT Try.prog 74 = some [.data (.int .i64 0), .data (.int .i64 0), .data (.int .i64 0), .data (.int .i64 0), .data (.int .i64 0), .data (.int .u32 0), .data (.str ByteArray.empty), .data (.int .u64 0), .data (.int .u64 0), .data (.int .i64 0), .data (.int .i64 0)] := by kernel_rfl
@[go_sem] theorem ty_zl74 : zlT Try.prog 74 = some 11 := by kernel_rfl
@[go_sem] theorem ty_sl74 : sliceT Try.prog 74 = none := by kernel_rfl
@[go_sem] theorem ty_ar74 : arrT Try.prog 74 = none := by kernel_rfl
@[go_sem] theorem ty_in74 : intT Try.prog 74 = none := by kernel_rfl
@[go_sem] theorem ty_bo74 : boolT Try.prog 74 = false := by kernel_rfl
@[go_sem] theorem ty_co74 : concT Try.prog 74 = true := by kernel_rfl
@[go_sem] theorem ty_bt74 : bytT Try.prog 74 = false := by kernel_rfl
@[go_sem] theorem ty_st74 : strT Try.prog 74 = false := by kernel_rfl
@[go_sem] theorem ty_zv74 : zvT Try.prog 74 = some (.data (.agg [(.int .i64 0), (.int .i64 0), (.int .i64 0), (.int .i64 0), (.int .i64 0), (.int .u32 0), (.str ByteArray.empty), (.int .u64 0), (.int .u64 0), (.int .i64 0), (.int .i64 0)])) := by kernel_rfl
@[go_sem] theorem ty_fl74_0 : fldT Try.prog 74 0 = some (0, 3) := by kernel_rfl
@[go_sem] theorem ty_fl74_1 : fldT Try.prog 74 1 = some (1, 3) := by kernel_rfl
@[go_sem] theorem ty_fl74_2 : fldT Try.prog 74 2 = some (2, 25) := by kernel_rfl
@[go_sem] theorem ty_pl74 : plT Try.prog 74 = some [(0, 1), (1, 1), (2, 9)] := by kernel_rfl
@[go_sem] theorem ty_sz75 : szT Try.prog 75 = some 1 := by kernel_rfl
@[go_sem] theorem ty_by75 : byT Try.prog 75 = some 8 := by kernel_rfl
@[go_sem] theorem ty_ag75 : aggT Try.prog 75 = some false := by kernel_rfl
@[go_sem] theorem ty_un75 : (Try.prog.underlying 75).isSome = true := by kernel_rfl
@[go_sem] theorem ty_ze75 : zeT Try.prog 75 = some [.data .nilf] := by kernel_rfl
@[go_sem] theorem ty_zl75 : zlT Try.prog 75 = some 1 := by kernel_rfl
@[go_sem] theorem ty_sl75 : sliceT Try.prog 75 = none := by kernel_rfl
@[go_sem] theorem ty_ar75 : arrT Try.prog 75 = none := by kernel_rfl
@[go_sem] theorem ty_in75 : intT Try.prog 75 = none := by kernel_rfl
@[go_sem] theorem ty_bo75 : boolT Try.prog 75 = false := by kernel_rfl
@[go_sem] theorem ty_co75 : concT Try.prog 75 = true := by kernel_rfl
@[go_sem] theorem ty_bt75 : bytT Try.prog 75 = false := by kernel_rfl
@[go_sem] theorem ty_st75 : strT Try.prog 75 = false := by kernel_rfl
@[go_sem] theorem ty_zv75 : zvT Try.prog 75 = some (.data .nilf) := by kernel_rfl
@[go_sem] theorem ty_sz76 : szT Try.prog 76 = some 1 := by kernel_rfl
@[go_sem] theorem ty_by76 : byT Try.prog 76 = some 24 := by kernel_rfl
@[go_sem] theorem ty_ag76 : aggT Try.prog 76 = some false := by kernel_rfl
@[go_sem] theorem ty_un76 : (Try.prog.underlying 76).isSome = true := by kernel_rfl
@[go_sem] theorem ty_ze76 : zeT Try.prog 76 = some [.emp 0] := by kernel_rfl
@[go_sem] theorem ty_zl76 : zlT Try.prog 76 = some 1 := by kernel_rfl
@[go_sem] theorem ty_sl76 : sliceT Try.prog 76 = some 109 := by kernel_rfl
@[go_sem] theorem ty_ar76 : arrT Try.prog 76 = none := by kernel_rfl
@[go_sem] theorem ty_in76 : intT Try.prog 76 = none := by kernel_rfl
@[go_sem] theorem ty_bo76 : boolT Try.prog 76 = false := by kernel_rfl
@[go_sem] theorem ty_co76 : concT Try.prog 76 = true := by kernel_rfl
@[go_sem] theorem ty_bt76 : bytT Try.prog 76 = false := by kernel_rfl
@[go_sem] theorem ty_st76 : strT Try.prog 76 = false := by kernel_rfl
@[go_sem] theorem ty_zv76 : zvT Try.prog 76 = some (.emp 0) := by kernel_rfl
@[go_sem] theorem ty_sz77 : szT Try.prog 77 = some 1 := by kernel_rfl
@[go_sem] theorem ty_by77 : byT Try.prog 77 = some 8 := by kernel_rfl
@[go_sem] theorem ty_ag77 : aggT Try.prog 77 = some false := by kernel_rfl
@[go_sem] theorem ty_un77 : (Try.prog.underlying 77).isSome = true := by kernel_rfl
@[go_sem] theorem ty_ze77 : zeT Try.prog 77 = some [.data .nilf] := by kernel_rfl
@[go_sem] theorem ty_zl77 : zlT Try.prog 77 = some 1 := by kernel_rfl
@[go_sem] theorem ty_sl77 : sliceT Try.prog 77 = none := by kernel_rfl
@[go_sem] theorem ty_ar77 : arrT Try.prog 77 = none := by kernel_rfl
@[go_sem] theorem ty_in77 : intT Try.prog 77 = none := by kernel_rfl
@[go_sem] theorem ty_bo77 : boolT Try.prog 77 = false := by kernel_rfl
@[go_sem] theorem ty_co77 : concT Try.prog 77 = true := by kernel_rfl
@[go_sem] theorem ty_bt77 : bytT Try.prog 77 = false := by kernel_rfl
@[go_sem] theorem ty_st77 : strT Try.prog 77 = false := by kernel_rfl
@[go_sem] theorem ty_zv77 : zvT Try.prog 77 = some (.data .nilf) := by kernel_rfl
@[go_sem] theorem ty_sz78 : szT Try.prog 78 = some 1 := by kernel_rfl
@[go_sem] theorem ty_by78 : byT Try.prog 78 = some 8 := by kernel_rfl
@[go_sem] theorem ty_ag78 : aggT Try.prog 78 = some false := by kernel_rfl
@[go_sem] theorem ty_un78 : (Try.prog.underlying 78).isSome = true := by kernel_rfl
@[go_sem] theorem ty_ze78 : zeT Try.prog 78 = some [.data .nilf] := by kernel_rfl
@[go_sem] theorem ty_zl78 : zlT Try.prog 78 = some 1 := by kernel_rfl
@[go_sem] theorem ty_sl78 : sliceT Try.prog 78 = none := by kernel_rfl
@[go_sem] theorem ty_ar78 : arrT Try.prog 78 = none := by kernel_rfl
@[go_sem] theorem ty_in78 : intT Try.prog 78 = none := by kernel_rfl
@[go_sem] theorem ty_bo78 : boolT Try.prog 78 = false := by kernel_rfl
@[go_sem] theorem ty_co78 : concT Try.prog 78 = true := by kernel_rfl
@[go_sem] theorem ty_bt78 : bytT Try.prog 78 = false := by kernel_rfl
@[go_sem] theorem ty_st78 : strT Try.prog 78 = false := by kernel_rfl
@[go_sem] theorem ty_zv78 : zvT Try.prog 78 = some (.data .nilf) := by kernel_rfl
@[go_sem] theorem ty_sz79 : szT Try.prog 79 = some 1 := by kernel_rfl
@[go_sem] theorem ty_by79 : byT Try.prog 79 = some 8 := by kernel_rfl
@[go_sem] theorem ty_ag79 : aggT Try.prog 79 = some false := by kernel_rfl
@[go_sem] theorem ty_un79 : (Try.prog.underlying 79).isSome = true := by kernel_rfl
@[go_sem] theorem ty_ze79 : zeT Try.prog 79 = some [.data .nilf] := by kernel_rfl
@[go_sem] theorem ty_zl79 : zlT Try.prog 79 = some 1 := by kernel_rfl
@[go_sem] theorem ty_sl79 : sliceT Try.prog 79 = none := by kernel_rfl
@[go_sem] theorem ty_ar79 : arrT Try.prog 79 = none := by kernel_rfl
@[go_sem] theorem ty_in79 : intT Try.prog 79 = none := by kernel_rfl
@[go_sem] theorem ty_bo79 : boolT Try.prog 79 = false := by kernel_rfl
@[go_sem] theorem ty_co79 : concT Try.prog 79 = true := by kernel_rfl
@[go_sem] theorem ty_bt79 : bytT Try.prog 79 = false := by kernel_rfl
@[go_sem] theorem ty_st79 : strT Try.prog 79 = false := by kernel_rfl
@[go_sem] theorem ty_zv79 : zvT Try.prog 79 = some (.data .nilf) := by kernel_rfl
@[go_sem] theorem ty_sz80 : szT Try.prog 80 = some 1 := by kernel_rfl
@[go_sem] theorem ty_by80 : byT Try.prog 80 = some 8 := by kernel_rfl
@[go_sem] theorem ty_ag80 : aggT Try.prog 80 = some false := by kernel_rfl
@[go_sem] theorem ty_un80 : (Try.prog.underlying 80).isSome = true := by kernel_rfl
@[go_sem] theorem ty_ze80 : zeT Try.prog 80 = some [.data .nilf] := by kernel_rfl
@[go_sem] theorem ty_zl80 : zlT Try.prog 80 = some 1 := by kernel_rfl
@[go_sem] theorem ty_sl80 : sliceT Try.prog 80 = none := by kernel_rfl
@[go_sem] theorem ty_ar80 : arrT Try.prog 80 = none := by kernel_rfl
@[go_sem] theorem ty_in80 : intT Try.prog 80 = none := by kernel_rfl
@[go_sem] theorem ty_bo80 : boolT Try.prog 80 = false := by kernel_rfl
@[go_sem] theorem ty_co80 : concT Try.prog 80 = true := by kernel_rfl
@[go_sem] theorem ty_bt80 : bytT Try.prog 80 = false := by kernel_rfl
@[go_sem] theorem ty_st80 : strT Try.prog 80 = false := by kernel_rfl
@[go_sem] theorem ty_zv80 : zvT Try.prog 80 = some (.data .nilf) := by kernel_rfl
@[go_sem] theorem ty_sz82 : szT Try.prog 82 = some 1 := by kernel_rfl
@[go_sem] theorem ty_by82 : byT Try.prog 82 = some 8 := by kernel_rfl
@[go_sem] theorem ty_ag82 : aggT Try.prog 82 = some false := by kernel_rfl
@[go_sem] theorem ty_un82 : (Try.prog.underlying 82).isSome = true := by kernel_rfl
@[go_sem] theorem ty_ze82 : zeT Try.prog 82 = some [.data .nilf] := by kernel_rfl
@[go_sem] theorem ty_zl82 : zlT Try.prog 82 = some 1 := by kernel_rfl
@[go_sem] theorem ty_sl82 : sliceT Try.prog 82 = none := by kernel_rfl
@[go_sem] theorem ty_ar82 : arrT Try.prog 82 = none := by kernel_rfl
@[go_sem] theorem ty_in82 : intT Try.prog 82 = none := by kernel_rfl
@[go_sem] theorem ty_bo82 : boolT Try.prog 82 = false := by kernel_rfl
@[go_sem] theorem ty_co82 : concT Try.prog 82 = true := by kernel_rfl
@[go_sem] theorem ty_bt82 : bytT Try.prog 82 = false := by kernel_rfl
@[go_sem] theorem ty_st82 : strT Try.prog 82 = false := by kernel_rfl
@[go_sem] theorem ty_zv82 : zvT Try.prog 82 = some (.data .nilf) := by kernel_rfl
@[go_sem] theorem ty_sz83 : szT Try.prog 83 = some 1 := by kernel_rfl
@[go_sem] theorem ty_by83 : byT Try.prog 83 = some 8 := by kernel_rfl
@[go_sem] theorem ty_ag83 : aggT Try.prog 83 = some false := by kernel_rfl
@[go_sem] theorem ty_un83 : (Try.prog.underlying 83).isSome = true := by kernel_rfl
@[go_sem] theorem ty_ze83 : zeT Try.prog 83 = some [.data .nilf] := by kernel_rfl
@[go_sem] theorem ty_zl83 : zlT Try.prog 83 = some 1 := by kernel_rfl
@[go_sem] theorem ty_sl83 : sliceT Try.prog 83 = none := by kernel_rfl
@[go_sem] theorem ty_ar83 : arrT Try.prog 83 = none := by kernel_rfl
@[go_sem] theorem ty_in83 : intT Try.prog 83 = none := by kernel_rfl
@[go_sem] theorem ty_bo83 : boolT Try.prog 83 = false := by kernel_rfl
@[go_sem] theorem ty_co83 : concT Try.prog 83 = true := by kernel_rfl
@[go_sem] theorem ty_bt83 : bytT Try.prog 83 = false := by kernel_rfl
@[go_sem] theorem ty_st83 : strT Try.prog 83 = false := by kernel_rfl
@[go_sem] theorem ty_zv83 : zvT Try.prog 83 = some (.data .nilf) := by kernel_rfl
@[go_sem] theorem ty_sz84 : szT Try.prog 84 = some 1 := by kernel_rfl
@[go_sem] theorem ty_by84 : byT Try.prog 84 = some 8 := by kernel_rfl
@[go_sem] theorem ty_ag84 : aggT Try.prog 84 = some false := by kernel_rfl
@[go_sem] theorem ty_un84 : (Try.prog.underlying 84).isSome = true := by kernel_rfl
@[go_sem] theorem ty_ze84 : zeT Try.prog 84 = some [.data .nilf] := by kernel_rfl
@[go_sem] theorem ty_zl84 : zlT Try.prog 84 = some 1 := by kernel_rfl
@[go_sem] theorem ty_sl84 : sliceT Try.prog 84 = none := by kernel_rfl
@[go_sem] theorem ty_ar84 : arrT Try.prog 84 = none := by kernel_rfl
@[go_sem] theorem ty_in84 : intT Try.prog 84 = none := by kernel_rfl
@[go_sem] theorem ty_bo84 : boolT Try.prog 84 = false := by kernel_rfl
@[go_sem] theorem ty_co84 : concT Try.prog 84 = true := by kernel_rfl
@[go_sem] theorem ty_bt84 : bytT Try.prog 84 = false := by kernel_rfl
@[go_sem] theorem ty_st84 : strT Try.prog 84 = false := by kernel_rfl
@[go_sem] theorem ty_zv84 : zvT Try.prog 84 = some (.data .nilf) := by kernel_rfl
@[go_sem] theorem ty_sz85 : szT Try.prog 85 = some 1 := by kernel_rfl
@[go_sem] theorem ty_by85 : byT Try.prog 85 = some 8 := by kernel_rfl
@[go_sem] theorem ty_ag85 : aggT Try.prog 85 = some false := by kernel_rfl
@[go_sem] theorem ty_un85 : (Try.prog.underlying 85).isSome = true := by kernel_rfl
@[go_sem] theorem ty_ze85 : zeT Try.prog 85 = some [.data .nilp] := by kernel_rfl
@[go_sem] theorem ty_zl85 : zlT Try.prog 85 = some 1 := by kernel_rfl
@[go_sem] theorem ty_sl85 : sliceT Try.prog 85 = none := by kernel_rfl
@[go_sem] theorem ty_ar85 : arrT Try.prog 85 = none := by kernel_rfl
@[go_sem] theorem ty_in85 : intT Try.prog 85 = none := by kernel_rfl
@[go_sem] theorem ty_bo85 : boolT Try.prog 85 = false := by kernel_rfl
@[go_sem] theorem ty_co85 : concT Try.prog 85 = true := by kernel_rfl
@[go_sem] theorem ty_bt85 : bytT Try.prog 85 = false := by kernel_rfl
@[go_sem] theorem ty_st85 : strT Try.prog 85 = false := by kernel_rfl
@[go_sem] theorem ty_zv85 : zvT Try.prog 85 = some (.data .nilp) := by kernel_rfl
@[go_sem] theorem ty_sz86 : szT Try.prog 86 = some 1 := by kernel_rfl
@[go_sem] theorem ty_by86 : byT Try.prog 86 = some 8 := by kernel_rfl
@[go_sem] theorem ty_ag86 : aggT Try.prog 86 = some false := by kernel_rfl
@[go_sem] theorem ty_un86 : (Try.prog.underlying 86).isSome = true := by kernel_rfl
@[go_sem] theorem ty_ze86 : zeT Try.prog 86 = some [.data .nilf] := by kernel_rfl
@[go_sem] theorem ty_zl86 : zlT Try.prog 86 = some 1 := by kernel_rfl
@[go_sem] theorem ty_sl86 : sliceT Try.prog 86 = none := by kernel_rfl
@[go_sem] theorem ty_ar86 : arrT Try.prog 86 = none := by kernel_rfl
@[go_sem] theorem ty_in86 : intT Try.prog 86 = none := by kernel_rfl
@[go_sem] theorem ty_bo86 : boolT Try.prog 86 = false := by kernel_rfl
@[go_sem] theorem ty_co86 : concT Try.prog 86 = true := by kernel_rfl
@[go_sem] theorem ty_bt86 : bytT Try.prog 86 = false := by kernel_rfl
@[go_sem] theorem ty_st86 : strT Try.prog 86 = false := by kernel_rfl
@[go_sem] theorem ty_zv86 : zvT Try.prog 86 = some (.data .nilf) := by kernel_rfl
@[go_sem] theorem ty_sz87 : szT Try.prog 87 = some 1 := by kernel_rfl
@[go_sem] theorem ty_by87 : byT Try.prog 87 = some 8 := by kernel_rfl
@[go_sem] theorem ty_ag87 : aggT Try.prog 87 = some false := by kernel_rfl
@[go_sem] theorem ty_un87 : (Try.prog.underlying 87).isSome = true := by kernel_rfl
@[go_sem] theorem ty_ze87 : zeT Try.prog 87 = some [.data .nilf] := by kernel_rfl
@[go_sem] theorem ty_zl87 : zlT Try.prog 87 = some 1 := by kernel_rfl
@[go_sem] theorem ty_sl87 : sliceT Try.prog 87 = none := by kernel_rfl
@[go_sem] theorem ty_ar87 : arrT Try.prog 87 = none := by kernel_rfl
@[go_sem] theorem ty_in87 : intT Try.prog 87 = none := by kernel_rfl
@[go_sem] theorem ty_bo87 : boolT Try.prog 87 = false := by kernel_rfl
@[go_sem] theorem ty_co87 : concT Try.prog 87 = true := by kernel_rfl
@[go_sem] theorem ty_bt87 : bytT Try.prog 87 = false := by kernel_rfl
@[go_sem] theorem ty_st87 : strT Try.prog 87 = false := by kernel_rfl
@[go_sem] theorem ty_zv87 : zvT Try.prog 87 = some (.data .nilf) := by kernel_rfl
@[go_sem] theorem ty_sz88 : szT Try.prog 88 = some 6 := by kernel_rfl
@[go_sem] theorem ty_by88 : byT Try.prog 88 = some 56 := by kernel_rfl
@[go_sem] theorem ty_ag88 : aggT Try.prog 88 = some true := by kernel_rfl
@[go_sem] theorem ty_un88 : (Try.prog.underlying 88).isSome = true := by kernel_rfl
@[go_sem] theorem ty_ze88 : zeT Try.prog 88 = some [.data (.int .i64 0), .data (.int .i64 0), .data (.int .u32 0), .data (.str ByteArray.empty), .data (.int .u64 0), .data (.int .u64 0)] := by kernel_rfl
@[go_sem] theorem ty_zl88 : zlT Try.prog 88 = some 6 := by kernel_rfl
@[go_sem] theorem ty_sl88 : sliceT Try.prog 88 = none := by kernel_rfl
@[go_sem] theorem ty_ar88 : arrT Try.prog 88 = none := by kernel_rfl
@[go_sem] theorem ty_in88 : intT Try.prog 88 = none := by kernel_rfl
@[go_sem] theorem ty_bo88 : boolT Try.prog 88 = false := by kernel_rfl
@[go_sem] theorem ty_co88 : concT Try.prog 88 = true := by kernel_rfl
@[go_sem] theorem ty_bt88 : bytT Try.prog 88 = false := by kernel_rfl
@[go_sem] theorem ty_st88 : strT Try.prog 88 = false := by kernel_rfl
@[go_sem] theorem ty_zv88 : zvT Try.prog 88 = some (.data (.agg [(.int .i64 0), (.int .i64 0), (.int .u32 0), (.str ByteArray.empty), (.int .u64 0), (.int .u64 0)])) := by kernel_rfl
@[go_sem] theorem ty_fl88_0 : fldT Try.prog 88 0 = some (0, 3) := by kernel_rfl
@[go_sem] theorem ty_fl88_1 : fldT Try.prog 88 1 = some (1, 3) := by kernel_rfl
@[go_sem] theorem ty_fl88_2 : fldT Try.prog 88 2 = some (2, 22) := by kernel_rfl
@[go_sem] theorem ty_fl88_3 : fldT Try.prog 88 3 = some (3, 9) := by kernel_rfl
@[go_sem] theorem ty_fl88_4 : fldT Try.prog 88 4 = some (4, 23) := by kernel_rfl
@[go_sem] theorem ty_fl88_5 : fldT Try.prog 88 5 = some (5, 23) := by kernel_rfl
@[go_sem] theorem ty_pl88 : plT Try.prog 88 = some [(0, 1), (1, 1), (2, 1), (3, 1), (4, 1), (5, 1)] := by kernel_rfl
@[go_sem] theorem ty_sz89 : szT Try.prog 89 = some 6 := by kernel_rfl
@[go_sem] theorem ty_by89 : byT Try.prog 89 = some 56 := by kernel_rfl
@[go_sem] theorem ty_ag89 : aggT Try.prog 89 = some true := by kernel_rfl
@[go_sem] theorem ty_un89 : (Try.prog.underlying 89).isSome = true := by kernel_rfl
@[go_sem] theorem ty_ze89 : zeT Try.prog 89 = some [.data (.int .i64 0), .data (.int .i64 0), .data (.int .u32 0), .data (.str ByteArray.empty), .data (.int .u64 0), .data (.int .u64 0)] := by kernel_rfl
@[go_sem] theorem ty_zl89 : zlT Try.prog 89 = some 6 := by kernel_rfl
@[go_sem] theorem ty_sl89 : sliceT Try.prog 89 = none := by kernel_rfl
@[go_sem] theorem ty_ar89 : arrT Try.prog 89 = none := by kernel_rfl
@[go_sem] theorem ty_in89 : intT Try.prog 89 = none := by kernel_rfl
@[go_sem] theorem ty_bo89 : boolT Try.prog 89 = false := by kernel_rfl
@[go_sem] theorem ty_co89 : concT Try.prog 89 = true := by kernel_rfl
@[go_sem] theorem ty_bt89 : bytT Try.prog 89 = false := by kernel_rfl
@[go_sem] theorem ty_st89 : strT Try.prog 89 = false := by kernel_rfl
@[go_sem] theorem ty_zv89 : zvT Try.prog 89 = some (.data (.agg [(.int .i64 0), (.int .i64 0), (.int .u32 0), (.str ByteArray.empty), (.int .u64 0), (.int .u64 0)])) := by kernel_rfl
@[go_sem] theorem ty_fl89_0 : fldT Try.prog 89 0 = some (0, 3) := by kernel_rfl
@[go_sem] theorem ty_fl89_1 : fldT Try.prog 89 1 = some (1, 3) := by kernel_rfl
@[go_sem] theorem ty_fl89_2 : fldT Try.prog 89 2 = some (2, 22) := by kernel_rfl
@[go_sem] theorem ty_fl89_3 : fldT Try.prog 89 3 = some (3, 9) := by kernel_rfl
@[go_sem] theorem ty_fl89_4 : fldT Try.prog 89 4 = some (4, 23) := by kernel_rfl
@[go_sem] theorem ty_fl89_5 : fldT Try.prog 89 5 = some (5, 23) := by kernel_rfl
@[go_sem] theorem ty_pl89 : plT Try.prog 89 = some [(0, 1), (1, 1), (2, 1), (3, 1), (4, 1), (5, 1)] := by kernel_rfl
@[go_sem] theorem ty_sz90 : szT Try.prog 90 = some 3 := by kernel_rfl
@[go_sem] theorem ty_by90 : byT Try.prog 90 = some 32 := by kernel_rfl
@[go_sem] theorem ty_ag90 : aggT Try.prog 90 = some true := by kernel_rfl
@[go_sem] theorem ty_un90 : (Try.prog.underlying 90).isSome = true := by kernel_rfl
@[go_sem] theorem ty_ze90 : zeT Try.prog 90 = some [.data (.str ByteArray.empty), .data (.int .i64 0), .data (.int .i64 0)] := by kernel_rfl
@[go_sem] theorem ty_zl90 : zlT Try.prog 90 = some 3 := by kernel_rfl
@[go_sem] theorem ty_sl90 : sliceT Try.prog 90 = none := by kernel_rfl
@[go_sem] theorem ty_ar90 : arrT Try.prog 90 = none := by kernel_rfl
@[go_sem] theorem ty_in90 : intT Try.prog 90 = none := by kernel_rfl
@[go_sem] theorem ty_bo90 : boolT Try.prog 90 = false := by kernel_rfl
@[go_sem] theorem ty_co90 : concT Try.prog 90 = true := by kernel_rfl
@[go_sem] theorem ty_bt90 : bytT Try.prog 90 = false := by kernel_rfl
@[go_sem] theorem ty_st90 : strT Try.prog 90 = false := by kernel_rfl
@[go_sem] theorem ty_zv90 : zvT Try.prog 90 = some (.data (.agg [(.str ByteArray.empty), (.int .i64 0), (.int .i64 0)])) := by kernel_rfl
@[go_sem] theorem ty_fl90_0 : fldT Try.prog 90 0 = some (0, 9) := by kernel_rfl
@[go_sem] theorem ty_fl90_1 : fldT Try.prog 90 1 = some (1, 3) := by kernel_rfl
@[go_sem] theorem ty_fl90_2 : fldT Try.prog 90 2 = some (2, 3) := by kernel_rfl
@[go_sem] theorem ty_pl90 : plT Try.prog 90 = some [(0, 1), (1, 1), (2, 1)] := by kernel_rfl
@[go_sem] theorem ty_sz91 : szT Try.prog 91 = some 3 := by kernel_rfl
@[go_sem] theorem ty_by91 : byT Try.prog 91 = some 32 := by kernel_rfl
@[go_sem] theorem ty_ag91 : aggT Try.prog 91 = some true := by kernel_rfl
@[go_sem] theorem ty_un91 : (Try.prog.underlying 91).isSome = true := by kernel_rfl
@[go_sem] theorem ty_ze91 : zeT Try.prog 91 = some [.data (.str ByteArray.empty), .data (.int .i64 0), .data (.int .i64 0)] := by kernel_rfl
@[go_sem] theorem ty_zl91 : zlT Try.prog 91 = some 3 := by kernel_rfl
@[go_sem] theorem ty_sl91 : sliceT Try.prog 91 = none := by kernel_rfl
@[go_sem] theorem ty_ar91 : arrT Try.prog 91 = none := by kernel_rfl
@[go_sem] theorem ty_in91 : intT Try.prog 91 = none := by kernel_rfl
@[go_sem] theorem ty_bo91 : boolT Try.prog 91 = false := by kernel_rfl
@[go_sem] theorem ty_co91 : concT Try.prog 91 = true := by kernel_rfl
@[go_sem] theorem ty_bt91 : bytT Try.prog 91 = false := by kernel_rfl
@[go_sem] theorem ty_st91 : strT Try.prog 91 = false := by kernel_rfl
@[go_sem] theorem ty_zv91 : zvT Try.prog 91 = some (.data (.agg [(.str ByteArray.empty), (.int .i64 0), (.int .i64 0)])) := by kernel_rfl
@[go_sem] theorem ty_fl91_0 : fldT Try.prog 91 0 = some (0, 9) := by kernel_rfl
@[go_sem] theorem ty_fl91_1 : fldT Try.prog 91 1 = some (1, 3) := by kernel_rfl
@[go_sem] theorem ty_fl91_2 : fldT Try.prog 91 2 = some (2, 3) := by kernel_rfl
@[go_sem] theorem ty_pl91 : plT Try.prog 91 = some [(0, 1), (1, 1), (2, 1)] := by kernel_rfl
@[go_sem] theorem ty_sz92 : szT Try.prog 92 = some 1 := by kernel_rfl
@[go_sem] theorem ty_by92 : byT Try.prog 92 = some 8 := by kernel_rfl
@[go_sem] theorem ty_ag92 : aggT Try.prog 92 = some false := by kernel_rfl
@[go_sem] theorem ty_un92 : (Try.prog.underlying 92).isSome = true := by kernel_rfl
@[go_sem] theorem ty_ze92 : zeT Try.prog 92 = some [.data .nilf] := by kernel_rfl
@[go_sem] theorem ty_zl92 : zlT Try.prog 92 = some 1 := by kernel_rfl
@[go_sem] theorem ty_sl92 : sliceT Try.prog 92 = none := by kernel_rfl
@[go_sem] theorem ty_ar92 : arrT Try.prog 92 = none := by kernel_rfl
@[go_sem] theorem ty_in92 : intT Try.prog 92 = none := by kernel_rfl
@[go_sem] theorem ty_bo92 : boolT Try.prog 92 = false := by kernel_rfl
@[go_sem] theorem ty_co92 : concT Try.prog 92 = true := by kernel_rfl
@[go_sem] theorem ty_bt92 : bytT Try.prog 92 = false := by kernel_rfl
@[go_sem] theorem ty_st92 : strT Try.prog 92 = false := by kernel_rfl
@[go_sem] theorem ty_zv92 : zvT Try.prog 92 = some (.data .nilf) := by kernel_rfl
@[go_sem] theorem ty_sz93 : szT Try.prog 93 = some 5 := by kernel_rfl
@[go_sem] theorem ty_by93 : byT Try.prog 93 = some 40 := by kernel_rfl
@[go_sem] theorem ty_ag93 : aggT Try.prog 93 = some true := by kernel_rfl
@[go_sem] theorem ty_un93 : (Try.prog.underlying 93).isSome = true := by kernel_rfl
@[go_sem] theorem ty_ze93 : zeT Try.prog 93 = some [.data (.int .i64 0), .data (.int .i64 0), .data (.int .u64 0), .data (.int .u64 0), .data (.int .i64 0)] := by kernel_rfl
@[go_sem] theorem ty_zl93 : zlT Try.prog 93 = some 5 := by kernel_rfl
@[go_sem] theorem ty_sl93 : sliceT Try.prog 93 = none := by kernel_rfl
@[go_sem] theorem ty_ar93 : arrT Try.prog 93 = none := by kernel_rfl
@[go_sem] theorem ty_in93 : intT Try.prog 93 = none := by kernel_rfl
@[go_sem] theorem ty_bo93 : boolT Try.prog 93 = false := by kernel_rfl
@[go_sem] theorem ty_co93 : concT Try.prog 93 = true := by kernel_rfl
@[go_sem] theorem ty_bt93 : bytT Try.prog 93 = false := by kernel_rfl
@[go_sem] theorem ty_st93 : strT Try.prog 93 = false := by kernel_rfl
@[go_sem] theorem ty_zv93 : zvT Try.prog 93 = some (.data (.agg [(.int .i64 0), (.int .i64 0), (.int .u64 0), (.int .u64 0), (.int .i64 0)])) := by kernel_rfl
@[go_sem] theorem ty_fl93_0 : fldT Try.prog 93 0 = some (0, 3) := by kernel_rfl
@[go_sem] theorem ty_fl93_1 : fldT Try.prog 93 1 = some (1, 3) := by kernel_rfl
@[go_sem] theorem ty_fl93_2 : fldT Try.prog 93 2 = some (2, 23) := by kernel_rfl
@[go_sem] theorem ty_fl93_3 : fldT Try.prog 93 3 = some (3, 23) := by kernel_rfl
@[go_sem] theorem ty_fl93_4 : fldT Try.prog 93 4 = some (4, 3) := by kernel_rfl
@[go_sem] theorem ty_pl93 : plT Try.prog 93 = some [(0, 1), (1, 1), (2, 1), (3, 1), (4, 1)] := by kernel_rfl
@[go_sem] theorem ty_sz94 : szT Try.prog 94 = some 5 := by kernel_rfl
@[go_sem] theorem ty_by94 : byT Try.prog 94 = some 40 := by kernel_rfl
@[go_sem] theorem ty_ag94 : aggT Try.prog 94 = some true := by kernel_rfl
@[go_sem] theorem ty_un94 : (Try.prog.underlying 94).isSome = true := by kernel_rfl
@[go_sem] theorem ty_ze94 : zeT Try.prog 94 = some [.data (.int .i64 0), .data (.int .i64 0), .data (.int .u64 0), .data (.int .u64 0), .data (.int .i64 0)] := by kernel_rfl
@[go_sem] theorem ty_zl94 : zlT Try.prog 94 = some 5 := by kernel_rfl
@[go_sem] theorem ty_sl94 : sliceT Try.prog 94 = none := by kernel_rfl
@[go_sem] theorem ty_ar94 : arrT Try.prog 94 = none := by kernel_rfl
@[go_sem] theorem ty_in94 : intT Try.prog 94 = none := by kernel_rfl
@[go_sem] theorem ty_bo94 : boolT Try.prog 94 = false := by kernel_rfl
@[go_sem] theorem ty_co94 : concT Try.prog 94 = true := by kernel_rfl
@[go_sem] theorem ty_bt94 : bytT Try.prog 94 = false := by kernel_rfl
@[go_sem] theorem ty_st94 : strT Try.prog 94 = false := by kernel_rfl
@[go_sem] theorem ty_zv94 : zvT Try.prog 94 = some (.data (.agg [(.int .i64 0), (.int .i64 0), (.int .u64 0), (.int .u64 0), (.int .i64 0)])) := by kernel_rfl
@[go_sem] theorem ty_fl94_0 : fldT Try.prog 94 0 = some (0, 3) := by kernel_rfl
@[go_sem] theorem ty_fl94_1 : fldT Try.prog 94 1 = some (1, 3) := by kernel_rfl
@[go_sem] theorem ty_fl94_2 : fldT Try.prog 94 2 = some (2, 23) := by kernel_rfl
@[go_sem] theorem ty_fl94_3 : fldT Try.prog 94 3 = some (3, 23) := by kernel_rfl
@[go_sem] theorem ty_fl94_4 : fldT Try.prog 94 4 = some (4, 3) := by kernel_rfl
@[go_sem] theorem ty_pl94 : plT Try.prog 94 = some [(0, 1), (1, 1), (2, 1), (3, 1), (4, 1)] := by kernel_rfl
@[go_sem] theorem ty_sz95 : szT Try.prog 95 = some 1 := by kernel_rfl
@[go_sem] theorem ty_by95 : byT Try.prog 95 = some 8 := by kernel_rfl
@[go_sem] theorem ty_ag95 : aggT Try.prog 95 = some false := by kernel_rfl
@[go_sem] theorem ty_un95 : (Try.prog.underlying 95).isSome = true := by kernel_rfl
@[go_sem] theorem ty_ze95 : zeT Try.prog 95 = some [.data .nilf] := by kernel_rfl
@[go_sem] theorem ty_zl95 : zlT Try.prog 95 = some 1 := by kernel_rfl
@[go_sem] theorem ty_sl95 : sliceT Try.prog 95 = none := by kernel_rfl
@[go_sem] theorem ty_ar95 : arrT Try.prog 95 = none := by kernel_rfl
@[go_sem] theorem ty_in95 : intT Try.prog 95 = none := by kernel_rfl
@[go_sem] theorem ty_bo95 : boolT Try.prog 95 = false := by kernel_rfl
@[go_sem] theorem ty_co95 : concT Try.prog 95 = true := by kernel_rfl
@[go_sem] theorem ty_bt95 : bytT Try.prog 95 = false := by kernel_rfl
@[go_sem] theorem ty_st95 : strT Try.prog 95 = false := by kernel_rfl
@[go_sem] theorem ty_zv95 : zvT Try.prog 95 = some (.data .nilf) := by kernel_rfl
@[go_sem] theorem ty_sz96 : szT Try.prog 96 = some 1 := by kernel_rfl
@[go_sem] theorem ty_by96 : byT Try.prog 96 = some 8 := by kernel_rfl
@[go_sem] theorem ty_ag96 : aggT Try.prog 96 = some false := by kernel_rfl
@[go_sem] theorem ty_un96 : (Try.prog.underlying 96).isSome = true := by kernel_rfl
@[go_sem] theorem ty_ze96 : zeT Try.prog 96 = some [.data .nilf] := by kernel_rfl
@[go_sem] theorem ty_zl96 : zlT Try.prog 96 = some 1 := by kernel_rfl
@[go_sem] theorem ty_sl96 : sliceT Try.prog 96 = none := by kernel_rfl
@[go_sem] theorem ty_ar96 : arrT Try.prog 96 = none := by kernel_rfl
@[go_sem] theorem ty_in96 : intT Try.prog 96 = none := by kernel_rfl
@[go_sem] theorem ty_bo96 : boolT Try.prog 96 = false := by kernel_rfl
@[go_sem] theorem ty_co96 : concT Try.prog 96 = true := by kernel_rfl
@[go_sem] theorem ty_bt96 : bytT Try.prog 96 = false := by kernel_rfl
@[go_sem] theorem ty_st96 : strT Try.prog 96 = false := by kernel_rfl
@[go_sem] theorem ty_zv96 : zvT Try.prog 96 = some (.data .nilf) := by kernel_rfl
@[go_sem] theorem ty_sz97 : szT Try.prog 97 = some 1 := by kernel_rfl
@[go_sem] theorem ty_by97 : byT Try.prog 97 = some 8 := by kernel_rfl
@[go_sem] theorem ty_ag97 : aggT Try.prog 97 = some false := by kernel_rfl
@[go_sem] theorem ty_un97 : (Try.prog.underlying 97).isSome = true := by kernel_rfl
@[go_sem] theorem ty_ze97 : zeT Try.prog 97 = some [.data .nilf] := by kernel_rfl
@[go_sem] theorem ty_zl97 : zlT Try.prog 97 = some 1 := by kernel_rfl
@[go_sem] theorem ty_sl97 : sliceT Try.prog 97 = none := by kernel_rfl
@[go_sem] theorem ty_ar97 : arrT Try.prog 97 = none := by kernel_rfl
@[go_sem] theorem ty_in97 : intT Try.prog 97 = none := by kernel_rfl
@[go_sem] theorem ty_bo97 : boolT Try.prog 97 = false := by kernel_rfl
@[go_sem] theorem ty_co97 : concT Try.prog 97 = true := by kernel_rfl
@[go_sem] theorem ty_bt97 : bytT Try.prog 97 = false := by kernel_rfl
@[go_sem] theorem ty_st97 : strT Try.prog 97 = false := by kernel_rfl
@[go_sem] theorem ty_zv97 : zvT Try.prog 97 = some (.data .nilf) := by kernel_rfl
@[go_sem] theorem ty_sz98 : szT Try.prog 98 = some 1 := by kernel_rfl
@[go_sem] theorem ty_by98 : byT Try.prog 98 = some 8 := by kernel_rfl
@[go_sem] theorem ty_ag98 : aggT Try.prog 98 = some false := by kernel_rfl
@[go_sem] theorem ty_un98 : (Try.prog.underlying 98).isSome = true := by kernel_rfl
@[go_sem] theorem ty_ze98 : zeT Try.prog 98 = some [.data .nilf] := by kernel_rfl
@[go_sem] theorem ty_zl98 : zlT Try.prog 98 = some 1 := by kernel_rfl
@[go_sem] theorem ty_sl98 : sliceT Try.prog 98 = none := by kernel_rfl
@[go_sem] theorem ty_ar98 : arrT Try.prog 98 = none := by kernel_rfl
@[go_sem] theorem ty_in98 : intT Try.prog 98 = none := by kernel_rfl
@[go_sem] theorem ty_bo98 : boolT Try.prog 98 = false := by kernel_rfl
@[go_sem] theorem ty_co98 : concT Try.prog 98 = true := by kernel_rfl
@[go_sem] theorem ty_bt98 : bytT Try.prog 98 = false := by kernel_rfl
@[go_sem] theorem ty_st98 : strT Try.prog 98 = false := by kernel_rfl
@[go_sem] theorem ty_zv98 : zvT Try.prog 98 = some (.data .nilf) := by kernel_rfl
@[go_sem] theorem ty_sz99 : szT Try.prog 99 = some 1 := by kernel_rfl
@[go_sem] theorem ty_by99 : byT Try.prog 99 = some 8 := by kernel_rfl
@[go_sem] theorem ty_ag99 : aggT Try.prog 99 = some false := by kernel_rfl
@[go_sem] theorem ty_un99 : (Try.prog.underlying 99).isSome = true := by kernel_rfl
@[go_sem] theorem ty_ze99 : zeT Try.prog 99 = some [.data .nilf] := by kernel_rfl
@[go_sem] theorem ty_zl99 : zlT Try.prog 99 = some 1 := by kernel_rfl
@[go_sem] theorem ty_sl99 : sliceT Try.prog 99 = none := by kernel_rfl
@[go_sem] theorem ty_ar99 : arrT Try.prog 99 = none := by kernel_rfl
@[go_sem] theorem ty_in99 : intT Try.prog 99 = none := by kernel_rfl
@[go_sem] theorem ty_bo99 : boolT Try.prog 99 = false := by kernel_rfl
@[go_sem] theorem ty_co99 : concT Try.prog 99 = true := by kernel_rfl
@[go_sem] theorem ty_bt99 : bytT Try.prog 99 = false := by kernel_rfl
@[go_sem] theorem ty_st99 : strT Try.prog 99 = false := by kernel_rfl
@[go_sem] theorem ty_zv99 : zvT Try.prog 99 = some (.data .nilf) := by kernel_rfl
@[go_sem] theorem ty_sz100 : szT Try.prog 100 = some 1 := by kernel_rfl
@[go_sem] theorem ty_by100 : byT Try.prog 100 = some 8 := by kernel_rfl
@[go_sem] theorem ty_ag100 : aggT Try.prog 100 = some false := by kernel_rfl
@[go_sem] theorem ty_un100 : (Try.prog.underlying 100).isSome = true := by kernel_rfl
@[go_sem] theorem ty_ze100 : zeT Try.prog 100 = some [.data .nilf] := by kernel_rfl
@[go_sem] theorem ty_zl100 : zlT Try.prog 100 = some 1 := by kernel_rfl
@[go_sem] theorem ty_sl100 : sliceT Try.prog 100 = none := by kernel_rfl
@[go_sem] theorem ty_ar100 : arrT Try.prog 100 = none := by kernel_rfl
@[go_sem] theorem ty_in100 : intT Try.prog 100 = none := by kernel_rfl
@[go_sem] theorem ty_bo100 : boolT Try.prog 100 = false := by kernel_rfl
@[go_sem] theorem ty_co100 : concT Try.prog 100 = true := by kernel_rfl
@[go_sem] theorem ty_bt100 : bytT Try.prog 100 = false := by kernel_rfl
@[go_sem] theorem ty_st100 : strT Try.prog 100 = false := by kernel_rfl
@[go_sem] theorem ty_zv100 : zvT Try.prog 100 = some (.data .nilf) := by kernel_rfl
@[go_sem] theorem ty_sz101 : szT Try.prog 101 = some 1 := by kernel_rfl
@[go_sem] theorem ty_by101 : byT Try.prog 101 = some 8 := by kernel_rfl
@[go_sem] theorem ty_ag101 : aggT Try.prog 101 = some false := by kernel_rfl
@[go_sem] theorem ty_un101 : (Try.prog.underlying 101).isSome = true := by kernel_rfl
@[go_sem] theorem ty_ze101 : zeT Try.prog 101 = some [.data .nilf] := by kernel_rfl
@[go_sem] theorem ty_zl101 : zlT Try.prog 101 = some 1 := by kernel_rfl
@[go_sem] theorem ty_sl101 : sliceT Try.prog 101 = none := by kernel_rfl
@[go_sem] theorem ty_ar101 : arrT Try.prog 101 = none := by kernel_rfl
@[go_sem] theorem ty_in101 : intT Try.prog 101 = none := by kernel_rfl
@[go_sem] theorem ty_bo101 : boolT Try.prog 101 = false := by kernel_rfl
@[go_sem] theorem ty_co101 : concT Try.prog 101 = true := by kernel_rfl
@[go_sem] theorem ty_bt101 : bytT Try.prog 101 = false := by kernel_rfl
@[go_sem] theorem ty_st101 : strT Try.prog 101 = false := by kernel_rfl
@[go_sem] theorem ty_zv101 : zvT Try.prog 101 = some (.data .nilf) := by kernel_rfl
@[go_sem] theorem ty_sz102 : szT Try.prog 102 = some 1 := by kernel_rfl
@[go_sem] theorem ty_by102 : byT Try.prog 102 = some 8 := by kernel_rfl
@[go_sem] theorem ty_ag102 : aggT Try.prog 102 = some false := by kernel_rfl
@[go_sem] theorem ty_un102 : (Try.prog.underlying 102).isSome = true := by kernel_rfl
@[go_sem] theorem ty_ze102 : zeT Try.prog 102 = some [.data .nilf] := by kernel_rfl
@[go_sem] theorem ty_zl102 : zlT Try.prog 102 = some 1 := by kernel_rfl
@[go_sem] theorem ty_sl102 : sliceT Try.prog 102 = none := by kernel_rfl
@[go_sem] theorem ty_ar102 : arrT Try.prog 102 = none := by kernel_rfl
@[go_sem] theorem ty_in102 : intT Try.prog 102 = none := by kernel_rfl
@[go_sem] theorem ty_bo102 : boolT Try.prog 102 = false := by kernel_rfl
@[go_sem] theorem ty_co102 : concT Try.prog 102 = true := by kernel_rfl
@[go_sem] theorem ty_bt102 : bytT Try.prog 102 = false := by kernel_rfl
@[go_sem] theorem ty_st102 : strT Try.prog 102 = false := by kernel_rfl
@[go_sem] theorem ty_zv102 : zvT Try.prog 102 = some (.data .nilf) := by kernel_rfl
@[go_sem] theorem ty_sz103 : szT Try.prog 103 = some 1 := by kernel_rfl
@[go_sem] theorem ty_by103 : byT Try.prog 103 = some 8 := by kernel_rfl
@[go_sem] theorem ty_ag103 : aggT Try.prog 103 = some false := by kernel_rfl
@[go_sem] theorem ty_un103 : (Try.prog.underlying 103).isSome = true := by kernel_rfl
@[go_sem] theorem ty_ze103 : zeT Try.prog 103 = some [.data .nilf] := by kernel_rfl
@[go_sem] theorem ty_zl103 : zlT Try.prog 103 = some 1 := by kernel_rfl
@[go_sem] theorem ty_sl103 : sliceT Try.prog 103 = none := by kernel_rfl
@[go_sem] theorem ty_ar103 : arrT Try.prog 103 = none := by kernel_rfl
@[go_sem] theorem ty_in103 : intT Try.prog 103 = none := by kernel_rfl
@[go_sem] theorem ty_bo103 : boolT Try.prog 103 = false := by kernel_rfl
@[go_sem] theorem ty_co103 : concT Try.prog 103 = true := by kernel_rfl
@[go_sem] theorem ty_bt103 : bytT Try.prog 103 = false := by kernel_rfl
@[go_sem] theorem ty_st103 : strT Try.prog 103 = false := by kernel_rfl
@[go_sem] theorem ty_zv103 : zvT Try.prog 103 = some (.data .nilf) := by kernel_rfl
@[go_sem] theorem ty_sz104 : szT Try.prog 104 = some 1 := by kernel_rfl
@[go_sem] theorem ty_by104 : byT Try.prog 104 = some 8 := by kernel_rfl
@[go_sem] theorem ty_ag104 : aggT Try.prog 104 = some false := by kernel_rfl
@[go_sem] theorem ty_un104 : (Try.prog.underlying 104).isSome = true := by kernel_rfl
@[go_sem] theorem ty_ze104 : zeT Try.prog 104 = some [.data .nilf] := by kernel_rfl
@[go_sem] theorem ty_zl104 : zlT Try.prog 104 = some 1 := by kernel_rfl
@[go_sem] theorem ty_sl104 : sliceT Try.prog 104 = none := by kernel_rfl
@[go_sem] theorem ty_ar104 : arrT Try.prog 104 = none := by kernel_rfl
@[go_sem] theorem ty_in104 : intT Try.prog 104 = none := by kernel_rfl
@[go_sem] theorem ty_bo104 : boolT Try.prog 104 = false := by kernel_rfl
@[go_sem] theorem ty_co104 : concT Try.prog 104 = true := by kernel_rfl
@[go_sem] theorem ty_bt104 : bytT Try.prog 104 = false := by kernel_rfl
@[go_sem] theorem ty_st104 : strT Try.prog 104 = false := by kernel_rfl
@[go_sem] theorem ty_zv104 : zvT Try.prog 104 = some (.data .nilf) := by kernel_rfl
@[go_sem] theorem ty_sz105 : szT Try.prog 105 = some 1 := by kernel_rfl
@[go_sem] theorem ty_by105 : byT Try.prog 105 = some 8 := by kernel_rfl
@[go_sem] theorem ty_ag105 : aggT Try.prog 105 = some false := by kernel_rfl
@[go_sem] theorem ty_un105 : (Try.prog.underlying 105).isSome = true := by kernel_rfl
@[go_sem] theorem ty_ze105 : zeT Try.prog 105 = some [.data .nilf] := by kernel_rfl
@[go_sem] theorem ty_zl105 : zlT Try.prog 105 = some 1 := by kernel_rfl
@[go_sem] theorem ty_sl105 : sliceT Try.prog 105 = none := by kernel_rfl
@[go_sem] theorem ty_ar105 : arrT Try.prog 105 = none := by kernel_rfl
@[go_sem] theorem ty_in105 : intT Try.prog 105 = none := by kernel_rfl
@[go_sem] theorem ty_bo105 : boolT Try.prog 105 = false := by kernel_rfl
@[go_sem] theorem ty_co105 : concT Try.prog 105 = true := by kernel_rfl
@[go_sem] theorem ty_bt105 : bytT Try.prog 105 = false := by kernel_rfl
@[go_sem] theorem ty_st105 : strT Try.prog 105 = false := by kernel_rfl
@[go_sem] theorem ty_zv105 : zvT Try.prog 105 = some (.data .nilf) := by kernel_rfl
@[go_sem] theorem ty_sz106 : szT Try.prog 106 = some 1 := by kernel_rfl
@[go_sem] theorem ty_by106 : byT Try.prog 106 = some 8 := by kernel_rfl
@[go_sem] theorem ty_ag106 : aggT Try.prog 106 = some false := by kernel_rfl
@[go_sem] theorem ty_un106 : (Try.prog.underlying 106).isSome = true := by kernel_rfl
@[go_sem] theorem ty_ze106 : zeT Try.prog 106 = some [.data .nilf] := by kernel_rfl
@[go_sem] theorem ty_zl106 : zlT Try.prog 106 = some 1 := by kernel_rfl
@[go_sem] theorem ty_sl106 : sliceT Try.prog 106 = none := by kernel_rfl
@[go_sem] theorem ty_ar106 : arrT Try.prog 106 = none := by kernel_rfl
@[go_sem] theorem ty_in106 : intT Try.prog 106 = none := by kernel_rfl
@[go_sem] theorem ty_bo106 : boolT Try.prog 106 = false := by kernel_rfl
@[go_sem] theorem ty_co106 : concT Try.prog 106 = true := by kernel_rfl
@[go_sem] theorem ty_bt106 : bytT Try.prog 106 = false := by kernel_rfl
@[go_sem] theorem ty_st106 : strT Try.prog 106 = false := by kernel_rfl
@[go_sem] theorem ty_zv106 : zvT Try.prog 106 = some (.data .nilf) := by kernel_rfl
@[go_sem] theorem ty_sz107 : szT Try.prog 107 = some 1 := by kernel_rfl
@[go_sem] theorem ty_by107 : byT Try.prog 107 = some 8 := by kernel_rfl
@[go_sem] theorem ty_ag107 : aggT Try.prog 107 = some false := by kernel_rfl
@[go_sem] theorem ty_un107 : (Try.prog.underlying 107).isSome = true := by kernel_rfl
@[go_sem] theorem ty_ze107 : zeT Try.prog 107 = some [.data .nilf] := by kernel_rfl
@[go_sem] theorem ty_zl107 : zlT Try.prog 107 = some 1 := by kernel_rfl
@[go_sem] theorem ty_sl107 : sliceT Try.prog 107 = none := by kernel_rfl
@[go_sem] theorem ty_ar107 : arrT Try.prog 107 = none := by kernel_rfl
@[go_sem] theorem ty_in107 : intT Try.prog 107 = none := by kernel_rfl
@[go_sem] theorem ty_bo107 : boolT Try.prog 107 = false := by kernel_rfl
@[go_sem] theorem ty_co107 : concT Try.prog 107 = true := by kernel_rfl
@[go_sem] theorem ty_bt107 : bytT Try.prog 107 = false := by kernel_rfl
@[go_sem] theorem ty_st107 : strT Try.prog 107 = false := by kernel_rfl
@[go_sem] theorem ty_zv107 : zvT Try.prog 107 = some (.data .nilf) := by kernel_rfl
@[go_sem] theorem ty_sz108 : szT Try.prog 108 = some 1 := by kernel_rfl
@[go_sem] theorem ty_by108 : byT Try.prog 108 = some 16 := by kernel_rfl
@[go_sem] theorem ty_ag108 : aggT Try.prog 108 = some false := by kernel_rfl
@[go_sem] theorem ty_un108 : (Try.prog.underlying 108).isSome = true := by kernel_rfl
@[go_sem] theorem ty_ze108 : zeT Try.prog 108 = some [.data .nili] := by kernel_rfl
@[go_sem] theorem ty_zl108 : zlT Try.prog 108 = some 1 := by kernel_rfl
@[go_sem] theorem ty_sl108 : sliceT Try.prog 108 = none := by kernel_rfl
@[go_sem] theorem ty_ar108 : arrT Try.prog 108 = none := by kernel_rfl
@[go_sem] theorem ty_in108 : intT Try.prog 108 = none := by kernel_rfl
@[go_sem] theorem ty_bo108 : boolT Try.prog 108 = false := by kernel_rfl
@[go_sem] theorem ty_co108 : concT Try.prog 108 = false := by kernel_rfl
@[go_sem] theorem ty_bt108 : bytT Try.prog 108 = false := by kernel_rfl
@[go_sem] theorem ty_st108 : strT Try.prog 108 = false := by kernel_rfl
@[go_sem] theorem ty_zv108 : zvT Try.prog 108 = some (.data .nili) := by kernel_rfl
@[go_sem] theorem ty_sz109 : szT Try.prog 109 = some 1 := by kernel_rfl
@[go_sem] theorem ty_by109 : byT Try.prog 109 = some 16 := by kernel_rfl
@[go_sem] theorem ty_ag109 : aggT Try.prog 109 = some false := by kernel_rfl
@[go_sem] theorem ty_un109 : (Try.prog.underlying 109).isSome = true := by kernel_rfl
@[go_sem] theorem ty_ze109 : zeT Try.prog 109 = some [.data .nili] := by kernel_rfl
@[go_sem] theorem ty_zl109 : zlT Try.prog 109 = some 1 := by kernel_rfl
@[go_sem] theorem ty_sl109 : sliceT Try.prog 109 = none := by kernel_rfl
@[go_sem] theorem ty_ar109 : arrT Try.prog 109 = none := by kernel_rfl
@[go_sem] theorem ty_in109 : intT Try.prog 109 = none := by kernel_rfl
@[go_sem] theorem ty_bo109 : boolT Try.prog 109 = false := by kernel_rfl
@[go_sem] theorem ty_co109 : concT Try.prog 109 = false := by kernel_rfl
@[go_sem] theorem ty_bt109 : bytT Try.prog 109 = false := by kernel_rfl
@[go_sem] theorem ty_st109 : strT Try.prog 109 = false := by kernel_rfl
@[go_sem] theorem ty_zv109 : zvT Try.prog 109 = some (.data .nili) := by kernel_rfl
@[go_sem] theorem ty_sz110 : szT Try.prog 110 = some 1 := by kernel_rfl
@[go_sem] theorem ty_by110 : byT Try.prog 110 = some 8 := by kernel_rfl
@[go_sem] theorem ty_ag110 : aggT Try.prog 110 = some false := by kernel_rfl
@[go_sem] theorem ty_un110 : (Try.prog.underlying 110).isSome = true := by kernel_rfl
@[go_sem] theorem ty_ze110 : zeT Try.prog 110 = some [.data .nilf] := by kernel_rfl
@[go_sem] theorem ty_zl110 : zlT Try.prog 110 = some 1 := by kernel_rfl
@[go_sem] theorem ty_sl110 : sliceT Try.prog 110 = none := by kernel_rfl
@[go_sem] theorem ty_ar110 : arrT Try.prog 110 = none := by kernel_rfl
@[go_sem] theorem ty_in110 : intT Try.prog 110 = none := by kernel_rfl
@[go_sem] theorem ty_bo110 : boolT Try.prog 110 = false := by kernel_rfl
@[go_sem] theorem ty_co110 : concT Try.prog 110 = true := by kernel_rfl
@[go_sem] theorem ty_bt110 : bytT Try.prog 110 = false := by kernel_rfl
@[go_sem] theorem ty_st110 : strT Try.prog 110 = false := by kernel_rfl
@[go_sem] theorem ty_zv110 : zvT Try.prog 110 = some (.data .nilf) := by kernel_rfl
@[go_sem] theorem ty_sz111 : szT Try.prog 111 = some 2 := by kernel_rfl
@[go_sem] theorem ty_by111 : byT Try.prog 111 = some 16 := by kernel_rfl
@[go_sem] theorem ty_ag111 : aggT Try.prog 111 = some true := by kernel_rfl
@[go_sem] theorem ty_un111 : (Try.prog.underlying 111).isSome = true := by kernel_rfl
@[go_sem] theorem ty_ze111 : zeT Try.prog 111 = some [.data (.int .i64 0), .data (.int .u64 0)] := by kernel_rfl
@[go_sem] theorem ty_zl111 : zlT Try.prog 111 = some 2 := by kernel_rfl
@[go_sem] theorem ty_sl111 : sliceT Try.prog 111 = none := by kernel_rfl
@[go_sem] theorem ty_ar111 : arrT Try.prog 111 = none := by kernel_rfl
@[go_sem] theorem ty_in111 : intT Try.prog 111 = none := by kernel_rfl
@[go_sem] theorem ty_bo111 : boolT Try.prog 111 = false := by kernel_rfl
@[go_sem] theorem ty_co111 : concT Try.prog 111 = true := by kernel_rfl
@[go_sem] theorem ty_bt111 : bytT Try.prog 111 = false := by kernel_rfl
@[go_sem] theorem ty_st111 : strT Try.prog 111 = false := by kernel_rfl
@[go_sem] theorem ty_zv111 : zvT Try.prog 111 = some (.data (.agg [(.int .i64 0), (.int .u64 0)])) := by kernel_rfl
@[go_sem] theorem ty_fl111_0 : fldT Try.prog 111 0 = some (0, 3) := by kernel_rfl
@[go_sem] theorem ty_fl111_1 : fldT Try.prog 111 1 = some (1, 23) := by kernel_rfl
@[go_sem] theorem ty_pl111 : plT Try.prog 111 = some [(0, 1), (1, 1)] := by kernel_rfl
@[go_sem] theorem ty_sz112 : szT Try.prog 112 = some 2 := by kernel_rfl
@[go_sem] theorem ty_by112 : byT Try.prog 112 = some 16 := by kernel_rfl
@[go_sem] theorem ty_ag112 : aggT Try.prog 112 = some true := by kernel_rfl
@[go_sem] theorem ty_un112 : (Try.prog.underlying 112).isSome = true := by kernel_rfl
@[go_sem] theorem ty_ze112 : zeT Try.prog 112 = some [.data (.int .i64 0), .data (.int .u64 0)] := by kernel_rfl
@[go_sem] theorem ty_zl112 : zlT Try.prog 112 = some 2 := by kernel_rfl
@[go_sem] theorem ty_sl112 : sliceT Try.prog 112 = none := by kernel_rfl
@[go_sem] theorem ty_ar112 : arrT Try.prog 112 = none := by kernel_rfl
@[go_sem] theorem ty_in112 : intT Try.prog 112 = none := by kernel_rfl
@[go_sem] theorem ty_bo112 : boolT Try.prog 112 = false := by kernel_rfl
@[go_sem] theorem ty_co112 : concT Try.prog 112 = true := by kernel_rfl
@[go_sem] theorem ty_bt112 : bytT Try.prog 112 = false := by kernel_rfl
@[go_sem] theorem ty_st112 : strT Try.prog 112 = false := by kernel_rfl
@[go_sem] theorem ty_zv112 : zvT Try.prog 112 = some (.data (.agg [(.int .i64 0), (.int .u64 0)])) := by kernel_rfl
@[go_sem] theorem ty_fl112_0 : fldT Try.prog 112 0 = some (0, 3) := by kernel_rfl
@[go_sem] theorem ty_fl112_1 : fldT Try.prog 112 1 = some (1, 23) := by kernel_rfl
@[go_sem] theorem ty_pl112 : plT Try.prog 112 = some [(0, 1), (1, 1)] := by kernel_rfl
@[go_sem] theorem ty_sz113 : szT Try.prog 113 = some 1 := by kernel_rfl
@[go_sem] theorem ty_by113 : byT Try.prog 113 = some 8 := by kernel_rfl
@[go_sem] theorem ty_ag113 : aggT Try.prog 113 = some false := by kernel_rfl
@[go_sem] theorem ty_un113 : (Try.prog.underlying 113).isSome = true := by kernel_rfl
@[go_sem] theorem ty_ze113 : zeT Try.prog 113 = some [.data .nilf] := by kernel_rfl
@[go_sem] theorem ty_zl113 : zlT Try.prog 113 = some 1 := by kernel_rfl
@[go_sem] theorem ty_sl113 : sliceT Try.prog 113 = none := by kernel_rfl
@[go_sem] theorem ty_ar113 : arrT Try.prog 113 = none := by kernel_rfl
@[go_sem] theorem ty_in113 : intT Try.prog 113 = none := by kernel_rfl
@[go_sem] theorem ty_bo113 : boolT Try.prog 113 = false := by kernel_rfl
@[go_sem] theorem ty_co113 : concT Try.prog 113 = true := by kernel_rfl
@[go_sem] theorem ty_bt113 : bytT Try.prog 113 = false := by kernel_rfl
@[go_sem] theorem ty_st113 : strT Try.prog 113 = false := by kernel_rfl
@[go_sem] theorem ty_zv113 : zvT Try.prog 113 = some (.data .nilf) := by kernel_rfl
@[go_sem] theorem ty_sz114 : szT Try.prog 114 = some 1 := by kernel_rfl
@[go_sem] theorem ty_by114 : byT Try.prog 114 = some 8 := by kernel_rfl
@[go_sem] theorem ty_ag114 : aggT Try.prog 114 = some false := by kernel_rfl
@[go_sem] theorem ty_un114 : (Try.prog.underlying 114).isSome = true := by kernel_rfl
@[go_sem] theorem ty_ze114 : zeT Try.prog 114 = some [.data .nilf] := by kernel_rfl
@[go_sem] theorem ty_zl114 : zlT Try.prog 114 = some 1 := by kernel_rfl
@[go_sem] theorem ty_sl114 : sliceT Try.prog 114 = none := by kernel_rfl
@[go_sem] theorem ty_ar114 : arrT Try.prog 114 = none := by kernel_rfl
@[go_sem] theorem ty_in114 : intT Try.prog 114 = none := by kernel_rfl
@[go_sem] theorem ty_bo114 : boolT Try.prog 114 = false := by kernel_rfl
@[go_sem] theorem ty_co114 : concT Try.prog 114 = true := by kernel_rfl
@[go_sem] theorem ty_bt114 : bytT Try.prog 114 = false := by kernel_rfl
@[go_sem] theorem ty_st114 : strT Try.prog 114 = false := by kernel_rfl
@[go_sem] theorem ty_zv114 : zvT Try.prog 114 = some (.data .nilf) := by kernel_rfl
@[go_sem] theorem ty_sz115 : szT Try.prog 115 = some 1 := by kernel_rfl
@[go_sem] theorem ty_by115 : byT Try.prog 115 = some 8 := by kernel_rfl
@[go_sem] theorem ty_ag115 : aggT Try.prog 115 = some false := by kernel_rfl
@[go_sem] theorem ty_un115 : (Try.prog.underlying 115).isSome = true := by kernel_rfl
@[go_sem] theorem ty_ze115 : zeT Try.prog 115 = some [.data .nilf] := by kernel_rfl
@[go_sem] theorem ty_zl115 : zlT Try.prog 115 = some 1 := by kernel_rfl
@[go_sem] theorem ty_sl115 : sliceT Try.prog 115 = none := by kernel_rfl
@[go_sem] theorem ty_ar115 : arrT Try.prog 115 = none := by kernel_rfl
@[go_sem] theorem ty_in115 : intT Try.prog 115 = none := by kernel_rfl
@[go_sem] theorem ty_bo115 : boolT Try.prog 115 = false := by kernel_rfl
@[go_sem] theorem ty_co115 : concT Try.prog 115 = true := by kernel_rfl
@[go_sem] theorem ty_bt115 : bytT Try.prog 115 = false := by kernel_rfl
@[go_sem] theorem ty_st115 : strT Try.prog 115 = false := by kernel_rfl
@[go_sem] theorem ty_zv115 : zvT Try.prog 115 = some (.data .nilf) := by kernel_rfl
@[go_sem] theorem ty_sz116 : szT Try.prog 116 = some 1 := by kernel_rfl
@[go_sem] theorem ty_by116 : byT Try.prog 116 = some 16 := by kernel_rfl
@[go_sem] theorem ty_ag116 : aggT Try.prog 116 = some false := by kernel_rfl
@[go_sem] theorem ty_un116 : (Try.prog.underlying 116).isSome = true := by kernel_rfl
@[go_sem] theorem ty_ze116 : zeT Try.prog 116 = some [.data (.str ByteArray.empty)] := by kernel_rfl
@[go_sem] theorem ty_zl116 : zlT Try.prog 116 = some 1 := by kernel_rfl
@[go_sem] theorem ty_sl116 : sliceT Try.prog 116 = none := by kernel_rfl
@[go_sem] theorem ty_ar116 : arrT Try.prog 116 = none := by kernel_rfl
@[go_sem] theorem ty_in116 : intT Try.prog 116 = none := by kernel_rfl
@[go_sem] theorem ty_bo116 : boolT Try.prog 116 = false := by kernel_rfl
@[go_sem] theorem ty_co116 : concT Try.prog 116 = true := by kernel_rfl
@[go_sem] theorem ty_bt116 : bytT Try.prog 116 = false := by kernel_rfl
@[go_sem] theorem ty_st116 : strT Try.prog 116 = true := by kernel_rfl
@[go_sem] theorem ty_ks116 (s : ByteArray) : keyT Try.prog 116 (.str s) = true := by kernel_rfl
@[go_sem] theorem ty_zv116 : zvT Try.prog 116 = some (.data (.str ByteArray.empty)) := by kernel_rfl
@[go_sem] theorem ty_sz117 : szT Try.prog 117 = some 1 := by kernel_rfl
@[go_sem] theorem ty_by117 : byT Try.prog 117 = some 8 := by kernel_rfl
@[go_sem] theorem ty_ag117 : aggT Try.prog 117 = some false := by kernel_rfl
@[go_sem] theorem ty_un117 : (Try.prog.underlying 117).isSome = true := by kernel_rfl
@[go_sem] theorem ty_ze117 : zeT Try.prog 117 = some [.data .nilf] := by kernel_rfl
@[go_sem] theorem ty_zl117 : zlT Try.prog 117 = some 1 := by kernel_rfl
@[go_sem] theorem ty_sl117 : sliceT Try.prog 117 = none := by kernel_rfl
@[go_sem] theorem ty_ar117 : arrT Try.prog 117 = none := by kernel_rfl
@[go_sem] theorem ty_in117 : intT Try.prog 117 = none := by kernel_rfl
@[go_sem] theorem ty_bo117 : boolT Try.prog 117 = false := by kernel_rfl
@[go_sem] theorem ty_co117 : concT Try.prog 117 = true := by kernel_rfl
@[go_sem] theorem ty_bt117 : bytT Try.prog 117 = false := by kernel_rfl
@[go_sem] theorem ty_st117 : strT Try.prog 117 = false := by kernel_rfl
@[go_sem] theorem ty_zv117 : zvT Try.prog 117 = some (.data .nilf) := by kernel_rfl
@[go_sem] theorem ty_sz118 : szT Try.prog 118 = some 1 := by kernel_rfl
@[go_sem] theorem ty_by118 : byT Try.prog 118 = some 24 := by kernel_rfl
@[go_sem] theorem ty_ag118 : aggT Try.prog 118 = some true := by kernel_rfl
@[go_sem] theorem ty_un118 : (Try.prog.underlying 118).isSome = true := by kernel_rfl
@[go_sem] theorem ty_ze118 : zeT Try.prog 118 = some [.emp 0] := by kernel_rfl
@[go_sem] theorem ty_zl118 : zlT Try.prog 118 = some 1 := by kernel_rfl
@[go_sem] theorem ty_sl118 : sliceT Try.prog 118 = none := by kernel_rfl
@[go_sem] theorem ty_ar118 : arrT Try.prog 118 = none := by kernel_rfl
@[go_sem] theorem ty_in118 : intT Try.prog 118 = none := by kernel_rfl
@[go_sem] theorem ty_bo118 : boolT Try.prog 118 = false := by kernel_rfl
@[go_sem] theorem ty_co118 : concT Try.prog 118 = true := by kernel_rfl
@[go_sem] theorem ty_bt118 : bytT Try.prog 118 = false := by kernel_rfl
@[go_sem] theorem ty_st118 : strT Try.prog 118 = false := by kernel_rfl
@[go_sem] theorem ty_zv118 : zvT Try.prog 118 = some (.agg [.emp 0]) := by kernel_rfl
@[go_sem] theorem ty_fl118_0 : fldT Try.prog 118 0 = some (0, 26) := by kernel_rfl
@[go_sem] theorem ty_pl118 : plT Try.prog 118 = some [(0, 1)] := by kernel_rfl
@[go_sem] theorem ty_sz119 : szT Try.prog 119 = some 1 := by kernel_rfl
@[go_sem] theorem ty_by119 : byT Try.prog 119 = some 24 := by kernel_rfl
@[go_sem] theorem ty_ag119 : aggT Try.prog 119 = some true := by kernel_rfl
@[go_sem] theorem ty_un119 : (Try.prog.underlying 119).isSome = true := by kernel_rfl
@[go_sem] theorem ty_ze119 : zeT Try.prog 119 = some [.emp 0] := by kernel_rfl
@[go_sem] theorem ty_zl119 : zlT Try.prog 119 = some 1 := by kernel_rfl
@[go_sem] theorem ty_sl119 : sliceT Try.prog 119 = none := by kernel_rfl
@[go_sem] theorem ty_ar119 : arrT Try.prog 119 = none := by kernel_rfl
@[go_sem] theorem ty_in119 : intT Try.prog 119 = none := by kernel_rfl
@[go_sem] theorem ty_bo119 : boolT Try.prog 119 = false := by kernel_rfl
@[go_sem] theorem ty_co119 : concT Try.prog 119 = true := by kernel_rfl
@[go_sem] theorem ty_bt119 : bytT Try.prog 119 = false := by kernel_rfl
@[go_sem] theorem ty_st119 : strT Try.prog 119 = false := by kernel_rfl
@[go_sem] theorem ty_zv119 : zvT Try.prog 119 = some (.agg [.emp 0]) := by kernel_rfl
@[go_sem] theorem ty_fl119_0 : fldT Try.prog 119 0 = some (0, 26) := by kernel_rfl
@[go_sem] theorem ty_pl119 : plT Try.prog 119 = some [(0, 1)] := by kernel_rfl
@[go_sem] theorem ty_sz120 : szT Try.prog 120 = some 1 := by kernel_rfl
@[go_sem] theorem ty_by120 : byT Try.prog 120 = some 8 := by kernel_rfl
@[go_sem] theorem ty_ag120 : aggT Try.prog 120 = some false := by kernel_rfl
@[go_sem] theorem ty_un120 : (Try.prog.underlying 120).isSome = true := by kernel_rfl
@[go_sem] theorem ty_ze120 : zeT Try.prog 120 = some [.data .nilf] := by kernel_rfl
@[go_sem] theorem ty_zl120 : zlT Try.prog 120 = some 1 := by kernel_rfl
@[go_sem] theorem ty_sl120 : sliceT Try.prog 120 = none := by kernel_rfl
@[go_sem] theorem ty_ar120 : arrT Try.prog 120 = none := by kernel_rfl
@[go_sem] theorem ty_in120 : intT Try.prog 120 = none := by kernel_rfl
@[go_sem] theorem ty_bo120 : boolT Try.prog 120 = false := by kernel_rfl
@[go_sem] theorem ty_co120 : concT Try.prog 120 = true := by kernel_rfl
@[go_sem] theorem ty_bt120 : bytT Try.prog 120 = false := by kernel_rfl
@[go_sem] theorem ty_st120 : strT Try.prog 120 = false := by kernel_rfl
@[go_sem] theorem ty_zv120 : zvT Try.prog 120 = some (.data .nilf) := by kernel_rfl
@[go_sem] theorem ty_sz121 : szT Try.prog 121 = some 1 := by kernel_rfl
@[go_sem] theorem ty_by121 : byT Try.prog 121 = some 8 := by kernel_rfl
@[go_sem] theorem ty_ag121 : aggT Try.prog 121 = some false := by kernel_rfl
@[go_sem] theorem ty_un121 : (Try.prog.underlying 121).isSome = true := by kernel_rfl
@[go_sem] theorem ty_ze121 : zeT Try.prog 121 = some [.data .nilf] := by kernel_rfl
@[go_sem] theorem ty_zl121 : zlT Try.prog 121 = some 1 := by kernel_rfl
@[go_sem] theorem ty_sl121 : sliceT Try.prog 121 = none := by kernel_rfl
@[go_sem] theorem ty_ar121 : arrT Try.prog 121 = none := by kernel_rfl
@[go_sem] theorem ty_in121 : intT Try.prog 121 = none := by kernel_rfl
@[go_sem] theorem ty_bo121 : boolT Try.prog 121 = false := by kernel_rfl
@[go_sem] theorem ty_co121 : concT Try.prog 121 = true := by kernel_rfl
@[go_sem] theorem ty_bt121 : bytT Try.prog 121 = false := by kernel_rfl
@[go_sem] theorem ty_st121 : strT Try.prog 121 = false := by kernel_rfl
@[go_sem] theorem ty_zv121 : zvT Try.prog 121 = some (.data .nilf) := by kernel_rfl
@[go_sem] theorem ty_sz122 : szT Try.prog 122 = some 1 := by kernel_rfl
@[go_sem] theorem ty_by122 : byT Try.prog 122 = some 8 := by kernel_rfl
@[go_sem] theorem ty_ag122 : aggT Try.prog 122 = some false := by kernel_rfl
@[go_sem] theorem ty_un122 : (Try.prog.underlying 122).isSome = true := by kernel_rfl
@[go_sem] theorem ty_ze122 : zeT Try.prog 122 = some [.data .nilf] := by kernel_rfl
@[go_sem] theorem ty_zl122 : zlT Try.prog 122 = some 1 := by kernel_rfl
@[go_sem] theorem ty_sl122 : sliceT Try.prog 122 = none := by kernel_rfl
@[go_sem] theorem ty_ar122 : arrT Try.prog 122 = none := by kernel_rfl
@[go_sem] theorem ty_in122 : intT Try.prog 122 = none := by kernel_rfl
@[go_sem] theorem ty_bo122 : boolT Try.prog 122 = false := by kernel_rfl
@[go_sem] theorem ty_co122 : concT Try.prog 122 = true := by kernel_rfl
@[go_sem] theorem ty_bt122 : bytT Try.prog 122 = false := by kernel_rfl
@[go_sem] theorem ty_st122 : strT Try.prog 122 = false := by kernel_rfl
@[go_sem] theorem ty_zv122 : zvT Try.prog 122 = some (.data .nilf) := by kernel_rfl
@[go_sem] theorem ty_sz123 : szT Try.prog 123 = some 1 := by kernel_rfl
@[go_sem] theorem ty_by123 : byT Try.prog 123 = some 8 := by kernel_rfl
@[go_sem] theorem ty_ag123 : aggT Try.prog 123 = some false := by kernel_rfl
@[go_sem] theorem ty_un123 : (Try.prog.underlying 123).isSome = true := by kernel_rfl
@[go_sem] theorem ty_ze123 : zeT Try.prog 123 = some [.data .nilf] := by kernel_rfl
@[go_sem] theorem ty_zl123 : zlT Try.prog 123 = some 1 := by kernel_rfl
@[go_sem] theorem ty_sl123 : sliceT Try.prog 123 = none := by kernel_rfl
@[go_sem] theorem ty_ar123 : arrT Try.prog 123 = none := by kernel_rfl
@[go_sem] theorem ty_in123 : intT Try.prog 123 = none := by kernel_rfl
@[go_sem] theorem ty_bo123 : boolT Try.prog 123 = false := by kernel_rfl
@[go_sem] theorem ty_co123 : concT Try.prog 123 = true := by kernel_rfl
@[go_sem] theorem ty_bt123 : bytT Try.prog 123 = false := by kernel_rfl
@[go_sem] theorem ty_st123 : strT Try.prog 123 = false := by kernel_rfl
@[go_sem] theorem ty_zv123 : zvT Try.prog 123 = some (.data .nilf) := by kernel_rfl
@[go_sem] theorem ty_sz124 : szT Try.prog 124 = some 1 := by kernel_rfl
@[go_sem] theorem ty_by124 : byT Try.prog 124 = some 8 := by kernel_rfl
@[go_sem] theorem ty_ag124 : aggT Try.prog 124 = some false := by kernel_rfl
@[go_sem] theorem ty_un124 : (Try.prog.underlying 124).isSome = true := by kernel_rfl
@[go_sem] theorem ty_ze124 : zeT Try.prog 124 = some [.data .nilf] := by kernel_rfl
@[go_sem] theorem ty_zl124 : zlT Try.prog 124 = some 1 := by kernel_rfl
@[go_sem] theorem ty_sl124 : sliceT Try.prog 124 = none := by kernel_rfl
@[go_sem] theorem ty_ar124 : arrT Try.prog 124 = none := by kernel_rfl
@[go_sem] theorem ty_in124 : intT Try.prog 124 = none := by kernel_rfl
@[go_sem] theorem ty_bo124 : boolT Try.prog 124 = false := by kernel_rfl
@[go_sem] theorem ty_co124 : concT Try.prog 124 = true := by kernel_rfl
@[go_sem] theorem ty_bt124 : bytT Try.prog 124 = false := by kernel_rfl
@[go_sem] theorem ty_st124 : strT Try.prog 124 = false := by kernel_rfl
@[go_sem] theorem ty_zv124 : zvT Try.prog 124 = some (.data .nilf) := by kernel_rfl
@[go_sem] theorem ty_sz125 : szT Try.prog 125 = some 1 := by kernel_rfl
@[go_sem] theorem ty_by125 : byT Try.prog 125 = some 8 := by kernel_rfl
@[go_sem] theorem ty_ag125 : aggT Try.prog 125 = some false := by kernel_rfl
@[go_sem] theorem ty_un125 : (Try.prog.underlying 125).isSome = true := by kernel_rfl
@[go_sem] theorem ty_ze125 : zeT Try.prog 125 = some [.data .nilf] := by kernel_rfl
@[go_sem] theorem ty_zl125 : zlT Try.prog 125 = some 1 := by kernel_rfl
@[go_sem] theorem ty_sl125 : sliceT Try.prog 125 = none := by kernel_rfl
@[go_sem] theorem ty_ar125 : arrT Try.prog 125 = none := by kernel_rfl
@[go_sem] theorem ty_in125 : intT Try.prog 125 = none := by kernel_rfl
@[go_sem] theorem ty_bo125 : boolT Try.prog 125 = false := by kernel_rfl
@[go_sem] theorem ty_co125 : concT Try.prog 125 = true := by kernel_rfl
@[go_sem] theorem ty_bt125 : bytT Try.prog 125 = false := by kernel_rfl
@[go_sem] theorem ty_st125 : strT Try.prog 125 = false := by kernel_rfl
@[go_sem] theorem ty_zv125 : zvT Try.prog 125 = some (.data .nilf) := by kernel_rfl
@[go_sem] theorem ty_sz126 : szT Try.prog 126 = some 1 := by kernel_rfl
@[go_sem] theorem ty_by126 : byT Try.prog 126 = some 8 := by kernel_rfl
@[go_sem] theorem ty_ag126 : aggT Try.prog 126 = some false := by kernel_rfl
@[go_sem] theorem ty_un126 : (Try.prog.underlying 126).isSome = true := by kernel_rfl
@[go_sem] theorem ty_ze126 : zeT Try.prog 126 = some [.data .nilf] := by kernel_rfl
@[go_sem] theorem ty_zl126 : zlT Try.prog 126 = some 1 := by kernel_rfl
@[go_sem] theorem ty_sl126 : sliceT Try.prog 126 = none := by kernel_rfl
@[go_sem] theorem ty_ar126 : arrT Try.prog 126 = none := by kernel_rfl
@[go_sem] theorem ty_in126 : intT Try.prog 126 = none := by kernel_rfl
@[go_sem] theorem ty_bo126 : boolT Try.prog 126 = false := by kernel_rfl
@[go_sem] theorem ty_co126 : concT Try.prog 126 = true := by kernel_rfl
@[go_sem] theorem ty_bt126 : bytT Try.prog 126 = false := by kernel_rfl
@[go_sem] theorem ty_st126 : strT Try.prog 126 = false := by kernel_rfl
@[go_sem] theorem ty_zv126 : zvT Try.prog 126 = some (.data .nilf) := by kernel_rfl
@[go_sem] theorem ty_sz127 : szT Try.prog 127 = some 1 := by kernel_rfl
@[go_sem] theorem ty_by127 : byT Try.prog 127 = some 8 := by kernel_rfl
@[go_sem] theorem ty_ag127 : aggT Try.prog 127 = some false := by kernel_rfl
@[go_sem] theorem ty_un127 : (Try.prog.underlying 127).isSome = true := by kernel_rfl
@[go_sem] theorem ty_ze127 : zeT Try.prog 127 = some [.data .nilf] := by kernel_rfl
@[go_sem] theorem ty_zl127 : zlT Try.prog 127 = some 1 := by kernel_rfl
@[go_sem] theorem ty_sl127 : sliceT Try.prog 127 = none := by kernel_rfl
@[go_sem] theorem ty_ar127 : arrT Try.prog 127 = none := by kernel_rfl
@[go_sem] theorem ty_in127 : intT Try.prog 127 = none := by kernel_rfl
@[go_sem] theorem ty_bo127 : boolT Try.prog 127 = false := by kernel_rfl
@[go_sem] theorem ty_co127 : concT Try.prog 127 = true := by kernel_rfl
@[go_sem] theorem ty_bt127 : bytT Try.prog 127 = false := by kernel_rfl
@[go_sem] theorem ty_st127 : strT Try.prog 127 = false := by kernel_rfl
@[go_sem] theorem ty_zv127 : zvT Try.prog 127 = some (.data .nilf) := by kernel_rfl
@[go_sem] theorem ty_sz128 : szT Try.prog 128 = some 1 := by kernel_rfl
@[go_sem] theorem ty_by128 : byT Try.prog 128 = some 8 := by kernel_rfl
@[go_sem] theorem ty_ag128 : aggT Try.prog 128 = some false := by kernel_rfl
@[go_sem] theorem ty_un128 : (Try.prog.underlying 128).isSome = true := by kernel_rfl
@[go_sem] theorem ty_ze128 : zeT Try.prog 128 = some [.data .nilf] := by kernel_rfl
@[go_sem] theorem ty_zl128 : zlT Try.prog 128 = some 1 := by kernel_rfl
@[go_sem] theorem ty_sl128 : sliceT Try.prog 128 = none := by kernel_rfl
@[go_sem] theorem ty_ar128 : arrT Try.prog 128 = none := by kernel_rfl
@[go_sem] theorem ty_in128 : intT Try.prog 128 = none := by kernel_rfl
@[go_sem] theorem ty_bo128 : boolT Try.prog 128 = false := by kernel_rfl
@[go_sem] theorem ty_co128 : concT Try.prog 128 = true := by kernel_rfl
@[go_sem] theorem ty_bt128 : bytT Try.prog 128 = false := by kernel_rfl
@[go_sem] theorem ty_st128 : strT Try.prog 128 = false := by kernel_rfl
@[go_sem] theorem ty_zv128 : zvT Try.prog 128 = some (.data .nilf) := by kernel_rfl
@[go_sem] theorem ty_sz129 : szT Try.prog 129 = some 1 := by kernel_rfl
@[go_sem] theorem ty_by129 : byT Try.prog 129 = some 8 := by kernel_rfl
@[go_sem] theorem ty_ag129 : aggT Try.prog 129 = some false := by kernel_rfl
@[go_sem] theorem ty_un129 : (Try.prog.underlying 129).isSome = true := by kernel_rfl
@[go_sem] theorem ty_ze129 : zeT Try.prog 129 = some [.data .nilf] := by kernel_rfl
@[go_sem] theorem ty_zl129 : zlT Try.prog 129 = some 1 := by kernel_rfl
@[go_sem] theorem ty_sl129 : sliceT Try.prog 129 = none := by kernel_rfl
@[go_sem] theorem ty_ar129 : arrT Try.prog 129 = none := by kernel_rfl
@[go_sem] theorem ty_in129 : intT Try.prog 129 = none := by kernel_rfl
@[go_sem] theorem ty_bo129 : boolT Try.prog 129 = false := by kernel_rfl
@[go_sem] theorem ty_co129 : concT Try.prog 129 = true := by kernel_rfl
@[go_sem] theorem ty_bt129 : bytT Try.prog 129 = false := by kernel_rfl
@[go_sem] theorem ty_st129 : strT Try.prog 129 = false := by kernel_rfl
@[go_sem] theorem ty_zv129 : zvT Try.prog 129 = some (.data .nilf) := by kernel_rfl
@[go_sem] theorem ty_sz130 : szT Try.prog 130 = some 1 := by kernel_rfl
@[go_sem] theorem ty_by130 : byT Try.prog 130 = some 8 := by kernel_rfl
@[go_sem] theorem ty_ag130 : aggT Try.prog 130 = some false := by kernel_rfl
@[go_sem] theorem ty_un130 : (Try.prog.underlying 130).isSome = true := by kernel_rfl
@[go_sem] theorem ty_ze130 : zeT Try.prog 130 = some [.data .nilf] := by kernel_rfl
@[go_sem] theorem ty_zl130 : zlT Try.prog 130 = some 1 := by kernel_rfl
@[go_sem] theorem ty_sl130 : sliceT Try.prog 130 = none := by kernel_rfl
@[go_sem] theorem ty_ar130 : arrT Try.prog 130 = none := by kernel_rfl
@[go_sem] theorem ty_in130 : intT Try.prog 130 = none := by kernel_rfl
@[go_sem] theorem ty_bo130 : boolT Try.prog 130 = false := by kernel_rfl
@[go_sem] theorem ty_co130 : concT Try.prog 130 = true := by kernel_rfl
@[go_sem] theorem ty_bt130 : bytT Try.prog 130 = false := by kernel_rfl
@[go_sem] theorem ty_st130 : strT Try.prog 130 = false := by kernel_rfl
@[go_sem] theorem ty_zv130 : zvT Try.prog 130 = some (.data .nilf) := by kernel_rfl
@[go_sem] theorem ty_sz131 : szT Try.prog 131 = some 1 := by kernel_rfl
@[go_sem] theorem ty_by131 : byT Try.prog 131 = some 8 := by kernel_rfl
@[go_sem] theorem ty_ag131 : aggT Try.prog 131 = some false := by kernel_rfl
@[go_sem] theorem ty_un131 : (Try.prog.underlying 131).isSome = true := by kernel_rfl
@[go_sem] theorem ty_ze131 : zeT Try.prog 131 = some [.data .nilf] := by kernel_rfl
@[go_sem] theorem ty_zl131 : zlT Try.prog 131 = some 1 := by kernel_rfl
@[go_sem] theorem ty_sl131 : sliceT Try.prog 131 = none := by kernel_rfl
@[go_sem] theorem ty_ar131 : arrT Try.prog 131 = none := by kernel_rfl
@[go_sem] theorem ty_in131 : intT Try.prog 131 = none := by kernel_rfl
@[go_sem] theorem ty_bo131 : boolT Try.prog 131 = false := by kernel_rfl
@[go_sem] theorem ty_co131 : concT Try.prog 131 = true := by kernel_rfl
@[go_sem] theorem ty_bt131 : bytT Try.prog 131 = false := by kernel_rfl
@[go_sem] theorem ty_st131 : strT Try.prog 131 = false := by kernel_rfl
@[go_sem] theorem ty_zv131 : zvT Try.prog 131 = some (.data .nilf) := by kernel_rfl
@[go_sem] theorem ty_sz132 : szT Try.prog 132 = some 1 := by kernel_rfl
@[go_sem] theorem ty_by132 : byT Try.prog 132 = some 8 := by kernel_rfl
@[go_sem] theorem ty_ag132 : aggT Try.prog 132 = some false := by kernel_rfl
@[go_sem] theorem ty_un132 : (Try.prog.underlying 132).isSome = true := by kernel_rfl
@[go_sem] theorem ty_ze132 : zeT Try.prog 132 = some [.data .nilf] := by kernel_rfl
@[go_sem] theorem ty_zl132 : zlT Try.prog 132 = some 1 := by kernel_rfl
@[go_sem] theorem ty_sl132 : sliceT Try.prog 132 = none := by kernel_rfl
@[go_sem] theorem ty_ar132 : arrT Try.prog 132 = none := by kernel_rfl
@[go_sem] theorem ty_in132 : intT Try.prog 132 = none := by kernel_rfl
@[go_sem] theorem ty_bo132 : boolT Try.prog 132 = false := by kernel_rfl
@[go_sem] theorem ty_co132 : concT Try.prog 132 = true := by kernel_rfl
@[go_sem] theorem ty_bt132 : bytT Try.prog 132 = false := by kernel_rfl
@[go_sem] theorem ty_st132 : strT Try.prog 132 = false := by kernel_rfl
@[go_sem] theorem ty_zv132 : zvT Try.prog 132 = some (.data .nilf) := by kernel_rfl
@[go_sem] theorem ty_sz133 : szT Try.prog 133 = some 1 := by kernel_rfl
@[go_sem] theorem ty_by133 : byT Try.prog 133 = some 8 := by kernel_rfl
@[go_sem] theorem ty_ag133 : aggT Try.prog 133 = some false := by kernel_rfl
@[go_sem] theorem ty_un133 : (Try.prog.underlying 133).isSome = true := by kernel_rfl
@[go_sem] theorem ty_ze133 : zeT Try.prog 133 = some [.data .nilf] := by kernel_rfl
@[go_sem] theorem ty_zl133 : zlT Try.prog 133 = some 1 := by kernel_rfl
@[go_sem] theorem ty_sl133 : sliceT Try.prog 133 = none := by kernel_rfl
@[go_sem] theorem ty_ar133 : arrT Try.prog 133 = none := by kernel_rfl
@[go_sem] theorem ty_in133 : intT Try.prog 133 = none := by kernel_rfl
@[go_sem] theorem ty_bo133 : boolT Try.prog 133 = false := by kernel_rfl
@[go_sem] theorem ty_co133 : concT Try.prog 133 = true := by kernel_rfl
@[go_sem] theorem ty_bt133 : bytT Try.prog 133 = false := by kernel_rfl
@[go_sem] theorem ty_st133 : strT Try.prog 133 = false := by kernel_rfl
@[go_sem] theorem ty_zv133 : zvT Try.prog 133 = some (.data .nilf) := by kernel_rfl
@[go_sem] theorem ty_sz134 : szT Try.prog 134 = some 1 := by kernel_rfl
@[go_sem] theorem ty_by134 : byT Try.prog 134 = some 8 := by kernel_rfl
@[go_sem] theorem ty_ag134 : aggT Try.prog 134 = some false := by kernel_rfl
@[go_sem] theorem ty_un134 : (Try.prog.underlying 134).isSome = true := by kernel_rfl
@[go_sem] theorem ty_ze134 : zeT Try.prog 134 = some [.data .nilf] := by kernel_rfl
@[go_sem] theorem ty_zl134 : zlT Try.prog 134 = some 1 := by kernel_rfl
@[go_sem] theorem ty_sl134 : sliceT Try.prog 134 = none := by kernel_rfl
@[go_sem] theorem ty_ar134 : arrT Try.prog 134 = none := by kernel_rfl
@[go_sem] theorem ty_in134 : intT Try.prog 134 = none := by kernel_rfl
@[go_sem] theorem ty_bo134 : boolT Try.prog 134 = false := by kernel_rfl
@[go_sem] theorem ty_co134 : concT Try.prog 134 = true := by kernel_rfl
@[go_sem] theorem ty_bt134 : bytT Try.prog 134 = false := by kernel_rfl
@[go_sem] theorem ty_st134 : strT Try.prog 134 = false := by kernel_rfl
@[go_sem] theorem ty_zv134 : zvT Try.prog 134 = some (.data .nilf) := by kernel_rfl
@[go_sem] theorem ty_sz135 : szT Try.prog 135 = some 1 := by kernel_rfl
@[go_sem] theorem ty_by135 : byT Try.prog 135 = some 8 := by kernel_rfl
@[go_sem] theorem ty_ag135 : aggT Try.prog 135 = some false := by kernel_rfl
@[go_sem] theorem ty_un135 : (Try.prog.underlying 135).isSome = true := by kernel_rfl
@[go_sem] theorem ty_ze135 : zeT Try.prog 135 = some [.data .nilf] := by kernel_rfl
@[go_sem] theorem ty_zl135 : zlT Try.prog 135 = some 1 := by kernel_rfl
@[go_sem] theorem ty_sl135 : sliceT Try.prog 135 = none := by kernel_rfl
@[go_sem] theorem ty_ar135 : arrT Try.prog 135 = none := by kernel_rfl
@[go_sem] theorem ty_in135 : intT Try.prog 135 = none := by kernel_rfl
@[go_sem] theorem ty_bo135 : boolT Try.prog 135 = false := by kernel_rfl
@[go_sem] theorem ty_co135 : concT Try.prog 135 = true := by kernel_rfl
@[go_sem] theorem ty_bt135 : bytT Try.prog 135 = false := by kernel_rfl
@[go_sem] theorem ty_st135 : strT Try.prog 135 = false := by kernel_rfl
@[go_sem] theorem ty_zv135 : zvT Try.prog 135 = some (.data .nilf) := by kernel_rfl
@[go_sem] theorem ty_sz136 : szT Try.prog 136 = some 1 := by kernel_rfl
@[go_sem] theorem ty_by136 : byT Try.prog 136 = some 8 := by kernel_rfl
@[go_sem] theorem ty_ag136 : aggT Try.prog 136 = some false := by kernel_rfl
@[go_sem] theorem ty_un136 : (Try.prog.underlying 136).isSome = true := by kernel_rfl
@[go_sem] theorem ty_ze136 : zeT Try.prog 136 = some [.data .nilf] := by kernel_rfl
@[go_sem] theorem ty_zl136 : zlT Try.prog 136 = some 1 := by kernel_rfl
@[go_sem] theorem ty_sl136 : sliceT Try.prog 136 = none := by kernel_rfl
@[go_sem] theorem ty_ar136 : arrT Try.prog 136 = none := by kernel_rfl
@[go_sem] theorem ty_in136 : intT Try.prog 136 = none := by kernel_rfl
@[go_sem] theorem ty_bo136 : boolT Try.prog 136 = false := by kernel_rfl
@[go_sem] theorem ty_co136 : concT Try.prog 136 = true := by kernel_rfl
@[go_sem] theorem ty_bt136 : bytT Try.prog 136 = false := by kernel_rfl
@[go_sem] theorem ty_st136 : strT Try.prog 136 = false := by kernel_rfl
@[go_sem] theorem ty_zv136 : zvT Try.prog 136 = some (.data .nilf) := by kernel_rfl
@[go_sem] theorem ty_sz137 : szT Try.prog 137 = some 1 := by kernel_rfl
@[go_sem] theorem ty_by137 : byT Try.prog 137 = some 8 := by kernel_rfl
@[go_sem] theorem ty_ag137 : aggT Try.prog 137 = some false := by kernel_rfl
@[go_sem] theorem ty_un137 : (Try.prog.underlying 137).isSome = true := by kernel_rfl
@[go_sem] theorem ty_ze137 : zeT Try.prog 137 = some [.data .nilf] := by kernel_rfl
@[go_sem] theorem ty_zl137 : zlT Try.prog 137 = some 1 := by kernel_rfl
@[go_sem] theorem ty_sl137 : sliceT Try.prog 137 = none := by kernel_rfl
@[go_sem] theorem ty_ar137 : arrT Try.prog 137 = none := by kernel_rfl
@[go_sem] theorem ty_in137 : intT Try.prog 137 = none := by kernel_rfl
@[go_sem] theorem ty_bo137 : boolT Try.prog 137 = false := by kernel_rfl
@[go_sem] theorem ty_co137 : concT Try.prog 137 = true := by kernel_rfl
@[go_sem] theorem ty_bt137 : bytT Try.prog 137 = false := by kernel_rfl
@[go_sem] theorem ty_st137 : strT Try.prog 137 = false := by kernel_rfl
@[go_sem] theorem ty_zv137 : zvT Try.prog 137 = some (.data .nilf) := by kernel_rfl
@[go_sem] theorem ty_sz138 : szT Try.prog 138 = some 1 := by kernel_rfl
@[go_sem] theorem ty_by138 : byT Try.prog 138 = some 8 := by kernel_rfl
@[go_sem] theorem ty_ag138 : aggT Try.prog 138 = some false := by kernel_rfl
@[go_sem] theorem ty_un138 : (Try.prog.underlying 138).isSome = true := by kernel_rfl
@[go_sem] theorem ty_ze138 : zeT Try.prog 138 = some [.data .nilm] := by kernel_rfl
@[go_sem] theorem ty_zl138 : zlT Try.prog 138 = some 1 := by kernel_rfl
@[go_sem] theorem ty_sl138 : sliceT Try.prog 138 = none := by kernel_rfl
@[go_sem] theorem ty_ar138 : arrT Try.prog 138 = none := by kernel_rfl
@[go_sem] theorem ty_in138 : intT Try.prog 138 = none := by kernel_rfl
@[go_sem] theorem ty_bo138 : boolT Try.prog 138 = false := by kernel_rfl
@[go_sem] theorem ty_co138 : concT Try.prog 138 = true := by kernel_rfl
@[go_sem] theorem ty_bt138 : bytT Try.prog 138 = false := by kernel_rfl
@[go_sem] theorem ty_st138 : strT Try.prog 138 = false := by kernel_rfl
@[go_sem] theorem ty_mp138 : mapT Try.prog 138 = some (3, 94) := by kernel_rfl
@[go_sem] theorem ty_zv138 : zvT Try.prog 138 = some (.data .nilm) := by kernel_rfl
@[go_sem] theorem ty_sz140 : szT Try.prog 140 = some 1 := by kernel_rfl
@[go_sem] theorem ty_by140 : byT Try.prog 140 = some 8 := by kernel_rfl
@[go_sem] theorem ty_ag140 : aggT Try.prog 140 = some false := by kernel_rfl
@[go_sem] theorem ty_un140 : (Try.prog.underlying 140).isSome = true := by kernel_rfl
@[go_sem] theorem ty_ze140 : zeT Try.prog 140 = some [.data .nilf] := by kernel_rfl
@[go_sem] theorem ty_zl140 : zlT Try.prog 140 = some 1 := by kernel_rfl
@[go_sem] theorem ty_sl140 : sliceT Try.prog 140 = none := by kernel_rfl
@[go_sem] theorem ty_ar140 : arrT Try.prog 140 = none := by kernel_rfl
@[go_sem] theorem ty_in140 : intT Try.prog 140 = none := by kernel_rfl
@[go_sem] theorem ty_bo140 : boolT Try.prog 140 = false := by kernel_rfl
@[go_sem] theorem ty_co140 : concT Try.prog 140 = true := by kernel_rfl
@[go_sem] theorem ty_bt140 : bytT Try.prog 140 = false := by kernel_rfl
@[go_sem] theorem ty_st140 : strT Try.prog 140 = false := by kernel_rfl
@[go_sem] theorem ty_zv140 : zvT Try.prog 140 = some (.data .nilf) := by kernel_rfl
@[go_sem] theorem ty_sz142 : szT Try.prog 142 = some 1 := by kernel_rfl
@[go_sem] theorem ty_by142 : byT Try.prog 142 = some 8 := by kernel_rfl
@[go_sem] theorem ty_ag142 : aggT Try.prog 142 = some false := by kernel_rfl
@[go_sem] theorem ty_un142 : (Try.prog.underlying 142).isSome = true := by kernel_rfl
@[go_sem] theorem ty_ze142 : zeT Try.prog 142 = some [.data .nilf] := by kernel_rfl
@[go_sem] theorem ty_zl142 : zlT Try.prog 142 = some 1 := by kernel_rfl
@[go_sem] theorem ty_sl142 : sliceT Try.prog 142 = none := by kernel_rfl
@[go_sem] theorem ty_ar142 : arrT Try.prog 142 = none := by kernel_rfl
@[go_sem] theorem ty_in142 : intT Try.prog 142 = none := by kernel_rfl
@[go_sem] theorem ty_bo142 : boolT Try.prog 142 = false := by kernel_rfl
@[go_sem] theorem ty_co142 : concT Try.prog 142 = true := by kernel_rfl
@[go_sem] theorem ty_bt142 : bytT Try.prog 142 = false := by kernel_rfl
@[go_sem] theorem ty_st142 : strT Try.prog 142 = false := by kernel_rfl
@[go_sem] theorem ty_zv142 : zvT Try.prog 142 = some (.data .nilf) := by kernel_rfl
@[go_sem] theorem ty_sz143 : szT Try.prog 143 = some 1 := by kernel_rfl
@[go_sem] theorem ty_by143 : byT Try.prog 143 = some 8 := by kernel_rfl
@[go_sem] theorem ty_ag143 : aggT Try.prog 143 = some false := by kernel_rfl
@[go_sem] theorem ty_un143 : (Try.prog.underlying 143).isSome = true := by kernel_rfl
@[go_sem] theorem ty_ze143 : zeT Try.prog 143 = some [.data .nilf] := by kernel_rfl
@[go_sem] theorem ty_zl143 : zlT Try.prog 143 = some 1 := by kernel_rfl
@[go_sem] theorem ty_sl143 : sliceT Try.prog 143 = none := by kernel_rfl
@[go_sem] theorem ty_ar143 : arrT Try.prog 143 = none := by kernel_rfl
@[go_sem] theorem ty_in143 : intT Try.prog 143 = none := by kernel_rfl
@[go_sem] theorem ty_bo143 : boolT Try.prog 143 = false := by kernel_rfl
@[go_sem] theorem ty_co143 : concT Try.prog 143 = true := by kernel_rfl
@[go_sem] theorem ty_bt143 : bytT Try.prog 143 = false := by kernel_rfl
@[go_sem] theorem ty_st143 : strT Try.prog 143 = false := by kernel_rfl
@[go_sem] theorem ty_zv143 : zvT Try.prog 143 = some (.data .nilf) := by kernel_rfl
@[go_sem] theorem ty_sz144 : szT Try.prog 144 = some 1 := by kernel_rfl
@[go_sem] theorem ty_by144 : byT Try.prog 144 = some 8 := by kernel_rfl
@[go_sem] theorem ty_ag144 : aggT Try.prog 144 = some false := by kernel_rfl
@[go_sem] theorem ty_un144 : (Try.prog.underlying 144).isSome = true := by kernel_rfl
@[go_sem] theorem ty_ze144 : zeT Try.prog 144 = some [.data (.int .u64 0)] := by kernel_rfl
@[go_sem] theorem ty_zl144 : zlT Try.prog 144 = some 1 := by kernel_rfl
@[go_sem] theorem ty_sl144 : sliceT Try.prog 144 = none := by kernel_rfl
@[go_sem] theorem ty_ar144 : arrT Try.prog 144 = none := by kernel_rfl
@[go_sem] theorem ty_in144 : intT Try.prog 144 = some .u64 := by kernel_rfl
@[go_sem] theorem ty_bo144 : boolT Try.prog 144 = false := by kernel_rfl
@[go_sem] theorem ty_co144 : concT Try.prog 144 = true := by kernel_rfl
@[go_sem] theorem ty_bt144 : bytT Try.prog 144 = false := by kernel_rfl
@[go_sem] theorem ty_st144 : strT Try.prog 144 = false := by kernel_rfl
@[go_sem] theorem ty_ki144  (n : Int) : keyT Try.prog 144 (.int .u64 n) = true := by kernel_rfl
@[go_sem] theorem ty_zv144 : zvT Try.prog 144 = some (.data (.int .u64 0)) := by kernel_rfl
@[go_sem] theorem ty_sz145 : szT Try.prog 145 = some 1 := by kernel_rfl
@[go_sem] theorem ty_by145 : byT Try.prog 145 = some 8 := by kernel_rfl
@[go_sem] theorem ty_ag145 : aggT Try.prog 145 = some false := by kernel_rfl
@[go_sem] theorem ty_un145 : (Try.prog.underlying 145).isSome = true := by kernel_rfl
@[go_sem] theorem ty_ze145 : zeT Try.prog 145 = some [.data .nilf] := by kernel_rfl
@[go_sem] theorem ty_zl145 : zlT Try.prog 145 = some 1 := by kernel_rfl
@[go_sem] theorem ty_sl145 : sliceT Try.prog 145 = none := by kernel_rfl
@[go_sem] theorem ty_ar145 : arrT Try.prog 145 = none := by kernel_rfl
@[go_sem] theorem ty_in145 : intT Try.prog 145 = none := by kernel_rfl
@[go_sem] theorem ty_bo145 : boolT Try.prog 145 = false := by kernel_rfl
@[go_sem] theorem ty_co145 : concT Try.prog 145 = true := by kernel_rfl
@[go_sem] theorem ty_bt145 : bytT Try.prog 145 = false := by kernel_rfl
@[go_sem] theorem ty_st145 : strT Try.prog 145 = false := by kernel_rfl
@[go_sem] theorem ty_zv145 : zvT Try.prog 145 = some (.data .nilf) := by kernel_rfl
@[go_sem] theorem ty_sz146 : szT Try.prog 146 = some 1 := by kernel_rfl
@[go_sem] theorem ty_by146 : byT Try.prog 146 = some 8 := by kernel_rfl
@[go_sem] theorem ty_ag146 : aggT Try.prog 146 = some false := by kernel_rfl
@[go_sem] theorem ty_un146 : (Try.prog.underlying 146).isSome = true := by kernel_rfl
@[go_sem] theorem ty_ze146 : zeT Try.prog 146 = some [.data .nilf] := by kernel_rfl
@[go_sem] theorem ty_zl146 : zlT Try.prog 146 = some 1 := by kernel_rfl
@[go_sem] theorem ty_sl146 : sliceT Try.prog 146 = none := by kernel_rfl
@[go_sem] theorem ty_ar146 : arrT Try.prog 146 = none := by kernel_rfl
@[go_sem] theorem ty_in146 : intT Try.prog 146 = none := by kernel_rfl
@[go_sem] theorem ty_bo146 : boolT Try.prog 146 = false := by kernel_rfl
@[go_sem] theorem ty_co146 : concT Try.prog 146 = true := by kernel_rfl
@[go_sem] theorem ty_bt146 : bytT Try.prog 146 = false := by kernel_rfl
@[go_sem] theorem ty_st146 : strT Try.prog 146 = false := by kernel_rfl
@[go_sem] theorem ty_zv146 : zvT Try.prog 146 = some (.data .nilf) := by kernel_rfl
@[go_sem] theorem ty_sz147 : szT Try.prog 147 = some 1 := by kernel_rfl
@[go_sem] theorem ty_by147 : byT Try.prog 147 = some 8 := by kernel_rfl
@[go_sem] theorem ty_ag147 : aggT Try.prog 147 = some false := by kernel_rfl
@[go_sem] theorem ty_un147 : (Try.prog.underlying 147).isSome = true := by kernel_rfl
@[go_sem] theorem ty_ze147 : zeT Try.prog 147 = some [.data .nilf] := by kernel_rfl
@[go_sem] theorem ty_zl147 : zlT Try.prog 147 = some 1 := by kernel_rfl
@[go_sem] theorem ty_sl147 : sliceT Try.prog 147 = none := by kernel_rfl
@[go_sem] theorem ty_ar147 : arrT Try.prog 147 = none := by kernel_rfl
@[go_sem] theorem ty_in147 : intT Try.prog 147 = none := by kernel_rfl
@[go_sem] theorem ty_bo147 : boolT Try.prog 147 = false := by kernel_rfl
@[go_sem] theorem ty_co147 : concT Try.prog 147 = true := by kernel_rfl
@[go_sem] theorem ty_bt147 : bytT Try.prog 147 = false := by kernel_rfl
@[go_sem] theorem ty_st147 : strT Try.prog 147 = false := by kernel_rfl
@[go_sem] theorem ty_zv147 : zvT Try.prog 147 = some (.data .nilf) := by kernel_rfl
@[go_sem] theorem ty_sz148 : szT Try.prog 148 = some 1 := by kernel_rfl
@[go_sem] theorem ty_by148 : byT Try.prog 148 = some 8 := by kernel_rfl
@[go_sem] theorem ty_ag148 : aggT Try.prog 148 = some false := by kernel_rfl
@[go_sem] theorem ty_un148 : (Try.prog.underlying 148).isSome = true := by kernel_rfl
@[go_sem] theorem ty_ze148 : zeT Try.prog 148 = some [.data .nilf] := by kernel_rfl
@[go_sem] theorem ty_zl148 : zlT Try.prog 148 = some 1 := by kernel_rfl
@[go_sem] theorem ty_sl148 : sliceT Try.prog 148 = none := by kernel_rfl
@[go_sem] theorem ty_ar148 : arrT Try.prog 148 = none := by kernel_rfl
@[go_sem] theorem ty_in148 : intT Try.prog 148 = none := by kernel_rfl
@[go_sem] theorem ty_bo148 : boolT Try.prog 148 = false := by kernel_rfl
@[go_sem] theorem ty_co148 : concT Try.prog 148 = true := by kernel_rfl
@[go_sem] theorem ty_bt148 : bytT Try.prog 148 = false := by kernel_rfl
@[go_sem] theorem ty_st148 : strT Try.prog 148 = false := by kernel_rfl
@[go_sem] theorem ty_zv148 : zvT Try.prog 148 = some (.data .nilf) := by kernel_rfl
@[go_sem] theorem ty_sz149 : szT Try.prog 149 = some 1 := by kernel_rfl
@[go_sem] theorem ty_by149 : byT Try.prog 149 = some 8 := by kernel_rfl
@[go_sem] theorem ty_ag149 : aggT Try.prog 149 = some false := by kernel_rfl
@[go_sem] theorem ty_un149 : (Try.prog.underlying 149).isSome = true := by kernel_rfl
@[go_sem] theorem ty_ze149 : zeT Try.prog 149 = some [.data .nilf] := by kernel_rfl
@[go_sem] theorem ty_zl149 : zlT Try.prog 149 = some 1 := by kernel_rfl
@[go_sem] theorem ty_sl149 : sliceT Try.prog 149 = none := by kernel_rfl
@[go_sem] theorem ty_ar149 : arrT Try.prog 149 = none := by kernel_rfl
@[go_sem] theorem ty_in149 : intT Try.prog 149 = none := by kernel_rfl
@[go_sem] theorem ty_bo149 : boolT Try.prog 149 = false := by kernel_rfl
@[go_sem] theorem ty_co149 : concT Try.prog 149 = true := by kernel_rfl
@[go_sem] theorem ty_bt149 : bytT Try.prog 149 = false := by kernel_rfl
@[go_sem] theorem ty_st149 : strT Try.prog 149 = false := by kernel_rfl
@[go_sem] theorem ty_zv149 : zvT Try.prog 149 = some (.data .nilf) := by kernel_rfl
@[go_sem] theorem ty_sz150 : szT Try.prog 150 = some 1 := by kernel_rfl
@[go_sem] theorem ty_by150 : byT Try.prog 150 = some 8 := by kernel_rfl
@[go_sem] theorem ty_ag150 : aggT Try.prog 150 = some false := by kernel_rfl
@[go_sem] theorem ty_un150 : (Try.prog.underlying 150).isSome = true := by kernel_rfl
@[go_sem] theorem ty_ze150 : zeT Try.prog 150 = some [.data .nilf] := by kernel_rfl
@[go_sem] theorem ty_zl150 : zlT Try.prog 150 = some 1 := by kernel_rfl
@[go_sem] theorem ty_sl150 : sliceT Try.prog 150 = none := by kernel_rfl
@[go_sem] theorem ty_ar150 : arrT Try.prog 150 = none := by kernel_rfl
@[go_sem] theorem ty_in150 : intT Try.prog 150 = none := by kernel_rfl
@[go_sem] theorem ty_bo150 : boolT Try.prog 150 = false := by kernel_rfl
@[go_sem] theorem ty_co150 : concT Try.prog 150 = true := by kernel_rfl
@[go_sem] theorem ty_bt150 : bytT Try.prog 150 = false := by kernel_rfl
@[go_sem] theorem ty_st150 : strT Try.prog 150 = false := by kernel_rfl
@[go_sem] theorem ty_zv150 : zvT Try.prog 150 = some (.data .nilf) := by kernel_rfl
@[go_sem] theorem ty_sz151 : szT Try.prog 151 = some 1 := by kernel_rfl
@[go_sem] theorem ty_by151 : byT Try.prog 151 = some 8 := by kernel_rfl
@[go_sem] theorem ty_ag151 : aggT Try.prog 151 = some false := by kernel_rfl
@[go_sem] theorem ty_un151 : (Try.prog.underlying 151).isSome = true := by kernel_rfl
@[go_sem] theorem ty_ze151 : zeT Try.prog 151 = some [.data .nilf] := by kernel_rfl
@[go_sem] theorem ty_zl151 : zlT Try.prog 151 = some 1 := by kernel_rfl
@[go_sem] theorem ty_sl151 : sliceT Try.prog 151 = none := by kernel_rfl
@[go_sem] theorem ty_ar151 : arrT Try.prog 151 = none := by kernel_rfl
@[go_sem] theorem ty_in151 : intT Try.prog 151 = none := by kernel_rfl
@[go_sem] theorem ty_bo151 : boolT Try.prog 151 = false := by kernel_rfl
@[go_sem] theorem ty_co151 : concT Try.prog 151 = true := by kernel_rfl
@[go_sem] theorem ty_bt151 : bytT Try.prog 151 = false := by kernel_rfl
@[go_sem] theorem ty_st151 : strT Try.prog 151 = false := by kernel_rfl
@[go_sem] theorem ty_zv151 : zvT Try.prog 151 = some (.data .nilf) := by kernel_rfl
@[go_sem] theorem ty_sz154 : szT Try.prog 154 = some 0 := by kernel_rfl
@[go_sem] theorem ty_by154 : byT Try.prog 154 = some 0 := by kernel_rfl
@[go_sem] theorem ty_ag154 : aggT Try.prog 154 = some true := by kernel_rfl
@[go_sem] theorem ty_un154 : (Try.prog.underlying 154).isSome = true := by kernel_rfl
@[go_sem] theorem ty_ze154 : zeT Try.prog 154 = some [] := by kernel_rfl
@[go_sem] theorem ty_zl154 : zlT Try.prog 154 = some 0 := by kernel_rfl
@[go_sem] theorem ty_sl154 : sliceT Try.prog 154 = none := by kernel_rfl
@[go_sem] theorem ty_ar154 : arrT Try.prog 154 = some (0, 16) := by kernel_rfl
@[go_sem] theorem ty_in154 : intT Try.prog 154 = none := by kernel_rfl
@[go_sem] theorem ty_bo154 : boolT Try.prog 154 = false := by kernel_rfl
@[go_sem] theorem ty_co154 : concT Try.prog 154 = true := by kernel_rfl
@[go_sem] theorem ty_bt154 : bytT Try.prog 154 = false := by kernel_rfl
@[go_sem] theorem ty_st154 : strT Try.prog 154 = false := by kernel_rfl
@[go_sem] theorem ty_zv154 : zvT Try.prog 154 = some (.data (.agg [])) := by kernel_rfl
@[go_sem] theorem ty_sz159 : szT Try.prog 159 = some 1 := by kernel_rfl
@[go_sem] theorem ty_by159 : byT Try.prog 159 = some 8 := by kernel_rfl
@[go_sem] theorem ty_ag159 : aggT Try.prog 159 = some false := by kernel_rfl
@[go_sem] theorem ty_un159 : (Try.prog.underlying 159).isSome = true := by kernel_rfl
@[go_sem] theorem ty_ze159 : zeT Try.prog 159 = some [.data .nilf] := by kernel_rfl
@[go_sem] theorem ty_zl159 : zlT Try.prog 159 = some 1 := by kernel_rfl
@[go_sem] theorem ty_sl159 : sliceT Try.prog 159 = none := by kernel_rfl
@[go_sem] theorem ty_ar159 : arrT Try.prog 159 = none := by kernel_rfl
@[go_sem] theorem ty_in159 : intT Try.prog 159 = none := by kernel_rfl
@[go_sem] theorem ty_bo159 : boolT Try.prog 159 = false := by kernel_rfl
@[go_sem] theorem ty_co159 : concT Try.prog 159 = true := by kernel_rfl
@[go_sem] theorem ty_bt159 : bytT Try.prog 159 = false := by kernel_rfl
@[go_sem] theorem ty_st159 : strT Try.prog 159 = false := by kernel_rfl
@[go_sem] theorem ty_zv159 : zvT Try.prog 159 = some (.data .nilf) := by kernel_rfl
@[go_sem] theorem ty_sz160 : szT Try.prog 160 = some 1 := by kernel_rfl
@[go_sem] theorem ty_by160 : byT Try.prog 160 = some 8 := by kernel_rfl
@[go_sem] theorem ty_ag160 : aggT Try.prog 160 = some false := by kernel_rfl
@[go_sem] theorem ty_un160 : (Try.prog.underlying 160).isSome = true := by kernel_rfl
@[go_sem] theorem ty_ze160 : zeT Try.prog 160 = some [.data .nilp] := by kernel_rfl
@[go_sem] theorem ty_zl160 : zlT Try.prog 160 = some 1 := by kernel_rfl
@[go_sem] theorem ty_sl160 : sliceT Try.prog 160 = none := by kernel_rfl
@[go_sem] theorem ty_ar160 : arrT Try.prog 160 = none := by kernel_rfl
@[go_sem] theorem ty_in160 : intT Try.prog 160 = none := by kernel_rfl
@[go_sem] theorem ty_bo160 : boolT Try.prog 160 = false := by kernel_rfl
@[go_sem] theorem ty_co160 : concT Try.prog 160 = true := by kernel_rfl
@[go_sem] theorem ty_bt160 : bytT Try.prog 160 = false := by kernel_rfl
@[go_sem] theorem ty_st160 : strT Try.prog 160 = false := by kernel_rfl
@[go_sem] theorem ty_zv160 : zvT Try.prog 160 = some (.data .nilp) := by kernel_rfl
@[go_sem] theorem ty_sz165 : szT Try.prog 165 = some 1 := by kernel_rfl
@[go_sem] theorem ty_by165 : byT Try.prog 165 = some 8 := by kernel_rfl
@[go_sem] theorem ty_ag165 : aggT Try.prog 165 = some false := by kernel_rfl
@[go_sem] theorem ty_un165 : (Try.prog.underlying 165).isSome = true := by kernel_rfl
@[go_sem] theorem ty_ze165 : zeT Try.prog 165 = some [.data .nilp] := by kernel_rfl
@[go_sem] theorem ty_zl165 : zlT Try.prog 165 = some 1 := by kernel_rfl
@[go_sem] theorem ty_sl165 : sliceT Try.prog 165 = none := by kernel_rfl
@[go_sem] theorem ty_ar165 : arrT Try.prog 165 = none := by kernel_rfl
@[go_sem] theorem ty_in165 : intT Try.prog 165 = none := by kernel_rfl
@[go_sem] theorem ty_bo165 : boolT Try.prog 165 = false := by kernel_rfl
@[go_sem] theorem ty_co165 : concT Try.prog 165 = true := by kernel_rfl
@[go_sem] theorem ty_bt165 : bytT Try.prog 165 = false := by kernel_rfl
@[go_sem] theorem ty_st165 : strT Try.prog 165 = false := by kernel_rfl
@[go_sem] theorem ty_zv165 : zvT Try.prog 165 = some (.data .nilp) := by kernel_rfl
theorem mixed : Try.prog.follows .mixedOrders = true := by kernel_rfl
end Go.Proofs.Ytdgklbbgbnapoaa
