/- The closed facts on the types. -/
import Derived.Test.YtlfmgellojjndaaDoorR
import Derived.Test.YtlfmgellojjndaaDoorChecked
import Derived.KernelRfl
namespace Go.Proofs.YtlfmgellojjndaaDoor

@[go_sem] theorem ty_sz1 : szT Tryd.prog 1 = some 1 := by kernel_rfl
@[go_sem] theorem ty_by1 : byT Tryd.prog 1 = some 8 := by kernel_rfl
@[go_sem] theorem ty_ag1 : aggT Tryd.prog 1 = some false := by kernel_rfl
@[go_sem] theorem ty_un1 : (Tryd.prog.underlying 1).isSome = true := by kernel_rfl
@[go_sem] theorem ty_ze1 : zeT Tryd.prog 1 = some [.data .nilf] := by kernel_rfl
@[go_sem] theorem ty_zl1 : zlT Tryd.prog 1 = some 1 := by kernel_rfl
@[go_sem] theorem ty_sl1 : sliceT Tryd.prog 1 = none := by kernel_rfl
@[go_sem] theorem ty_ar1 : arrT Tryd.prog 1 = none := by kernel_rfl
@[go_sem] theorem ty_in1 : intT Tryd.prog 1 = none := by kernel_rfl
@[go_sem] theorem ty_bo1 : boolT Tryd.prog 1 = false := by kernel_rfl
@[go_sem] theorem ty_st1 : strT Tryd.prog 1 = false := by kernel_rfl
@[go_sem] theorem ty_sz2 : szT Tryd.prog 2 = some 1 := by kernel_rfl
@[go_sem] theorem ty_by2 : byT Tryd.prog 2 = some 8 := by kernel_rfl
@[go_sem] theorem ty_ag2 : aggT Tryd.prog 2 = some false := by kernel_rfl
@[go_sem] theorem ty_un2 : (Tryd.prog.underlying 2).isSome = true := by kernel_rfl
@[go_sem] theorem ty_ze2 : zeT Tryd.prog 2 = some [.data (.int .i64 0)] := by kernel_rfl
@[go_sem] theorem ty_zl2 : zlT Tryd.prog 2 = some 1 := by kernel_rfl
@[go_sem] theorem ty_sl2 : sliceT Tryd.prog 2 = none := by kernel_rfl
@[go_sem] theorem ty_ar2 : arrT Tryd.prog 2 = none := by kernel_rfl
@[go_sem] theorem ty_in2 : intT Tryd.prog 2 = some .i64 := by kernel_rfl
@[go_sem] theorem ty_bo2 : boolT Tryd.prog 2 = false := by kernel_rfl
@[go_sem] theorem ty_st2 : strT Tryd.prog 2 = false := by kernel_rfl
@[go_sem] theorem ty_sz3 : szT Tryd.prog 3 = some 1 := by kernel_rfl
@[go_sem] theorem ty_by3 : byT Tryd.prog 3 = some 8 := by kernel_rfl
@[go_sem] theorem ty_ag3 : aggT Tryd.prog 3 = some false := by kernel_rfl
@[go_sem] theorem ty_un3 : (Tryd.prog.underlying 3).isSome = true := by kernel_rfl
@[go_sem] theorem ty_ze3 : zeT Tryd.prog 3 = some [.data (.int .i64 0)] := by kernel_rfl
@[go_sem] theorem ty_zl3 : zlT Tryd.prog 3 = some 1 := by kernel_rfl
@[go_sem] theorem ty_sl3 : sliceT Tryd.prog 3 = none := by kernel_rfl
@[go_sem] theorem ty_ar3 : arrT Tryd.prog 3 = none := by kernel_rfl
@[go_sem] theorem ty_in3 : intT Tryd.prog 3 = some .i64 := by kernel_rfl
@[go_sem] theorem ty_bo3 : boolT Tryd.prog 3 = false := by kernel_rfl
@[go_sem] theorem ty_st3 : strT Tryd.prog 3 = false := by kernel_rfl
@[go_sem] theorem ty_sz4 : szT Tryd.prog 4 = some 1 := by kernel_rfl
@[go_sem] theorem ty_by4 : byT Tryd.prog 4 = some 1 := by kernel_rfl
@[go_sem] theorem ty_ag4 : aggT Tryd.prog 4 = some false := by kernel_rfl
@[go_sem] theorem ty_un4 : (Tryd.prog.underlying 4).isSome = true := by kernel_rfl
@[go_sem] theorem ty_ze4 : zeT Tryd.prog 4 = some [.data (.bool false)] := by kernel_rfl
@[go_sem] theorem ty_zl4 : zlT Tryd.prog 4 = some 1 := by kernel_rfl
@[go_sem] theorem ty_sl4 : sliceT Tryd.prog 4 = none := by kernel_rfl
@[go_sem] theorem ty_ar4 : arrT Tryd.prog 4 = none := by kernel_rfl
@[go_sem] theorem ty_in4 : intT Tryd.prog 4 = none := by kernel_rfl
@[go_sem] theorem ty_bo4 : boolT Tryd.prog 4 = true := by kernel_rfl
@[go_sem] theorem ty_st4 : strT Tryd.prog 4 = false := by kernel_rfl
@[go_sem] theorem ty_sz5 : szT Tryd.prog 5 = some 1 := by kernel_rfl
@[go_sem] theorem ty_by5 : byT Tryd.prog 5 = some 1 := by kernel_rfl
@[go_sem] theorem ty_ag5 : aggT Tryd.prog 5 = some false := by kernel_rfl
@[go_sem] theorem ty_un5 : (Tryd.prog.underlying 5).isSome = true := by kernel_rfl
@[go_sem] theorem ty_ze5 : zeT Tryd.prog 5 = some [.data (.int .u8 0)] := by kernel_rfl
@[go_sem] theorem ty_zl5 : zlT Tryd.prog 5 = some 1 := by kernel_rfl
@[go_sem] theorem ty_sl5 : sliceT Tryd.prog 5 = none := by kernel_rfl
@[go_sem] theorem ty_ar5 : arrT Tryd.prog 5 = none := by kernel_rfl
@[go_sem] theorem ty_in5 : intT Tryd.prog 5 = some .u8 := by kernel_rfl
@[go_sem] theorem ty_bo5 : boolT Tryd.prog 5 = false := by kernel_rfl
@[go_sem] theorem ty_st5 : strT Tryd.prog 5 = false := by kernel_rfl
@[go_sem] theorem ty_sz9 : szT Tryd.prog 9 = some 1 := by kernel_rfl
@[go_sem] theorem ty_by9 : byT Tryd.prog 9 = some 16 := by kernel_rfl
@[go_sem] theorem ty_ag9 : aggT Tryd.prog 9 = some false := by kernel_rfl
@[go_sem] theorem ty_un9 : (Tryd.prog.underlying 9).isSome = true := by kernel_rfl
@[go_sem] theorem ty_ze9 : zeT Tryd.prog 9 = some [.data (.str ByteArray.empty)] := by kernel_rfl
@[go_sem] theorem ty_zl9 : zlT Tryd.prog 9 = some 1 := by kernel_rfl
@[go_sem] theorem ty_sl9 : sliceT Tryd.prog 9 = none := by kernel_rfl
@[go_sem] theorem ty_ar9 : arrT Tryd.prog 9 = none := by kernel_rfl
@[go_sem] theorem ty_in9 : intT Tryd.prog 9 = none := by kernel_rfl
@[go_sem] theorem ty_bo9 : boolT Tryd.prog 9 = false := by kernel_rfl
@[go_sem] theorem ty_st9 : strT Tryd.prog 9 = true := by kernel_rfl
@[go_sem] theorem ty_sz12 : szT Tryd.prog 12 = some 1 := by kernel_rfl
@[go_sem] theorem ty_by12 : byT Tryd.prog 12 = some 8 := by kernel_rfl
@[go_sem] theorem ty_ag12 : aggT Tryd.prog 12 = some false := by kernel_rfl
@[go_sem] theorem ty_un12 : (Tryd.prog.underlying 12).isSome = true := by kernel_rfl
@[go_sem] theorem ty_ze12 : zeT Tryd.prog 12 = some [.data (.int .u64 0)] := by kernel_rfl
@[go_sem] theorem ty_zl12 : zlT Tryd.prog 12 = some 1 := by kernel_rfl
@[go_sem] theorem ty_sl12 : sliceT Tryd.prog 12 = none := by kernel_rfl
@[go_sem] theorem ty_ar12 : arrT Tryd.prog 12 = none := by kernel_rfl
@[go_sem] theorem ty_in12 : intT Tryd.prog 12 = some .u64 := by kernel_rfl
@[go_sem] theorem ty_bo12 : boolT Tryd.prog 12 = false := by kernel_rfl
@[go_sem] theorem ty_st12 : strT Tryd.prog 12 = false := by kernel_rfl
@[go_sem] theorem ty_sz20 : szT Tryd.prog 20 = some 1 := by kernel_rfl
@[go_sem] theorem ty_by20 : byT Tryd.prog 20 = some 16 := by kernel_rfl
@[go_sem] theorem ty_ag20 : aggT Tryd.prog 20 = some false := by kernel_rfl
@[go_sem] theorem ty_un20 : (Tryd.prog.underlying 20).isSome = true := by kernel_rfl
@[go_sem] theorem ty_ze20 : zeT Tryd.prog 20 = some [.data .nili] := by kernel_rfl
@[go_sem] theorem ty_zl20 : zlT Tryd.prog 20 = some 1 := by kernel_rfl
@[go_sem] theorem ty_sl20 : sliceT Tryd.prog 20 = none := by kernel_rfl
@[go_sem] theorem ty_ar20 : arrT Tryd.prog 20 = none := by kernel_rfl
@[go_sem] theorem ty_in20 : intT Tryd.prog 20 = none := by kernel_rfl
@[go_sem] theorem ty_bo20 : boolT Tryd.prog 20 = false := by kernel_rfl
@[go_sem] theorem ty_st20 : strT Tryd.prog 20 = false := by kernel_rfl
@[go_sem] theorem ty_sz21 : szT Tryd.prog 21 = some 1 := by kernel_rfl
@[go_sem] theorem ty_by21 : byT Tryd.prog 21 = some 4 := by kernel_rfl
@[go_sem] theorem ty_ag21 : aggT Tryd.prog 21 = some false := by kernel_rfl
@[go_sem] theorem ty_un21 : (Tryd.prog.underlying 21).isSome = true := by kernel_rfl
@[go_sem] theorem ty_ze21 : zeT Tryd.prog 21 = some [.data (.int .i32 0)] := by kernel_rfl
@[go_sem] theorem ty_zl21 : zlT Tryd.prog 21 = some 1 := by kernel_rfl
@[go_sem] theorem ty_sl21 : sliceT Tryd.prog 21 = none := by kernel_rfl
@[go_sem] theorem ty_ar21 : arrT Tryd.prog 21 = none := by kernel_rfl
@[go_sem] theorem ty_in21 : intT Tryd.prog 21 = some .i32 := by kernel_rfl
@[go_sem] theorem ty_bo21 : boolT Tryd.prog 21 = false := by kernel_rfl
@[go_sem] theorem ty_st21 : strT Tryd.prog 21 = false := by kernel_rfl
@[go_sem] theorem ty_sz22 : szT Tryd.prog 22 = some 1 := by kernel_rfl
@[go_sem] theorem ty_by22 : byT Tryd.prog 22 = some 24 := by kernel_rfl
@[go_sem] theorem ty_ag22 : aggT Tryd.prog 22 = some false := by kernel_rfl
@[go_sem] theorem ty_un22 : (Tryd.prog.underlying 22).isSome = true := by kernel_rfl
@[go_sem] theorem ty_ze22 : zeT Tryd.prog 22 = some [.emp 0] := by kernel_rfl
@[go_sem] theorem ty_zl22 : zlT Tryd.prog 22 = some 1 := by kernel_rfl
@[go_sem] theorem ty_sl22 : sliceT Tryd.prog 22 = some 5 := by kernel_rfl
@[go_sem] theorem ty_ar22 : arrT Tryd.prog 22 = none := by kernel_rfl
@[go_sem] theorem ty_in22 : intT Tryd.prog 22 = none := by kernel_rfl
@[go_sem] theorem ty_bo22 : boolT Tryd.prog 22 = false := by kernel_rfl
@[go_sem] theorem ty_st22 : strT Tryd.prog 22 = false := by kernel_rfl
@[go_sem] theorem ty_sz23 : szT Tryd.prog 23 = some 1 := by kernel_rfl
@[go_sem] theorem ty_by23 : byT Tryd.prog 23 = some 4 := by kernel_rfl
@[go_sem] theorem ty_ag23 : aggT Tryd.prog 23 = some false := by kernel_rfl
@[go_sem] theorem ty_un23 : (Tryd.prog.underlying 23).isSome = true := by kernel_rfl
@[go_sem] theorem ty_ze23 : zeT Tryd.prog 23 = some [.data (.int .u32 0)] := by kernel_rfl
@[go_sem] theorem ty_zl23 : zlT Tryd.prog 23 = some 1 := by kernel_rfl
@[go_sem] theorem ty_sl23 : sliceT Tryd.prog 23 = none := by kernel_rfl
@[go_sem] theorem ty_ar23 : arrT Tryd.prog 23 = none := by kernel_rfl
@[go_sem] theorem ty_in23 : intT Tryd.prog 23 = some .u32 := by kernel_rfl
@[go_sem] theorem ty_bo23 : boolT Tryd.prog 23 = false := by kernel_rfl
@[go_sem] theorem ty_st23 : strT Tryd.prog 23 = false := by kernel_rfl
@[go_sem] theorem ty_sz24 : szT Tryd.prog 24 = some 4 := by kernel_rfl
@[go_sem] theorem ty_by24 : byT Tryd.prog 24 = some 16 := by kernel_rfl
@[go_sem] theorem ty_ag24 : aggT Tryd.prog 24 = some true := by kernel_rfl
@[go_sem] theorem ty_un24 : (Tryd.prog.underlying 24).isSome = true := by kernel_rfl
@[go_sem] theorem ty_ze24 : zeT Tryd.prog 24 = some [.data (.int .u32 0), .data (.int .u32 0), .data (.int .u32 0), .data (.int .u32 0)] := by kernel_rfl
@[go_sem] theorem ty_zl24 : zlT Tryd.prog 24 = some 4 := by kernel_rfl
@[go_sem] theorem ty_sl24 : sliceT Tryd.prog 24 = none := by kernel_rfl
@[go_sem] theorem ty_ar24 : arrT Tryd.prog 24 = some (4, 23) := by kernel_rfl
@[go_sem] theorem ty_in24 : intT Tryd.prog 24 = none := by kernel_rfl
@[go_sem] theorem ty_bo24 : boolT Tryd.prog 24 = false := by kernel_rfl
@[go_sem] theorem ty_st24 : strT Tryd.prog 24 = false := by kernel_rfl
@[go_sem] theorem ty_sz25 : szT Tryd.prog 25 = some 64 := by kernel_rfl
@[go_sem] theorem ty_by25 : byT Tryd.prog 25 = some 64 := by kernel_rfl
@[go_sem] theorem ty_ag25 : aggT Tryd.prog 25 = some true := by kernel_rfl
@[go_sem] theorem ty_un25 : (Tryd.prog.underlying 25).isSome = true := by kernel_rfl
@[go_sem] theorem ty_ze25 : zeT Tryd.prog 25 = some [.data (.int .u8 0), .data (.int .u8 0), .data (.int .u8 0), .data (.int .u8 0), .data (.int .u8 0), .data (.int .u8 0), .data (.int .u8 0), .data (.int .u8 0), .data (.int .u8 0), .data (.int .u8 0), .data (.int .u8 0), .data (.int .u8 0), .data (.int .u8 0), .data (.int .u8 0), .data (.int .u8 0), .data (.int .u8 0), .data (.int .u8 0), .data (.int .u8 0), .data (.int .u8 0), .data (.int .u8 0), .data (.int .u8 0), .data (.int .u8 0), .data (.int .u8 0), .data (.int .u8 0), .data (.int .u8 0), .data (.int .u8 0), .data (.int .u8 0), .data (.int .u8 0), .data (.int .u8 0), .data (.int .u8 0), .data (.int .u8 0), .data (.int .u8 0), .data (.int .u8 0), .data (.int .u8 0), .data (.int .u8 0), .data (.int .u8 0), .data (.int .u8 0), .data (.int .u8 0), .data (.int .u8 0), .data (.int .u8 0), .data (.int .u8 0), .data (.int .u8 0), .data (.int .u8 0), .data (.int .u8 0), .data (.int .u8 0), .data (.int .u8 0), .data (.int .u8 0), .data (.int .u8 0), .data (.int .u8 0), .data (.int .u8 0), .data (.int .u8 0), .data (.int .u8 0), .data (.int .u8 0), .data (.int .u8 0), .data (.int .u8 0), .data (.int .u8 0), .data (.int .u8 0), .data (.int .u8 0), .data (.int .u8 0), .data (.int .u8 0), .data (.int .u8 0), .data (.int .u8 0), .data (.int .u8 0), .data (.int .u8 0)] := by kernel_rfl
@[go_sem] theorem ty_zl25 : zlT Tryd.prog 25 = some 64 := by kernel_rfl
@[go_sem] theorem ty_sl25 : sliceT Tryd.prog 25 = none := by kernel_rfl
@[go_sem] theorem ty_ar25 : arrT Tryd.prog 25 = some (64, 5) := by kernel_rfl
@[go_sem] theorem ty_in25 : intT Tryd.prog 25 = none := by kernel_rfl
@[go_sem] theorem ty_bo25 : boolT Tryd.prog 25 = false := by kernel_rfl
@[go_sem] theorem ty_st25 : strT Tryd.prog 25 = false := by kernel_rfl
@[go_sem] theorem ty_sz26 : szT Tryd.prog 26 = some 16 := by kernel_rfl
@[go_sem] theorem ty_by26 : byT Tryd.prog 26 = some 16 := by kernel_rfl
@[go_sem] theorem ty_ag26 : aggT Tryd.prog 26 = some true := by kernel_rfl
@[go_sem] theorem ty_un26 : (Tryd.prog.underlying 26).isSome = true := by kernel_rfl
@[go_sem] theorem ty_ze26 : zeT Tryd.prog 26 = some [.data (.int .u8 0), .data (.int .u8 0), .data (.int .u8 0), .data (.int .u8 0), .data (.int .u8 0), .data (.int .u8 0), .data (.int .u8 0), .data (.int .u8 0), .data (.int .u8 0), .data (.int .u8 0), .data (.int .u8 0), .data (.int .u8 0), .data (.int .u8 0), .data (.int .u8 0), .data (.int .u8 0), .data (.int .u8 0)] := by kernel_rfl
@[go_sem] theorem ty_zl26 : zlT Tryd.prog 26 = some 16 := by kernel_rfl
@[go_sem] theorem ty_sl26 : sliceT Tryd.prog 26 = none := by kernel_rfl
@[go_sem] theorem ty_ar26 : arrT Tryd.prog 26 = some (16, 5) := by kernel_rfl
@[go_sem] theorem ty_in26 : intT Tryd.prog 26 = none := by kernel_rfl
@[go_sem] theorem ty_bo26 : boolT Tryd.prog 26 = false := by kernel_rfl
@[go_sem] theorem ty_st26 : strT Tryd.prog 26 = false := by kernel_rfl
@[go_sem] theorem ty_sz27 : szT Tryd.prog 27 = some 85 := by kernel_rfl
@[go_sem] theorem ty_by27 : byT Tryd.prog 27 = some 120 := by kernel_rfl
@[go_sem] theorem ty_ag27 : aggT Tryd.prog 27 = some true := by kernel_rfl
@[go_sem] theorem ty_un27 : (Tryd.prog.underlying 27).isSome = true := by kernel_rfl
@[go_sem] theorem ty_ze27 : zeT Tryd.prog 27 = some [.emp 0, .data (.int .u32 0), .data (.int .u32 0), .data (.int .u32 0), .data (.int .u32 0), .data (.int .u8 0), .data (.int .u8 0), .data (.int .u8 0), .data (.int .u8 0), .data (.int .u8 0), .data (.int .u8 0), .data (.int .u8 0), .data (.int .u8 0), .data (.int .u8 0), .data (.int .u8 0), .data (.int .u8 0), .data (.int .u8 0), .data (.int .u8 0), .data (.int .u8 0), .data (.int .u8 0), .data (.int .u8 0), .data (.int .u8 0), .data (.int .u8 0), .data (.int .u8 0), .data (.int .u8 0), .data (.int .u8 0), .data (.int .u8 0), .data (.int .u8 0), .data (.int .u8 0), .data (.int .u8 0), .data (.int .u8 0), .data (.int .u8 0), .data (.int .u8 0), .data (.int .u8 0), .data (.int .u8 0), .data (.int .u8 0), .data (.int .u8 0), .data (.int .u8 0), .data (.int .u8 0), .data (.int .u8 0), .data (.int .u8 0), .data (.int .u8 0), .data (.int .u8 0), .data (.int .u8 0), .data (.int .u8 0), .data (.int .u8 0), .data (.int .u8 0), .data (.int .u8 0), .data (.int .u8 0), .data (.int .u8 0), .data (.int .u8 0), .data (.int .u8 0), .data (.int .u8 0), .data (.int .u8 0), .data (.int .u8 0), .data (.int .u8 0), .data (.int .u8 0), .data (.int .u8 0), .data (.int .u8 0), .data (.int .u8 0), .data (.int .u8 0), .data (.int .u8 0), .data (.int .u8 0), .data (.int .u8 0), .data (.int .u8 0), .data (.int .u8 0), .data (.int .u8 0), .data (.int .u8 0), .data (.int .u8 0), .data (.int .u8 0), .data (.int .u8 0), .data (.int .u8 0), .data (.int .u8 0), .data (.int .u8 0), .data (.int .u8 0), .data (.int .u8 0), .data (.int .u8 0), .data (.int .u8 0), .data (.int .u8 0), .data (.int .u8 0), .data (.int .u8 0), .data (.int .u8 0), .data (.int .u8 0), .data (.int .u8 0), .data (.int .u8 0)] := by kernel_rfl
@[go_sem] theorem ty_zl27 : zlT Tryd.prog 27 = some 85 := by kernel_rfl
@[go_sem] theorem ty_sl27 : sliceT Tryd.prog 27 = none := by kernel_rfl
@[go_sem] theorem ty_ar27 : arrT Tryd.prog 27 = none := by kernel_rfl
@[go_sem] theorem ty_in27 : intT Tryd.prog 27 = none := by kernel_rfl
@[go_sem] theorem ty_bo27 : boolT Tryd.prog 27 = false := by kernel_rfl
@[go_sem] theorem ty_st27 : strT Tryd.prog 27 = false := by kernel_rfl
@[go_sem] theorem ty_fl27_0 : fldT Tryd.prog 27 0 = some (0, 22) := by kernel_rfl
@[go_sem] theorem ty_fl27_1 : fldT Tryd.prog 27 1 = some (1, 24) := by kernel_rfl
@[go_sem] theorem ty_fl27_2 : fldT Tryd.prog 27 2 = some (5, 25) := by kernel_rfl
@[go_sem] theorem ty_fl27_3 : fldT Tryd.prog 27 3 = some (69, 26) := by kernel_rfl
@[go_sem] theorem ty_pl27 : plT Tryd.prog 27 = some [(0, 1), (1, 4), (5, 64), (69, 16)] := by kernel_rfl
@[go_sem] theorem ty_sz28 : szT Tryd.prog 28 = some 85 := by kernel_rfl
@[go_sem] theorem ty_by28 : byT Tryd.prog 28 = some 120 := by kernel_rfl
@[go_sem] theorem ty_ag28 : aggT Tryd.prog 28 = some true := by kernel_rfl
@[go_sem] theorem ty_un28 : (Tryd.prog.underlying 28).isSome = true := by kernel_rfl
@[go_sem] theorem ty_ze28 : zeT Tryd.prog 28 = some [.emp 0, .data (.int .u32 0), .data (.int .u32 0), .data (.int .u32 0), .data (.int .u32 0), .data (.int .u8 0), .data (.int .u8 0), .data (.int .u8 0), .data (.int .u8 0), .data (.int .u8 0), .data (.int .u8 0), .data (.int .u8 0), .data (.int .u8 0), .data (.int .u8 0), .data (.int .u8 0), .data (.int .u8 0), .data (.int .u8 0), .data (.int .u8 0), .data (.int .u8 0), .data (.int .u8 0), .data (.int .u8 0), .data (.int .u8 0), .data (.int .u8 0), .data (.int .u8 0), .data (.int .u8 0), .data (.int .u8 0), .data (.int .u8 0), .data (.int .u8 0), .data (.int .u8 0), .data (.int .u8 0), .data (.int .u8 0), .data (.int .u8 0), .data (.int .u8 0), .data (.int .u8 0), .data (.int .u8 0), .data (.int .u8 0), .data (.int .u8 0), .data (.int .u8 0), .data (.int .u8 0), .data (.int .u8 0), .data (.int .u8 0), .data (.int .u8 0), .data (.int .u8 0), .data (.int .u8 0), .data (.int .u8 0), .data (.int .u8 0), .data (.int .u8 0), .data (.int .u8 0), .data (.int .u8 0), .data (.int .u8 0), .data (.int .u8 0), .data (.int .u8 0), .data (.int .u8 0), .data (.int .u8 0), .data (.int .u8 0), .data (.int .u8 0), .data (.int .u8 0), .data (.int .u8 0), .data (.int .u8 0), .data (.int .u8 0), .data (.int .u8 0), .data (.int .u8 0), .data (.int .u8 0), .data (.int .u8 0), .data (.int .u8 0), .data (.int .u8 0), .data (.int .u8 0), .data (.int .u8 0), .data (.int .u8 0), .data (.int .u8 0), .data (.int .u8 0), .data (.int .u8 0), .data (.int .u8 0), .data (.int .u8 0), .data (.int .u8 0), .data (.int .u8 0), .data (.int .u8 0), .data (.int .u8 0), .data (.int .u8 0), .data (.int .u8 0), .data (.int .u8 0), .data (.int .u8 0), .data (.int .u8 0), .data (.int .u8 0), .data (.int .u8 0)] := by kernel_rfl
@[go_sem] theorem ty_zl28 : zlT Tryd.prog 28 = some 85 := by kernel_rfl
@[go_sem] theorem ty_sl28 : sliceT Tryd.prog 28 = none := by kernel_rfl
@[go_sem] theorem ty_ar28 : arrT Tryd.prog 28 = none := by kernel_rfl
@[go_sem] theorem ty_in28 : intT Tryd.prog 28 = none := by kernel_rfl
@[go_sem] theorem ty_bo28 : boolT Tryd.prog 28 = false := by kernel_rfl
@[go_sem] theorem ty_st28 : strT Tryd.prog 28 = false := by kernel_rfl
@[go_sem] theorem ty_fl28_0 : fldT Tryd.prog 28 0 = some (0, 22) := by kernel_rfl
@[go_sem] theorem ty_fl28_1 : fldT Tryd.prog 28 1 = some (1, 24) := by kernel_rfl
@[go_sem] theorem ty_fl28_2 : fldT Tryd.prog 28 2 = some (5, 25) := by kernel_rfl
@[go_sem] theorem ty_fl28_3 : fldT Tryd.prog 28 3 = some (69, 26) := by kernel_rfl
@[go_sem] theorem ty_pl28 : plT Tryd.prog 28 = some [(0, 1), (1, 4), (5, 64), (69, 16)] := by kernel_rfl
@[go_sem] theorem ty_sz29 : szT Tryd.prog 29 = some 1 := by kernel_rfl
@[go_sem] theorem ty_by29 : byT Tryd.prog 29 = some 8 := by kernel_rfl
@[go_sem] theorem ty_ag29 : aggT Tryd.prog 29 = some false := by kernel_rfl
@[go_sem] theorem ty_un29 : (Tryd.prog.underlying 29).isSome = true := by kernel_rfl
@[go_sem] theorem ty_ze29 : zeT Tryd.prog 29 = some [.data .nilf] := by kernel_rfl
@[go_sem] theorem ty_zl29 : zlT Tryd.prog 29 = some 1 := by kernel_rfl
@[go_sem] theorem ty_sl29 : sliceT Tryd.prog 29 = none := by kernel_rfl
@[go_sem] theorem ty_ar29 : arrT Tryd.prog 29 = none := by kernel_rfl
@[go_sem] theorem ty_in29 : intT Tryd.prog 29 = none := by kernel_rfl
@[go_sem] theorem ty_bo29 : boolT Tryd.prog 29 = false := by kernel_rfl
@[go_sem] theorem ty_st29 : strT Tryd.prog 29 = false := by kernel_rfl
@[go_sem] theorem ty_sz30 : szT Tryd.prog 30 = some 1 := by kernel_rfl
@[go_sem] theorem ty_by30 : byT Tryd.prog 30 = some 8 := by kernel_rfl
@[go_sem] theorem ty_ag30 : aggT Tryd.prog 30 = some false := by kernel_rfl
@[go_sem] theorem ty_un30 : (Tryd.prog.underlying 30).isSome = true := by kernel_rfl
@[go_sem] theorem ty_ze30 : zeT Tryd.prog 30 = some [.data .nilf] := by kernel_rfl
@[go_sem] theorem ty_zl30 : zlT Tryd.prog 30 = some 1 := by kernel_rfl
@[go_sem] theorem ty_sl30 : sliceT Tryd.prog 30 = none := by kernel_rfl
@[go_sem] theorem ty_ar30 : arrT Tryd.prog 30 = none := by kernel_rfl
@[go_sem] theorem ty_in30 : intT Tryd.prog 30 = none := by kernel_rfl
@[go_sem] theorem ty_bo30 : boolT Tryd.prog 30 = false := by kernel_rfl
@[go_sem] theorem ty_st30 : strT Tryd.prog 30 = false := by kernel_rfl
@[go_sem] theorem ty_sz31 : szT Tryd.prog 31 = some 1 := by kernel_rfl
@[go_sem] theorem ty_by31 : byT Tryd.prog 31 = some 8 := by kernel_rfl
@[go_sem] theorem ty_ag31 : aggT Tryd.prog 31 = some false := by kernel_rfl
@[go_sem] theorem ty_un31 : (Tryd.prog.underlying 31).isSome = true := by kernel_rfl
@[go_sem] theorem ty_ze31 : zeT Tryd.prog 31 = some [.data .nilf] := by kernel_rfl
@[go_sem] theorem ty_zl31 : zlT Tryd.prog 31 = some 1 := by kernel_rfl
@[go_sem] theorem ty_sl31 : sliceT Tryd.prog 31 = none := by kernel_rfl
@[go_sem] theorem ty_ar31 : arrT Tryd.prog 31 = none := by kernel_rfl
@[go_sem] theorem ty_in31 : intT Tryd.prog 31 = none := by kernel_rfl
@[go_sem] theorem ty_bo31 : boolT Tryd.prog 31 = false := by kernel_rfl
@[go_sem] theorem ty_st31 : strT Tryd.prog 31 = false := by kernel_rfl
@[go_sem] theorem ty_sz32 : szT Tryd.prog 32 = some 1 := by kernel_rfl
@[go_sem] theorem ty_by32 : byT Tryd.prog 32 = some 8 := by kernel_rfl
@[go_sem] theorem ty_ag32 : aggT Tryd.prog 32 = some false := by kernel_rfl
@[go_sem] theorem ty_un32 : (Tryd.prog.underlying 32).isSome = true := by kernel_rfl
@[go_sem] theorem ty_ze32 : zeT Tryd.prog 32 = some [.data .nilf] := by kernel_rfl
@[go_sem] theorem ty_zl32 : zlT Tryd.prog 32 = some 1 := by kernel_rfl
@[go_sem] theorem ty_sl32 : sliceT Tryd.prog 32 = none := by kernel_rfl
@[go_sem] theorem ty_ar32 : arrT Tryd.prog 32 = none := by kernel_rfl
@[go_sem] theorem ty_in32 : intT Tryd.prog 32 = none := by kernel_rfl
@[go_sem] theorem ty_bo32 : boolT Tryd.prog 32 = false := by kernel_rfl
@[go_sem] theorem ty_st32 : strT Tryd.prog 32 = false := by kernel_rfl
@[go_sem] theorem ty_sz33 : szT Tryd.prog 33 = some 1 := by kernel_rfl
@[go_sem] theorem ty_by33 : byT Tryd.prog 33 = some 8 := by kernel_rfl
@[go_sem] theorem ty_ag33 : aggT Tryd.prog 33 = some false := by kernel_rfl
@[go_sem] theorem ty_un33 : (Tryd.prog.underlying 33).isSome = true := by kernel_rfl
@[go_sem] theorem ty_ze33 : zeT Tryd.prog 33 = some [.data .nilf] := by kernel_rfl
@[go_sem] theorem ty_zl33 : zlT Tryd.prog 33 = some 1 := by kernel_rfl
@[go_sem] theorem ty_sl33 : sliceT Tryd.prog 33 = none := by kernel_rfl
@[go_sem] theorem ty_ar33 : arrT Tryd.prog 33 = none := by kernel_rfl
@[go_sem] theorem ty_in33 : intT Tryd.prog 33 = none := by kernel_rfl
@[go_sem] theorem ty_bo33 : boolT Tryd.prog 33 = false := by kernel_rfl
@[go_sem] theorem ty_st33 : strT Tryd.prog 33 = false := by kernel_rfl
@[go_sem] theorem ty_sz34 : szT Tryd.prog 34 = some 1 := by kernel_rfl
@[go_sem] theorem ty_by34 : byT Tryd.prog 34 = some 8 := by kernel_rfl
@[go_sem] theorem ty_ag34 : aggT Tryd.prog 34 = some false := by kernel_rfl
@[go_sem] theorem ty_un34 : (Tryd.prog.underlying 34).isSome = true := by kernel_rfl
@[go_sem] theorem ty_ze34 : zeT Tryd.prog 34 = some [.data .nilf] := by kernel_rfl
@[go_sem] theorem ty_zl34 : zlT Tryd.prog 34 = some 1 := by kernel_rfl
@[go_sem] theorem ty_sl34 : sliceT Tryd.prog 34 = none := by kernel_rfl
@[go_sem] theorem ty_ar34 : arrT Tryd.prog 34 = none := by kernel_rfl
@[go_sem] theorem ty_in34 : intT Tryd.prog 34 = none := by kernel_rfl
@[go_sem] theorem ty_bo34 : boolT Tryd.prog 34 = false := by kernel_rfl
@[go_sem] theorem ty_st34 : strT Tryd.prog 34 = false := by kernel_rfl
@[go_sem] theorem ty_sz35 : szT Tryd.prog 35 = some 1 := by kernel_rfl
@[go_sem] theorem ty_by35 : byT Tryd.prog 35 = some 8 := by kernel_rfl
@[go_sem] theorem ty_ag35 : aggT Tryd.prog 35 = some false := by kernel_rfl
@[go_sem] theorem ty_un35 : (Tryd.prog.underlying 35).isSome = true := by kernel_rfl
@[go_sem] theorem ty_ze35 : zeT Tryd.prog 35 = some [.data .nilf] := by kernel_rfl
@[go_sem] theorem ty_zl35 : zlT Tryd.prog 35 = some 1 := by kernel_rfl
@[go_sem] theorem ty_sl35 : sliceT Tryd.prog 35 = none := by kernel_rfl
@[go_sem] theorem ty_ar35 : arrT Tryd.prog 35 = none := by kernel_rfl
@[go_sem] theorem ty_in35 : intT Tryd.prog 35 = none := by kernel_rfl
@[go_sem] theorem ty_bo35 : boolT Tryd.prog 35 = false := by kernel_rfl
@[go_sem] theorem ty_st35 : strT Tryd.prog 35 = false := by kernel_rfl
@[go_sem] theorem ty_sz36 : szT Tryd.prog 36 = some 1 := by kernel_rfl
@[go_sem] theorem ty_by36 : byT Tryd.prog 36 = some 8 := by kernel_rfl
@[go_sem] theorem ty_ag36 : aggT Tryd.prog 36 = some false := by kernel_rfl
@[go_sem] theorem ty_un36 : (Tryd.prog.underlying 36).isSome = true := by kernel_rfl
@[go_sem] theorem ty_ze36 : zeT Tryd.prog 36 = some [.data .nilf] := by kernel_rfl
@[go_sem] theorem ty_zl36 : zlT Tryd.prog 36 = some 1 := by kernel_rfl
@[go_sem] theorem ty_sl36 : sliceT Tryd.prog 36 = none := by kernel_rfl
@[go_sem] theorem ty_ar36 : arrT Tryd.prog 36 = none := by kernel_rfl
@[go_sem] theorem ty_in36 : intT Tryd.prog 36 = none := by kernel_rfl
@[go_sem] theorem ty_bo36 : boolT Tryd.prog 36 = false := by kernel_rfl
@[go_sem] theorem ty_st36 : strT Tryd.prog 36 = false := by kernel_rfl
@[go_sem] theorem ty_sz37 : szT Tryd.prog 37 = some 1 := by kernel_rfl
@[go_sem] theorem ty_by37 : byT Tryd.prog 37 = some 8 := by kernel_rfl
@[go_sem] theorem ty_ag37 : aggT Tryd.prog 37 = some false := by kernel_rfl
@[go_sem] theorem ty_un37 : (Tryd.prog.underlying 37).isSome = true := by kernel_rfl
@[go_sem] theorem ty_ze37 : zeT Tryd.prog 37 = some [.data .nilf] := by kernel_rfl
@[go_sem] theorem ty_zl37 : zlT Tryd.prog 37 = some 1 := by kernel_rfl
@[go_sem] theorem ty_sl37 : sliceT Tryd.prog 37 = none := by kernel_rfl
@[go_sem] theorem ty_ar37 : arrT Tryd.prog 37 = none := by kernel_rfl
@[go_sem] theorem ty_in37 : intT Tryd.prog 37 = none := by kernel_rfl
@[go_sem] theorem ty_bo37 : boolT Tryd.prog 37 = false := by kernel_rfl
@[go_sem] theorem ty_st37 : strT Tryd.prog 37 = false := by kernel_rfl
@[go_sem] theorem ty_sz38 : szT Tryd.prog 38 = some 1 := by kernel_rfl
@[go_sem] theorem ty_by38 : byT Tryd.prog 38 = some 2 := by kernel_rfl
@[go_sem] theorem ty_ag38 : aggT Tryd.prog 38 = some false := by kernel_rfl
@[go_sem] theorem ty_un38 : (Tryd.prog.underlying 38).isSome = true := by kernel_rfl
@[go_sem] theorem ty_ze38 : zeT Tryd.prog 38 = some [.data (.int .u16 0)] := by kernel_rfl
@[go_sem] theorem ty_zl38 : zlT Tryd.prog 38 = some 1 := by kernel_rfl
@[go_sem] theorem ty_sl38 : sliceT Tryd.prog 38 = none := by kernel_rfl
@[go_sem] theorem ty_ar38 : arrT Tryd.prog 38 = none := by kernel_rfl
@[go_sem] theorem ty_in38 : intT Tryd.prog 38 = some .u16 := by kernel_rfl
@[go_sem] theorem ty_bo38 : boolT Tryd.prog 38 = false := by kernel_rfl
@[go_sem] theorem ty_st38 : strT Tryd.prog 38 = false := by kernel_rfl
@[go_sem] theorem ty_sz39 : szT Tryd.prog 39 = some 1 := by kernel_rfl
@[go_sem] theorem ty_by39 : byT Tryd.prog 39 = some 8 := by kernel_rfl
@[go_sem] theorem ty_ag39 : aggT Tryd.prog 39 = some false := by kernel_rfl
@[go_sem] theorem ty_un39 : (Tryd.prog.underlying 39).isSome = true := by kernel_rfl
@[go_sem] theorem ty_ze39 : zeT Tryd.prog 39 = some [.data .nilf] := by kernel_rfl
@[go_sem] theorem ty_zl39 : zlT Tryd.prog 39 = some 1 := by kernel_rfl
@[go_sem] theorem ty_sl39 : sliceT Tryd.prog 39 = none := by kernel_rfl
@[go_sem] theorem ty_ar39 : arrT Tryd.prog 39 = none := by kernel_rfl
@[go_sem] theorem ty_in39 : intT Tryd.prog 39 = none := by kernel_rfl
@[go_sem] theorem ty_bo39 : boolT Tryd.prog 39 = false := by kernel_rfl
@[go_sem] theorem ty_st39 : strT Tryd.prog 39 = false := by kernel_rfl
@[go_sem] theorem ty_sz40 : szT Tryd.prog 40 = some 1 := by kernel_rfl
@[go_sem] theorem ty_by40 : byT Tryd.prog 40 = some 8 := by kernel_rfl
@[go_sem] theorem ty_ag40 : aggT Tryd.prog 40 = some false := by kernel_rfl
@[go_sem] theorem ty_un40 : (Tryd.prog.underlying 40).isSome = true := by kernel_rfl
@[go_sem] theorem ty_ze40 : zeT Tryd.prog 40 = some [.data .nilf] := by kernel_rfl
@[go_sem] theorem ty_zl40 : zlT Tryd.prog 40 = some 1 := by kernel_rfl
@[go_sem] theorem ty_sl40 : sliceT Tryd.prog 40 = none := by kernel_rfl
@[go_sem] theorem ty_ar40 : arrT Tryd.prog 40 = none := by kernel_rfl
@[go_sem] theorem ty_in40 : intT Tryd.prog 40 = none := by kernel_rfl
@[go_sem] theorem ty_bo40 : boolT Tryd.prog 40 = false := by kernel_rfl
@[go_sem] theorem ty_st40 : strT Tryd.prog 40 = false := by kernel_rfl
@[go_sem] theorem ty_sz41 : szT Tryd.prog 41 = some 1 := by kernel_rfl
@[go_sem] theorem ty_by41 : byT Tryd.prog 41 = some 8 := by kernel_rfl
@[go_sem] theorem ty_ag41 : aggT Tryd.prog 41 = some false := by kernel_rfl
@[go_sem] theorem ty_un41 : (Tryd.prog.underlying 41).isSome = true := by kernel_rfl
@[go_sem] theorem ty_ze41 : zeT Tryd.prog 41 = some [.data (.int .u64 0)] := by kernel_rfl
@[go_sem] theorem ty_zl41 : zlT Tryd.prog 41 = some 1 := by kernel_rfl
@[go_sem] theorem ty_sl41 : sliceT Tryd.prog 41 = none := by kernel_rfl
@[go_sem] theorem ty_ar41 : arrT Tryd.prog 41 = none := by kernel_rfl
@[go_sem] theorem ty_in41 : intT Tryd.prog 41 = some .u64 := by kernel_rfl
@[go_sem] theorem ty_bo41 : boolT Tryd.prog 41 = false := by kernel_rfl
@[go_sem] theorem ty_st41 : strT Tryd.prog 41 = false := by kernel_rfl
@[go_sem] theorem ty_sz42 : szT Tryd.prog 42 = some 1 := by kernel_rfl
@[go_sem] theorem ty_by42 : byT Tryd.prog 42 = some 8 := by kernel_rfl
@[go_sem] theorem ty_ag42 : aggT Tryd.prog 42 = some false := by kernel_rfl
@[go_sem] theorem ty_un42 : (Tryd.prog.underlying 42).isSome = true := by kernel_rfl
@[go_sem] theorem ty_ze42 : zeT Tryd.prog 42 = some [.data .nilf] := by kernel_rfl
@[go_sem] theorem ty_zl42 : zlT Tryd.prog 42 = some 1 := by kernel_rfl
@[go_sem] theorem ty_sl42 : sliceT Tryd.prog 42 = none := by kernel_rfl
@[go_sem] theorem ty_ar42 : arrT Tryd.prog 42 = none := by kernel_rfl
@[go_sem] theorem ty_in42 : intT Tryd.prog 42 = none := by kernel_rfl
@[go_sem] theorem ty_bo42 : boolT Tryd.prog 42 = false := by kernel_rfl
@[go_sem] theorem ty_st42 : strT Tryd.prog 42 = false := by kernel_rfl
@[go_sem] theorem ty_sz43 : szT Tryd.prog 43 = some 4 := by kernel_rfl
@[go_sem] theorem ty_by43 : byT Tryd.prog 43 = some 32 := by kernel_rfl
@[go_sem] theorem ty_ag43 : aggT Tryd.prog 43 = some true := by kernel_rfl
@[go_sem] theorem ty_un43 : (Tryd.prog.underlying 43).isSome = true := by kernel_rfl
@[go_sem] theorem ty_ze43 : zeT Tryd.prog 43 = some [.data .nilf, .data .nilf, .data .nilf, .data .nilf] := by kernel_rfl
@[go_sem] theorem ty_zl43 : zlT Tryd.prog 43 = some 4 := by kernel_rfl
@[go_sem] theorem ty_sl43 : sliceT Tryd.prog 43 = none := by kernel_rfl
@[go_sem] theorem ty_ar43 : arrT Tryd.prog 43 = some (4, 42) := by kernel_rfl
@[go_sem] theorem ty_in43 : intT Tryd.prog 43 = none := by kernel_rfl
@[go_sem] theorem ty_bo43 : boolT Tryd.prog 43 = false := by kernel_rfl
@[go_sem] theorem ty_st43 : strT Tryd.prog 43 = false := by kernel_rfl
@[go_sem] theorem ty_sz44 : szT Tryd.prog 44 = some 1 := by kernel_rfl
@[go_sem] theorem ty_by44 : byT Tryd.prog 44 = some 8 := by kernel_rfl
@[go_sem] theorem ty_ag44 : aggT Tryd.prog 44 = some false := by kernel_rfl
@[go_sem] theorem ty_un44 : (Tryd.prog.underlying 44).isSome = true := by kernel_rfl
@[go_sem] theorem ty_ze44 : zeT Tryd.prog 44 = some [.data .nilf] := by kernel_rfl
@[go_sem] theorem ty_zl44 : zlT Tryd.prog 44 = some 1 := by kernel_rfl
@[go_sem] theorem ty_sl44 : sliceT Tryd.prog 44 = none := by kernel_rfl
@[go_sem] theorem ty_ar44 : arrT Tryd.prog 44 = none := by kernel_rfl
@[go_sem] theorem ty_in44 : intT Tryd.prog 44 = none := by kernel_rfl
@[go_sem] theorem ty_bo44 : boolT Tryd.prog 44 = false := by kernel_rfl
@[go_sem] theorem ty_st44 : strT Tryd.prog 44 = false := by kernel_rfl
@[go_sem] theorem ty_sz45 : szT Tryd.prog 45 = some 16 := by kernel_rfl
@[go_sem] theorem ty_by45 : byT Tryd.prog 45 = some 64 := by kernel_rfl
@[go_sem] theorem ty_ag45 : aggT Tryd.prog 45 = some true := by kernel_rfl
@[go_sem] theorem ty_un45 : (Tryd.prog.underlying 45).isSome = true := by kernel_rfl
@[go_sem] theorem ty_ze45 : zeT Tryd.prog 45 = some [.data (.int .u32 0), .data (.int .u32 0), .data (.int .u32 0), .data (.int .u32 0), .data (.int .u32 0), .data (.int .u32 0), .data (.int .u32 0), .data (.int .u32 0), .data (.int .u32 0), .data (.int .u32 0), .data (.int .u32 0), .data (.int .u32 0), .data (.int .u32 0), .data (.int .u32 0), .data (.int .u32 0), .data (.int .u32 0)] := by kernel_rfl
@[go_sem] theorem ty_zl45 : zlT Tryd.prog 45 = some 16 := by kernel_rfl
@[go_sem] theorem ty_sl45 : sliceT Tryd.prog 45 = none := by kernel_rfl
@[go_sem] theorem ty_ar45 : arrT Tryd.prog 45 = some (16, 23) := by kernel_rfl
@[go_sem] theorem ty_in45 : intT Tryd.prog 45 = none := by kernel_rfl
@[go_sem] theorem ty_bo45 : boolT Tryd.prog 45 = false := by kernel_rfl
@[go_sem] theorem ty_st45 : strT Tryd.prog 45 = false := by kernel_rfl
@[go_sem] theorem ty_sz46 : szT Tryd.prog 46 = some 1 := by kernel_rfl
@[go_sem] theorem ty_by46 : byT Tryd.prog 46 = some 8 := by kernel_rfl
@[go_sem] theorem ty_ag46 : aggT Tryd.prog 46 = some false := by kernel_rfl
@[go_sem] theorem ty_un46 : (Tryd.prog.underlying 46).isSome = true := by kernel_rfl
@[go_sem] theorem ty_ze46 : zeT Tryd.prog 46 = some [.data .nilf] := by kernel_rfl
@[go_sem] theorem ty_zl46 : zlT Tryd.prog 46 = some 1 := by kernel_rfl
@[go_sem] theorem ty_sl46 : sliceT Tryd.prog 46 = none := by kernel_rfl
@[go_sem] theorem ty_ar46 : arrT Tryd.prog 46 = none := by kernel_rfl
@[go_sem] theorem ty_in46 : intT Tryd.prog 46 = none := by kernel_rfl
@[go_sem] theorem ty_bo46 : boolT Tryd.prog 46 = false := by kernel_rfl
@[go_sem] theorem ty_st46 : strT Tryd.prog 46 = false := by kernel_rfl
@[go_sem] theorem ty_sz47 : szT Tryd.prog 47 = some 64 := by kernel_rfl
@[go_sem] theorem ty_by47 : byT Tryd.prog 47 = some 256 := by kernel_rfl
@[go_sem] theorem ty_ag47 : aggT Tryd.prog 47 = some true := by kernel_rfl
@[go_sem] theorem ty_un47 : (Tryd.prog.underlying 47).isSome = true := by kernel_rfl
@[go_sem] theorem ty_ze47 : zeT Tryd.prog 47 = some [.data (.int .u32 0), .data (.int .u32 0), .data (.int .u32 0), .data (.int .u32 0), .data (.int .u32 0), .data (.int .u32 0), .data (.int .u32 0), .data (.int .u32 0), .data (.int .u32 0), .data (.int .u32 0), .data (.int .u32 0), .data (.int .u32 0), .data (.int .u32 0), .data (.int .u32 0), .data (.int .u32 0), .data (.int .u32 0), .data (.int .u32 0), .data (.int .u32 0), .data (.int .u32 0), .data (.int .u32 0), .data (.int .u32 0), .data (.int .u32 0), .data (.int .u32 0), .data (.int .u32 0), .data (.int .u32 0), .data (.int .u32 0), .data (.int .u32 0), .data (.int .u32 0), .data (.int .u32 0), .data (.int .u32 0), .data (.int .u32 0), .data (.int .u32 0), .data (.int .u32 0), .data (.int .u32 0), .data (.int .u32 0), .data (.int .u32 0), .data (.int .u32 0), .data (.int .u32 0), .data (.int .u32 0), .data (.int .u32 0), .data (.int .u32 0), .data (.int .u32 0), .data (.int .u32 0), .data (.int .u32 0), .data (.int .u32 0), .data (.int .u32 0), .data (.int .u32 0), .data (.int .u32 0), .data (.int .u32 0), .data (.int .u32 0), .data (.int .u32 0), .data (.int .u32 0), .data (.int .u32 0), .data (.int .u32 0), .data (.int .u32 0), .data (.int .u32 0), .data (.int .u32 0), .data (.int .u32 0), .data (.int .u32 0), .data (.int .u32 0), .data (.int .u32 0), .data (.int .u32 0), .data (.int .u32 0), .data (.int .u32 0)] := by kernel_rfl
@[go_sem] theorem ty_zl47 : zlT Tryd.prog 47 = some 64 := by kernel_rfl
@[go_sem] theorem ty_sl47 : sliceT Tryd.prog 47 = none := by kernel_rfl
@[go_sem] theorem ty_ar47 : arrT Tryd.prog 47 = some (64, 23) := by kernel_rfl
@[go_sem] theorem ty_in47 : intT Tryd.prog 47 = none := by kernel_rfl
@[go_sem] theorem ty_bo47 : boolT Tryd.prog 47 = false := by kernel_rfl
@[go_sem] theorem ty_st47 : strT Tryd.prog 47 = false := by kernel_rfl
@[go_sem] theorem ty_sz48 : szT Tryd.prog 48 = some 1 := by kernel_rfl
@[go_sem] theorem ty_by48 : byT Tryd.prog 48 = some 8 := by kernel_rfl
@[go_sem] theorem ty_ag48 : aggT Tryd.prog 48 = some false := by kernel_rfl
@[go_sem] theorem ty_un48 : (Tryd.prog.underlying 48).isSome = true := by kernel_rfl
@[go_sem] theorem ty_ze48 : zeT Tryd.prog 48 = some [.data .nilf] := by kernel_rfl
@[go_sem] theorem ty_zl48 : zlT Tryd.prog 48 = some 1 := by kernel_rfl
@[go_sem] theorem ty_sl48 : sliceT Tryd.prog 48 = none := by kernel_rfl
@[go_sem] theorem ty_ar48 : arrT Tryd.prog 48 = none := by kernel_rfl
@[go_sem] theorem ty_in48 : intT Tryd.prog 48 = none := by kernel_rfl
@[go_sem] theorem ty_bo48 : boolT Tryd.prog 48 = false := by kernel_rfl
@[go_sem] theorem ty_st48 : strT Tryd.prog 48 = false := by kernel_rfl
@[go_sem] theorem ty_sz49 : szT Tryd.prog 49 = some 1 := by kernel_rfl
@[go_sem] theorem ty_by49 : byT Tryd.prog 49 = some 24 := by kernel_rfl
@[go_sem] theorem ty_ag49 : aggT Tryd.prog 49 = some false := by kernel_rfl
@[go_sem] theorem ty_un49 : (Tryd.prog.underlying 49).isSome = true := by kernel_rfl
@[go_sem] theorem ty_ze49 : zeT Tryd.prog 49 = some [.emp 0] := by kernel_rfl
@[go_sem] theorem ty_zl49 : zlT Tryd.prog 49 = some 1 := by kernel_rfl
@[go_sem] theorem ty_sl49 : sliceT Tryd.prog 49 = some 23 := by kernel_rfl
@[go_sem] theorem ty_ar49 : arrT Tryd.prog 49 = none := by kernel_rfl
@[go_sem] theorem ty_in49 : intT Tryd.prog 49 = none := by kernel_rfl
@[go_sem] theorem ty_bo49 : boolT Tryd.prog 49 = false := by kernel_rfl
@[go_sem] theorem ty_st49 : strT Tryd.prog 49 = false := by kernel_rfl
@[go_sem] theorem ty_sz50 : szT Tryd.prog 50 = some 1 := by kernel_rfl
@[go_sem] theorem ty_by50 : byT Tryd.prog 50 = some 8 := by kernel_rfl
@[go_sem] theorem ty_ag50 : aggT Tryd.prog 50 = some false := by kernel_rfl
@[go_sem] theorem ty_un50 : (Tryd.prog.underlying 50).isSome = true := by kernel_rfl
@[go_sem] theorem ty_ze50 : zeT Tryd.prog 50 = some [.data .nilf] := by kernel_rfl
@[go_sem] theorem ty_zl50 : zlT Tryd.prog 50 = some 1 := by kernel_rfl
@[go_sem] theorem ty_sl50 : sliceT Tryd.prog 50 = none := by kernel_rfl
@[go_sem] theorem ty_ar50 : arrT Tryd.prog 50 = none := by kernel_rfl
@[go_sem] theorem ty_in50 : intT Tryd.prog 50 = none := by kernel_rfl
@[go_sem] theorem ty_bo50 : boolT Tryd.prog 50 = false := by kernel_rfl
@[go_sem] theorem ty_st50 : strT Tryd.prog 50 = false := by kernel_rfl
@[go_sem] theorem ty_sz51 : szT Tryd.prog 51 = some 1 := by kernel_rfl
@[go_sem] theorem ty_by51 : byT Tryd.prog 51 = some 8 := by kernel_rfl
@[go_sem] theorem ty_ag51 : aggT Tryd.prog 51 = some false := by kernel_rfl
@[go_sem] theorem ty_un51 : (Tryd.prog.underlying 51).isSome = true := by kernel_rfl
@[go_sem] theorem ty_ze51 : zeT Tryd.prog 51 = some [.data .nilf] := by kernel_rfl
@[go_sem] theorem ty_zl51 : zlT Tryd.prog 51 = some 1 := by kernel_rfl
@[go_sem] theorem ty_sl51 : sliceT Tryd.prog 51 = none := by kernel_rfl
@[go_sem] theorem ty_ar51 : arrT Tryd.prog 51 = none := by kernel_rfl
@[go_sem] theorem ty_in51 : intT Tryd.prog 51 = none := by kernel_rfl
@[go_sem] theorem ty_bo51 : boolT Tryd.prog 51 = false := by kernel_rfl
@[go_sem] theorem ty_st51 : strT Tryd.prog 51 = false := by kernel_rfl
@[go_sem] theorem ty_sz52 : szT Tryd.prog 52 = some 1 := by kernel_rfl
@[go_sem] theorem ty_by52 : byT Tryd.prog 52 = some 8 := by kernel_rfl
@[go_sem] theorem ty_ag52 : aggT Tryd.prog 52 = some false := by kernel_rfl
@[go_sem] theorem ty_un52 : (Tryd.prog.underlying 52).isSome = true := by kernel_rfl
@[go_sem] theorem ty_ze52 : zeT Tryd.prog 52 = some [.data .nilf] := by kernel_rfl
@[go_sem] theorem ty_zl52 : zlT Tryd.prog 52 = some 1 := by kernel_rfl
@[go_sem] theorem ty_sl52 : sliceT Tryd.prog 52 = none := by kernel_rfl
@[go_sem] theorem ty_ar52 : arrT Tryd.prog 52 = none := by kernel_rfl
@[go_sem] theorem ty_in52 : intT Tryd.prog 52 = none := by kernel_rfl
@[go_sem] theorem ty_bo52 : boolT Tryd.prog 52 = false := by kernel_rfl
@[go_sem] theorem ty_st52 : strT Tryd.prog 52 = false := by kernel_rfl
@[go_sem] theorem ty_sz53 : szT Tryd.prog 53 = some 1 := by kernel_rfl
@[go_sem] theorem ty_by53 : byT Tryd.prog 53 = some 8 := by kernel_rfl
@[go_sem] theorem ty_ag53 : aggT Tryd.prog 53 = some false := by kernel_rfl
@[go_sem] theorem ty_un53 : (Tryd.prog.underlying 53).isSome = true := by kernel_rfl
@[go_sem] theorem ty_ze53 : zeT Tryd.prog 53 = some [.data .nilf] := by kernel_rfl
@[go_sem] theorem ty_zl53 : zlT Tryd.prog 53 = some 1 := by kernel_rfl
@[go_sem] theorem ty_sl53 : sliceT Tryd.prog 53 = none := by kernel_rfl
@[go_sem] theorem ty_ar53 : arrT Tryd.prog 53 = none := by kernel_rfl
@[go_sem] theorem ty_in53 : intT Tryd.prog 53 = none := by kernel_rfl
@[go_sem] theorem ty_bo53 : boolT Tryd.prog 53 = false := by kernel_rfl
@[go_sem] theorem ty_st53 : strT Tryd.prog 53 = false := by kernel_rfl
@[go_sem] theorem ty_sz54 : szT Tryd.prog 54 = some 1 := by kernel_rfl
@[go_sem] theorem ty_by54 : byT Tryd.prog 54 = some 24 := by kernel_rfl
@[go_sem] theorem ty_ag54 : aggT Tryd.prog 54 = some false := by kernel_rfl
@[go_sem] theorem ty_un54 : (Tryd.prog.underlying 54).isSome = true := by kernel_rfl
@[go_sem] theorem ty_ze54 : zeT Tryd.prog 54 = some [.emp 0] := by kernel_rfl
@[go_sem] theorem ty_zl54 : zlT Tryd.prog 54 = some 1 := by kernel_rfl
@[go_sem] theorem ty_sl54 : sliceT Tryd.prog 54 = some 3 := by kernel_rfl
@[go_sem] theorem ty_ar54 : arrT Tryd.prog 54 = none := by kernel_rfl
@[go_sem] theorem ty_in54 : intT Tryd.prog 54 = none := by kernel_rfl
@[go_sem] theorem ty_bo54 : boolT Tryd.prog 54 = false := by kernel_rfl
@[go_sem] theorem ty_st54 : strT Tryd.prog 54 = false := by kernel_rfl
@[go_sem] theorem ty_sz55 : szT Tryd.prog 55 = some 4 := by kernel_rfl
@[go_sem] theorem ty_by55 : byT Tryd.prog 55 = some 32 := by kernel_rfl
@[go_sem] theorem ty_ag55 : aggT Tryd.prog 55 = some true := by kernel_rfl
@[go_sem] theorem ty_un55 : (Tryd.prog.underlying 55).isSome = true := by kernel_rfl
@[go_sem] theorem ty_ze55 : zeT Tryd.prog 55 = some [.data (.int .i64 0), .data (.int .i64 0), .data (.int .i64 0), .data (.int .i64 0)] := by kernel_rfl
@[go_sem] theorem ty_zl55 : zlT Tryd.prog 55 = some 4 := by kernel_rfl
@[go_sem] theorem ty_sl55 : sliceT Tryd.prog 55 = none := by kernel_rfl
@[go_sem] theorem ty_ar55 : arrT Tryd.prog 55 = some (4, 3) := by kernel_rfl
@[go_sem] theorem ty_in55 : intT Tryd.prog 55 = none := by kernel_rfl
@[go_sem] theorem ty_bo55 : boolT Tryd.prog 55 = false := by kernel_rfl
@[go_sem] theorem ty_st55 : strT Tryd.prog 55 = false := by kernel_rfl
@[go_sem] theorem ty_sz56 : szT Tryd.prog 56 = some 16 := by kernel_rfl
@[go_sem] theorem ty_by56 : byT Tryd.prog 56 = some 128 := by kernel_rfl
@[go_sem] theorem ty_ag56 : aggT Tryd.prog 56 = some true := by kernel_rfl
@[go_sem] theorem ty_un56 : (Tryd.prog.underlying 56).isSome = true := by kernel_rfl
@[go_sem] theorem ty_ze56 : zeT Tryd.prog 56 = some [.data (.int .i64 0), .data (.int .i64 0), .data (.int .i64 0), .data (.int .i64 0), .data (.int .i64 0), .data (.int .i64 0), .data (.int .i64 0), .data (.int .i64 0), .data (.int .i64 0), .data (.int .i64 0), .data (.int .i64 0), .data (.int .i64 0), .data (.int .i64 0), .data (.int .i64 0), .data (.int .i64 0), .data (.int .i64 0)] := by kernel_rfl
@[go_sem] theorem ty_zl56 : zlT Tryd.prog 56 = some 16 := by kernel_rfl
@[go_sem] theorem ty_sl56 : sliceT Tryd.prog 56 = none := by kernel_rfl
@[go_sem] theorem ty_ar56 : arrT Tryd.prog 56 = some (4, 55) := by kernel_rfl
@[go_sem] theorem ty_in56 : intT Tryd.prog 56 = none := by kernel_rfl
@[go_sem] theorem ty_bo56 : boolT Tryd.prog 56 = false := by kernel_rfl
@[go_sem] theorem ty_st56 : strT Tryd.prog 56 = false := by kernel_rfl
@[go_sem] theorem ty_sz57 : szT Tryd.prog 57 = some 1 := by kernel_rfl
@[go_sem] theorem ty_by57 : byT Tryd.prog 57 = some 8 := by kernel_rfl
@[go_sem] theorem ty_ag57 : aggT Tryd.prog 57 = some false := by kernel_rfl
@[go_sem] theorem ty_un57 : (Tryd.prog.underlying 57).isSome = true := by kernel_rfl
@[go_sem] theorem ty_ze57 : zeT Tryd.prog 57 = some [.data (.int .u64 0)] := by kernel_rfl
@[go_sem] theorem ty_zl57 : zlT Tryd.prog 57 = some 1 := by kernel_rfl
@[go_sem] theorem ty_sl57 : sliceT Tryd.prog 57 = none := by kernel_rfl
@[go_sem] theorem ty_ar57 : arrT Tryd.prog 57 = none := by kernel_rfl
@[go_sem] theorem ty_in57 : intT Tryd.prog 57 = some .u64 := by kernel_rfl
@[go_sem] theorem ty_bo57 : boolT Tryd.prog 57 = false := by kernel_rfl
@[go_sem] theorem ty_st57 : strT Tryd.prog 57 = false := by kernel_rfl
@[go_sem] theorem ty_sz58 : szT Tryd.prog 58 = some 1 := by kernel_rfl
@[go_sem] theorem ty_by58 : byT Tryd.prog 58 = some 8 := by kernel_rfl
@[go_sem] theorem ty_ag58 : aggT Tryd.prog 58 = some false := by kernel_rfl
@[go_sem] theorem ty_un58 : (Tryd.prog.underlying 58).isSome = true := by kernel_rfl
@[go_sem] theorem ty_ze58 : zeT Tryd.prog 58 = some [.data .nilf] := by kernel_rfl
@[go_sem] theorem ty_zl58 : zlT Tryd.prog 58 = some 1 := by kernel_rfl
@[go_sem] theorem ty_sl58 : sliceT Tryd.prog 58 = none := by kernel_rfl
@[go_sem] theorem ty_ar58 : arrT Tryd.prog 58 = none := by kernel_rfl
@[go_sem] theorem ty_in58 : intT Tryd.prog 58 = none := by kernel_rfl
@[go_sem] theorem ty_bo58 : boolT Tryd.prog 58 = false := by kernel_rfl
@[go_sem] theorem ty_st58 : strT Tryd.prog 58 = false := by kernel_rfl
@[go_sem] theorem ty_sz61 : szT Tryd.prog 61 = some 0 := by kernel_rfl
@[go_sem] theorem ty_by61 : byT Tryd.prog 61 = some 0 := by kernel_rfl
@[go_sem] theorem ty_ag61 : aggT Tryd.prog 61 = some true := by kernel_rfl
@[go_sem] theorem ty_un61 : (Tryd.prog.underlying 61).isSome = true := by kernel_rfl
@[go_sem] theorem ty_ze61 : zeT Tryd.prog 61 = some [] := by kernel_rfl
@[go_sem] theorem ty_zl61 : zlT Tryd.prog 61 = some 0 := by kernel_rfl
@[go_sem] theorem ty_sl61 : sliceT Tryd.prog 61 = none := by kernel_rfl
@[go_sem] theorem ty_ar61 : arrT Tryd.prog 61 = some (0, 16) := by kernel_rfl
@[go_sem] theorem ty_in61 : intT Tryd.prog 61 = none := by kernel_rfl
@[go_sem] theorem ty_bo61 : boolT Tryd.prog 61 = false := by kernel_rfl
@[go_sem] theorem ty_st61 : strT Tryd.prog 61 = false := by kernel_rfl
@[go_sem] theorem ty_sz64 : szT Tryd.prog 64 = some 1 := by kernel_rfl
@[go_sem] theorem ty_by64 : byT Tryd.prog 64 = some 8 := by kernel_rfl
@[go_sem] theorem ty_ag64 : aggT Tryd.prog 64 = some false := by kernel_rfl
@[go_sem] theorem ty_un64 : (Tryd.prog.underlying 64).isSome = true := by kernel_rfl
@[go_sem] theorem ty_ze64 : zeT Tryd.prog 64 = some [.data .nilf] := by kernel_rfl
@[go_sem] theorem ty_zl64 : zlT Tryd.prog 64 = some 1 := by kernel_rfl
@[go_sem] theorem ty_sl64 : sliceT Tryd.prog 64 = none := by kernel_rfl
@[go_sem] theorem ty_ar64 : arrT Tryd.prog 64 = none := by kernel_rfl
@[go_sem] theorem ty_in64 : intT Tryd.prog 64 = none := by kernel_rfl
@[go_sem] theorem ty_bo64 : boolT Tryd.prog 64 = false := by kernel_rfl
@[go_sem] theorem ty_st64 : strT Tryd.prog 64 = false := by kernel_rfl
@[go_sem] theorem ty_sz67 : szT Tryd.prog 67 = some 1 := by kernel_rfl
@[go_sem] theorem ty_by67 : byT Tryd.prog 67 = some 8 := by kernel_rfl
@[go_sem] theorem ty_ag67 : aggT Tryd.prog 67 = some false := by kernel_rfl
@[go_sem] theorem ty_un67 : (Tryd.prog.underlying 67).isSome = true := by kernel_rfl
@[go_sem] theorem ty_ze67 : zeT Tryd.prog 67 = some [.data .nilf] := by kernel_rfl
@[go_sem] theorem ty_zl67 : zlT Tryd.prog 67 = some 1 := by kernel_rfl
@[go_sem] theorem ty_sl67 : sliceT Tryd.prog 67 = none := by kernel_rfl
@[go_sem] theorem ty_ar67 : arrT Tryd.prog 67 = none := by kernel_rfl
@[go_sem] theorem ty_in67 : intT Tryd.prog 67 = none := by kernel_rfl
@[go_sem] theorem ty_bo67 : boolT Tryd.prog 67 = false := by kernel_rfl
@[go_sem] theorem ty_st67 : strT Tryd.prog 67 = false := by kernel_rfl
@[go_sem] theorem ty_sz68 : szT Tryd.prog 68 = some 1 := by kernel_rfl
@[go_sem] theorem ty_by68 : byT Tryd.prog 68 = some 8 := by kernel_rfl
@[go_sem] theorem ty_ag68 : aggT Tryd.prog 68 = some false := by kernel_rfl
@[go_sem] theorem ty_un68 : (Tryd.prog.underlying 68).isSome = true := by kernel_rfl
@[go_sem] theorem ty_ze68 : zeT Tryd.prog 68 = some [.data .nilp] := by kernel_rfl
@[go_sem] theorem ty_zl68 : zlT Tryd.prog 68 = some 1 := by kernel_rfl
@[go_sem] theorem ty_sl68 : sliceT Tryd.prog 68 = none := by kernel_rfl
@[go_sem] theorem ty_ar68 : arrT Tryd.prog 68 = none := by kernel_rfl
@[go_sem] theorem ty_in68 : intT Tryd.prog 68 = none := by kernel_rfl
@[go_sem] theorem ty_bo68 : boolT Tryd.prog 68 = false := by kernel_rfl
@[go_sem] theorem ty_st68 : strT Tryd.prog 68 = false := by kernel_rfl
@[go_sem] theorem ty_sz73 : szT Tryd.prog 73 = some 1 := by kernel_rfl
@[go_sem] theorem ty_by73 : byT Tryd.prog 73 = some 8 := by kernel_rfl
@[go_sem] theorem ty_ag73 : aggT Tryd.prog 73 = some false := by kernel_rfl
@[go_sem] theorem ty_un73 : (Tryd.prog.underlying 73).isSome = true := by kernel_rfl
@[go_sem] theorem ty_ze73 : zeT Tryd.prog 73 = some [.data .nilp] := by kernel_rfl
@[go_sem] theorem ty_zl73 : zlT Tryd.prog 73 = some 1 := by kernel_rfl
@[go_sem] theorem ty_sl73 : sliceT Tryd.prog 73 = none := by kernel_rfl
@[go_sem] theorem ty_ar73 : arrT Tryd.prog 73 = none := by kernel_rfl
@[go_sem] theorem ty_in73 : intT Tryd.prog 73 = none := by kernel_rfl
@[go_sem] theorem ty_bo73 : boolT Tryd.prog 73 = false := by kernel_rfl
@[go_sem] theorem ty_st73 : strT Tryd.prog 73 = false := by kernel_rfl
theorem mixed : Tryd.prog.follows .mixedOrders = true := by kernel_rfl
end Go.Proofs.YtlfmgellojjndaaDoor
