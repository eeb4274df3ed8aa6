/- The closed facts on the types. The document's own comparison of rows. Frames on a line: bytes escaped, plain, fed: the mathematics. Frames on a line: how a byte is escaped. Frames on a line: what is plain, as the program tells it and as the document does. Frames on a line: rows joined, what is sent. Frames on a line: a line that is fed. Frames on a line: all frames of bytes, as the program tells them. Frames on a line: all frames of bytes, as the document tells them; the document's example. Frames on a line: the document's example. -/
import Derived.Test.YtdodhnkbdechaaaPk7
import Derived.Test.YtdodhnkbdechaaaChecked
import Derived.KernelRfl
namespace Go.Proofs.Ytdodhnkbdechaaa

@[go_sem] theorem ty_sz1 : szT Try.prog 1 = some 1 := by kernel_rfl
@[go_sem] theorem ty_by1 : byT Try.prog 1 = some 8 := by kernel_rfl
@[go_sem] theorem ty_ag1 : aggT Try.prog 1 = some false := by kernel_rfl
@[go_sem] theorem ty_un1 : (Try.prog.underlying 1).isSome = true := by kernel_rfl
@[go_sem] theorem ty_ze1 : zeT Try.prog 1 = some [.data .nilf] := by kernel_rfl
@[go_sem] theorem ty_zl1 : zlT Try.prog 1 = some 1 := by kernel_rfl
@[go_sem] theorem ty_sl1 : sliceT Try.prog 1 = none := by kernel_rfl
@[go_sem] theorem ty_ar1 : arrT Try.prog 1 = none := by kernel_rfl
@[go_sem] theorem ty_in1 : intT Try.prog 1 = none := by kernel_rfl
@[go_sem] theorem ty_bo1 : boolT Try.prog 1 = false := by kernel_rfl
@[go_sem] theorem ty_co1 : concT Try.prog 1 = true := by kernel_rfl
@[go_sem] theorem ty_bt1 : bytT Try.prog 1 = false := by kernel_rfl
@[go_sem] theorem ty_st1 : strT Try.prog 1 = false := by kernel_rfl
@[go_sem] theorem ty_zv1 : zvT Try.prog 1 = some (.data .nilf) := by kernel_rfl
@[go_sem] theorem ty_sz2 : szT Try.prog 2 = some 1 := by kernel_rfl
@[go_sem] theorem ty_by2 : byT Try.prog 2 = some 8 := by kernel_rfl
@[go_sem] theorem ty_ag2 : aggT Try.prog 2 = some false := by kernel_rfl
@[go_sem] theorem ty_un2 : (Try.prog.underlying 2).isSome = true := by kernel_rfl
@[go_sem] theorem ty_ze2 : zeT Try.prog 2 = some [.data (.int .i64 0)] := by kernel_rfl
@[go_sem] theorem ty_zl2 : zlT Try.prog 2 = some 1 := by kernel_rfl
@[go_sem] theorem ty_sl2 : sliceT Try.prog 2 = none := by kernel_rfl
@[go_sem] theorem ty_ar2 : arrT Try.prog 2 = none := by kernel_rfl
@[go_sem] theorem ty_in2 : intT Try.prog 2 = some .i64 := by kernel_rfl
@[go_sem] theorem ty_bo2 : boolT Try.prog 2 = false := by kernel_rfl
@[go_sem] theorem ty_co2 : concT Try.prog 2 = true := by kernel_rfl
@[go_sem] theorem ty_bt2 : bytT Try.prog 2 = false := by kernel_rfl
@[go_sem] theorem ty_st2 : strT Try.prog 2 = false := by kernel_rfl
@[go_sem] theorem ty_ki2  (n : Int) : keyT Try.prog 2 (.int .i64 n) = true := by kernel_rfl
@[go_sem] theorem ty_zv2 : zvT Try.prog 2 = some (.data (.int .i64 0)) := by kernel_rfl
@[go_sem] theorem ty_sz3 : szT Try.prog 3 = some 1 := by kernel_rfl
@[go_sem] theorem ty_by3 : byT Try.prog 3 = some 8 := by kernel_rfl
@[go_sem] theorem ty_ag3 : aggT Try.prog 3 = some false := by kernel_rfl
@[go_sem] theorem ty_un3 : (Try.prog.underlying 3).isSome = true := by kernel_rfl
@[go_sem] theorem ty_ze3 : zeT Try.prog 3 = some [.data (.int .i64 0)] := by kernel_rfl
@[go_sem] theorem ty_zl3 : zlT Try.prog 3 = some 1 := by kernel_rfl
@[go_sem] theorem ty_sl3 : sliceT Try.prog 3 = none := by kernel_rfl
@[go_sem] theorem ty_ar3 : arrT Try.prog 3 = none := by kernel_rfl
@[go_sem] theorem ty_in3 : intT Try.prog 3 = some .i64 := by kernel_rfl
@[go_sem] theorem ty_bo3 : boolT Try.prog 3 = false := by kernel_rfl
@[go_sem] theorem ty_co3 : concT Try.prog 3 = true := by kernel_rfl
@[go_sem] theorem ty_bt3 : bytT Try.prog 3 = false := by kernel_rfl
@[go_sem] theorem ty_st3 : strT Try.prog 3 = false := by kernel_rfl
@[go_sem] theorem ty_ki3  (n : Int) : keyT Try.prog 3 (.int .i64 n) = true := by kernel_rfl
@[go_sem] theorem ty_zv3 : zvT Try.prog 3 = some (.data (.int .i64 0)) := by kernel_rfl
@[go_sem] theorem ty_sz4 : szT Try.prog 4 = some 1 := by kernel_rfl
@[go_sem] theorem ty_by4 : byT Try.prog 4 = some 1 := by kernel_rfl
@[go_sem] theorem ty_ag4 : aggT Try.prog 4 = some false := by kernel_rfl
@[go_sem] theorem ty_un4 : (Try.prog.underlying 4).isSome = true := by kernel_rfl
@[go_sem] theorem ty_ze4 : zeT Try.prog 4 = some [.data (.bool false)] := by kernel_rfl
@[go_sem] theorem ty_zl4 : zlT Try.prog 4 = some 1 := by kernel_rfl
@[go_sem] theorem ty_sl4 : sliceT Try.prog 4 = none := by kernel_rfl
@[go_sem] theorem ty_ar4 : arrT Try.prog 4 = none := by kernel_rfl
@[go_sem] theorem ty_in4 : intT Try.prog 4 = none := by kernel_rfl
@[go_sem] theorem ty_bo4 : boolT Try.prog 4 = true := by kernel_rfl
@[go_sem] theorem ty_co4 : concT Try.prog 4 = true := by kernel_rfl
@[go_sem] theorem ty_bt4 : bytT Try.prog 4 = false := by kernel_rfl
@[go_sem] theorem ty_st4 : strT Try.prog 4 = false := by kernel_rfl
@[go_sem] theorem ty_kb4 (b : Bool) : keyT Try.prog 4 (.bool b) = true := by kernel_rfl
@[go_sem] theorem ty_zv4 : zvT Try.prog 4 = some (.data (.bool false)) := by kernel_rfl
@[go_sem] theorem ty_sz5 : szT Try.prog 5 = some 1 := by kernel_rfl
@[go_sem] theorem ty_by5 : byT Try.prog 5 = some 1 := by kernel_rfl
@[go_sem] theorem ty_ag5 : aggT Try.prog 5 = some false := by kernel_rfl
@[go_sem] theorem ty_un5 : (Try.prog.underlying 5).isSome = true := by kernel_rfl
@[go_sem] theorem ty_ze5 : zeT Try.prog 5 = some [.data (.int .u8 0)] := by kernel_rfl
@[go_sem] theorem ty_zl5 : zlT Try.prog 5 = some 1 := by kernel_rfl
@[go_sem] theorem ty_sl5 : sliceT Try.prog 5 = none := by kernel_rfl
@[go_sem] theorem ty_ar5 : arrT Try.prog 5 = none := by kernel_rfl
@[go_sem] theorem ty_in5 : intT Try.prog 5 = some .u8 := by kernel_rfl
@[go_sem] theorem ty_bo5 : boolT Try.prog 5 = false := by kernel_rfl
@[go_sem] theorem ty_co5 : concT Try.prog 5 = true := by kernel_rfl
@[go_sem] theorem ty_bt5 : bytT Try.prog 5 = false := by kernel_rfl
@[go_sem] theorem ty_st5 : strT Try.prog 5 = false := by kernel_rfl
@[go_sem] theorem ty_ki5  (n : Int) : keyT Try.prog 5 (.int .u8 n) = true := by kernel_rfl
@[go_sem] theorem ty_zv5 : zvT Try.prog 5 = some (.data (.int .u8 0)) := by kernel_rfl
@[go_sem] theorem ty_sz9 : szT Try.prog 9 = some 1 := by kernel_rfl
@[go_sem] theorem ty_by9 : byT Try.prog 9 = some 16 := by kernel_rfl
@[go_sem] theorem ty_ag9 : aggT Try.prog 9 = some false := by kernel_rfl
@[go_sem] theorem ty_un9 : (Try.prog.underlying 9).isSome = true := by kernel_rfl
@[go_sem] theorem ty_ze9 : zeT Try.prog 9 = some [.data (.str ByteArray.empty)] := by kernel_rfl
@[go_sem] theorem ty_zl9 : zlT Try.prog 9 = some 1 := by kernel_rfl
@[go_sem] theorem ty_sl9 : sliceT Try.prog 9 = none := by kernel_rfl
@[go_sem] theorem ty_ar9 : arrT Try.prog 9 = none := by kernel_rfl
@[go_sem] theorem ty_in9 : intT Try.prog 9 = none := by kernel_rfl
@[go_sem] theorem ty_bo9 : boolT Try.prog 9 = false := by kernel_rfl
@[go_sem] theorem ty_co9 : concT Try.prog 9 = true := by kernel_rfl
@[go_sem] theorem ty_bt9 : bytT Try.prog 9 = false := by kernel_rfl
@[go_sem] theorem ty_st9 : strT Try.prog 9 = true := by kernel_rfl
@[go_sem] theorem ty_ks9 (s : ByteArray) : keyT Try.prog 9 (.str s) = true := by kernel_rfl
@[go_sem] theorem ty_zv9 : zvT Try.prog 9 = some (.data (.str ByteArray.empty)) := by kernel_rfl
@[go_sem] theorem ty_sz12 : szT Try.prog 12 = some 1 := by kernel_rfl
@[go_sem] theorem ty_by12 : byT Try.prog 12 = some 8 := by kernel_rfl
@[go_sem] theorem ty_ag12 : aggT Try.prog 12 = some false := by kernel_rfl
@[go_sem] theorem ty_un12 : (Try.prog.underlying 12).isSome = true := by kernel_rfl
@[go_sem] theorem ty_ze12 : zeT Try.prog 12 = some [.data (.int .u64 0)] := by kernel_rfl
@[go_sem] theorem ty_zl12 : zlT Try.prog 12 = some 1 := by kernel_rfl
@[go_sem] theorem ty_sl12 : sliceT Try.prog 12 = none := by kernel_rfl
@[go_sem] theorem ty_ar12 : arrT Try.prog 12 = none := by kernel_rfl
@[go_sem] theorem ty_in12 : intT Try.prog 12 = some .u64 := by kernel_rfl
@[go_sem] theorem ty_bo12 : boolT Try.prog 12 = false := by kernel_rfl
@[go_sem] theorem ty_co12 : concT Try.prog 12 = true := by kernel_rfl
@[go_sem] theorem ty_bt12 : bytT Try.prog 12 = false := by kernel_rfl
@[go_sem] theorem ty_st12 : strT Try.prog 12 = false := by kernel_rfl
@[go_sem] theorem ty_ki12  (n : Int) : keyT Try.prog 12 (.int .u64 n) = true := by kernel_rfl
@[go_sem] theorem ty_zv12 : zvT Try.prog 12 = some (.data (.int .u64 0)) := by kernel_rfl
@[go_sem] theorem ty_sz20 : szT Try.prog 20 = some 1 := by kernel_rfl
@[go_sem] theorem ty_by20 : byT Try.prog 20 = some 16 := by kernel_rfl
@[go_sem] theorem ty_ag20 : aggT Try.prog 20 = some false := by kernel_rfl
@[go_sem] theorem ty_un20 : (Try.prog.underlying 20).isSome = true := by kernel_rfl
@[go_sem] theorem ty_ze20 : zeT Try.prog 20 = some [.data .nili] := by kernel_rfl
@[go_sem] theorem ty_zl20 : zlT Try.prog 20 = some 1 := by kernel_rfl
@[go_sem] theorem ty_sl20 : sliceT Try.prog 20 = none := by kernel_rfl
@[go_sem] theorem ty_ar20 : arrT Try.prog 20 = none := by kernel_rfl
@[go_sem] theorem ty_in20 : intT Try.prog 20 = none := by kernel_rfl
@[go_sem] theorem ty_bo20 : boolT Try.prog 20 = false := by kernel_rfl
@[go_sem] theorem ty_co20 : concT Try.prog 20 = false := by kernel_rfl
@[go_sem] theorem ty_bt20 : bytT Try.prog 20 = false := by kernel_rfl
@[go_sem] theorem ty_st20 : strT Try.prog 20 = false := by kernel_rfl
@[go_sem] theorem ty_zv20 : zvT Try.prog 20 = some (.data .nili) := by kernel_rfl
@[go_sem] theorem ty_sz21 : szT Try.prog 21 = some 1 := by kernel_rfl
@[go_sem] theorem ty_by21 : byT Try.prog 21 = some 4 := by kernel_rfl
@[go_sem] theorem ty_ag21 : aggT Try.prog 21 = some false := by kernel_rfl
@[go_sem] theorem ty_un21 : (Try.prog.underlying 21).isSome = true := by kernel_rfl
@[go_sem] theorem ty_ze21 : zeT Try.prog 21 = some [.data (.int .i32 0)] := by kernel_rfl
@[go_sem] theorem ty_zl21 : zlT Try.prog 21 = some 1 := by kernel_rfl
@[go_sem] theorem ty_sl21 : sliceT Try.prog 21 = none := by kernel_rfl
@[go_sem] theorem ty_ar21 : arrT Try.prog 21 = none := by kernel_rfl
@[go_sem] theorem ty_in21 : intT Try.prog 21 = some .i32 := by kernel_rfl
@[go_sem] theorem ty_bo21 : boolT Try.prog 21 = false := by kernel_rfl
@[go_sem] theorem ty_co21 : concT Try.prog 21 = true := by kernel_rfl
@[go_sem] theorem ty_bt21 : bytT Try.prog 21 = false := by kernel_rfl
@[go_sem] theorem ty_st21 : strT Try.prog 21 = false := by kernel_rfl
@[go_sem] theorem ty_ki21  (n : Int) : keyT Try.prog 21 (.int .i32 n) = true := by kernel_rfl
@[go_sem] theorem ty_zv21 : zvT Try.prog 21 = some (.data (.int .i32 0)) := by kernel_rfl
@[go_sem] theorem ty_sz22 : szT Try.prog 22 = some 1 := by kernel_rfl
@[go_sem] theorem ty_by22 : byT Try.prog 22 = some 24 := by kernel_rfl
@[go_sem] theorem ty_ag22 : aggT Try.prog 22 = some false := by kernel_rfl
@[go_sem] theorem ty_un22 : (Try.prog.underlying 22).isSome = true := by kernel_rfl
@[go_sem] theorem ty_ze22 : zeT Try.prog 22 = some [.emp 0] := by kernel_rfl
@[go_sem] theorem ty_zl22 : zlT Try.prog 22 = some 1 := by kernel_rfl
@[go_sem] theorem ty_sl22 : sliceT Try.prog 22 = some 5 := by kernel_rfl
@[go_sem] theorem ty_ar22 : arrT Try.prog 22 = none := by kernel_rfl
@[go_sem] theorem ty_in22 : intT Try.prog 22 = none := by kernel_rfl
@[go_sem] theorem ty_bo22 : boolT Try.prog 22 = false := by kernel_rfl
@[go_sem] theorem ty_co22 : concT Try.prog 22 = true := by kernel_rfl
@[go_sem] theorem ty_bt22 : bytT Try.prog 22 = true := by kernel_rfl
@[go_sem] theorem ty_st22 : strT Try.prog 22 = false := by kernel_rfl
@[go_sem] theorem ty_zv22 : zvT Try.prog 22 = some (.emp 0) := by kernel_rfl
@[go_sem] theorem ty_sz23 : szT Try.prog 23 = some 1 := by kernel_rfl
@[go_sem] theorem ty_by23 : byT Try.prog 23 = some 4 := by kernel_rfl
@[go_sem] theorem ty_ag23 : aggT Try.prog 23 = some false := by kernel_rfl
@[go_sem] theorem ty_un23 : (Try.prog.underlying 23).isSome = true := by kernel_rfl
@[go_sem] theorem ty_ze23 : zeT Try.prog 23 = some [.data (.int .u32 0)] := by kernel_rfl
@[go_sem] theorem ty_zl23 : zlT Try.prog 23 = some 1 := by kernel_rfl
@[go_sem] theorem ty_sl23 : sliceT Try.prog 23 = none := by kernel_rfl
@[go_sem] theorem ty_ar23 : arrT Try.prog 23 = none := by kernel_rfl
@[go_sem] theorem ty_in23 : intT Try.prog 23 = some .u32 := by kernel_rfl
@[go_sem] theorem ty_bo23 : boolT Try.prog 23 = false := by kernel_rfl
@[go_sem] theorem ty_co23 : concT Try.prog 23 = true := by kernel_rfl
@[go_sem] theorem ty_bt23 : bytT Try.prog 23 = false := by kernel_rfl
@[go_sem] theorem ty_st23 : strT Try.prog 23 = false := by kernel_rfl
@[go_sem] theorem ty_ki23  (n : Int) : keyT Try.prog 23 (.int .u32 n) = true := by kernel_rfl
@[go_sem] theorem ty_zv23 : zvT Try.prog 23 = some (.data (.int .u32 0)) := by kernel_rfl
@[go_sem] theorem ty_sz24 : szT Try.prog 24 = some 1 := by kernel_rfl
@[go_sem] theorem ty_by24 : byT Try.prog 24 = some 8 := by kernel_rfl
@[go_sem] theorem ty_ag24 : aggT Try.prog 24 = some false := by kernel_rfl
@[go_sem] theorem ty_un24 : (Try.prog.underlying 24).isSome = true := by kernel_rfl
@[go_sem] theorem ty_ze24 : zeT Try.prog 24 = some [.data .nilf] := by kernel_rfl
@[go_sem] theorem ty_zl24 : zlT Try.prog 24 = some 1 := by kernel_rfl
@[go_sem] theorem ty_sl24 : sliceT Try.prog 24 = none := by kernel_rfl
@[go_sem] theorem ty_ar24 : arrT Try.prog 24 = none := by kernel_rfl
@[go_sem] theorem ty_in24 : intT Try.prog 24 = none := by kernel_rfl
@[go_sem] theorem ty_bo24 : boolT Try.prog 24 = false := by kernel_rfl
@[go_sem] theorem ty_co24 : concT Try.prog 24 = true := by kernel_rfl
@[go_sem] theorem ty_bt24 : bytT Try.prog 24 = false := by kernel_rfl
@[go_sem] theorem ty_st24 : strT Try.prog 24 = false := by kernel_rfl
@[go_sem] theorem ty_zv24 : zvT Try.prog 24 = some (.data .nilf) := by kernel_rfl
@[go_sem] theorem ty_sz25 : szT Try.prog 25 = some 1 := by kernel_rfl
@[go_sem] theorem ty_by25 : byT Try.prog 25 = some 8 := by kernel_rfl
@[go_sem] theorem ty_ag25 : aggT Try.prog 25 = some false := by kernel_rfl
@[go_sem] theorem ty_un25 : (Try.prog.underlying 25).isSome = true := by kernel_rfl
@[go_sem] theorem ty_ze25 : zeT Try.prog 25 = some [.data (.int .i64 0)] := by kernel_rfl
@[go_sem] theorem ty_zl25 : zlT Try.prog 25 = some 1 := by kernel_rfl
@[go_sem] theorem ty_sl25 : sliceT Try.prog 25 = none := by kernel_rfl
@[go_sem] theorem ty_ar25 : arrT Try.prog 25 = none := by kernel_rfl
@[go_sem] theorem ty_in25 : intT Try.prog 25 = some .i64 := by kernel_rfl
@[go_sem] theorem ty_bo25 : boolT Try.prog 25 = false := by kernel_rfl
@[go_sem] theorem ty_co25 : concT Try.prog 25 = true := by kernel_rfl
@[go_sem] theorem ty_bt25 : bytT Try.prog 25 = false := by kernel_rfl
@[go_sem] theorem ty_st25 : strT Try.prog 25 = false := by kernel_rfl
@[go_sem] theorem ty_ki25  (n : Int) : keyT Try.prog 25 (.int .i64 n) = true := by kernel_rfl
@[go_sem] theorem ty_zv25 : zvT Try.prog 25 = some (.data (.int .i64 0)) := by kernel_rfl
@[go_sem] theorem ty_sz27 : szT Try.prog 27 = some 1 := by kernel_rfl
@[go_sem] theorem ty_by27 : byT Try.prog 27 = some 8 := by kernel_rfl
@[go_sem] theorem ty_ag27 : aggT Try.prog 27 = some false := by kernel_rfl
@[go_sem] theorem ty_un27 : (Try.prog.underlying 27).isSome = true := by kernel_rfl
@[go_sem] theorem ty_ze27 : zeT Try.prog 27 = some [.data .nilf] := by kernel_rfl
@[go_sem] theorem ty_zl27 : zlT Try.prog 27 = some 1 := by kernel_rfl
@[go_sem] theorem ty_sl27 : sliceT Try.prog 27 = none := by kernel_rfl
@[go_sem] theorem ty_ar27 : arrT Try.prog 27 = none := by kernel_rfl
@[go_sem] theorem ty_in27 : intT Try.prog 27 = none := by kernel_rfl
@[go_sem] theorem ty_bo27 : boolT Try.prog 27 = false := by kernel_rfl
@[go_sem] theorem ty_co27 : concT Try.prog 27 = true := by kernel_rfl
@[go_sem] theorem ty_bt27 : bytT Try.prog 27 = false := by kernel_rfl
@[go_sem] theorem ty_st27 : strT Try.prog 27 = false := by kernel_rfl
@[go_sem] theorem ty_zv27 : zvT Try.prog 27 = some (.data .nilf) := by kernel_rfl
@[go_sem] theorem ty_sz29 : szT Try.prog 29 = some 1 := by kernel_rfl
@[go_sem] theorem ty_by29 : byT Try.prog 29 = some 8 := by kernel_rfl
@[go_sem] theorem ty_ag29 : aggT Try.prog 29 = some false := by kernel_rfl
@[go_sem] theorem ty_un29 : (Try.prog.underlying 29).isSome = true := by kernel_rfl
@[go_sem] theorem ty_ze29 : zeT Try.prog 29 = some [.data .nilf] := by kernel_rfl
@[go_sem] theorem ty_zl29 : zlT Try.prog 29 = some 1 := by kernel_rfl
@[go_sem] theorem ty_sl29 : sliceT Try.prog 29 = none := by kernel_rfl
@[go_sem] theorem ty_ar29 : arrT Try.prog 29 = none := by kernel_rfl
@[go_sem] theorem ty_in29 : intT Try.prog 29 = none := by kernel_rfl
@[go_sem] theorem ty_bo29 : boolT Try.prog 29 = false := by kernel_rfl
@[go_sem] theorem ty_co29 : concT Try.prog 29 = true := by kernel_rfl
@[go_sem] theorem ty_bt29 : bytT Try.prog 29 = false := by kernel_rfl
@[go_sem] theorem ty_st29 : strT Try.prog 29 = false := by kernel_rfl
@[go_sem] theorem ty_zv29 : zvT Try.prog 29 = some (.data .nilf) := by kernel_rfl
@[go_sem] theorem ty_sz30 : szT Try.prog 30 = some 1 := by kernel_rfl
@[go_sem] theorem ty_by30 : byT Try.prog 30 = some 8 := by kernel_rfl
@[go_sem] theorem ty_ag30 : aggT Try.prog 30 = some false := by kernel_rfl
@[go_sem] theorem ty_un30 : (Try.prog.underlying 30).isSome = true := by kernel_rfl
@[go_sem] theorem ty_ze30 : zeT Try.prog 30 = some [.data .nilf] := by kernel_rfl
@[go_sem] theorem ty_zl30 : zlT Try.prog 30 = some 1 := by kernel_rfl
@[go_sem] theorem ty_sl30 : sliceT Try.prog 30 = none := by kernel_rfl
@[go_sem] theorem ty_ar30 : arrT Try.prog 30 = none := by kernel_rfl
@[go_sem] theorem ty_in30 : intT Try.prog 30 = none := by kernel_rfl
@[go_sem] theorem ty_bo30 : boolT Try.prog 30 = false := by kernel_rfl
@[go_sem] theorem ty_co30 : concT Try.prog 30 = true := by kernel_rfl
@[go_sem] theorem ty_bt30 : bytT Try.prog 30 = false := by kernel_rfl
@[go_sem] theorem ty_st30 : strT Try.prog 30 = false := by kernel_rfl
@[go_sem] theorem ty_zv30 : zvT Try.prog 30 = some (.data .nilf) := by kernel_rfl
@[go_sem] theorem ty_sz31 : szT Try.prog 31 = some 1 := by kernel_rfl
@[go_sem] theorem ty_by31 : byT Try.prog 31 = some 8 := by kernel_rfl
@[go_sem] theorem ty_ag31 : aggT Try.prog 31 = some false := by kernel_rfl
@[go_sem] theorem ty_un31 : (Try.prog.underlying 31).isSome = true := by kernel_rfl
@[go_sem] theorem ty_ze31 : zeT Try.prog 31 = some [.data .nilf] := by kernel_rfl
@[go_sem] theorem ty_zl31 : zlT Try.prog 31 = some 1 := by kernel_rfl
@[go_sem] theorem ty_sl31 : sliceT Try.prog 31 = none := by kernel_rfl
@[go_sem] theorem ty_ar31 : arrT Try.prog 31 = none := by kernel_rfl
@[go_sem] theorem ty_in31 : intT Try.prog 31 = none := by kernel_rfl
@[go_sem] theorem ty_bo31 : boolT Try.prog 31 = false := by kernel_rfl
@[go_sem] theorem ty_co31 : concT Try.prog 31 = true := by kernel_rfl
@[go_sem] theorem ty_bt31 : bytT Try.prog 31 = false := by kernel_rfl
@[go_sem] theorem ty_st31 : strT Try.prog 31 = false := by kernel_rfl
@[go_sem] theorem ty_zv31 : zvT Try.prog 31 = some (.data .nilf) := by kernel_rfl
@[go_sem] theorem ty_sz32 : szT Try.prog 32 = some 1 := by kernel_rfl
@[go_sem] theorem ty_by32 : byT Try.prog 32 = some 8 := by kernel_rfl
@[go_sem] theorem ty_ag32 : aggT Try.prog 32 = some false := by kernel_rfl
@[go_sem] theorem ty_un32 : (Try.prog.underlying 32).isSome = true := by kernel_rfl
@[go_sem] theorem ty_ze32 : zeT Try.prog 32 = some [.data .nilf] := by kernel_rfl
@[go_sem] theorem ty_zl32 : zlT Try.prog 32 = some 1 := by kernel_rfl
@[go_sem] theorem ty_sl32 : sliceT Try.prog 32 = none := by kernel_rfl
@[go_sem] theorem ty_ar32 : arrT Try.prog 32 = none := by kernel_rfl
@[go_sem] theorem ty_in32 : intT Try.prog 32 = none := by kernel_rfl
@[go_sem] theorem ty_bo32 : boolT Try.prog 32 = false := by kernel_rfl
@[go_sem] theorem ty_co32 : concT Try.prog 32 = true := by kernel_rfl
@[go_sem] theorem ty_bt32 : bytT Try.prog 32 = false := by kernel_rfl
@[go_sem] theorem ty_st32 : strT Try.prog 32 = false := by kernel_rfl
@[go_sem] theorem ty_zv32 : zvT Try.prog 32 = some (.data .nilf) := by kernel_rfl
@[go_sem] theorem ty_sz33 : szT Try.prog 33 = some 1 := by kernel_rfl
@[go_sem] theorem ty_by33 : byT Try.prog 33 = some 24 := by kernel_rfl
@[go_sem] theorem ty_ag33 : aggT Try.prog 33 = some false := by kernel_rfl
@[go_sem] theorem ty_un33 : (Try.prog.underlying 33).isSome = true := by kernel_rfl
@[go_sem] theorem ty_ze33 : zeT Try.prog 33 = some [.emp 0] := by kernel_rfl
@[go_sem] theorem ty_zl33 : zlT Try.prog 33 = some 1 := by kernel_rfl
@[go_sem] theorem ty_sl33 : sliceT Try.prog 33 = some 22 := by kernel_rfl
@[go_sem] theorem ty_ar33 : arrT Try.prog 33 = none := by kernel_rfl
@[go_sem] theorem ty_in33 : intT Try.prog 33 = none := by kernel_rfl
@[go_sem] theorem ty_bo33 : boolT Try.prog 33 = false := by kernel_rfl
@[go_sem] theorem ty_co33 : concT Try.prog 33 = true := by kernel_rfl
@[go_sem] theorem ty_bt33 : bytT Try.prog 33 = false := by kernel_rfl
@[go_sem] theorem ty_st33 : strT Try.prog 33 = false := by kernel_rfl
@[go_sem] theorem ty_zv33 : zvT Try.prog 33 = some (.emp 0) := by kernel_rfl
@[go_sem] theorem ty_sz34 : szT Try.prog 34 = some 1 := by kernel_rfl
@[go_sem] theorem ty_by34 : byT Try.prog 34 = some 8 := by kernel_rfl
@[go_sem] theorem ty_ag34 : aggT Try.prog 34 = some false := by kernel_rfl
@[go_sem] theorem ty_un34 : (Try.prog.underlying 34).isSome = true := by kernel_rfl
@[go_sem] theorem ty_ze34 : zeT Try.prog 34 = some [.data .nilf] := by kernel_rfl
@[go_sem] theorem ty_zl34 : zlT Try.prog 34 = some 1 := by kernel_rfl
@[go_sem] theorem ty_sl34 : sliceT Try.prog 34 = none := by kernel_rfl
@[go_sem] theorem ty_ar34 : arrT Try.prog 34 = none := by kernel_rfl
@[go_sem] theorem ty_in34 : intT Try.prog 34 = none := by kernel_rfl
@[go_sem] theorem ty_bo34 : boolT Try.prog 34 = false := by kernel_rfl
@[go_sem] theorem ty_co34 : concT Try.prog 34 = true := by kernel_rfl
@[go_sem] theorem ty_bt34 : bytT Try.prog 34 = false := by kernel_rfl
@[go_sem] theorem ty_st34 : strT Try.prog 34 = false := by kernel_rfl
@[go_sem] theorem ty_zv34 : zvT Try.prog 34 = some (.data .nilf) := by kernel_rfl
@[go_sem] theorem ty_sz35 : szT Try.prog 35 = some 1 := by kernel_rfl
@[go_sem] theorem ty_by35 : byT Try.prog 35 = some 8 := by kernel_rfl
@[go_sem] theorem ty_ag35 : aggT Try.prog 35 = some false := by kernel_rfl
@[go_sem] theorem ty_un35 : (Try.prog.underlying 35).isSome = true := by kernel_rfl
@[go_sem] theorem ty_ze35 : zeT Try.prog 35 = some [.data .nilf] := by kernel_rfl
@[go_sem] theorem ty_zl35 : zlT Try.prog 35 = some 1 := by kernel_rfl
@[go_sem] theorem ty_sl35 : sliceT Try.prog 35 = none := by kernel_rfl
@[go_sem] theorem ty_ar35 : arrT Try.prog 35 = none := by kernel_rfl
@[go_sem] theorem ty_in35 : intT Try.prog 35 = none := by kernel_rfl
@[go_sem] theorem ty_bo35 : boolT Try.prog 35 = false := by kernel_rfl
@[go_sem] theorem ty_co35 : concT Try.prog 35 = true := by kernel_rfl
@[go_sem] theorem ty_bt35 : bytT Try.prog 35 = false := by kernel_rfl
@[go_sem] theorem ty_st35 : strT Try.prog 35 = false := by kernel_rfl
@[go_sem] theorem ty_zv35 : zvT Try.prog 35 = some (.data .nilf) := by kernel_rfl
@[go_sem] theorem ty_sz36 : szT Try.prog 36 = some 2 := by kernel_rfl
@[go_sem] theorem ty_by36 : byT Try.prog 36 = some 32 := by kernel_rfl
@[go_sem] theorem ty_ag36 : aggT Try.prog 36 = some true := by kernel_rfl
@[go_sem] theorem ty_un36 : (Try.prog.underlying 36).isSome = true := by kernel_rfl
@[go_sem] theorem ty_ze36 : zeT Try.prog 36 = some [.emp 0, .data (.bool false)] := by kernel_rfl
@[go_sem] theorem ty_zl36 : zlT Try.prog 36 = some 2 := by kernel_rfl
@[go_sem] theorem ty_sl36 : sliceT Try.prog 36 = none := by kernel_rfl
@[go_sem] theorem ty_ar36 : arrT Try.prog 36 = none := by kernel_rfl
@[go_sem] theorem ty_in36 : intT Try.prog 36 = none := by kernel_rfl
@[go_sem] theorem ty_bo36 : boolT Try.prog 36 = false := by kernel_rfl
@[go_sem] theorem ty_co36 : concT Try.prog 36 = true := by kernel_rfl
@[go_sem] theorem ty_bt36 : bytT Try.prog 36 = false := by kernel_rfl
@[go_sem] theorem ty_st36 : strT Try.prog 36 = false := by kernel_rfl
@[go_sem] theorem ty_zv36 : zvT Try.prog 36 = some (.agg [.emp 0, .data (.bool false)]) := by kernel_rfl
@[go_sem] theorem ty_fl36_0 : fldT Try.prog 36 0 = some (0, 22) := by kernel_rfl
@[go_sem] theorem ty_fl36_1 : fldT Try.prog 36 1 = some (1, 4) := by kernel_rfl
@[go_sem] theorem ty_pl36 : plT Try.prog 36 = some [(0, 1), (1, 1)] := by kernel_rfl
@[go_sem] theorem ty_sz37 : szT Try.prog 37 = some 2 := by kernel_rfl
@[go_sem] theorem ty_by37 : byT Try.prog 37 = some 32 := by kernel_rfl
@[go_sem] theorem ty_ag37 : aggT Try.prog 37 = some true := by kernel_rfl
@[go_sem] theorem ty_un37 : (Try.prog.underlying 37).isSome = true := by kernel_rfl
@[go_sem] theorem ty_ze37 : zeT Try.prog 37 = some [.emp 0, .data (.bool false)] := by kernel_rfl
@[go_sem] theorem ty_zl37 : zlT Try.prog 37 = some 2 := by kernel_rfl
@[go_sem] theorem ty_sl37 : sliceT Try.prog 37 = none := by kernel_rfl
@[go_sem] theorem ty_ar37 : arrT Try.prog 37 = none := by kernel_rfl
@[go_sem] theorem ty_in37 : intT Try.prog 37 = none := by kernel_rfl
@[go_sem] theorem ty_bo37 : boolT Try.prog 37 = false := by kernel_rfl
@[go_sem] theorem ty_co37 : concT Try.prog 37 = true := by kernel_rfl
@[go_sem] theorem ty_bt37 : bytT Try.prog 37 = false := by kernel_rfl
@[go_sem] theorem ty_st37 : strT Try.prog 37 = false := by kernel_rfl
@[go_sem] theorem ty_zv37 : zvT Try.prog 37 = some (.agg [.emp 0, .data (.bool false)]) := by kernel_rfl
@[go_sem] theorem ty_fl37_0 : fldT Try.prog 37 0 = some (0, 22) := by kernel_rfl
@[go_sem] theorem ty_fl37_1 : fldT Try.prog 37 1 = some (1, 4) := by kernel_rfl
@[go_sem] theorem ty_pl37 : plT Try.prog 37 = some [(0, 1), (1, 1)] := by kernel_rfl
@[go_sem] theorem ty_sz38 : szT Try.prog 38 = some 1 := by kernel_rfl
@[go_sem] theorem ty_by38 : byT Try.prog 38 = some 8 := by kernel_rfl
@[go_sem] theorem ty_ag38 : aggT Try.prog 38 = some false := by kernel_rfl
@[go_sem] theorem ty_un38 : (Try.prog.underlying 38).isSome = true := by kernel_rfl
@[go_sem] theorem ty_ze38 : zeT Try.prog 38 = some [.data .nilf] := by kernel_rfl
@[go_sem] theorem ty_zl38 : zlT Try.prog 38 = some 1 := by kernel_rfl
@[go_sem] theorem ty_sl38 : sliceT Try.prog 38 = none := by kernel_rfl
@[go_sem] theorem ty_ar38 : arrT Try.prog 38 = none := by kernel_rfl
@[go_sem] theorem ty_in38 : intT Try.prog 38 = none := by kernel_rfl
@[go_sem] theorem ty_bo38 : boolT Try.prog 38 = false := by kernel_rfl
@[go_sem] theorem ty_co38 : concT Try.prog 38 = true := by kernel_rfl
@[go_sem] theorem ty_bt38 : bytT Try.prog 38 = false := by kernel_rfl
@[go_sem] theorem ty_st38 : strT Try.prog 38 = false := by kernel_rfl
@[go_sem] theorem ty_zv38 : zvT Try.prog 38 = some (.data .nilf) := by kernel_rfl
@[go_sem] theorem ty_sz40 : szT Try.prog 40 = some 1 := by kernel_rfl
@[go_sem] theorem ty_by40 : byT Try.prog 40 = some 8 := by kernel_rfl
@[go_sem] theorem ty_ag40 : aggT Try.prog 40 = some false := by kernel_rfl
@[go_sem] theorem ty_un40 : (Try.prog.underlying 40).isSome = true := by kernel_rfl
@[go_sem] theorem ty_ze40 : zeT Try.prog 40 = some [.data .nilf] := by kernel_rfl
@[go_sem] theorem ty_zl40 : zlT Try.prog 40 = some 1 := by kernel_rfl
@[go_sem] theorem ty_sl40 : sliceT Try.prog 40 = none := by kernel_rfl
@[go_sem] theorem ty_ar40 : arrT Try.prog 40 = none := by kernel_rfl
@[go_sem] theorem ty_in40 : intT Try.prog 40 = none := by kernel_rfl
@[go_sem] theorem ty_bo40 : boolT Try.prog 40 = false := by kernel_rfl
@[go_sem] theorem ty_co40 : concT Try.prog 40 = true := by kernel_rfl
@[go_sem] theorem ty_bt40 : bytT Try.prog 40 = false := by kernel_rfl
@[go_sem] theorem ty_st40 : strT Try.prog 40 = false := by kernel_rfl
@[go_sem] theorem ty_zv40 : zvT Try.prog 40 = some (.data .nilf) := by kernel_rfl
@[go_sem] theorem ty_sz41 : szT Try.prog 41 = some 1 := by kernel_rfl
@[go_sem] theorem ty_by41 : byT Try.prog 41 = some 8 := by kernel_rfl
@[go_sem] theorem ty_ag41 : aggT Try.prog 41 = some false := by kernel_rfl
@[go_sem] theorem ty_un41 : (Try.prog.underlying 41).isSome = true := by kernel_rfl
@[go_sem] theorem ty_ze41 : zeT Try.prog 41 = some [.data .nilf] := by kernel_rfl
@[go_sem] theorem ty_zl41 : zlT Try.prog 41 = some 1 := by kernel_rfl
@[go_sem] theorem ty_sl41 : sliceT Try.prog 41 = none := by kernel_rfl
@[go_sem] theorem ty_ar41 : arrT Try.prog 41 = none := by kernel_rfl
@[go_sem] theorem ty_in41 : intT Try.prog 41 = none := by kernel_rfl
@[go_sem] theorem ty_bo41 : boolT Try.prog 41 = false := by kernel_rfl
@[go_sem] theorem ty_co41 : concT Try.prog 41 = true := by kernel_rfl
@[go_sem] theorem ty_bt41 : bytT Try.prog 41 = false := by kernel_rfl
@[go_sem] theorem ty_st41 : strT Try.prog 41 = false := by kernel_rfl
@[go_sem] theorem ty_zv41 : zvT Try.prog 41 = some (.data .nilf) := by kernel_rfl
@[go_sem] theorem ty_sz42 : szT Try.prog 42 = some 1 := by kernel_rfl
@[go_sem] theorem ty_by42 : byT Try.prog 42 = some 8 := by kernel_rfl
@[go_sem] theorem ty_ag42 : aggT Try.prog 42 = some false := by kernel_rfl
@[go_sem] theorem ty_un42 : (Try.prog.underlying 42).isSome = true := by kernel_rfl
@[go_sem] theorem ty_ze42 : zeT Try.prog 42 = some [.data .nilf] := by kernel_rfl
@[go_sem] theorem ty_zl42 : zlT Try.prog 42 = some 1 := by kernel_rfl
@[go_sem] theorem ty_sl42 : sliceT Try.prog 42 = none := by kernel_rfl
@[go_sem] theorem ty_ar42 : arrT Try.prog 42 = none := by kernel_rfl
@[go_sem] theorem ty_in42 : intT Try.prog 42 = none := by kernel_rfl
@[go_sem] theorem ty_bo42 : boolT Try.prog 42 = false := by kernel_rfl
@[go_sem] theorem ty_co42 : concT Try.prog 42 = true := by kernel_rfl
@[go_sem] theorem ty_bt42 : bytT Try.prog 42 = false := by kernel_rfl
@[go_sem] theorem ty_st42 : strT Try.prog 42 = false := by kernel_rfl
@[go_sem] theorem ty_zv42 : zvT Try.prog 42 = some (.data .nilf) := by kernel_rfl
@[go_sem] theorem ty_sz43 : szT Try.prog 43 = some 1 := by kernel_rfl
@[go_sem] theorem ty_by43 : byT Try.prog 43 = some 8 := by kernel_rfl
@[go_sem] theorem ty_ag43 : aggT Try.prog 43 = some false := by kernel_rfl
@[go_sem] theorem ty_un43 : (Try.prog.underlying 43).isSome = true := by kernel_rfl
@[go_sem] theorem ty_ze43 : zeT Try.prog 43 = some [.data .nilf] := by kernel_rfl
@[go_sem] theorem ty_zl43 : zlT Try.prog 43 = some 1 := by kernel_rfl
@[go_sem] theorem ty_sl43 : sliceT Try.prog 43 = none := by kernel_rfl
@[go_sem] theorem ty_ar43 : arrT Try.prog 43 = none := by kernel_rfl
@[go_sem] theorem ty_in43 : intT Try.prog 43 = none := by kernel_rfl
@[go_sem] theorem ty_bo43 : boolT Try.prog 43 = false := by kernel_rfl
@[go_sem] theorem ty_co43 : concT Try.prog 43 = true := by kernel_rfl
@[go_sem] theorem ty_bt43 : bytT Try.prog 43 = false := by kernel_rfl
@[go_sem] theorem ty_st43 : strT Try.prog 43 = false := by kernel_rfl
@[go_sem] theorem ty_zv43 : zvT Try.prog 43 = some (.data .nilf) := by kernel_rfl
@[go_sem] theorem ty_sz44 : szT Try.prog 44 = some 1 := by kernel_rfl
@[go_sem] theorem ty_by44 : byT Try.prog 44 = some 8 := by kernel_rfl
@[go_sem] theorem ty_ag44 : aggT Try.prog 44 = some false := by kernel_rfl
@[go_sem] theorem ty_un44 : (Try.prog.underlying 44).isSome = true := by kernel_rfl
@[go_sem] theorem ty_ze44 : zeT Try.prog 44 = some [.data .nilf] := by kernel_rfl
@[go_sem] theorem ty_zl44 : zlT Try.prog 44 = some 1 := by kernel_rfl
@[go_sem] theorem ty_sl44 : sliceT Try.prog 44 = none := by kernel_rfl
@[go_sem] theorem ty_ar44 : arrT Try.prog 44 = none := by kernel_rfl
@[go_sem] theorem ty_in44 : intT Try.prog 44 = none := by kernel_rfl
@[go_sem] theorem ty_bo44 : boolT Try.prog 44 = false := by kernel_rfl
@[go_sem] theorem ty_co44 : concT Try.prog 44 = true := by kernel_rfl
@[go_sem] theorem ty_bt44 : bytT Try.prog 44 = false := by kernel_rfl
@[go_sem] theorem ty_st44 : strT Try.prog 44 = false := by kernel_rfl
@[go_sem] theorem ty_zv44 : zvT Try.prog 44 = some (.data .nilf) := by kernel_rfl
@[go_sem] theorem ty_sz45 : szT Try.prog 45 = some 1 := by kernel_rfl
@[go_sem] theorem ty_by45 : byT Try.prog 45 = some 8 := by kernel_rfl
@[go_sem] theorem ty_ag45 : aggT Try.prog 45 = some false := by kernel_rfl
@[go_sem] theorem ty_un45 : (Try.prog.underlying 45).isSome = true := by kernel_rfl
@[go_sem] theorem ty_ze45 : zeT Try.prog 45 = some [.data .nilf] := by kernel_rfl
@[go_sem] theorem ty_zl45 : zlT Try.prog 45 = some 1 := by kernel_rfl
@[go_sem] theorem ty_sl45 : sliceT Try.prog 45 = none := by kernel_rfl
@[go_sem] theorem ty_ar45 : arrT Try.prog 45 = none := by kernel_rfl
@[go_sem] theorem ty_in45 : intT Try.prog 45 = none := by kernel_rfl
@[go_sem] theorem ty_bo45 : boolT Try.prog 45 = false := by kernel_rfl
@[go_sem] theorem ty_co45 : concT Try.prog 45 = true := by kernel_rfl
@[go_sem] theorem ty_bt45 : bytT Try.prog 45 = false := by kernel_rfl
@[go_sem] theorem ty_st45 : strT Try.prog 45 = false := by kernel_rfl
@[go_sem] theorem ty_zv45 : zvT Try.prog 45 = some (.data .nilf) := by kernel_rfl
@[go_sem] theorem ty_sz46 : szT Try.prog 46 = some 1 := by kernel_rfl
@[go_sem] theorem ty_by46 : byT Try.prog 46 = some 8 := by kernel_rfl
@[go_sem] theorem ty_ag46 : aggT Try.prog 46 = some false := by kernel_rfl
@[go_sem] theorem ty_un46 : (Try.prog.underlying 46).isSome = true := by kernel_rfl
@[go_sem] theorem ty_ze46 : zeT Try.prog 46 = some [.data .nilf] := by kernel_rfl
@[go_sem] theorem ty_zl46 : zlT Try.prog 46 = some 1 := by kernel_rfl
@[go_sem] theorem ty_sl46 : sliceT Try.prog 46 = none := by kernel_rfl
@[go_sem] theorem ty_ar46 : arrT Try.prog 46 = none := by kernel_rfl
@[go_sem] theorem ty_in46 : intT Try.prog 46 = none := by kernel_rfl
@[go_sem] theorem ty_bo46 : boolT Try.prog 46 = false := by kernel_rfl
@[go_sem] theorem ty_co46 : concT Try.prog 46 = true := by kernel_rfl
@[go_sem] theorem ty_bt46 : bytT Try.prog 46 = false := by kernel_rfl
@[go_sem] theorem ty_st46 : strT Try.prog 46 = false := by kernel_rfl
@[go_sem] theorem ty_zv46 : zvT Try.prog 46 = some (.data .nilf) := by kernel_rfl
@[go_sem] theorem ty_sz47 : szT Try.prog 47 = some 1 := by kernel_rfl
@[go_sem] theorem ty_by47 : byT Try.prog 47 = some 8 := by kernel_rfl
@[go_sem] theorem ty_ag47 : aggT Try.prog 47 = some false := by kernel_rfl
@[go_sem] theorem ty_un47 : (Try.prog.underlying 47).isSome = true := by kernel_rfl
@[go_sem] theorem ty_ze47 : zeT Try.prog 47 = some [.data .nilf] := by kernel_rfl
@[go_sem] theorem ty_zl47 : zlT Try.prog 47 = some 1 := by kernel_rfl
@[go_sem] theorem ty_sl47 : sliceT Try.prog 47 = none := by kernel_rfl
@[go_sem] theorem ty_ar47 : arrT Try.prog 47 = none := by kernel_rfl
@[go_sem] theorem ty_in47 : intT Try.prog 47 = none := by kernel_rfl
@[go_sem] theorem ty_bo47 : boolT Try.prog 47 = false := by kernel_rfl
@[go_sem] theorem ty_co47 : concT Try.prog 47 = true := by kernel_rfl
@[go_sem] theorem ty_bt47 : bytT Try.prog 47 = false := by kernel_rfl
@[go_sem] theorem ty_st47 : strT Try.prog 47 = false := by kernel_rfl
@[go_sem] theorem ty_zv47 : zvT Try.prog 47 = some (.data .nilf) := by kernel_rfl
@[go_sem] theorem ty_sz48 : szT Try.prog 48 = some 1 := by kernel_rfl
@[go_sem] theorem ty_by48 : byT Try.prog 48 = some 8 := by kernel_rfl
@[go_sem] theorem ty_ag48 : aggT Try.prog 48 = some false := by kernel_rfl
@[go_sem] theorem ty_un48 : (Try.prog.underlying 48).isSome = true := by kernel_rfl
@[go_sem] theorem ty_ze48 : zeT Try.prog 48 = some [.data .nilf] := by kernel_rfl
@[go_sem] theorem ty_zl48 : zlT Try.prog 48 = some 1 := by kernel_rfl
@[go_sem] theorem ty_sl48 : sliceT Try.prog 48 = none := by kernel_rfl
@[go_sem] theorem ty_ar48 : arrT Try.prog 48 = none := by kernel_rfl
@[go_sem] theorem ty_in48 : intT Try.prog 48 = none := by kernel_rfl
@[go_sem] theorem ty_bo48 : boolT Try.prog 48 = false := by kernel_rfl
@[go_sem] theorem ty_co48 : concT Try.prog 48 = true := by kernel_rfl
@[go_sem] theorem ty_bt48 : bytT Try.prog 48 = false := by kernel_rfl
@[go_sem] theorem ty_st48 : strT Try.prog 48 = false := by kernel_rfl
@[go_sem] theorem ty_zv48 : zvT Try.prog 48 = some (.data .nilf) := by kernel_rfl
@[go_sem] theorem ty_sz49 : szT Try.prog 49 = some 1 := by kernel_rfl
@[go_sem] theorem ty_by49 : byT Try.prog 49 = some 8 := by kernel_rfl
@[go_sem] theorem ty_ag49 : aggT Try.prog 49 = some false := by kernel_rfl
@[go_sem] theorem ty_un49 : (Try.prog.underlying 49).isSome = true := by kernel_rfl
@[go_sem] theorem ty_ze49 : zeT Try.prog 49 = some [.data .nilf] := by kernel_rfl
@[go_sem] theorem ty_zl49 : zlT Try.prog 49 = some 1 := by kernel_rfl
@[go_sem] theorem ty_sl49 : sliceT Try.prog 49 = none := by kernel_rfl
@[go_sem] theorem ty_ar49 : arrT Try.prog 49 = none := by kernel_rfl
@[go_sem] theorem ty_in49 : intT Try.prog 49 = none := by kernel_rfl
@[go_sem] theorem ty_bo49 : boolT Try.prog 49 = false := by kernel_rfl
@[go_sem] theorem ty_co49 : concT Try.prog 49 = true := by kernel_rfl
@[go_sem] theorem ty_bt49 : bytT Try.prog 49 = false := by kernel_rfl
@[go_sem] theorem ty_st49 : strT Try.prog 49 = false := by kernel_rfl
@[go_sem] theorem ty_zv49 : zvT Try.prog 49 = some (.data .nilf) := by kernel_rfl
@[go_sem] theorem ty_sz50 : szT Try.prog 50 = some 1 := by kernel_rfl
@[go_sem] theorem ty_by50 : byT Try.prog 50 = some 8 := by kernel_rfl
@[go_sem] theorem ty_ag50 : aggT Try.prog 50 = some false := by kernel_rfl
@[go_sem] theorem ty_un50 : (Try.prog.underlying 50).isSome = true := by kernel_rfl
@[go_sem] theorem ty_ze50 : zeT Try.prog 50 = some [.data .nilf] := by kernel_rfl
@[go_sem] theorem ty_zl50 : zlT Try.prog 50 = some 1 := by kernel_rfl
@[go_sem] theorem ty_sl50 : sliceT Try.prog 50 = none := by kernel_rfl
@[go_sem] theorem ty_ar50 : arrT Try.prog 50 = none := by kernel_rfl
@[go_sem] theorem ty_in50 : intT Try.prog 50 = none := by kernel_rfl
@[go_sem] theorem ty_bo50 : boolT Try.prog 50 = false := by kernel_rfl
@[go_sem] theorem ty_co50 : concT Try.prog 50 = true := by kernel_rfl
@[go_sem] theorem ty_bt50 : bytT Try.prog 50 = false := by kernel_rfl
@[go_sem] theorem ty_st50 : strT Try.prog 50 = false := by kernel_rfl
@[go_sem] theorem ty_zv50 : zvT Try.prog 50 = some (.data .nilf) := by kernel_rfl
@[go_sem] theorem ty_sz51 : szT Try.prog 51 = some 1 := by kernel_rfl
@[go_sem] theorem ty_by51 : byT Try.prog 51 = some 8 := by kernel_rfl
@[go_sem] theorem ty_ag51 : aggT Try.prog 51 = some false := by kernel_rfl
@[go_sem] theorem ty_un51 : (Try.prog.underlying 51).isSome = true := by kernel_rfl
@[go_sem] theorem ty_ze51 : zeT Try.prog 51 = some [.data .nilf] := by kernel_rfl
@[go_sem] theorem ty_zl51 : zlT Try.prog 51 = some 1 := by kernel_rfl
@[go_sem] theorem ty_sl51 : sliceT Try.prog 51 = none := by kernel_rfl
@[go_sem] theorem ty_ar51 : arrT Try.prog 51 = none := by kernel_rfl
@[go_sem] theorem ty_in51 : intT Try.prog 51 = none := by kernel_rfl
@[go_sem] theorem ty_bo51 : boolT Try.prog 51 = false := by kernel_rfl
@[go_sem] theorem ty_co51 : concT Try.prog 51 = true := by kernel_rfl
@[go_sem] theorem ty_bt51 : bytT Try.prog 51 = false := by kernel_rfl
@[go_sem] theorem ty_st51 : strT Try.prog 51 = false := by kernel_rfl
@[go_sem] theorem ty_zv51 : zvT Try.prog 51 = some (.data .nilf) := by kernel_rfl
@[go_sem] theorem ty_sz52 : szT Try.prog 52 = some 1 := by kernel_rfl
@[go_sem] theorem ty_by52 : byT Try.prog 52 = some 8 := by kernel_rfl
@[go_sem] theorem ty_ag52 : aggT Try.prog 52 = some false := by kernel_rfl
@[go_sem] theorem ty_un52 : (Try.prog.underlying 52).isSome = true := by kernel_rfl
@[go_sem] theorem ty_ze52 : zeT Try.prog 52 = some [.data .nilf] := by kernel_rfl
@[go_sem] theorem ty_zl52 : zlT Try.prog 52 = some 1 := by kernel_rfl
@[go_sem] theorem ty_sl52 : sliceT Try.prog 52 = none := by kernel_rfl
@[go_sem] theorem ty_ar52 : arrT Try.prog 52 = none := by kernel_rfl
@[go_sem] theorem ty_in52 : intT Try.prog 52 = none := by kernel_rfl
@[go_sem] theorem ty_bo52 : boolT Try.prog 52 = false := by kernel_rfl
@[go_sem] theorem ty_co52 : concT Try.prog 52 = true := by kernel_rfl
@[go_sem] theorem ty_bt52 : bytT Try.prog 52 = false := by kernel_rfl
@[go_sem] theorem ty_st52 : strT Try.prog 52 = false := by kernel_rfl
@[go_sem] theorem ty_zv52 : zvT Try.prog 52 = some (.data .nilf) := by kernel_rfl
@[go_sem] theorem ty_sz53 : szT Try.prog 53 = some 1 := by kernel_rfl
@[go_sem] theorem ty_by53 : byT Try.prog 53 = some 8 := by kernel_rfl
@[go_sem] theorem ty_ag53 : aggT Try.prog 53 = some false := by kernel_rfl
@[go_sem] theorem ty_un53 : (Try.prog.underlying 53).isSome = true := by kernel_rfl
@[go_sem] theorem ty_ze53 : zeT Try.prog 53 = some [.data .nilf] := by kernel_rfl
@[go_sem] theorem ty_zl53 : zlT Try.prog 53 = some 1 := by kernel_rfl
@[go_sem] theorem ty_sl53 : sliceT Try.prog 53 = none := by kernel_rfl
@[go_sem] theorem ty_ar53 : arrT Try.prog 53 = none := by kernel_rfl
@[go_sem] theorem ty_in53 : intT Try.prog 53 = none := by kernel_rfl
@[go_sem] theorem ty_bo53 : boolT Try.prog 53 = false := by kernel_rfl
@[go_sem] theorem ty_co53 : concT Try.prog 53 = true := by kernel_rfl
@[go_sem] theorem ty_bt53 : bytT Try.prog 53 = false := by kernel_rfl
@[go_sem] theorem ty_st53 : strT Try.prog 53 = false := by kernel_rfl
@[go_sem] theorem ty_zv53 : zvT Try.prog 53 = some (.data .nilf) := by kernel_rfl
@[go_sem] theorem ty_sz56 : szT Try.prog 56 = some 0 := by kernel_rfl
@[go_sem] theorem ty_by56 : byT Try.prog 56 = some 0 := by kernel_rfl
@[go_sem] theorem ty_ag56 : aggT Try.prog 56 = some true := by kernel_rfl
@[go_sem] theorem ty_un56 : (Try.prog.underlying 56).isSome = true := by kernel_rfl
@[go_sem] theorem ty_ze56 : zeT Try.prog 56 = some [] := by kernel_rfl
@[go_sem] theorem ty_zl56 : zlT Try.prog 56 = some 0 := by kernel_rfl
@[go_sem] theorem ty_sl56 : sliceT Try.prog 56 = none := by kernel_rfl
@[go_sem] theorem ty_ar56 : arrT Try.prog 56 = some (0, 16) := by kernel_rfl
@[go_sem] theorem ty_in56 : intT Try.prog 56 = none := by kernel_rfl
@[go_sem] theorem ty_bo56 : boolT Try.prog 56 = false := by kernel_rfl
@[go_sem] theorem ty_co56 : concT Try.prog 56 = true := by kernel_rfl
@[go_sem] theorem ty_bt56 : bytT Try.prog 56 = false := by kernel_rfl
@[go_sem] theorem ty_st56 : strT Try.prog 56 = false := by kernel_rfl
@[go_sem] theorem ty_zv56 : zvT Try.prog 56 = some (.data (.agg [])) := by kernel_rfl
@[go_sem] theorem ty_sz59 : szT Try.prog 59 = some 1 := by kernel_rfl
@[go_sem] theorem ty_by59 : byT Try.prog 59 = some 8 := by kernel_rfl
@[go_sem] theorem ty_ag59 : aggT Try.prog 59 = some false := by kernel_rfl
@[go_sem] theorem ty_un59 : (Try.prog.underlying 59).isSome = true := by kernel_rfl
@[go_sem] theorem ty_ze59 : zeT Try.prog 59 = some [.data .nilf] := by kernel_rfl
@[go_sem] theorem ty_zl59 : zlT Try.prog 59 = some 1 := by kernel_rfl
@[go_sem] theorem ty_sl59 : sliceT Try.prog 59 = none := by kernel_rfl
@[go_sem] theorem ty_ar59 : arrT Try.prog 59 = none := by kernel_rfl
@[go_sem] theorem ty_in59 : intT Try.prog 59 = none := by kernel_rfl
@[go_sem] theorem ty_bo59 : boolT Try.prog 59 = false := by kernel_rfl
@[go_sem] theorem ty_co59 : concT Try.prog 59 = true := by kernel_rfl
@[go_sem] theorem ty_bt59 : bytT Try.prog 59 = false := by kernel_rfl
@[go_sem] theorem ty_st59 : strT Try.prog 59 = false := by kernel_rfl
@[go_sem] theorem ty_zv59 : zvT Try.prog 59 = some (.data .nilf) := by kernel_rfl
@[go_sem] theorem ty_sz62 : szT Try.prog 62 = some 1 := by kernel_rfl
@[go_sem] theorem ty_by62 : byT Try.prog 62 = some 8 := by kernel_rfl
@[go_sem] theorem ty_ag62 : aggT Try.prog 62 = some false := by kernel_rfl
@[go_sem] theorem ty_un62 : (Try.prog.underlying 62).isSome = true := by kernel_rfl
@[go_sem] theorem ty_ze62 : zeT Try.prog 62 = some [.data .nilf] := by kernel_rfl
@[go_sem] theorem ty_zl62 : zlT Try.prog 62 = some 1 := by kernel_rfl
@[go_sem] theorem ty_sl62 : sliceT Try.prog 62 = none := by kernel_rfl
@[go_sem] theorem ty_ar62 : arrT Try.prog 62 = none := by kernel_rfl
@[go_sem] theorem ty_in62 : intT Try.prog 62 = none := by kernel_rfl
@[go_sem] theorem ty_bo62 : boolT Try.prog 62 = false := by kernel_rfl
@[go_sem] theorem ty_co62 : concT Try.prog 62 = true := by kernel_rfl
@[go_sem] theorem ty_bt62 : bytT Try.prog 62 = false := by kernel_rfl
@[go_sem] theorem ty_st62 : strT Try.prog 62 = false := by kernel_rfl
@[go_sem] theorem ty_zv62 : zvT Try.prog 62 = some (.data .nilf) := by kernel_rfl
@[go_sem] theorem ty_sz63 : szT Try.prog 63 = some 1 := by kernel_rfl
@[go_sem] theorem ty_by63 : byT Try.prog 63 = some 8 := by kernel_rfl
@[go_sem] theorem ty_ag63 : aggT Try.prog 63 = some false := by kernel_rfl
@[go_sem] theorem ty_un63 : (Try.prog.underlying 63).isSome = true := by kernel_rfl
@[go_sem] theorem ty_ze63 : zeT Try.prog 63 = some [.data .nilp] := by kernel_rfl
@[go_sem] theorem ty_zl63 : zlT Try.prog 63 = some 1 := by kernel_rfl
@[go_sem] theorem ty_sl63 : sliceT Try.prog 63 = none := by kernel_rfl
@[go_sem] theorem ty_ar63 : arrT Try.prog 63 = none := by kernel_rfl
@[go_sem] theorem ty_in63 : intT Try.prog 63 = none := by kernel_rfl
@[go_sem] theorem ty_bo63 : boolT Try.prog 63 = false := by kernel_rfl
@[go_sem] theorem ty_co63 : concT Try.prog 63 = true := by kernel_rfl
@[go_sem] theorem ty_bt63 : bytT Try.prog 63 = false := by kernel_rfl
@[go_sem] theorem ty_st63 : strT Try.prog 63 = false := by kernel_rfl
@[go_sem] theorem ty_zv63 : zvT Try.prog 63 = some (.data .nilp) := by kernel_rfl
@[go_sem] theorem ty_sz68 : szT Try.prog 68 = some 1 := by kernel_rfl
@[go_sem] theorem ty_by68 : byT Try.prog 68 = some 8 := by kernel_rfl
@[go_sem] theorem ty_ag68 : aggT Try.prog 68 = some false := by kernel_rfl
@[go_sem] theorem ty_un68 : (Try.prog.underlying 68).isSome = true := by kernel_rfl
@[go_sem] theorem ty_ze68 : zeT Try.prog 68 = some [.data .nilp] := by kernel_rfl
@[go_sem] theorem ty_zl68 : zlT Try.prog 68 = some 1 := by kernel_rfl
@[go_sem] theorem ty_sl68 : sliceT Try.prog 68 = none := by kernel_rfl
@[go_sem] theorem ty_ar68 : arrT Try.prog 68 = none := by kernel_rfl
@[go_sem] theorem ty_in68 : intT Try.prog 68 = none := by kernel_rfl
@[go_sem] theorem ty_bo68 : boolT Try.prog 68 = false := by kernel_rfl
@[go_sem] theorem ty_co68 : concT Try.prog 68 = true := by kernel_rfl
@[go_sem] theorem ty_bt68 : bytT Try.prog 68 = false := by kernel_rfl
@[go_sem] theorem ty_st68 : strT Try.prog 68 = false := by kernel_rfl
@[go_sem] theorem ty_zv68 : zvT Try.prog 68 = some (.data .nilp) := by kernel_rfl
theorem mixed : Try.prog.follows .mixedOrders = true := by kernel_rfl
end Go.Proofs.Ytdodhnkbdechaaa
namespace Go.Proofs.Ytdodhnkbdechaaa
open Go.RowKit
set_option linter.unusedVariables false
set_option linter.unusedSimpArgs false
set_option maxRecDepth 100000 in
theorem row_pc (Γ : Nat → Option (List Data)) (a b : List Nat) (ha : a.length ≤ 100000000000) (hb : b.length ≤ 100000000000) : PC Try.prog Γ 13 [.sl 1 (bys a), .sl 1 (bys b)] (.bool (decide (a = b))) := by
  refine pc_by mixed Try.func13 rfl (fun args w => Try.call13 args w) ?_
  simp -implicitDefEqProofs (disch := omega) [go_sem, Try.f13]
  refine ifW_ndec (fun h => ?_) (fun h => ?_)
  · have hne : a ≠ b := fun e => h (by rw [e])
    simp -implicitDefEqProofs (disch := omega) [go_sem, Try.f13, hne]
  · have hl : a.length = b.length := by omega
    simp -implicitDefEqProofs (disch := omega) [go_sem]
    refine loop_of (σ := { i : Nat // i ≤ a.length ∧ ∀ j, j < i → a[j]? = b[j]? }) (fun i => ⟨envL [(0, .data (.sl 1 (bys a))), (1, .data (.sl 1 (bys b))), (5, .data (.int .i64 i.1))], hpL [], 0, 0, 26⟩) (fun i => a.length - i.1) ⟨0, by omega, by omega⟩ ?_ ?_
    · apply weak_lists <;> simp -implicitDefEqProofs [go_sem]
    · rintro ⟨i, hi, heq⟩
      simp -implicitDefEqProofs (disch := omega) [go_sem]
      refine ifW_dec (fun h => ?_) (fun h => ?_)
      · have hia : i < a.length := by omega
        simp -implicitDefEqProofs (disch := omega) [go_sem]
        refine side (by kernel_rfl) ?_
        simp -implicitDefEqProofs (disch := omega) [go_sem]
        refine ifW_ndec (fun h2 => ?_) (fun h2 => ?_)
        · have hne : a ≠ b := fun e => h2 (by subst e; rfl)
          simp -implicitDefEqProofs (disch := omega) [go_sem, Try.f13, hne]
        · simp -implicitDefEqProofs (disch := omega) [go_sem]
          refine next_of ⟨i + 1, by omega, fun j hj => ?_⟩ ?_ (by simp only; omega)
          · by_cases e : j = i
            · subst e
              rw [List.getElem?_eq_getElem hia, List.getElem?_eq_getElem (by omega)]
              congr 1
              omega
            · exact heq j (by omega)
          apply weak_lists <;> simp -implicitDefEqProofs [go_sem]
      · have hab : a = b := List.ext_getElem? fun j => by
          by_cases hj : j < a.length
          · exact heq j (by omega)
          · rw [List.getElem?_eq_none (by omega), List.getElem?_eq_none (by omega)]
        simp -implicitDefEqProofs (disch := omega) [go_sem, Try.f13, hab]
end Go.Proofs.Ytdodhnkbdechaaa
namespace Go.Proofs.Ytdodhnkbdechaaa
open Go.RowKit
set_option linter.unusedVariables false
set_option linter.unusedSimpArgs false
namespace Sf
/-- A byte that is escaped. -/
def escd (accm c : Nat) : Prop := c = 126 ∨ c = 125 ∨ (c < 32 ∧ accm / 2 ^ c % 2 = 1)
instance (accm c : Nat) : Decidable (escd accm c) := by unfold escd; infer_instance
def esc1 (accm c : Nat) : List Nat := if escd accm c then [125, c ^^^ 32] else [c]
def escB (accm : Nat) (b : List Nat) : List Nat := b.flatMap (esc1 accm)
theorem escB_nil (accm : Nat) : escB accm [] = [] := rfl
theorem escB_cons (accm c : Nat) (b : List Nat) : escB accm (c :: b) = esc1 accm c ++ escB accm b := rfl
theorem escB_append (accm : Nat) (a b : List Nat) : escB accm (a ++ b) = escB accm a ++ escB accm b := by simp [escB, List.flatMap_append]
theorem escB_take (accm : Nat) (b : List Nat) (i : Nat) (h : i < b.length) : escB accm (b.take (i + 1)) = escB accm (b.take i) ++ esc1 accm b[i] := by
  rw [List.take_add_one, List.getElem?_eq_getElem h, Option.toList_some, escB_append]
  simp [escB]
theorem esc1_le (accm c : Nat) : (esc1 accm c).length ≤ 2 := by unfold esc1; split <;> simp
theorem escB_le (accm : Nat) : ∀ b : List Nat, (escB accm b).length ≤ 2 * b.length
  | [] => by simp [escB_nil]
  | c :: b => by
    have h1 := escB_le accm b
    have h2 := esc1_le accm c
    rw [escB_cons, List.length_append, List.length_cons]
    omega
theorem xor_lt {c : Nat} (h : c < 256) : c ^^^ 32 < 256 := Nat.xor_lt_two_pow (n := 8) h (by decide)
theorem xor_xor (c : Nat) : c ^^^ 32 ^^^ 32 = c := by rw [Nat.xor_assoc, Nat.xor_self, Nat.xor_zero]
theorem escd_xor {accm c : Nat} (h : escd accm c) : c ^^^ 32 ≠ 126 ∧ c ^^^ 32 ≠ 125 ∧ 32 ≤ c ^^^ 32 := by
  unfold escd at h
  have hc : c = 126 ∨ c = 125 ∨ c < 32 := by omega
  have key : ∀ c : Fin 32, c.val ^^^ 32 ≠ 126 ∧ c.val ^^^ 32 ≠ 125 ∧ 32 ≤ c.val ^^^ 32 := by decide
  rcases hc with rfl | rfl | hc
  · decide
  · decide
  · exact key ⟨c, hc⟩
/-- What is plain, of bytes of which the first is turned by t. -/
def plT : Nat → List Nat → Option (List Nat)
  | t, [] => if t = 0 then some [] else none
  | t, c :: l => if c = 126 then none else if c = 125 ∧ t = 0 then plT 32 l else (plT 0 l).map ((c ^^^ t) :: ·)
def plain (b : List Nat) : Option (List Nat) := plT 0 b
/-- What is plain, a byte or two at a time. -/
theorem plT_le : ∀ (t : Nat) (b out : List Nat), plT t b = some out → out.length ≤ b.length
  | t, [], out, h => by
    unfold plT at h
    split at h
    · cases h; simp
    · cases h
  | t, c :: l, out, h => by
    unfold plT at h
    split at h
    · cases h
    · split at h
      · have := plT_le 32 l out h
        simp; omega
      · obtain ⟨o, ho, rfl⟩ := Option.map_eq_some_iff.1 h
        have := plT_le 0 l o ho
        simp; omega
theorem plT_lt : ∀ (t : Nat) (b out : List Nat), t < 256 → (∀ x ∈ b, x < 256) → plT t b = some out → ∀ x ∈ out, x < 256
  | t, [], out, ht, hb, h => by
    unfold plT at h
    split at h
    · cases h; simp
    · cases h
  | t, c :: l, out, ht, hb, h => by
    unfold plT at h
    split at h
    · cases h
    · split at h
      · exact plT_lt 32 l out (by omega) (fun x hx => hb x (by simp [hx])) h
      · obtain ⟨o, ho, rfl⟩ := Option.map_eq_some_iff.1 h
        have hl := plT_lt 0 l o (by omega) (fun x hx => hb x (by simp [hx])) ho
        intro x hx
        rcases List.mem_cons.1 hx with rfl | hx
        · exact Nat.xor_lt_two_pow (n := 8) (hb c (by simp)) ht
        · exact hl x hx
theorem plT_flag (t : Nat) (b : List Nat) (h : 126 ∈ b) : plT t b = none := by
  induction b generalizing t with
  | nil => cases h
  | cons c l ih =>
    unfold plT
    split
    · rfl
    · rename_i hc
      have hl : 126 ∈ l := by
        rcases List.mem_cons.1 h with h | h
        · exact absurd h.symm hc
        · exact h
      split
      · exact ih 32 hl
      · rw [ih 0 hl]; rfl
/-- What is escaped is plain again. -/
theorem plain_esc (accm : Nat) (b r : List Nat) : plT 0 (escB accm b ++ r) = (plT 0 r).map (b ++ ·) := by
  induction b with
  | nil => simp [escB_nil]
  | cons c l ih =>
    rw [escB_cons, List.append_assoc]
    unfold esc1
    by_cases h : escd accm c
    · rw [if_pos h]
      obtain ⟨h1, h2, h3⟩ := escd_xor h
      have e1 : plT 0 ([125, c ^^^ 32] ++ (escB accm l ++ r)) = (plT 0 (escB accm l ++ r)).map ((c ^^^ 32 ^^^ 32) :: ·) := by
        show plT 0 (125 :: (c ^^^ 32) :: (escB accm l ++ r)) = _
        rw [plT, if_neg (by decide), if_pos ⟨rfl, rfl⟩, plT, if_neg h1, if_neg (by omega)]
      rw [e1, ih, xor_xor]
      cases plT 0 r <;> rfl
    · rw [if_neg h]
      unfold escd at h
      have e1 : plT 0 ([c] ++ (escB accm l ++ r)) = (plT 0 (escB accm l ++ r)).map ((c ^^^ 0) :: ·) := by
        show plT 0 (c :: (escB accm l ++ r)) = _
        rw [plT, if_neg (by omega), if_neg (by omega)]
      rw [e1, ih, Nat.xor_zero]
      cases plT 0 r <;> rfl
theorem plain_of_esc (accm : Nat) (b : List Nat) : plain (escB accm b) = some b := by
  have := plain_esc accm b []
  simpa [plain, plT] using this
theorem esc_noflag (accm : Nat) (b : List Nat) : 126 ∉ escB accm b := fun h => by
  have := plain_of_esc accm b
  rw [plain, plT_flag 0 _ h] at this
  cases this
theorem esc_lt (accm : Nat) {b : List Nat} (h : ∀ x ∈ b, x < 256) : ∀ x ∈ escB accm b, x < 256 := by
  intro x hx
  obtain ⟨c, hc, hx⟩ := List.mem_flatMap.1 hx
  unfold esc1 at hx
  split at hx
  · simp only [List.mem_cons, List.not_mem_nil, or_false] at hx
    rcases hx with rfl | rfl
    · omega
    · exact xor_lt (h c hc)
  · simp only [List.mem_singleton] at hx
    subst hx
    exact h _ hc
/-- Of what is escaped nothing below 32 is such as is to be escaped. -/
theorem esc_low (accm : Nat) (b : List Nat) : ∀ x ∈ escB accm b, ¬ (x < 32 ∧ accm / 2 ^ x % 2 = 1) := by
  intro x hx hlow
  obtain ⟨c, hc, hx⟩ := List.mem_flatMap.1 hx
  unfold esc1 at hx
  split at hx
  · rename_i h
    simp only [List.mem_cons, List.not_mem_nil, or_false] at hx
    rcases hx with rfl | rfl
    · omega
    · have := (escd_xor h).2.2
      omega
  · rename_i h
    simp only [List.mem_singleton] at hx
    subst hx
    exact h (.inr (.inr hlow))
theorem xor8 {a b : Nat} (ha : a < 256) (hb : b < 256) : xorI .u8 a b = ((a ^^^ b : Nat) : Int) := by
  have h : a ^^^ b < 2 ^ 8 := Nat.xor_lt_two_pow (by simpa using ha) (by simpa using hb)
  unfold xorI
  rw [IntKind.wrap_u8, BitVec.ofInt_natCast, BitVec.ofInt_natCast, BitVec.toNat_xor, BitVec.toNat_ofNat, BitVec.toNat_ofNat, mod_of (show a < 2 ^ IntKind.u8.bits from ha), mod_of (show b < 2 ^ IntKind.u8.bits from hb)]
  omega
theorem turn8 {a : Nat} (ha : a < 256) : xorI .u8 a 32 = ((a ^^^ 32 : Nat) : Int) := xor8 ha (by decide)
theorem bit_lo {a c : Nat} (ha : a < 4294967296) : andI .u32 ((a : Int) / 2 ^ c) 1 = ((a / 2 ^ c % 2 : Nat) : Int) := by
  have e1 : ((a : Int) / 2 ^ c) = ((a / 2 ^ c : Nat) : Int) := by simp
  have hlt : a / 2 ^ c < 4294967296 := Nat.lt_of_le_of_lt (Nat.div_le_self _ _) ha
  have e2 : andI .u32 ((a / 2 ^ c : Nat) : Int) ((1 : Nat) : Int) = _ := and_u32 hlt (by decide)
  rw [e1, show (1 : Int) = ((1 : Nat) : Int) from rfl, e2, Nat.and_one_is_mod]
theorem bit_hi {a : Nat} (ha : a < 4294967296) : andI .u32 ((a : Int).fdiv 4294967296) 1 = 0 := by
  rw [Int.fdiv_eq_ediv_of_nonneg _ (by decide), Int.ediv_eq_zero_of_lt (by omega) (by omega)]
  decide
theorem esc1_yes {a c : Nat} (h : escd a c) : esc1 a c = [125, c ^^^ 32] := if_pos h
theorem esc1_no {a c : Nat} (h : ¬ escd a c) : esc1 a c = [c] := if_neg h
end Sf
end Go.Proofs.Ytdodhnkbdechaaa
namespace Go.Proofs.Ytdodhnkbdechaaa
open Go.RowKit
set_option linter.unusedVariables false
set_option linter.unusedSimpArgs false
set_option maxRecDepth 100000
namespace Sf
section
variable (Γ : Nat → Option (List Data))
def escD (a : Nat) : Data := .fn 31 [.pc [.int .u32 a]]
theorem escaping_pc (a : Nat) : PC Try.prog Γ 26 [.int .u32 a] (escD a) := by
  refine pc_by mixed Try.func26 rfl (fun args w => Try.call26 args w) ?_
  simp -implicitDefEqProofs (disch := omega) [go_sem, Try.f26]
  exact ⟨_, ⟨_, rfl, _, rfl, _, rfl, frz_ptr (rw := true) (l := [.int .u32 a]) (by simp [go_sem]) (.inl rfl)⟩, rfl⟩
set_option maxHeartbeats 4000000 in
theorem esc1_dc (q : List Nat) (a c : Nat) (hq : q.length ≤ 1000000000) (ha : a < 4294967296) (hc : c < 256) : DC Try.prog Γ 31 [.ref 0 0 q.length 1, .data (.int .u8 c), .cptr [.int .u32 a]] (hpL [(0, .blk true ((bys q).map D.data))]) 1
    (fun d H' _ => ∃ g m x, d = .ref g 0 m 1 ∧ H' g = .blk true (x.map D.data) ∧ m = (q ++ esc1 a c).length ∧ x = bys (q ++ esc1 a c)) := by
  refine dc_by mixed Try.func31 rfl (fun args w => Try.call31 args w) ?_
  have ht := turn8 hc
  have t6 : xorI .u8 126 32 = 94 := turn8 (a := 126) (by decide)
  have t5 : xorI .u8 125 32 = 93 := turn8 (a := 125) (by decide)
  by_cases h0 : c < 32
  · have hb := bit_lo (c := c) ha
    have hlt : a / 2 ^ c % 2 < 2 := Nat.mod_lt _ (by omega)
    by_cases h1 : a / 2 ^ c % 2 = 1
    · have he : esc1 a c = [125, c ^^^ 32] := esc1_yes (.inr (.inr ⟨h0, h1⟩))
      rw [h1] at hb
      simp -implicitDefEqProofs (disch := omega) [go_sem, hb, he, ht, t5, t6, Try.f31]
      simp [bys, u8]
    · have he : esc1 a c = [c] := esc1_no (by unfold escd; omega)
      have h2 : a / 2 ^ c % 2 = 0 := by omega
      rw [h2] at hb
      simp -implicitDefEqProofs (disch := omega) [go_sem, hb, he, ht, t5, t6, Try.f31]
      simp [bys, u8]
  · have hb := bit_hi ha
    by_cases h1 : c = 126
    · subst h1
      have he : esc1 a 126 = [125, 126 ^^^ 32] := esc1_yes (.inl rfl)
      simp -implicitDefEqProofs (disch := omega) [go_sem, hb, he, ht, t5, t6, Try.f31]
      simp [bys, u8]
    · by_cases h2 : c = 125
      · subst h2
        have he : esc1 a 125 = [125, 125 ^^^ 32] := esc1_yes (.inr (.inl rfl))
        simp -implicitDefEqProofs (disch := omega) [go_sem, hb, he, ht, t5, t6, Try.f31]
        simp [bys, u8]
      · have he : esc1 a c = [c] := esc1_no (by unfold escd; omega)
        simp -implicitDefEqProofs (disch := omega) [go_sem, hb, he, ht, t5, t6, Try.f31]
        simp [bys, u8]
/-- Bytes at hand: one more, escaped if it is to be. -/
theorem esc_given {q : List Nat} {a c : Nat} (hq : q.length ≤ 1000000000) (ha : a < 4294967296) (hc : c < 256) {H : Nat → Blk} {nx g : Nat} {K : D → (Nat → Blk) → Nat → Prop} {m : Nat} (hm : m = q.length) (hg : H g = .blk true ((bys q).map D.data)) (hgn : g < nx)
    (h : K (.ref nx 0 (q ++ esc1 a c).length 1) (Hp.upd H [(g, .dead), (nx, .blk true ((bys (q ++ esc1 a c)).map D.data))]) (nx + 1)) : DC Try.prog Γ 31 [.ref g 0 m 1, .data (.int .u8 c), .cptr [.int .u32 a]] H nx K := by
  subst hm
  exact dc_given (cells := bys q) (K0 := fun m x => m = (q ++ esc1 a c).length ∧ x = bys (q ++ esc1 a c)) (esc1_dc Γ q a c hq ha hc) hg hgn (by simp) (fun m c ⟨h3, h4⟩ => by subst h3; subst h4; exact h)
set_option maxHeartbeats 4000000 in
theorem escape_oc (b : List Nat) (a : Nat) (hb : b.length ≤ 10000000) (hl : ∀ x ∈ b, x < 256) (ha : a < 4294967296) : OC Try.prog Γ 14 [.sl 1 (bys b), .int .u32 a] (.ref 0 0 (escB a b).length 1) [(0, .blk true ((bys (escB a b)).map .data))] 1 := by
  refine oc_by mixed Try.func14 rfl (fun args w => Try.call14 args w) ?_
  simp -implicitDefEqProofs (disch := omega) [go_sem]
  refine .inl (call_data (escaping_pc Γ a) (by simp [go_sem]) ?_)
  simp -implicitDefEqProofs (disch := omega) [go_sem, escD]
  refine loop_ren (σ := { i : Nat // i ≤ b.length }) (fun i => ⟨envL [(5, .data (escD a)), (6, .ref 0 0 (escB a (b.take i.1)).length 1), (14, .data (.sl 1 (bys b))), (15, .data (.int .i64 b.length)), (16, .data (.int .i64 i.1))], hpL [(0, .blk true ((bys (escB a (b.take i.1))).map .data))], 1, 0, 26⟩) (fun i => b.length - i.1) ⟨0, by omega⟩ [] (rhoL [(0, some 6)]) ?_ ?_
  · apply ren_lists <;> simp -implicitDefEqProofs [go_sem, escB_nil, escD]
  · rintro ⟨i, hi⟩
    by_cases h : i < b.length
    · have hc := hl _ (List.getElem_mem h)
      have ht := escB_take a b i h
      have hle := escB_le a (b.take i)
      rw [List.length_take, Nat.min_eq_left hi] at hle
      simp -implicitDefEqProofs (disch := omega) [go_sem, escD]
      refine .inr (esc_given Γ (q := escB a (b.take i)) (by omega) ha hc rfl (by simp [go_sem]) (by simp) ?_)
      simp -implicitDefEqProofs (disch := omega) [go_sem]
      refine next_ren ⟨i + 1, by omega⟩ (by simp only; omega) [] (rhoL [(0, some 8)]) ?_
      apply ren_lists <;> simp -implicitDefEqProofs [go_sem, escD, ht]
    · have : i = b.length := by omega
      subst this
      simp -implicitDefEqProofs (disch := omega) [go_sem, Try.f14]
      refine own_of [] [(0, some 0)] ?_
      apply ren_lists <;> simp -implicitDefEqProofs [go_sem]
theorem escape_pc (b : List Nat) (a : Nat) (hb : b.length ≤ 10000000) (hl : ∀ x ∈ b, x < 256) (ha : a < 4294967296) : PC Try.prog Γ 14 [.sl 1 (bys b), .int .u32 a] (.sl 1 (bys (escB a b))) :=
  pc_of_oc (escape_oc Γ b a hb hl ha) (frz_bys (rw := true) rfl (.inl rfl) rfl)
theorem rbit_pc (n k : Nat) (hk : k ≤ 1000) (hn : n < 4294967296) : PC Try.prog Γ 27 [.int .u32 n, .int .i64 k] (.bool (decide (n / 2 ^ k % 2 = 1))) := by
  refine pc_by mixed Try.func27 rfl (fun args w => Try.call27 args w) ?_
  simp -implicitDefEqProofs (disch := omega) [go_sem]
  refine loop_ren (σ := { i : Nat // i ≤ k }) (fun i => ⟨envL [(0, .data (.int .u32 (n / 2 ^ i.1 : Nat))), (1, .data (.int .i64 k)), (5, .data (.int .i64 i.1))], hpL [], 0, 0, 16⟩) (fun i => k - i.1) ⟨0, by omega⟩ [] (rhoL []) ?_ ?_
  · apply ren_lists <;> simp -implicitDefEqProofs [go_sem]
  rintro ⟨i, hi⟩
  have hd : n / 2 ^ (i + 1) = n / 2 ^ i / 2 := by rw [Nat.div_div_eq_div_mul, Nat.pow_succ]
  by_cases h : i < k
  · have hle : n / 2 ^ i ≤ n := Nat.div_le_self _ _
    generalize n / 2 ^ i = y at *
    simp -implicitDefEqProofs (disch := omega) [go_sem]
    refine next_ren ⟨i + 1, by omega⟩ (by simp only; omega) [] (rhoL []) ?_
    apply ren_lists <;> simp -implicitDefEqProofs [go_sem, hd]
    omega
  have : i = k := by omega
  subst this
  generalize n / 2 ^ i = y at *
  simp -implicitDefEqProofs (disch := omega) [go_sem, Try.f27]
  omega
set_option maxHeartbeats 4000000 in
theorem rescape_pc (b : List Nat) (a : Nat) (hb : b.length ≤ 10000000) (hl : ∀ x ∈ b, x < 256) (ha : a < 4294967296) : PC Try.prog Γ 15 [.sl 1 (bys b), .int .u32 a] (.sl 1 (bys (escB a b))) := by
  refine pc_by mixed Try.func15 rfl (fun args w => Try.call15 args w) ?_
  simp -implicitDefEqProofs (disch := omega) [go_sem]
  refine loop_ren (σ := { i : Nat // i ≤ b.length }) (fun i => ⟨envL [(0, .data (.sl 1 (bys b))), (1, .data (.int .u32 a)), (5, .ref 0 0 (escB a (b.take i.1)).length 1), (6, .data (.int .i64 i.1))], hpL [(0, .blk true ((bys (escB a (b.take i.1))).map .data))], 1, 0, 49⟩) (fun i => b.length - i.1) ⟨0, by omega⟩ [] (rhoL [(0, none)]) ?_ ?_
  · apply ren_lists <;> simp -implicitDefEqProofs [go_sem, escB_nil]
  · rintro ⟨i, hi⟩
    by_cases h : i < b.length
    · have hc := hl _ (List.getElem_mem h)
      have ht := escB_take a b i h
      have hle := escB_le a (b.take i)
      have hx := turn8 hc
      have x6 : xorI .u8 126 32 = 94 := turn8 (a := 126) (by decide)
      have x5 : xorI .u8 125 32 = 93 := turn8 (a := 125) (by decide)
      rw [List.length_take, Nat.min_eq_left hi] at hle
      by_cases hlow : b[i] < 32
      · have hbit := rbit_pc Γ a b[i] (by omega) ha
        by_cases h1 : a / 2 ^ b[i] % 2 = 1
        · have he : esc1 a b[i] = [125, b[i] ^^^ 32] := esc1_yes (.inr (.inr ⟨hlow, h1⟩))
          rw [he] at ht
          rw [decide_eq_true h1] at hbit
          simp -implicitDefEqProofs (disch := omega) [go_sem]
          refine .inl (call_data hbit (by simp [go_sem]) ?_)
          simp -implicitDefEqProofs (disch := omega) [go_sem, hx]
          refine next_ren ⟨i + 1, by omega⟩ (by simp only; omega) [] (rhoL [(0, some 36)]) ?_
          apply ren_lists <;> simp -implicitDefEqProofs [go_sem, ht]
          exact renCells_plain (by simp [bys, u8]) (by simp [plainD, bys, u8])
        · have he : esc1 a b[i] = [b[i]] := esc1_no (by unfold escd; omega)
          rw [he] at ht
          rw [decide_eq_false h1] at hbit
          simp -implicitDefEqProofs (disch := omega) [go_sem]
          refine .inl (call_data hbit (by simp [go_sem]) ?_)
          simp -implicitDefEqProofs (disch := omega) [go_sem, hx]
          refine next_ren ⟨i + 1, by omega⟩ (by simp only; omega) [] (rhoL [(0, some 31)]) ?_
          apply ren_lists <;> simp -implicitDefEqProofs [go_sem, ht]
          exact renCells_plain (by simp [bys, u8]) (by simp [plainD, bys, u8])
      · by_cases h6 : b[i] = 126
        · have he : esc1 a b[i] = [125, 94] := by rw [h6]; exact esc1_yes (.inl rfl)
          rw [he] at ht
          simp -implicitDefEqProofs (disch := omega) [go_sem, h6, x6]
          refine next_ren ⟨i + 1, by omega⟩ (by simp only; omega) [] (rhoL [(0, some 36)]) ?_
          apply ren_lists <;> simp -implicitDefEqProofs [go_sem, ht]
          exact renCells_plain (by simp [bys, u8]) (by simp [plainD, bys, u8])
        · by_cases h5 : b[i] = 125
          · have he : esc1 a b[i] = [125, 93] := by rw [h5]; exact esc1_yes (.inr (.inl rfl))
            rw [he] at ht
            simp -implicitDefEqProofs (disch := omega) [go_sem, h5, x5]
            refine next_ren ⟨i + 1, by omega⟩ (by simp only; omega) [] (rhoL [(0, some 36)]) ?_
            apply ren_lists <;> simp -implicitDefEqProofs [go_sem, ht]
            exact renCells_plain (by simp [bys, u8]) (by simp [plainD, bys, u8])
          · have he : esc1 a b[i] = [b[i]] := esc1_no (by unfold escd; omega)
            rw [he] at ht
            simp -implicitDefEqProofs (disch := omega) [go_sem]
            refine next_ren ⟨i + 1, by omega⟩ (by simp only; omega) [] (rhoL [(0, some 31)]) ?_
            apply ren_lists <;> simp -implicitDefEqProofs [go_sem, ht]
            exact renCells_plain (by simp [bys, u8]) (by simp [plainD, bys, u8])
    · have : i = b.length := by omega
      subst this
      simp -implicitDefEqProofs (disch := omega) [go_sem, Try.f15]
      exact ⟨_, ⟨_, rfl, frz_bys (rw := true) (by simp [go_sem]) (.inl rfl) rfl⟩, rfl⟩
end
end Sf
end Go.Proofs.Ytdodhnkbdechaaa
namespace Go.Proofs.Ytdodhnkbdechaaa
open Go.RowKit
set_option linter.unusedVariables false
set_option linter.unusedSimpArgs false
set_option maxRecDepth 100000
namespace Sf
section
variable (Γ : Nat → Option (List Data))
/-- What is told of bytes that are to be plain. -/
def plR : Option (List Nat) → Data
  | some o => .tup [.sl 1 (bys o), .int .i64 0]
  | none => .tup [.sl 1 [], .int .i64 2]
theorem plT_cons (t c : Nat) (l : List Nat) : plT t (c :: l) = if c = 126 then none else if c = 125 ∧ t = 0 then plT 32 l else (plT 0 l).map ((c ^^^ t) :: ·) := rfl
theorem map_step (o : Option (List Nat)) (out : List Nat) (x : Nat) : (o.map (x :: ·)).map (out ++ ·) = o.map ((out ++ [x]) ++ ·) := by cases o <;> simp
set_option maxHeartbeats 4000000 in
theorem plain_pc' (b : List Nat) (r : Option (List Nat)) (hr : plain b = r) (hb : b.length ≤ 1000000000) (hl : ∀ x ∈ b, x < 256) : PC Try.prog Γ 11 [.sl 1 (bys b)] (plR r) := by
  refine pc_by mixed Try.func11 rfl (fun args w => Try.call11 args w) ?_
  simp -implicitDefEqProofs (disch := omega) [go_sem]
  refine loop_ren (σ := { p : Nat × List Nat × Nat // p.1 ≤ b.length ∧ (p.2.2 = 0 ∨ p.2.2 = 32) ∧ p.2.1.length ≤ p.1 ∧ r = (plT p.2.2 (b.drop p.1)).map (p.2.1 ++ ·) }) (fun p => ⟨envL [(4, .ref 0 0 p.1.2.1.length 1), (5, .data (.int .u8 p.1.2.2)), (11, .data (.sl 1 (bys b))), (12, .data (.int .i64 b.length)), (13, .data (.int .i64 p.1.1))], hpL [(0, .blk true ((bys p.1.2.1).map .data))], 1, 0, 37⟩) (fun p => b.length - p.1.1) ⟨(0, [], 0), by simp, .inl rfl, by simp, by rw [← hr]; simp [plain]⟩ [] (rhoL [(0, some 4)]) ?_ ?_
  · apply ren_lists <;> simp -implicitDefEqProofs [go_sem]
  rintro ⟨⟨i, out, t⟩, hi, ht, ho, hinv⟩
  simp only at hi ht ho hinv
  have hv := hinv
  by_cases h : i < b.length
  · have hd := List.drop_eq_getElem_cons h
    have hc := hl _ (List.getElem_mem h)
    rw [hd, plT_cons] at hv
    by_cases h6 : b[i] = 126
    · rw [if_pos h6] at hv
      subst hv
      simp -implicitDefEqProofs (disch := omega) [go_sem, h6, Try.f11]
      exact ⟨_, ⟨_, rfl, .emp ..⟩, rfl⟩
    · rw [if_neg h6] at hv
      by_cases h5 : b[i] = 125 ∧ t = 0
      · rw [if_pos h5] at hv
        obtain ⟨h5, rfl⟩ := h5
        simp -implicitDefEqProofs (disch := omega) [go_sem, h5]
        refine next_ren ⟨(i + 1, out, 32), by simp only; omega, .inr rfl, by simp only; omega, hv⟩ (by simp only; omega) [] (rhoL [(0, some 0)]) ?_
        apply ren_lists <;> simp -implicitDefEqProofs [go_sem]
      · rw [if_neg h5, map_step] at hv
        have hx : xorI .u8 (b[i] : Int) (t : Int) = ((b[i] ^^^ t : Nat) : Int) := xor8 hc (by omega)
        by_cases h55 : b[i] = 125
        · have ht0 : t = 32 := by omega
          subst ht0
          rw [h55] at hx hv
          have x5 : xorI .u8 125 32 = 93 := turn8 (a := 125) (by decide)
          simp -implicitDefEqProofs (disch := omega) [go_sem, h55, x5]
          refine next_ren ⟨(i + 1, out ++ [125 ^^^ 32], 0), by simp only; omega, .inl rfl, by simp; omega, hv⟩ (by simp only; omega) [] (rhoL [(0, some 20)]) ?_
          apply ren_lists <;> simp -implicitDefEqProofs [go_sem]
          exact renCells_plain (by simp [bys, u8]) (by simp [plainD, bys, u8])
        · simp -implicitDefEqProofs (disch := omega) [go_sem, h55, hx]
          refine next_ren ⟨(i + 1, out ++ [b[i] ^^^ t], 0), by simp only; omega, .inl rfl, by simp; omega, hv⟩ (by simp only; omega) [] (rhoL [(0, some 20)]) ?_
          apply ren_lists <;> simp -implicitDefEqProofs [go_sem]
          exact renCells_plain (by simp [bys, u8]) (by simp [plainD, bys, u8])
  · have : i = b.length := by omega
    subst this
    rw [List.drop_length] at hv
    rcases ht with rfl | rfl
    · have hp : r = some out := by rw [hv]; simp [plT]
      subst hp
      simp -implicitDefEqProofs (disch := omega) [go_sem, Try.f11, plR]
      exact ⟨_, ⟨_, rfl, frz_bys (rw := true) (by simp [go_sem]) (.inl rfl) rfl⟩, rfl⟩
    · have hp : r = none := by rw [hv]; simp [plT]
      subst hp
      simp -implicitDefEqProofs (disch := omega) [go_sem, Try.f11, plR]
      exact ⟨_, ⟨_, rfl, .emp ..⟩, rfl⟩
set_option maxHeartbeats 4000000 in
theorem rplain_pc' (b : List Nat) (r : Option (List Nat)) (hr : plain b = r) (hb : b.length ≤ 1000000000) (hl : ∀ x ∈ b, x < 256) : PC Try.prog Γ 12 [.sl 1 (bys b)] (plR r) := by
  refine pc_by mixed Try.func12 rfl (fun args w => Try.call12 args w) ?_
  simp -implicitDefEqProofs (disch := omega) [go_sem]
  refine loop_ren (σ := { p : Nat × List Nat // p.1 ≤ b.length ∧ p.2.length ≤ p.1 ∧ r = (plT 0 (b.drop p.1)).map (p.2 ++ ·) }) (fun p => ⟨envL [(0, .data (.sl 1 (bys b))), (4, .ref 0 0 p.1.2.length 1), (5, .data (.int .i64 p.1.1))], hpL [(0, .blk true ((bys p.1.2).map .data))], 1, 0, 46⟩) (fun p => b.length - p.1.1) ⟨(0, []), by simp, by simp, by rw [← hr]; simp [plain]⟩ [] (rhoL [(0, none)]) ?_ ?_
  · apply ren_lists <;> simp -implicitDefEqProofs [go_sem]
  rintro ⟨⟨i, out⟩, hi, ho, hinv⟩
  simp only at hi ho hinv
  by_cases h : i < b.length
  · have hd := List.drop_eq_getElem_cons h
    have hc := hl _ (List.getElem_mem h)
    rw [hd, plT_cons] at hinv
    by_cases h6 : b[i] = 126
    · rw [if_pos h6] at hinv
      subst hinv
      simp -implicitDefEqProofs (disch := omega) [go_sem, h6, Try.f12]
      exact ⟨_, ⟨_, rfl, .emp ..⟩, rfl⟩
    · rw [if_neg h6] at hinv
      by_cases h5 : b[i] = 125
      · rw [if_pos ⟨h5, rfl⟩] at hinv
        by_cases h1 : i + 1 < b.length
        · have hd1 := List.drop_eq_getElem_cons h1
          have hc1 := hl _ (List.getElem_mem h1)
          rw [hd1, plT_cons] at hinv
          by_cases h7 : b[i + 1] = 126
          · rw [if_pos h7] at hinv
            subst hinv
            simp -implicitDefEqProofs (disch := omega) [go_sem, h5, h7, Try.f12]
            exact ⟨_, ⟨_, rfl, .emp ..⟩, rfl⟩
          · rw [if_neg h7, if_neg (by omega), map_step] at hinv
            have hx : xorI .u8 (b[i + 1] : Int) 32 = ((b[i + 1] ^^^ 32 : Nat) : Int) := turn8 hc1
            simp -implicitDefEqProofs (disch := omega) [go_sem, h5, hx]
            refine next_ren ⟨(i + 2, out ++ [b[i + 1] ^^^ 32]), by simp only; omega, by simp; omega, hinv⟩ (by simp only; omega) [] (rhoL [(0, some 37)]) ?_
            apply ren_lists <;> simp -implicitDefEqProofs [go_sem]
            · omega
            · exact renCells_plain (by simp [bys, u8]) (by simp [plainD, bys, u8])
        · have hz : b.drop (i + 1) = [] := List.drop_eq_nil_of_le (by omega)
          rw [hz] at hinv
          have hp : r = none := by rw [hinv]; simp [plT]
          subst hp
          have e1 : i + 1 = b.length := by omega
          simp -implicitDefEqProofs (disch := omega) [go_sem, h5, Try.f12]
          exact ⟨_, ⟨_, rfl, .emp ..⟩, rfl⟩
      · rw [if_neg (by omega), map_step, Nat.xor_zero] at hinv
        simp -implicitDefEqProofs (disch := omega) [go_sem, h5]
        refine next_ren ⟨(i + 1, out ++ [b[i]]), by simp only; omega, by simp; omega, hinv⟩ (by simp only; omega) [] (rhoL [(0, some 17)]) ?_
        apply ren_lists <;> simp -implicitDefEqProofs [go_sem]
        exact renCells_plain (by simp [bys, u8]) (by simp [plainD, bys, u8])
  · have : i = b.length := by omega
    subst this
    rw [List.drop_length] at hinv
    have hp : r = some out := by rw [hinv]; simp [plT]
    subst hp
    simp -implicitDefEqProofs (disch := omega) [go_sem, Try.f12, plR]
    exact ⟨_, ⟨_, rfl, frz_bys (rw := true) (by simp [go_sem]) (.inl rfl) rfl⟩, rfl⟩
theorem plain_pc (b : List Nat) (hb : b.length ≤ 1000000000) (hl : ∀ x ∈ b, x < 256) : PC Try.prog Γ 11 [.sl 1 (bys b)] (plR (plain b)) := plain_pc' Γ b _ rfl hb hl
theorem rplain_pc (b : List Nat) (hb : b.length ≤ 1000000000) (hl : ∀ x ∈ b, x < 256) : PC Try.prog Γ 12 [.sl 1 (bys b)] (plR (plain b)) := rplain_pc' Γ b _ rfl hb hl
end
end Sf
end Go.Proofs.Ytdodhnkbdechaaa
namespace Go.Proofs.Ytdodhnkbdechaaa
open Go.RowKit
set_option linter.unusedVariables false
set_option linter.unusedSimpArgs false
set_option maxRecDepth 100000
theorem frz_rows {ok : Bool} {H : Nat → Blk} {g len es : Nat} {rw : Bool} {cells : List D} {l : List Data} (hg : H g = .blk rw cells) (hrw : ok = true ∨ rw = false) (hl : l.length = len) (hes : ∀ x ∈ l, x.cells.length = es) (h : FrzL ok H cells (flat l)) : Frz ok H (.ref g 0 len es) (.sl es l) := by
  obtain ⟨h1, h2⟩ := h
  have hfl : (flat l).length = l.length * es := flat_length hes
  refine .ref g 0 len es rw cells l (fun i => cells.getD i .junk) hg hrw hl hes (by rw [← hl]; omega) (fun i x hx => ?_) (fun i x hx => ?_)
  · have hi := (List.getElem?_eq_some_iff.1 hx).1
    have hi2 : i < cells.length := by omega
    simp [List.getD_eq_getElem?_getD, hi2]
  · have hi := (List.getElem?_eq_some_iff.1 hx).1
    have hi2 : i < cells.length := by omega
    refine h2 i _ x ?_ hx
    simp [List.getD_eq_getElem?_getD, hi2]
theorem over_bys {p f : List Nat} {k : Nat} (h : f.length ≤ k) : over ((bys (p ++ List.replicate k 0)).map D.data) p.length ((bys f).map D.data) = (bys (p ++ f ++ List.replicate (k - f.length) 0)).map D.data := by
  have e : List.replicate k 0 = List.replicate f.length 0 ++ List.replicate (k - f.length) 0 := by rw [List.replicate_append_replicate]; congr 1; omega
  rw [e]
  have h1 : ∀ a b : List Nat, (bys (a ++ b)).map D.data = (bys a).map D.data ++ (bys b).map D.data := fun a b => (bysd_append a b).symm
  rw [h1, h1, List.append_assoc, h1, h1]
  have := over_mid (A := (bys p).map D.data) (old := (bys (List.replicate f.length 0)).map D.data) (new := (bys f).map D.data) (rest := (bys (List.replicate (k - f.length) 0)).map D.data) (by simp [bys])
  rw [show ((bys p).map D.data).length = p.length by simp [bys]] at this
  exact this
namespace Sf
section
variable (Γ : Nat → Option (List Data))
def rws (l : List (List Nat)) : List Data := l.map fun b => .sl 1 (bys b)
@[go_sem] theorem rws_length (l : List (List Nat)) : (rws l).length = l.length := by simp [rws]
@[go_sem] theorem rws_get (l : List (List Nat)) (i : Nat) : (rws l)[i]? = (l[i]?).map fun b => .sl 1 (bys b) := by simp [rws]
theorem rws_cells (l : List (List Nat)) : ∀ x ∈ rws l, x.cells.length = 1 := fun x hx => by
  obtain ⟨p, _, rfl⟩ := List.mem_map.1 hx
  rfl
theorem flat_rws (l : List (List Nat)) : flat (rws l) = rws l := by
  induction l with
  | nil => rfl
  | cons b l ih =>
    show (Data.sl 1 (bys b)).cells ++ flat (rws l) = _
    rw [ih]; rfl
theorem join_take (l : List (List Nat)) (i : Nat) (h : i < l.length) : (l.take (i + 1)).flatten = (l.take i).flatten ++ l[i] := by
  rw [List.take_add_one, List.getElem?_eq_getElem h, Option.toList_some, List.flatten_append]
  simp
theorem join_le (l : List (List Nat)) (i : Nat) : (l.take i).flatten.length ≤ l.flatten.length := by
  have : l.flatten = (l.take i).flatten ++ (l.drop i).flatten := by rw [← List.flatten_append, List.take_append_drop]
  rw [this, List.length_append]; omega
theorem plain_bys (l : List Nat) : ((bys l).map D.data).all plainD = true := by simp [bys, plainD]
set_option maxHeartbeats 4000000 in
theorem concat_pc (l : List (List Nat)) (h0 : 0 < l.flatten.length) (hn : l.flatten.length ≤ 1000000000) (hl : l.length ≤ 1000000) : PC Try.prog Γ 28 [.sl 1 (rws l)] (.sl 1 (bys l.flatten)) := by
  refine pc_by mixed Try.func28 rfl (fun args w => Try.call28 args w) ?_
  have hpos : 0 < l.length := by
    rcases Nat.eq_zero_or_pos l.length with e | e
    · rw [List.eq_nil_of_length_eq_zero e] at h0; simp at h0
    · exact e
  simp -implicitDefEqProofs (disch := omega) [-List.length_flatten, go_sem]
  refine loop_ren (σ := { i : Nat // i ≤ l.length }) (fun i => ⟨envL [(0, .data (.sl 1 (rws l))), (3, .data (.int .i64 (l.take i.1).flatten.length)), (9, .data (.sl 1 (rws l))), (10, .data (.int .i64 l.length)), (11, .data (.int .i64 i.1))], hpL [], 0, 0, 36⟩) (fun i => l.length - i.1) ⟨0, by omega⟩ [] (rhoL []) ?_ ?_
  · apply ren_lists <;> simp -implicitDefEqProofs [-List.length_flatten, go_sem]
  rintro ⟨i, hi⟩
  by_cases h : i < l.length
  · have hj := join_take l i h
    have hle := join_le l (i + 1)
    rw [hj, List.length_append] at hle
    simp -implicitDefEqProofs (disch := omega) [-List.length_flatten, go_sem]
    refine next_ren ⟨i + 1, by omega⟩ (by simp only; omega) [] (rhoL []) ?_
    apply ren_lists <;> simp -implicitDefEqProofs [-List.length_flatten, go_sem, hj]
  · have : i = l.length := by omega
    subst this
    have ht : l.take l.length = l := List.take_length
    generalize hT : l.flatten.length = T at *
    simp -implicitDefEqProofs (disch := omega) [-List.length_flatten, go_sem, ht, hT]
    refine .inr (dc_by mixed Try.func32 rfl (fun args w => Try.call32 args w) ?_)
    simp -implicitDefEqProofs (disch := omega) [-List.length_flatten, go_sem, Try.f32]
    refine loop_ren (σ := { i : Nat // i ≤ l.length }) (fun i => ⟨envL [(6, if i.1 < l.length then .cut 0 0 (l.take i.1).flatten.length T 1 else .ref 0 0 T 1), (25, .data (.sl 1 (rws l))), (26, .data (.int .i64 l.length)), (27, .data (.int .i64 i.1))], hpL [(0, .blk true ((bys ((l.take i.1).flatten ++ List.replicate (T - (l.take i.1).flatten.length) 0)).map .data))], 1, 0, 36⟩) (fun i => l.length - i.1) ⟨0, by omega⟩ [] (rhoL [(0, some 20)]) ?_ ?_
    · apply ren_lists <;> simp -implicitDefEqProofs [-List.length_flatten, go_sem, hpos]
    rintro ⟨i, hi⟩
    by_cases h : i < l.length
    · have hj := join_take l i h
      have hle := join_le l (i + 1)
      rw [hj, List.length_append, hT] at hle
      have hov := over_bys (p := (l.take i).flatten) (f := l[i]) (k := T - (l.take i).flatten.length) (by omega)
      have hjl : (l.take (i + 1)).flatten.length = (l.take i).flatten.length + l[i].length := by rw [hj, List.length_append]
      have hsub : T - (l.take (i + 1)).flatten.length = T - (l.take i).flatten.length - l[i].length := by omega
      simp -implicitDefEqProofs (disch := omega) [-List.length_flatten, go_sem, h]
      refine next_ren ⟨i + 1, by omega⟩ (by simp only; omega) [] (rhoL [(0, some 0)]) ?_
      by_cases h2 : i + 1 < l.length
      · apply ren_lists <;> simp -implicitDefEqProofs [-List.length_flatten, go_sem, h2, hj, hsub]
        rw [hov]
        exact renCells_plain (by congr 2; rw [List.append_assoc]; congr 3; omega) (plain_bys _)
      · apply ren_lists <;> simp -implicitDefEqProofs [-List.length_flatten, go_sem, h2, hj, hsub]
        · have := hjl
          rw [List.take_of_length_le (by omega), hT] at this
          exact this
        · rw [hov]
          exact renCells_plain (by congr 2; rw [List.append_assoc]; congr 3; omega) (plain_bys _)
    · have : i = l.length := by omega
      subst this
      simp -implicitDefEqProofs (disch := omega) [-List.length_flatten, go_sem, ht, hT, Try.f28]
      exact ⟨_, ⟨_, rfl, frz_bys (rw := true) (by simp [go_sem]) (.inl rfl) hT⟩, rfl⟩
def sendB (a : Nat) (b : List Nat) : List Nat := 126 :: (escB a b ++ [126])
theorem send_pc (b : List Nat) (a : Nat) (hb : b.length ≤ 10000000) (hl : ∀ x ∈ b, x < 256) (ha : a < 4294967296) : PC Try.prog Γ 16 [.sl 1 (bys b), .int .u32 a] (.sl 1 (bys (sendB a b))) := by
  refine pc_by mixed Try.func16 rfl (fun args w => Try.call16 args w) ?_
  have hle := escB_le a b
  have hc := concat_pc Γ [[126], escB a b, [126]] (by simp) (by simp; omega) (by simp)
  simp -implicitDefEqProofs (disch := omega) [go_sem]
  refine .inl (call_data (escape_pc Γ b a hb hl ha) (by simp [go_sem]) ?_)
  simp -implicitDefEqProofs (disch := omega) [go_sem]
  refine .inl (call_frz [1, 8] [1, 8] (fun g hg => ?_) hc (fun H' hH' => ?_) ?_)
  · simp only [List.mem_cons, List.not_mem_nil, or_false] at hg
    rcases hg with rfl | rfl <;> exact ⟨true, _, by simp [Hp.upd, Hp.set]; rfl⟩
  · have f1 : Frz false (Hp.upd H' (List.map (fun g => (g, fz (Hp.upd (Hp.upd (Hp.upd (Hp.upd (Hp.upd (Hp.upd (Hp.upd (Hp.upd (Hp.upd (fun x => Blk.dead) []) [(1, Blk.blk true [D.data (Data.int IntKind.u8 126)])]) []) []) []) []) []) []) [(8, Blk.blk true [D.ref 1 0 1 1, D.data (Data.sl 1 (bys (escB a b))), D.ref 1 0 1 1])] g))) [1, 8])) (.ref 1 0 1 1) (.sl 1 (bys [126])) :=
      frz_bys (rw := false) (by simp [Hp.upd, Hp.set, fz, bys, u8]) (.inr rfl) rfl
    refine frzL_c (frz_rows (rw := false) (cells := [.ref 1 0 1 1, .data (.sl 1 (bys (escB a b))), .ref 1 0 1 1]) (by simp [Hp.upd, Hp.set, fz]) (.inr rfl) rfl (rws_cells _) ?_) frzL_n
    rw [flat_rws]
    exact frzL_c f1 (frzL_c (.data _) (frzL_c f1 frzL_n))
  simp -implicitDefEqProofs (disch := omega) [go_sem, Try.f16]
  rfl
theorem rsend_pc (b : List Nat) (a : Nat) (hb : b.length ≤ 10000000) (hl : ∀ x ∈ b, x < 256) (ha : a < 4294967296) : PC Try.prog Γ 17 [.sl 1 (bys b), .int .u32 a] (.sl 1 (bys (sendB a b))) := by
  refine pc_by mixed Try.func17 rfl (fun args w => Try.call17 args w) ?_
  have hle := escB_le a b
  simp -implicitDefEqProofs (disch := omega) [go_sem]
  refine .inl (call_data (rescape_pc Γ b a hb hl ha) (by simp [go_sem]) ?_)
  simp -implicitDefEqProofs (disch := omega) [go_sem, Try.f17]
  refine ⟨_, ⟨_, rfl, frz_bys (rw := true) (l := sendB a b) ?_ (.inl rfl) ?_⟩, rfl⟩
  · simp [go_sem, sendB, bys, u8]
  · simp [sendB]; omega
end
end Sf
end Go.Proofs.Ytdodhnkbdechaaa
namespace Go.Proofs.Ytdodhnkbdechaaa
open Go.RowKit
set_option linter.unusedVariables false
set_option linter.unusedSimpArgs false
set_option maxRecDepth 100000
namespace Sf
section
variable (Γ : Nat → Option (List Data))
/-- A line. -/
def ln (b : List Nat) (lg : Bool) : Data := .agg [.sl 1 (bys b), .bool lg]
/-- A line with a byte more. -/
def nxt (b : List Nat) (lg : Bool) (c : Nat) : List Nat × Bool :=
  if c = 126 then ([], false) else if lg = true ∨ 1508 ≤ b.length then ([], true) else (b ++ [c], false)
/-- The frame that has come. -/
def cam (b : List Nat) (lg : Bool) (c : Nat) : Option (List Nat) := if c = 126 ∧ lg = false ∧ b ≠ [] then plain b else none
def feedR (b : List Nat) (lg : Bool) (c : Nat) : Data := match cam b lg c with
  | some o => .tup [ln (nxt b lg c).1 (nxt b lg c).2, .sl 1 (bys o), .bool true]
  | none => .tup [ln (nxt b lg c).1 (nxt b lg c).2, .sl 1 [], .bool false]
theorem feedR_no {b : List Nat} {lg : Bool} {c : Nat} (h : cam b lg c = none) : feedR b lg c = .tup [ln (nxt b lg c).1 (nxt b lg c).2, .sl 1 [], .bool false] := by unfold feedR; rw [h]
theorem feedR_yes {b o : List Nat} {lg : Bool} {c : Nat} (h : cam b lg c = some o) : feedR b lg c = .tup [ln (nxt b lg c).1 (nxt b lg c).2, .sl 1 (bys o), .bool true] := by unfold feedR; rw [h]
set_option maxHeartbeats 4000000 in
theorem feed_pc (b : List Nat) (lg : Bool) (c : Nat) (hb : b.length ≤ 1000000) (hl : ∀ x ∈ b, x < 256) (hc : c < 256) : PC Try.prog Γ 22 [ln b lg, .int .u8 c] (feedR b lg c) := by
  refine pc_by mixed Try.func22 rfl (fun args w => Try.call22 args w) ?_
  simp -implicitDefEqProofs (disch := omega) [go_sem, ln]
  refine .inr (dc_by mixed Try.func29 rfl (fun args w => Try.call29 args w) ?_)
  by_cases h1 : c = 126
  · subst h1
    cases lg with
    | true =>
      rw [feedR_no (by simp [cam])]
      simp -implicitDefEqProofs (disch := omega) [go_sem, Try.f29, Try.f22, nxt, ln]
      exact ⟨_, ⟨_, _, rfl, frz_aggL (frzL_c (.emp ..) (frzL_c (.data _) frzL_n)), _, rfl, .emp ..⟩, rfl⟩
    | false =>
      by_cases h2 : b = []
      · subst h2
        rw [feedR_no (by simp [cam])]
        simp -implicitDefEqProofs (disch := omega) [go_sem, Try.f29, Try.f22, nxt, ln]
        exact ⟨_, ⟨_, _, rfl, frz_aggL (frzL_c (.emp ..) (frzL_c (.data _) frzL_n)), _, rfl, .emp ..⟩, rfl⟩
      · have hpos : 0 < b.length := List.length_pos_iff.2 h2
        have hpl := plain_pc Γ b (by omega) hl
        have hcam : cam b false 126 = plain b := by simp [cam, h2]
        simp -implicitDefEqProofs (disch := omega) [go_sem, ln]
        refine .inl (call_frz [] [] (by simp) hpl (fun H' hH' => frzL_c (.ful ..) frzL_n) ?_)
        cases hr : plain b with
        | none =>
          rw [feedR_no (hcam.trans hr)]
          simp -implicitDefEqProofs (disch := omega) [go_sem, Try.f29, Try.f22, nxt, ln, plR]
          exact ⟨_, ⟨_, _, rfl, frz_aggL (frzL_c (.emp ..) (frzL_c (.data _) frzL_n)), _, rfl, .emp ..⟩, rfl⟩
        | some o =>
          rw [feedR_yes (hcam.trans hr)]
          simp -implicitDefEqProofs (disch := omega) [go_sem, Try.f29, Try.f22, nxt, ln, plR]
          exact ⟨_, ⟨_, rfl, frz_aggL (frzL_c (.emp ..) (frzL_c (.data _) frzL_n))⟩, rfl⟩
  · have hn : cam b lg c = none := by simp [cam, h1]
    rw [feedR_no hn]
    cases lg with
    | true =>
      simp -implicitDefEqProofs (disch := omega) [go_sem, Try.f29, Try.f22, nxt, ln, h1]
      exact ⟨_, ⟨_, _, rfl, frz_aggL (frzL_c (.emp ..) (frzL_c (.data _) frzL_n)), _, rfl, .emp ..⟩, rfl⟩
    | false =>
      by_cases h2 : 1508 ≤ b.length
      · simp -implicitDefEqProofs (disch := omega) [go_sem, Try.f29, Try.f22, nxt, ln, h1, h2]
        exact ⟨_, ⟨_, _, rfl, frz_aggL (frzL_c (.emp ..) (frzL_c (.data _) frzL_n)), _, rfl, .emp ..⟩, rfl⟩
      · simp -implicitDefEqProofs (disch := omega) [go_sem, Try.f29, Try.f22, nxt, ln, h1, h2]
        exact ⟨_, ⟨_, _, rfl, frz_aggL (frzL_c (frz_bys (rw := true) (by simp [Hp.set, bys, u8]) (.inl rfl) (by simp)) (frzL_c (.data _) frzL_n)), _, rfl, .emp ..⟩, rfl⟩
set_option maxHeartbeats 4000000 in
theorem rfeed_pc (b : List Nat) (lg : Bool) (c : Nat) (hb : b.length ≤ 1508) (hl : ∀ x ∈ b, x < 256) (hc : c < 256) : PC Try.prog Γ 23 [ln b lg, .int .u8 c] (feedR b lg c) := by
  refine pc_by mixed Try.func23 rfl (fun args w => Try.call23 args w) ?_
  by_cases h1 : c = 126
  · subst h1
    have hpl := rplain_pc Γ b (by omega) hl
    simp -implicitDefEqProofs (disch := omega) [go_sem, ln]
    refine .inl (call_data hpl (by simp [go_sem]) ?_)
    cases lg with
    | true =>
      rw [feedR_no (by simp [cam])]
      cases hr : plain b with
      | none =>
        simp -implicitDefEqProofs (disch := omega) [go_sem, Try.f23, nxt, ln, plR]
        exact ⟨_, ⟨_, _, rfl, frz_aggL (frzL_c (.emp ..) (frzL_c (.data _) frzL_n)), _, rfl, .emp ..⟩, rfl⟩
      | some o =>
        simp -implicitDefEqProofs (disch := omega) [go_sem, Try.f23, nxt, ln, plR]
        exact ⟨_, ⟨_, _, rfl, frz_aggL (frzL_c (.emp ..) (frzL_c (.data _) frzL_n)), _, rfl, .emp ..⟩, rfl⟩
    | false =>
      by_cases h2 : b = []
      · subst h2
        rw [feedR_no (by simp [cam])]
        have hr : plain [] = some [] := rfl
        rw [hr]
        simp -implicitDefEqProofs (disch := omega) [go_sem, Try.f23, nxt, ln, plR]
        exact ⟨_, ⟨_, _, rfl, frz_aggL (frzL_c (.emp ..) (frzL_c (.data _) frzL_n)), _, rfl, .emp ..⟩, rfl⟩
      · have hpos : 0 < b.length := List.length_pos_iff.2 h2
        have hcam : cam b false 126 = plain b := by simp [cam, h2]
        cases hr : plain b with
        | none =>
          rw [feedR_no (hcam.trans hr)]
          simp -implicitDefEqProofs (disch := omega) [go_sem, Try.f23, nxt, ln, plR]
          exact ⟨_, ⟨_, _, rfl, frz_aggL (frzL_c (.emp ..) (frzL_c (.data _) frzL_n)), _, rfl, .emp ..⟩, rfl⟩
        | some o =>
          rw [feedR_yes (hcam.trans hr)]
          simp -implicitDefEqProofs (disch := omega) [go_sem, Try.f23, nxt, ln, plR]
          exact ⟨_, ⟨_, rfl, frz_aggL (frzL_c (.emp ..) (frzL_c (.data _) frzL_n))⟩, rfl⟩
  · have hn : cam b lg c = none := by simp [cam, h1]
    rw [feedR_no hn]
    cases lg with
    | true =>
      simp -implicitDefEqProofs (disch := omega) [go_sem, Try.f23, nxt, ln, h1]
      exact ⟨_, ⟨_, _, rfl, frz_aggL (frzL_c (.emp ..) (frzL_c (.data _) frzL_n)), _, rfl, .emp ..⟩, rfl⟩
    | false =>
      by_cases h2 : b.length = 1508
      · simp -implicitDefEqProofs (disch := omega) [go_sem, Try.f23, nxt, ln, h1, h2]
        exact ⟨_, ⟨_, _, rfl, frz_aggL (frzL_c (.emp ..) (frzL_c (.data _) frzL_n)), _, rfl, .emp ..⟩, rfl⟩
      · have h3 : ¬ 1508 ≤ b.length := by omega
        simp -implicitDefEqProofs (disch := omega) [go_sem, Try.f23, nxt, ln, h1, h2, h3]
        exact ⟨_, ⟨_, _, rfl, frz_aggL (frzL_c (frz_bys (rw := true) (by simp [Hp.set, bys, u8]) (.inl rfl) (by simp)) (frzL_c (.data _) frzL_n)), _, rfl, .emp ..⟩, rfl⟩
/-- A line that is right. -/
def Rl (b : List Nat) (lg : Bool) : Prop := b.length ≤ 1508 ∧ (lg = true → b = []) ∧ 126 ∉ b
instance (b : List Nat) (lg : Bool) : Decidable (Rl b lg) := by unfold Rl; infer_instance
set_option maxHeartbeats 4000000 in
theorem rright_pc (b : List Nat) (lg : Bool) (hb : b.length ≤ 140737488351232) : PC Try.prog Γ 21 [ln b lg] (.bool (decide (Rl b lg))) := by
  refine pc_by mixed Try.func21 rfl (fun args w => Try.call21 args w) ?_
  by_cases h1 : 1508 < b.length
  · have hn : ¬ Rl b lg := fun h => by have := h.1; omega
    rw [decide_eq_false hn]
    simp -implicitDefEqProofs (disch := omega) [go_sem, Try.f21, ln]
  by_cases h2 : lg = true ∧ 0 < b.length
  · have hn : ¬ Rl b lg := fun h => by have := h.2.1 h2.1; rw [this] at h2; simp at h2
    rw [decide_eq_false hn]
    obtain ⟨rfl, h2⟩ := h2
    simp -implicitDefEqProofs (disch := omega) [go_sem, Try.f21, ln]
  have h3 : lg = true → b = [] := fun e => List.eq_nil_of_length_eq_zero (by
    by_cases hz : 0 < b.length
    · exact absurd ⟨e, hz⟩ h2
    · omega)
  have start : ∀ q : Bool, (q = true ↔ 126 ∉ b) → decide (Rl b lg) = q := fun q hq => by
    cases q
    · exact decide_eq_false fun h => by have := hq.2 h.2.2; cases this
    · exact decide_eq_true ⟨by omega, h3, hq.1 rfl⟩
  generalize decide (Rl b lg) = r at start
  have hcond : lg = false ∨ (lg = true ∧ b.length = 0) := by
    cases lg
    · exact .inl rfl
    · exact .inr ⟨rfl, by rw [h3 rfl]; rfl⟩
  have main : ∀ s : St, s = s := fun _ => rfl
  rcases hcond with rfl | ⟨rfl, hz⟩
  · simp -implicitDefEqProofs (disch := omega) [go_sem, ln]
    refine loop_ren (σ := { i : Nat // i ≤ b.length ∧ 126 ∉ b.take i }) (fun i => ⟨envL [(1, .ptr 0 0), (3, .data (.int .i64 i.1))], hpL [(0, .blk true [.data (.sl 1 (bys b)), .data (.bool false)])], 1, 0, 31⟩) (fun i => b.length - i.1) ⟨0, by omega, by simp⟩ [] (rhoL [(0, some 0)]) ?_ ?_
    · apply ren_lists <;> simp -implicitDefEqProofs [go_sem]
    rintro ⟨i, hi, hno⟩
    by_cases h : i < b.length
    · by_cases h6 : b[i] = 126
      · have := start false (by simp; exact h6 ▸ List.getElem_mem h)
        subst this
        simp -implicitDefEqProofs (disch := omega) [go_sem, h6, Try.f21]
      · simp -implicitDefEqProofs (disch := omega) [go_sem, h6]
        refine next_ren ⟨i + 1, by omega, ?_⟩ (by simp only; omega) [] (rhoL [(0, some 0)]) ?_
        · rw [List.take_add_one, List.getElem?_eq_getElem h]
          simp only [Option.toList_some, List.mem_append, List.mem_singleton]
          intro e
          rcases e with e | e
          · exact hno e
          · exact h6 e.symm
        apply ren_lists <;> simp -implicitDefEqProofs [go_sem]
    · have : i = b.length := by omega
      subst this
      rw [List.take_length] at hno
      have := start true (by simp [hno])
      subst this
      simp -implicitDefEqProofs (disch := omega) [go_sem, Try.f21]
  · have hnil : b = [] := List.eq_nil_of_length_eq_zero hz
    subst hnil
    have := start true (by simp)
    subst this
    simp -implicitDefEqProofs (disch := omega) [go_sem, ln]
    refine loop_ren (σ := Unit) (fun i => ⟨envL [(1, .ptr 0 0), (3, .data (.int .i64 0))], hpL [(0, .blk true [.data (.sl 1 []), .data (.bool true)])], 1, 0, 31⟩) (fun i => 0) () [] (rhoL [(0, some 0)]) ?_ ?_
    · apply ren_lists <;> simp -implicitDefEqProofs [go_sem]
    rintro ⟨⟩
    simp -implicitDefEqProofs (disch := omega) [go_sem, Try.f21]
theorem rsame_pc (b b' : List Nat) (lg lg' : Bool) (hb : b.length ≤ 1000000) (hb' : b'.length ≤ 1000000) : PC Try.prog Γ 24 [ln b lg, ln b' lg'] (.bool (decide (b = b' ∧ lg = lg'))) := by
  refine pc_by mixed Try.func24 rfl (fun args w => Try.call24 args w) ?_
  have hr := row_pc Γ b b' (by omega) (by omega)
  by_cases h : b = b'
  · rw [decide_eq_true h] at hr
    simp -implicitDefEqProofs (disch := omega) [go_sem, ln]
    refine .inl (call_data hr (by simp [go_sem]) ?_)
    subst h
    cases lg <;> cases lg' <;> simp -implicitDefEqProofs (disch := omega) [go_sem, Try.f24]
  · rw [decide_eq_false h] at hr
    simp -implicitDefEqProofs (disch := omega) [go_sem, ln]
    refine .inl (call_data hr (by simp [go_sem]) ?_)
    simp -implicitDefEqProofs (disch := omega) [go_sem, Try.f24, h]
end
end Sf
end Go.Proofs.Ytdodhnkbdechaaa
namespace Go.Proofs.Ytdodhnkbdechaaa
open Go.RowKit
set_option linter.unusedVariables false
set_option linter.unusedSimpArgs false
set_option maxRecDepth 100000
namespace Sf
section
variable (Γ : Nat → Option (List Data))
theorem sequal_pc (a b : List Nat) (ha : ∀ x ∈ a, x < 256) (hb : ∀ x ∈ b, x < 256) : PC Try.prog Γ 30 [.sl 1 (bys a), .sl 1 (bys b)] (.bool (decide (a = b))) := by
  refine pc_by mixed Try.func30 rfl (fun args w => Try.call30 args w) ?_
  have hd : decide (toStr a = toStr b) = decide (a = b) := decide_eq_decide.2 (toStr_inj ha hb)
  simp -implicitDefEqProofs (disch := omega) [go_sem, Try.f30]
  refine conv_bys (e := 5) ha (by simp [go_sem]) (by simp [go_sem]) (by simp [go_sem]) ?_
  simp -implicitDefEqProofs (disch := omega) [go_sem]
  refine conv_bys (e := 5) hb (by simp [go_sem]) (by simp [go_sem]) (by simp [go_sem]) ?_
  simp -implicitDefEqProofs (disch := omega) [go_sem, Try.f30, hd]
theorem same_pc (b b' : List Nat) (lg lg' : Bool) (hb : ∀ x ∈ b, x < 256) (hb' : ∀ x ∈ b', x < 256) : PC Try.prog Γ 25 [ln b lg, ln b' lg'] (.bool (decide (b = b' ∧ lg = lg'))) := by
  refine pc_by mixed Try.func25 rfl (fun args w => Try.call25 args w) ?_
  have hr := sequal_pc Γ b b' hb hb'
  by_cases h : lg = lg'
  · subst h
    simp -implicitDefEqProofs (disch := omega) [go_sem, ln]
    refine .inl (call_data hr (by simp [go_sem]) ?_)
    simp -implicitDefEqProofs (disch := omega) [go_sem, Try.f25]
  · have : (lg == lg') = false := by cases lg <;> cases lg' <;> simp_all
    simp -implicitDefEqProofs (disch := omega) [go_sem, ln, this, Try.f25, h]
/-- All frames that come. -/
def allF : List Nat → Bool → List Nat → List (List Nat)
  | _, _, [] => []
  | b, lg, c :: l => (cam b lg c).toList ++ allF (nxt b lg c).1 (nxt b lg c).2 l
theorem allF_cons (b : List Nat) (lg : Bool) (c : Nat) (l : List Nat) : allF b lg (c :: l) = (cam b lg c).toList ++ allF (nxt b lg c).1 (nxt b lg c).2 l := rfl
def allB (b : List Nat) : List (List Nat) := allF [] false b
theorem nxt_le {b : List Nat} {lg : Bool} {c : Nat} (h : b.length ≤ 1508) : (nxt b lg c).1.length ≤ 1508 := by
  unfold nxt
  split
  · simp
  · split
    · simp
    · simp; omega
theorem nxt_lt {b : List Nat} {lg : Bool} {c : Nat} (h : ∀ x ∈ b, x < 256) (hc : c < 256) : ∀ x ∈ (nxt b lg c).1, x < 256 := by
  unfold nxt
  intro x hx
  split at hx
  · cases hx
  · split at hx
    · cases hx
    · rcases List.mem_append.1 hx with hx | hx
      · exact h x hx
      · simp only [List.mem_singleton] at hx; subst hx; exact hc
structure Stt (b : List Nat) (r : List (List Nat)) where
  i : Nat
  bb : List Nat
  lg : Bool
  out : List (List Nat)
  hi : i ≤ b.length
  hb : bb.length ≤ 1508
  hl : ∀ x ∈ bb, x < 256
  ho : out.length ≤ i
  inv : r = out ++ allF bb lg (b.drop i)
theorem stepF {b bb : List Nat} {lg : Bool} {out r : List (List Nat)} {i : Nat} (inv : r = out ++ allF bb lg (b.drop i)) (h : i < b.length) : r = (out ++ (cam bb lg b[i]).toList) ++ allF (nxt bb lg b[i]).1 (nxt bb lg b[i]).2 (b.drop (i + 1)) := by
  rw [List.drop_eq_getElem_cons h, allF_cons] at inv
  rw [inv, List.append_assoc]
set_option maxHeartbeats 8000000 in
theorem all_pc' (b : List Nat) (r : List (List Nat)) (hr : allB b = r) (hb : b.length ≤ 1000000) (hl : ∀ x ∈ b, x < 256) : PC Try.prog Γ 19 [.sl 1 (bys b)] (.sl 1 (rws r)) := by
  refine pc_by mixed Try.func19 rfl (fun args w => Try.call19 args w) ?_
  simp -implicitDefEqProofs (disch := omega) [go_sem]
  refine loop_ren (σ := Stt b r) (fun p => ⟨envL [(3, .ref 2 0 p.out.length 1), (4, .ptr 0 0), (9, .data (.sl 1 (bys b))), (10, .data (.int .i64 b.length)), (11, .data (.int .i64 p.i))], hpL [(0, .blk true [.ref 1 0 p.bb.length 1, .data (.bool p.lg)]), (1, .blk true ((bys p.bb).map .data)), (2, .blk true ((rws p.out).map .data))], 3, 0, 29⟩) (fun p => b.length - p.i) ⟨0, [], false, [], by omega, by simp, by simp, by simp, by rw [← hr]; rfl⟩ [] (rhoL [(0, some 2), (1, none), (2, none)]) ?_ ?_
  · apply ren_lists <;> simp -implicitDefEqProofs [go_sem, rws]
  rintro ⟨i, bb, lg, out, hi, hbb, hbl, ho, inv⟩
  by_cases h : i < b.length
  · have hc := hl _ (List.getElem_mem h)
    have hs := stepF inv h
    have hnl : ∀ x ∈ (nxt bb lg b[i]).1, x < 256 := nxt_lt hbl hc
    have hnle : (nxt bb lg b[i]).1.length ≤ 1508 := nxt_le hbb
    simp -implicitDefEqProofs (disch := omega) [go_sem]
    refine .inr (dc_by mixed Try.func29 rfl (fun args w => Try.call29 args w) ?_)
    by_cases h1 : b[i] = 126
    · cases lg with
      | true =>
        have e1 : cam bb true b[i] = none := by simp [cam]
        have e2 : nxt bb true b[i] = ([], false) := by simp [nxt, h1]
        rw [e1, e2] at hs
        simp -implicitDefEqProofs (disch := omega) [go_sem, Try.f29, h1]
        refine next_ren ⟨i + 1, [], false, out, by omega, by simp, by simp, by omega, by simpa using hs⟩ (by simp only; omega) [] (rhoL [(0, some 0), (1, none), (2, some 2)]) ?_
        apply ren_lists <;> simp -implicitDefEqProofs [go_sem]
      | false =>
        by_cases h2 : bb = []
        · subst h2
          have e1 : cam [] false b[i] = none := by simp [cam]
          have e2 : nxt [] false b[i] = ([], false) := by simp [nxt, h1]
          rw [e1, e2] at hs
          simp -implicitDefEqProofs (disch := omega) [go_sem, Try.f29, h1]
          refine next_ren ⟨i + 1, [], false, out, by omega, by simp, by simp, by omega, by simpa using hs⟩ (by simp only; omega) [] (rhoL [(0, some 0), (1, none), (2, some 2)]) ?_
          apply ren_lists <;> simp -implicitDefEqProofs [go_sem]
        · have hpos : 0 < bb.length := List.length_pos_iff.2 h2
          have hpl := plain_pc Γ bb (by omega) hbl
          have hcam : cam bb false b[i] = plain bb := by simp [cam, h1, h2]
          have e2 : nxt bb false b[i] = ([], false) := by simp [nxt, h1]
          rw [hcam, e2] at hs
          simp -implicitDefEqProofs (disch := omega) [go_sem, h1]
          refine .inl (call_kept 1 bb.length bb hpl (by simp [go_sem]) rfl ?_)
          cases hpr : plain bb with
          | none =>
            rw [hpr] at hs
            simp -implicitDefEqProofs (disch := omega) [go_sem, Try.f29, plR]
            refine next_ren ⟨i + 1, [], false, out, by omega, by simp, by simp, by omega, by simpa using hs⟩ (by simp only; omega) [] (rhoL [(0, some 0), (1, none), (2, some 2)]) ?_
            apply ren_lists <;> simp -implicitDefEqProofs [go_sem]
          | some o =>
            rw [hpr] at hs
            simp -implicitDefEqProofs (disch := omega) [go_sem, Try.f29, plR]
            refine next_ren ⟨i + 1, [], false, out ++ [o], by omega, by simp, by simp, by simp; omega, by simpa using hs⟩ (by simp only; omega) [] (rhoL [(0, some 0), (1, none), (2, some 55)]) ?_
            apply ren_lists <;> simp -implicitDefEqProofs [go_sem]
            exact renCells_plain (by simp [rws]) (by simp [plainD, rws])
    · have e1 : cam bb lg b[i] = none := by simp [cam, h1]
      rw [e1] at hs
      by_cases h2 : lg = true ∨ 1508 ≤ bb.length
      · have e2 : nxt bb lg b[i] = ([], true) := by simp [nxt, h1, h2]
        rw [e2] at hs
        by_cases h3 : lg = true
        · subst h3
          simp -implicitDefEqProofs (disch := omega) [go_sem, Try.f29, h1]
          refine next_ren ⟨i + 1, [], true, out, by omega, by simp, by simp, by omega, by simpa using hs⟩ (by simp only; omega) [] (rhoL [(0, some 0), (1, none), (2, some 2)]) ?_
          apply ren_lists <;> simp -implicitDefEqProofs [go_sem]
        · have h3 : lg = false := by simpa using h3
          subst h3
          have h4 : 1508 ≤ bb.length := by simpa using h2
          simp -implicitDefEqProofs (disch := omega) [go_sem, Try.f29, h1]
          refine next_ren ⟨i + 1, [], true, out, by omega, by simp, by simp, by omega, by simpa using hs⟩ (by simp only; omega) [] (rhoL [(0, some 0), (1, none), (2, some 2)]) ?_
          apply ren_lists <;> simp -implicitDefEqProofs [go_sem]
      · have e2 : nxt bb lg b[i] = (bb ++ [b[i]], false) := by simp [nxt, h1, h2]
        rw [e2] at hs hnl hnle
        have h3 : lg = false := by
          cases lg
          · rfl
          · exact absurd (.inl rfl) h2
        subst h3
        have h4 : ¬ 1508 ≤ bb.length := fun e => h2 (.inr e)
        simp -implicitDefEqProofs (disch := omega) [go_sem, Try.f29, h1]
        refine next_ren ⟨i + 1, bb ++ [b[i]], false, out, by omega, hnle, hnl, by omega, by simpa using hs⟩ (by simp only; omega) [] (rhoL [(0, some 0), (1, some 45), (2, some 2)]) ?_
        apply ren_lists <;> simp -implicitDefEqProofs [go_sem]
        exact renCells_plain (by simp [bys, u8]) (by simp [plainD, bys, u8])
  · have : i = b.length := by omega
    subst this
    rw [List.drop_length] at inv
    have e : r = out := by rw [inv]; simp [allF]
    subst e
    simp -implicitDefEqProofs (disch := omega) [go_sem, Try.f19]
    exact ⟨_, ⟨_, rfl, frz_ref (rw := true) (cells := (rws r).map D.data) (by simp [go_sem]) (.inl rfl) (by simp [rws]) (rws_cells _) (by rw [flat_rws])⟩, rfl⟩
theorem all_pc (b : List Nat) (hb : b.length ≤ 1000000) (hl : ∀ x ∈ b, x < 256) : PC Try.prog Γ 19 [.sl 1 (bys b)] (.sl 1 (rws (allB b))) := all_pc' Γ b _ rfl hb hl
end
end Sf
end Go.Proofs.Ytdodhnkbdechaaa
namespace Go.Proofs.Ytdodhnkbdechaaa
open Go.RowKit
set_option linter.unusedVariables false
set_option linter.unusedSimpArgs false
set_option maxRecDepth 100000
namespace Sf
section
variable (Γ : Nat → Option (List Data))
/-- A line that has been fed with these, no flag among them, from one without anything. -/
def sg (s : List Nat) : List Nat × Bool := if s.length ≤ 1508 then (s, false) else ([], true)
theorem sg_step {s : List Nat} {c : Nat} (h : c ≠ 126) : nxt (sg s).1 (sg s).2 c = sg (s ++ [c]) := by
  unfold sg nxt
  rw [if_neg h]
  by_cases h1 : s.length ≤ 1508
  · rw [if_pos h1]
    by_cases h2 : s.length + 1 ≤ 1508
    · rw [if_neg (by simp; omega), if_pos (by simpa using h2)]
    · rw [if_pos (by simp; omega), if_neg (by simpa using h2)]
  · rw [if_neg h1, if_pos (.inl rfl), if_neg (by simp; omega)]
theorem sg_cam (s : List Nat) {c : Nat} (h : c ≠ 126) : cam (sg s).1 (sg s).2 c = none := by simp [cam, h]
theorem sg_flag (s : List Nat) : nxt (sg s).1 (sg s).2 126 = sg [] := by simp [nxt, sg]
theorem sg_frame (s : List Nat) : cam (sg s).1 (sg s).2 126 = if 0 < s.length ∧ s.length ≤ 1508 then plain s else none := by
  unfold sg cam
  by_cases h1 : s.length ≤ 1508
  · rw [if_pos h1]
    by_cases h2 : s = []
    · simp [h2]
    · have := List.length_pos_iff.2 h2
      simp [h1, h2, this]
  · rw [if_neg h1, if_neg (fun h => h.2.2 rfl), if_neg (fun h => h1 h.2)]
theorem seg_take {b : List Nat} {f i : Nat} (h : i < b.length) (hf : f ≤ i) : (b.take (i + 1)).drop f = (b.take i).drop f ++ [b[i]] := by
  rw [List.take_add_one, List.getElem?_eq_getElem h, Option.toList_some, List.drop_append_of_le_length (by simp; omega)]
theorem stepS {b s s2 : List Nat} {out out2 r : List (List Nat)} {i : Nat} (inv : r = out ++ allF (sg s).1 (sg s).2 (b.drop i)) (h : i < b.length) (e1 : cam (sg s).1 (sg s).2 b[i] = none ∧ out2 = out ∨ ∃ o, cam (sg s).1 (sg s).2 b[i] = some o ∧ out2 = out ++ [o]) (e2 : nxt (sg s).1 (sg s).2 b[i] = sg s2) : r = out2 ++ allF (sg s2).1 (sg s2).2 (b.drop (i + 1)) := by
  have hs := stepF inv h
  rw [e2] at hs
  rcases e1 with ⟨e, rfl⟩ | ⟨o, e, rfl⟩
  · rw [e] at hs; simpa using hs
  · rw [e] at hs; simpa using hs
structure Sta (b : List Nat) (r : List (List Nat)) where
  i : Nat
  f : Nat
  out : List (List Nat)
  hi : i ≤ b.length
  hf : f ≤ i
  ho : out.length ≤ i
  inv : r = out ++ allF (sg ((b.take i).drop f)).1 (sg ((b.take i).drop f)).2 (b.drop i)
set_option maxHeartbeats 8000000 in
theorem rall_pc' (b : List Nat) (r : List (List Nat)) (hr : allB b = r) (hb : b.length ≤ 1000000) (hl : ∀ x ∈ b, x < 256) : PC Try.prog Γ 20 [.sl 1 (bys b)] (.sl 1 (rws r)) := by
  refine pc_by mixed Try.func20 rfl (fun args w => Try.call20 args w) ?_
  simp -implicitDefEqProofs (disch := omega) [go_sem]
  refine loop_ren (σ := Sta b r) (fun p => ⟨envL [(0, .data (.sl 1 (bys b))), (3, .ref 0 0 p.out.length 1), (4, .data (.int .i64 p.f)), (5, .data (.int .i64 p.i))], hpL [(0, .blk true ((rws p.out).map .data))], 1, 0, 47⟩) (fun p => b.length - p.i) ⟨0, 0, [], by omega, by omega, by simp, by rw [← hr]; rfl⟩ [] (rhoL [(0, none)]) ?_ ?_
  · apply ren_lists <;> simp -implicitDefEqProofs [go_sem, rws]
  rintro ⟨i, f, out, hi, hf, ho, inv⟩
  by_cases h : i < b.length
  · have hc := hl _ (List.getElem_mem h)
    have hsl : ((b.take i).drop f).length = i - f := by simp; omega
    have hsb : ∀ x ∈ (b.take i).drop f, x < 256 := fun x hx => hl x (List.mem_of_mem_take (List.mem_of_mem_drop hx))
    have hse : (b.take (i + 1)).drop (i + 1) = [] := List.drop_eq_nil_of_le (by simp; omega)
    by_cases h1 : b[i] = 126
    · have hpl := rplain_pc Γ ((b.take i).drop f) (by omega) hsb
      have hfr := sg_frame ((b.take i).drop f)
      have hfl := sg_flag ((b.take i).drop f)
      rw [← h1] at hfr hfl
      rw [hsl] at hfr
      rw [← hse] at hfl
      simp -implicitDefEqProofs (disch := omega) [go_sem, h1]
      refine .inl (call_data hpl (by simp [go_sem]) ?_)
      have no : (cam (sg ((b.take i).drop f)).1 (sg ((b.take i).drop f)).2 b[i] = none) → r = out ++ allF (sg ((b.take (i + 1)).drop (i + 1))).1 (sg ((b.take (i + 1)).drop (i + 1))).2 (b.drop (i + 1)) := fun e => stepS inv h (.inl ⟨e, rfl⟩) hfl
      have yes : ∀ o, (cam (sg ((b.take i).drop f)).1 (sg ((b.take i).drop f)).2 b[i] = some o) → r = (out ++ [o]) ++ allF (sg ((b.take (i + 1)).drop (i + 1))).1 (sg ((b.take (i + 1)).drop (i + 1))).2 (b.drop (i + 1)) := fun o e => stepS inv h (.inr ⟨o, e, rfl⟩) hfl
      rw [hfr] at no yes
      by_cases h2 : 0 < i - f ∧ i - f ≤ 1508
      · rw [if_pos h2] at no yes
        obtain ⟨h3, h4⟩ := h2
        cases hpr : plain ((b.take i).drop f) with
        | none =>
          have inv2 := no hpr
          simp -implicitDefEqProofs (disch := omega) [go_sem, plR]
          refine next_ren ⟨i + 1, i + 1, out, by omega, by omega, by omega, inv2⟩ (by simp only; omega) [] (rhoL [(0, some 0)]) ?_
          apply ren_lists <;> simp -implicitDefEqProofs [go_sem]
        | some o =>
          have inv2 := yes o hpr
          simp -implicitDefEqProofs (disch := omega) [go_sem, plR]
          refine next_ren ⟨i + 1, i + 1, out ++ [o], by omega, by omega, by simp; omega, inv2⟩ (by simp only; omega) [] (rhoL [(0, some 36)]) ?_
          apply ren_lists <;> simp -implicitDefEqProofs [go_sem]
          exact renCells_plain (by simp [rws]) (by simp [plainD, rws])
      · rw [if_neg h2] at no yes
        have inv2 := no rfl
        by_cases h3 : 0 < i - f
        · have h4 : ¬ i - f ≤ 1508 := fun e => h2 ⟨h3, e⟩
          cases hpr : plain ((b.take i).drop f) <;> simp -implicitDefEqProofs (disch := omega) [go_sem, plR]
          all_goals
            refine next_ren ⟨i + 1, i + 1, out, by omega, by omega, by omega, inv2⟩ (by simp only; omega) [] (rhoL [(0, some 0)]) ?_
            apply ren_lists <;> simp -implicitDefEqProofs [go_sem]
        · cases hpr : plain ((b.take i).drop f) <;> simp -implicitDefEqProofs (disch := omega) [go_sem, plR]
          all_goals
            refine next_ren ⟨i + 1, i + 1, out, by omega, by omega, by omega, inv2⟩ (by simp only; omega) [] (rhoL [(0, some 0)]) ?_
            apply ren_lists <;> simp -implicitDefEqProofs [go_sem]
    · have inv2 : r = out ++ allF (sg ((b.take (i + 1)).drop f)).1 (sg ((b.take (i + 1)).drop f)).2 (b.drop (i + 1)) := stepS inv h (.inl ⟨sg_cam _ h1, rfl⟩) (by rw [sg_step h1, seg_take h hf])
      simp -implicitDefEqProofs (disch := omega) [go_sem, h1]
      refine next_ren ⟨i + 1, f, out, by omega, by omega, by omega, inv2⟩ (by simp only; omega) [] (rhoL [(0, some 0)]) ?_
      apply ren_lists <;> simp -implicitDefEqProofs [go_sem]
  · have : i = b.length := by omega
    subst this
    rw [List.drop_length] at inv
    have e : r = out := by rw [inv]; simp [allF]
    subst e
    simp -implicitDefEqProofs (disch := omega) [go_sem, Try.f20]
    exact ⟨_, ⟨_, rfl, frz_ref (rw := true) (cells := (rws r).map D.data) (by simp [go_sem]) (.inl rfl) (by simp [rws]) (rws_cells _) (by rw [flat_rws])⟩, rfl⟩
theorem rall_pc (b : List Nat) (hb : b.length ≤ 1000000) (hl : ∀ x ∈ b, x < 256) : PC Try.prog Γ 20 [.sl 1 (bys b)] (.sl 1 (rws (allB b))) := rall_pc' Γ b _ rfl hb hl
set_option maxHeartbeats 4000000 in
theorem frames_pc (a b : List (List Nat)) (ha : a.length ≤ 100000000000) (hb : b.length ≤ 100000000000) (hla : ∀ x ∈ a, x.length ≤ 100000000000) (hlb : ∀ x ∈ b, x.length ≤ 100000000000) : PC Try.prog Γ 18 [.sl 1 (rws a), .sl 1 (rws b)] (.bool (decide (a = b))) := by
  refine pc_by mixed Try.func18 rfl (fun args w => Try.call18 args w) ?_
  simp -implicitDefEqProofs (disch := omega) [go_sem, Try.f18]
  refine ifW_ndec (fun h => ?_) (fun h => ?_)
  · have hne : a ≠ b := fun e => h (by rw [e])
    simp -implicitDefEqProofs (disch := omega) [go_sem, Try.f18, hne]
  · have hl : a.length = b.length := by omega
    simp -implicitDefEqProofs (disch := omega) [go_sem]
    refine loop_of (σ := { i : Nat // i ≤ a.length ∧ ∀ j, j < i → a[j]? = b[j]? }) (fun i => ⟨envL [(0, .data (.sl 1 (rws a))), (1, .data (.sl 1 (rws b))), (5, .data (.int .i64 i.1))], hpL [], 0, 0, 29⟩) (fun i => a.length - i.1) ⟨0, by omega, by omega⟩ ?_ ?_
    · apply weak_lists <;> simp -implicitDefEqProofs [go_sem]
    · rintro ⟨i, hi, heq⟩
      by_cases hia : i < a.length
      · have hib : i < b.length := by omega
        have hr := row_pc Γ a[i] b[i] (hla _ (List.getElem_mem hia)) (hlb _ (List.getElem_mem hib))
        simp -implicitDefEqProofs (disch := omega) [go_sem]
        refine .inl (call_data hr (by simp [go_sem]) ?_)
        by_cases h2 : a[i] = b[i]
        · simp -implicitDefEqProofs (disch := omega) [go_sem, h2]
          refine side (by kernel_rfl) ?_
          simp -implicitDefEqProofs (disch := omega) [go_sem]
          refine next_of ⟨i + 1, by omega, fun j hj => ?_⟩ ?_ (by simp only; omega)
          · by_cases e : j = i
            · subst e
              rw [List.getElem?_eq_getElem hia, List.getElem?_eq_getElem hib, h2]
            · exact heq j (by omega)
          apply weak_lists <;> simp -implicitDefEqProofs [go_sem]
        · have hne : a ≠ b := fun e => h2 (by subst e; rfl)
          simp -implicitDefEqProofs (disch := omega) [go_sem, h2]
          refine side (by kernel_rfl) ?_
          simp -implicitDefEqProofs (disch := omega) [go_sem, Try.f18, hne]
      · have hab : a = b := List.ext_getElem? fun j => by
          by_cases hj : j < a.length
          · exact heq j (by omega)
          · rw [List.getElem?_eq_none (by omega), List.getElem?_eq_none (by omega)]
        simp -implicitDefEqProofs (disch := omega) [go_sem, Try.f18, hab]
end
end Sf
end Go.Proofs.Ytdodhnkbdechaaa
namespace Go.Proofs.Ytdodhnkbdechaaa
open Go.RowKit
set_option linter.unusedVariables false
set_option linter.unusedSimpArgs false
set_option maxRecDepth 100000
namespace Sf
section
variable (Γ : Nat → Option (List Data))
set_option maxHeartbeats 4000000 in
theorem shown_pc : PC Try.prog Γ 10 [] (.bool true) := by
  refine pc_by mixed Try.func10 rfl (fun args w => Try.call10 args w) ?_
  have c1 := send_pc Γ [126] 0 (by decide) (by decide) (by decide)
  rw [show sendB 0 [126] = [126, 125, 94, 126] by decide] at c1
  have c2 := all_pc Γ [1, 2, 126, 125, 94, 126] (by decide) (by decide)
  rw [show allB [1, 2, 126, 125, 94, 126] = [[1, 2], [126]] by decide] at c2
  have c3 := feed_pc Γ [7] false 126 (by decide) (by decide) (by decide)
  rw [feedR_yes (show cam [7] false 126 = some [7] by decide), show nxt [7] false 126 = ([], false) by decide] at c3
  have c4 := plain_pc Γ [125, 94] (by decide) (by decide)
  rw [show plain [125, 94] = some [126] by decide] at c4
  have c5 := same_pc Γ [] [] false false (by simp) (by simp)
  have c6 := escape_pc Γ [3] 8 (by decide) (by decide) (by decide)
  rw [show escB 8 [3] = [125, 35] by decide] at c6
  simp -implicitDefEqProofs (disch := omega) [go_sem]
  refine .inl (call_keep 1 c1 (rw := true) (cells := (bys [126]).map D.data) (by simp [Hp.upd, Hp.set, bys, u8]) (fun H' hg => frzL_c (frz_bys (rw := false) hg (.inr rfl) rfl) (frzL_c (.data _) frzL_n)) ?_)
  simp -implicitDefEqProofs (disch := omega) [go_sem]
  refine .inl (call_kept 6 6 [1, 2, 126, 125, 94, 126] c2 (by simp [Hp.upd, Hp.set, bys, u8]) rfl ?_)
  simp -implicitDefEqProofs (disch := omega) [go_sem]
  refine .inl (call_keep 9 c3 (rw := true) (cells := (bys [7]).map D.data) (by simp [Hp.upd, Hp.set, bys, u8]) (fun H' hg => frzL_c (frz_aggL (frzL_c (frz_bys (rw := false) hg (.inr rfl) rfl) (frzL_c (.data _) frzL_n))) (frzL_c (.data _) frzL_n)) ?_)
  simp -implicitDefEqProofs (disch := omega) [go_sem, ln]
  refine .inl (call_data c4 (by simp [go_sem]; rfl) ?_)
  simp -implicitDefEqProofs (maxSteps := 4000000) (disch := omega) [go_sem, plR, rws, u8]
  refine .inl (call_data c5 (by simp [go_sem, ln]) ?_)
  simp -implicitDefEqProofs (maxSteps := 4000000) (disch := omega) [go_sem]
  refine .inl (call_keep 90 c6 (rw := true) (cells := (bys [3]).map D.data) (by simp [Hp.upd, Hp.set, bys, u8]) (fun H' hg => frzL_c (frz_bys (rw := false) hg (.inr rfl) rfl) (frzL_c (.data _) frzL_n)) ?_)
  simp -implicitDefEqProofs (maxSteps := 4000000) (disch := omega) [go_sem, Try.f10]
end
end Sf
end Go.Proofs.Ytdodhnkbdechaaa
