/- What the walk's simp goes by. What the walk's simp goes by, second part: code, calls, loops. Functions that hand back rows of their own, which the caller may write: a contract of its own (OC), and its use in a call. Calls in operations whose order is open that hand back rows of their own, or that write rows of the caller's. Arrays of numbers, held against each other. What came in, read as plain data: the arguments of a law, the listed variables. Rows of bytes; what arguments are. Choices that the numbers at hand decide: by omega, in the walk's simp. (Import it where the walk should decide by itself.) Functions that may panic, on plain data; functions that are lent a row of the caller's. A row of the caller's, lent to a call: the call is looked at with this row alone. -/
import Derived.Test.YtafcdeegcfmcpaaDoorPk3
import Derived.Laws.Bits64
import Derived.Laws.BitsAllLaws
import Derived.DeepKeys
import Derived.Laws.StructEq
import Derived.OpenShut
import Derived.SizedLaws
import Derived.LaidMore
import Derived.KernelRfl
namespace Go.Proofs.YtafcdeegcfmcpaaDoor
open Go.RowKit
set_option linter.unusedSimpArgs false
set_option linter.unusedVariables false
set_option maxRecDepth 100000
@[irreducible] def tick:Nat:=0
@[go_sem] theorem tick_eq:tick = 0:=Nat.le_antisymm (by unfold tick;exact Nat.le_refl _) (Nat.zero_le _)
@[go_sem] theorem stepSt_eq (e:Nat->D) (H:Nat->Blk) (nx lo nt:Nat) (o:Oper) (d:D) (u:List (Nat × Blk)):stepSt ⟨e,H,nx,lo,nt⟩ o d u = ⟨Env.dst e o.dst d,Hp.upd H u,nx + 1,lo,nt⟩:=rfl
@[go_sem] theorem dst_some (e:Nat->D) (t:Nat) (d:D):Env.dst e (some t) d = Env.set e t d:=rfl
@[go_sem] theorem dst_none (e:Nat->D) (d:D):Env.dst e none d = e:=rfl
@[go_sem] theorem set_get (e:Nat->D) (t j:Nat) (d:D):Env.set e t d j = if j = t then d else e j:=rfl
@[go_sem] theorem hset_get (H:Nat->Blk) (t j:Nat) (b:Blk):Hp.set H t b j = if j = t then b else H j:=rfl
@[go_sem] theorem hset_hset (H:Nat->Blk) (t:Nat) (b c:Blk):Hp.set (Hp.set H t b) t c = Hp.set H t c:=by
 funext j
 unfold Hp.set
 split <;> rfl
@[go_sem] theorem upd_nil (H:Nat->Blk):Hp.upd H [] = H:=rfl
@[go_sem] theorem upd_cons (H:Nat->Blk) (g:Nat) (b:Blk) (l:List (Nat × Blk)):Hp.upd H ((g,b) :: l) = Hp.upd (Hp.set H g b) l:=rfl
@[go_sem] theorem ifW_true (x y:Prop):ifW true x y = x:=rfl
@[go_sem] theorem ifW_false (x y:Prop):ifW false x y = y:=rfl
@[congr] theorem ifW_congr {n0:Nat} (tk:tick = n0) {b b':Bool} (x y:Prop) (h:b = b'):ifW b x y = ifW b' x y:=by rw [h]
@[congr] theorem callK_congr {n0:Nat} (tk:tick = n0) (P:Program) (Γ:Nat->Option (List Data)) (f:FuncId) {ds ds':List D} (h:ds = ds') (H:Nat->Blk) (K:D->List Nat->List (Nat × Blk)->Prop):callK P Γ f ds H K = callK P Γ f ds' H K:=by rw [h]
@[congr] theorem DC_congr {n0:Nat} (tk:tick = n0) (P:Program) (Γ:Nat->Option (List Data)) (f:FuncId) {ds ds':List D} (h:ds = ds') {H H':Nat->Blk} (hH:H = H') {nx nx':Nat} (hn:nx = nx') (K:D->(Nat->Blk)->Nat->Prop):DC P Γ f ds H nx K = DC P Γ f ds' H' nx' K:=by rw [h,hH,hn]
@[congr] theorem eqK_congr {n0:Nat} (tk:tick = n0) (P:Program) (t:TypeId) {x x' y y':Data} (hx:x = x') (hy:y = y') (K:Bool->Prop):eqK P t x y K = eqK P t x' y' K:=by rw [hx,hy]
@[congr] theorem LoopW_congr {n0:Nat} (tk:tick = n0) (body:(Exit->St->Prop)->St->Prop) (Q:Exit->St->Prop) {s s':St} (h:s = s'):LoopW body Q s = LoopW body Q s':=by rw [h]
@[congr] theorem drawOk2_congr {n0:Nat} (tk:tick = n0) (ops:Array Oper) (tr:List Tr) (a b:Nat):drawOk2 ops tr a b = drawOk2 ops tr a b:=rfl
@[congr] theorem effC_congr {n0:Nat} (tk:tick = n0) (P:Program) (Γ:Nat->Option (List Data)) (f:FuncId) {ds ds':List D} (h:ds = ds') (H:Nat->Blk) (fr:Nat) (K:D->List Nat->List (Nat × Blk)->Nat->Prop):effC P Γ f ds H fr K = effC P Γ f ds' H fr K:=by rw [h]
@[congr] theorem drawOk_congr {n0:Nat} (tk:tick = n0) (ops:Array Oper) (tr:List Tr):drawOk ops tr = drawOk ops tr:=rfl
@[congr] theorem PC_congr {n0:Nat} (tk:tick = n0) (P:Program) (Γ:Nat->Option (List Data)) (f:FuncId) (xs:List Data) (r:Data):PC P Γ f xs r = PC P Γ f xs r:=rfl
@[go_sem] theorem allData_nil:allData [] = some []:=rfl
@[go_sem] theorem allData_data (x:Data) (l:List D):allData (.data x :: l) = (allData l).map (x :: ·):=rfl
@[go_sem] theorem allData_fn (f:FuncId) (c:List D) (l:List D):allData (.fn f c :: l) = none:=rfl
@[go_sem] theorem allData_ref (g o n s:Nat) (l:List D):allData (.ref g o n s :: l) = none:=rfl
@[go_sem] theorem allData_emp (s:Nat) (l:List D):allData (.emp s :: l) = none:=rfl
@[go_sem] theorem allData_ptr (g o:Nat) (l:List D):allData (.ptr g o :: l) = none:=rfl
@[go_sem] theorem allData_junk (l:List D):allData (.junk :: l) = none:=rfl
@[go_sem] theorem allData_map (l:List Data):allData (l.map D.data) = some l:=by
 induction l with
 | nil=>rfl
 | cons x l ih=>simp [allData,ih]
@[go_sem] theorem allData_take (n:Nat) (l:List Data):allData ((l.map D.data).take n) = some (l.take n):=by rw [<- List.map_take,allData_map]
@[go_sem] theorem allData_dropt (n k:Nat) (l:List Data):allData (((l.map D.data).drop k).take n) = some ((l.drop k).take n):=by rw [<- List.map_drop,<- List.map_take,allData_map]
@[go_sem] theorem dcells_agg (cs:List Data):D.cells (.data (.agg cs)) = cs.map .data:=rfl
@[go_sem] theorem dcells_int (k:IntKind) (n:Int):D.cells (.data (.int k n)) = [.data (.int k n)]:=rfl
@[go_sem] theorem dcells_bool (b:Bool):D.cells (.data (.bool b)) = [.data (.bool b)]:=rfl
@[go_sem] theorem dcells_str (b:ByteArray):D.cells (.data (.str b)) = [.data (.str b)]:=rfl
@[go_sem] theorem dcells_sl (n:Nat) (l:List Data):D.cells (.data (.sl n l)) = [.data (.sl n l)]:=rfl
@[go_sem] theorem dcells_nilf:D.cells (.data .nilf) = [.data .nilf]:=rfl
@[go_sem] theorem dcells_nili:D.cells (.data .nili) = [.data .nili]:=rfl
@[go_sem] theorem dcells_nilp:D.cells (.data .nilp) = [.data .nilp]:=rfl
@[go_sem] theorem dcells_nilm:D.cells (.data .nilm) = [.data .nilm]:=rfl
@[go_sem] theorem dcells_ifc (t:TypeId) (d:Data):D.cells (.data (.ifc t d)) = [.data (.ifc t d)]:=rfl
@[go_sem] theorem dcells_dbn (f:FuncId) (r:Data):D.cells (.data (.bn f r)) = [.data (.bn f r)]:=rfl
@[go_sem] theorem dcells_dfn (f:FuncId) (c:List Data):D.cells (.data (.fn f c)) = [.data (.fn f c)]:=rfl
@[go_sem] theorem dcells_dmp (ks xs:List Data):D.cells (.data (.mp ks xs)) = [.data (.mp ks xs)]:=rfl
@[go_sem] theorem dcells_ful (s:Nat) (l:List Data):D.cells (.ful s l) = [.ful s l]:=rfl
@[go_sem] theorem dcells_cut (g o n c s:Nat):D.cells (.cut g o n c s) = [.cut g o n c s]:=rfl
@[go_sem] theorem dcells_bnd (f:FuncId) (r:D):D.cells (.bnd f r) = [.bnd f r]:=rfl
@[go_sem] theorem dcell_bnd (f:FuncId) (r:D):D.cell (.bnd f r) = true:=rfl
@[go_sem] theorem allData_bnd (f:FuncId) (r:D) (l:List D):allData (.bnd f r :: l) = none:=rfl
@[go_sem] theorem dcells_mref (g:Nat):D.cells (.mref g) = [.mref g]:=rfl
@[go_sem] theorem dcell_mref (g:Nat):D.cell (.mref g) = true:=rfl
@[go_sem] theorem dcell_ful (s:Nat) (l:List Data):D.cell (.ful s l) = true:=rfl
@[go_sem] theorem dcell_cut (g o n c s:Nat):D.cell (.cut g o n c s) = true:=rfl
@[go_sem] theorem allData_ful (s:Nat) (x:List Data) (l:List D):allData (.ful s x :: l) = none:=rfl
@[go_sem] theorem allData_cut (g o n c s:Nat) (l:List D):allData (.cut g o n c s :: l) = none:=rfl
@[go_sem] theorem allData_mref (g:Nat) (l:List D):allData (.mref g :: l) = none:=rfl
@[go_sem] theorem allData_agg (c:List D) (l:List D):allData (.agg c :: l) = none:=rfl
@[go_sem] theorem allData_cptr (c:List Data) (l:List D):allData (.cptr c :: l) = none:=rfl
@[go_sem] theorem dcells_emp (n:Nat):D.cells (.emp n) = [.emp n]:=rfl
@[go_sem] theorem dcells_ref (g o n s:Nat):D.cells (.ref g o n s) = [.ref g o n s]:=rfl
@[go_sem] theorem dcells_ptr (g o:Nat):D.cells (.ptr g o) = [.ptr g o]:=rfl
@[go_sem] theorem dcells_fn (f:FuncId) (c:List D):D.cells (.fn f c) = [.fn f c]:=rfl
@[go_sem] theorem dcells_dagg (cs:List D):D.cells (.agg cs) = cs:=rfl
@[go_sem] theorem cells_agg (cs:List Data):Data.cells (.agg cs) = cs:=rfl
@[go_sem] theorem cells_int (k:IntKind) (n:Int):Data.cells (.int k n) = [.int k n]:=rfl
@[go_sem] theorem cells_bool (b:Bool):Data.cells (.bool b) = [.bool b]:=rfl
@[go_sem] theorem cells_str (b:ByteArray):Data.cells (.str b) = [.str b]:=rfl
@[go_sem] theorem cells_sl (n:Nat) (l:List Data):Data.cells (.sl n l) = [.sl n l]:=rfl
@[go_sem] theorem dcell_data (x:Data):D.cell (.data x) = x.cell:=rfl
@[go_sem] theorem dcell_ref (g o n s:Nat):D.cell (.ref g o n s) = true:=rfl
@[go_sem] theorem dcell_ptr (g o:Nat):D.cell (.ptr g o) = true:=rfl
@[go_sem] theorem dcell_emp (n:Nat):D.cell (.emp n) = true:=rfl
@[go_sem] theorem dcell_fn (f:FuncId) (c:List D):D.cell (.fn f c) = true:=rfl
@[go_sem] theorem cell_int (k:IntKind) (n:Int):Data.cell (.int k n) = true:=rfl
@[go_sem] theorem cell_bool (b:Bool):Data.cell (.bool b) = true:=rfl
@[go_sem] theorem cell_str (b:ByteArray):Data.cell (.str b) = true:=rfl
@[go_sem] theorem cell_sl (n:Nat) (l:List Data):Data.cell (.sl n l) = true:=rfl
@[go_sem] theorem cell_nilf:Data.cell .nilf = true:=rfl
@[go_sem] theorem cell_nili:Data.cell .nili = true:=rfl
@[go_sem] theorem cell_nilp:Data.cell .nilp = true:=rfl
@[go_sem] theorem cell_nilm:Data.cell .nilm = true:=rfl
@[go_sem] theorem cell_bn (f:FuncId) (r:Data):Data.cell (.bn f r) = true:=rfl
@[go_sem] theorem cell_fn (f:FuncId) (c:List Data):Data.cell (.fn f c) = true:=rfl
@[go_sem] theorem cell_mp (ks xs:List Data):Data.cell (.mp ks xs) = true:=rfl
@[go_sem] theorem cell_pc (c:List Data):Data.cell (.pc c) = true:=rfl
@[go_sem] theorem cell_ifc (t:TypeId) (d:Data):Data.cell (.ifc t d) = true:=rfl
@[go_sem] theorem over_one (cells:List D) (off:Nat) (d:D):over cells off [d] = cells.set off d:=rfl
@[go_sem] theorem over_two (cells:List D) (off:Nat) (a b:D) (vs:List D):over cells off (a :: b :: vs) = cells.take off++(a :: b :: vs)++cells.drop (off + (a :: b :: vs).length):=rfl
@[go_sem] theorem over_map (cells:List D) (l:List Data) (h:l.length = cells.length):over cells 0 (l.map .data) = l.map .data:=by
 unfold over
 split
 . rename_i d hd
   have:cells.length = 1:=by rw [<- h];have:=congrArg List.length hd;simpa using this
   match cells,this with
   | [c],_=>rw [hd];rfl
 . simp [h]
@[go_sem] theorem frzL_nil (ok:Bool) (H:Nat->Blk) (xs:List Data):FrzL ok H [] xs ↔ xs = []:=by
 constructor
 . rintro ⟨h,_⟩;exact List.eq_nil_of_length_eq_zero h.symm
 . rintro rfl;exact ⟨rfl,fun i d x h=>by simp at h⟩
@[go_sem] theorem frzL_cons (ok:Bool) (H:Nat->Blk) (d:D) (ds:List D) (xs:List Data):FrzL ok H (d :: ds) xs ↔ ∃ y ys,xs = y :: ys/\Frz ok H d y/\FrzL ok H ds ys:=by
 constructor
 . rintro ⟨h,hh⟩
   cases xs with
   | nil=>simp at h
   | cons y ys=>exact ⟨y,ys,rfl,hh 0 d y rfl rfl,by simpa using h,fun i d x h1 h2=>hh (i + 1) d x (by simpa using h1) (by simpa using h2)⟩
 . rintro ⟨y,ys,rfl,h1,h2,h3⟩
   refine ⟨by simp [h2],fun i d' x h4 h5=>?_⟩
   match i with
   | 0=>simp at h4 h5;subst h4;subst h5;exact h1
   | i + 1=>exact h3 i d' x (by simpa using h4) (by simpa using h5)
@[go_sem] theorem frz_data (ok:Bool) (H:Nat->Blk) (x y:Data):Frz ok H (.data x) y ↔ y = x:=by
 constructor
 . intro h;cases h;rfl
 . rintro rfl;exact .data _
@[go_sem] theorem toD_pc (c:List Data):toD (.pc c) = .cptr c:=rfl
@[go_sem] theorem toD_int (k:IntKind) (n:Int):toD (.int k n) = .data (.int k n):=rfl
@[go_sem] theorem toD_bool (b:Bool):toD (.bool b) = .data (.bool b):=rfl
@[go_sem] theorem toD_str (b:ByteArray):toD (.str b) = .data (.str b):=rfl
@[go_sem] theorem toD_sl (n:Nat) (l:List Data):toD (.sl n l) = .data (.sl n l):=rfl
@[go_sem] theorem toD_agg (l:List Data):toD (.agg l) = .data (.agg l):=rfl
@[go_sem] theorem toD_nilf:toD .nilf = .data .nilf:=rfl
@[go_sem] theorem toD_nili:toD .nili = .data .nili:=rfl
@[go_sem] theorem toD_nilp:toD .nilp = .data .nilp:=rfl
@[go_sem] theorem toD_nilm:toD .nilm = .data .nilm:=rfl
@[go_sem] theorem toD_bn (f:FuncId) (r:Data):toD (.bn f r) = .data (.bn f r):=rfl
@[go_sem] theorem toD_fn (f:FuncId) (c:List Data):toD (.fn f c) = .data (.fn f c):=rfl
@[go_sem] theorem toD_mp (ks xs:List Data):toD (.mp ks xs) = .data (.mp ks xs):=rfl
@[go_sem] theorem toD_tup (c:List Data):toD (.tup c) = .data (.tup c):=rfl
@[go_sem] theorem toD_ifc (t:TypeId) (d:Data):toD (.ifc t d) = .data (.ifc t d):=rfl
@[go_sem] theorem dcell_cptr (c:List Data):D.cell (.cptr c) = true:=rfl
@[go_sem] theorem dcells_cptr (c:List Data):D.cells (.cptr c) = [.cptr c]:=rfl
@[go_sem] theorem tupD_one (x:Data):tupD [x] = x:=rfl
@[go_sem] theorem tupD_two (x y:Data) (l:List Data):tupD (x :: y :: l) = .tup (x :: y :: l):=rfl
@[go_sem] theorem tupD_nil:tupD [] = .tup []:=rfl
@[go_sem] theorem envArgs_zero (d:D) (l:List D):envArgs (d :: l) 0 = d:=rfl
@[go_sem] theorem envArgs_succ (d:D) (l:List D) (t:Nat):envArgs (d :: l) (t + 1) = envArgs l t:=rfl
@[go_sem] theorem envArgs_nil (t:Nat):envArgs [] t = undefD:=rfl
/- Combinators: the walk looks at what they hang on,and at nothing else. -/
def blkK (b:Blk) (K:Bool->List D->Prop):Prop:=match b with
 | .blk rw cells=>K rw cells
 | _=>False
def mapK (b:Blk) (K:List Data->List D->Prop):Prop:=match b with
 | .obj (.mp ks xs)=>K ks xs
 | _=>False
def itrK (b:Blk) (K:List Data->List Data->List Nat->Option Nat->Prop):Prop:=match b with
 | .obj (.it ks xs left cur)=>K ks xs left cur
 | _=>False
def sitK (b:Blk) (K:ByteArray->Nat->Prop):Prop:=match b with
 | .obj (.si s p)=>K s p
 | _=>False
@[go_sem] theorem sitK_si (s:ByteArray) (p:Nat) (K:ByteArray->Nat->Prop):sitK (.obj (.si s p)) K = K s p:=rfl
def fndK (o:Option (Option Nat)) (f:Nat->Prop) (n:Prop):Prop:=match o with
 | some (some i)=>f i
 | some none=>n
 | none=>False
def dataK (d:D) (K:Data->Prop):Prop:=match d with
 | .data x=>K x
 | _=>False
@[go_sem] theorem blkK_obj (o:Ob) (K:Bool->List D->Prop):blkK (.obj o) K = False:=rfl
@[go_sem] theorem mapK_mp (ks:List Data) (xs:List D) (K:List Data->List D->Prop):mapK (.obj (.mp ks xs)) K = K ks xs:=rfl
@[go_sem] theorem itrK_it (ks xs:List Data) (left:List Nat) (cur:Option Nat) (K:List Data->List Data->List Nat->Option Nat->Prop):itrK (.obj (.it ks xs left cur)) K = K ks xs left cur:=rfl
@[go_sem] theorem fndK_some (i:Nat) (f:Nat->Prop) (n:Prop):fndK (some (some i)) f n = f i:=rfl
@[go_sem] theorem fndK_none (f:Nat->Prop) (n:Prop):fndK (some none) f n = n:=rfl
@[go_sem] theorem dataK_data (x:Data) (K:Data->Prop):dataK (.data x) K = K x:=rfl
@[congr] theorem mapK_congr {n0:Nat} (tk:tick = n0) {b b':Blk} (h:b = b') (K:List Data->List D->Prop):mapK b K = mapK b' K:=by rw [h]
@[congr] theorem itrK_congr {n0:Nat} (tk:tick = n0) {b b':Blk} (h:b = b') (K:List Data->List Data->List Nat->Option Nat->Prop):itrK b K = itrK b' K:=by rw [h]
@[congr] theorem fndK_congr {n0:Nat} (tk:tick = n0) {o o':Option (Option Nat)} (h:o = o') (f:Nat->Prop) (n:Prop):fndK o f n = fndK o' f n:=by rw [h]
@[congr] theorem dataK_congr {n0:Nat} (tk:tick = n0) {d d':D} (h:d = d') (K:Data->Prop):dataK d K = dataK d' K:=by rw [h]
def aggK (o:Option Bool) (x y:Prop):Prop:=match o with
 | some true=>x
 | some false=>y
 | none=>False
def someK {α:Type} (o:Option α) (K:α->Prop):Prop:=match o with
 | some x=>K x
 | none=>False
def optK {α:Type} (o:Option α) (K:α->Prop) (n:Prop):Prop:=match o with
 | some x=>K x
 | none=>n
def sideK (p q:Prop):Prop:=p/\q
def putK (d:D) (K:D->Prop):Prop:=K d
def cellsK (d:List D) (K:List D->Prop):Prop:=K d
def natK (d:Nat) (K:Nat->Prop):Prop:=K d
@[go_sem] theorem blkK_blk (rw:Bool) (c:List D) (K:Bool->List D->Prop):blkK (.blk rw c) K = K rw c:=rfl
@[go_sem] theorem blkK_dead (K:Bool->List D->Prop):blkK .dead K = False:=rfl
@[go_sem] theorem aggK_true (x y:Prop):aggK (some true) x y = x:=rfl
@[go_sem] theorem aggK_false (x y:Prop):aggK (some false) x y = y:=rfl
@[go_sem] theorem someK_some {α:Type} (x:α) (K:α->Prop):someK (some x) K = K x:=rfl
@[go_sem] theorem someK_none {α:Type} (K:α->Prop):someK none K = False:=rfl
@[go_sem] theorem optK_some {α:Type} (x:α) (K:α->Prop) (n:Prop):optK (some x) K n = K x:=rfl
@[go_sem] theorem optK_none {α:Type} (K:α->Prop) (n:Prop):optK none K n = n:=rfl
@[go_sem] theorem sideK_true (q:Prop):sideK True q = q:=by simp [sideK]
@[go_sem] theorem sideK_of {p:Prop} (q:Prop) (h:p):sideK p q = q:=by simp [sideK,h]
@[go_sem] theorem putK_eq (d:D) (K:D->Prop):putK d K = K d:=rfl
@[go_sem] theorem cellsK_eq (d:List D) (K:List D->Prop):cellsK d K = K d:=rfl
@[go_sem] theorem natK_eq (d:Nat) (K:Nat->Prop):natK d K = K d:=rfl
@[congr] theorem blkK_congr {n0:Nat} (tk:tick = n0) {b b':Blk} (h:b = b') (K:Bool->List D->Prop):blkK b K = blkK b' K:=by rw [h]
@[congr] theorem aggK_congr {n0:Nat} (tk:tick = n0) {b b':Option Bool} (h:b = b') (x y:Prop):aggK b x y = aggK b' x y:=by rw [h]
@[congr] theorem someK_congr {n0:Nat} (tk:tick = n0) {α:Type} {b b':Option α} (h:b = b') (K:α->Prop):someK b K = someK b' K:=by rw [h]
@[congr] theorem optK_congr {n0:Nat} (tk:tick = n0) {α:Type} {b b':Option α} (h:b = b') (K:α->Prop) (n:Prop):optK b K n = optK b' K n:=by rw [h]
@[congr] theorem sideK_congr {n0:Nat} (tk:tick = n0) {p p':Prop} (h:p = p') (q:Prop):sideK p q = sideK p' q:=by rw [h]
@[congr] theorem putK_congr {n0:Nat} (tk:tick = n0) {d d':D} (h:d = d') (K:D->Prop):putK d K = putK d' K:=by rw [h]
@[congr] theorem cellsK_congr {n0:Nat} (tk:tick = n0) {d d':List D} (h:d = d') (K:List D->Prop):cellsK d K = cellsK d' K:=by rw [h]
@[congr] theorem natK_congr {n0:Nat} (tk:tick = n0) {d d':Nat} (h:d = d') (K:Nat->Prop):natK d K = natK d' K:=by rw [h]
/- Bits. -/
def andI (k:IntKind) (a b:Int):Int:=k.wrap (BitVec.ofInt k.bits a &&& BitVec.ofInt k.bits b).toNat
def orI (k:IntKind) (a b:Int):Int:=k.wrap (BitVec.ofInt k.bits a ||| BitVec.ofInt k.bits b).toNat
def xorI (k:IntKind) (a b:Int):Int:=k.wrap (BitVec.ofInt k.bits a ^^^ BitVec.ofInt k.bits b).toNat
def notI (k:IntKind) (n:Int):Int:=k.wrap (BitVec.ofInt k.bits (if k.signed then -1 else k.max) ^^^ BitVec.ofInt k.bits n).toNat
section
variable (P:Program) (Γ:Nat->Option (List Data))
@[go_sem] theorem evalD_tmp (e:Nat->D) (t:Nat):evalD Γ e (.tmp t) = e t:=rfl
@[go_sem] theorem evalD_const (e:Nat->D) (v:Value):evalD Γ e (.const v) = cD v:=rfl
@[go_sem] theorem evalD_func (e:Nat->D) (f:FuncId):evalD Γ e (.func f) = .data (.fn f []):=rfl
theorem evalD_global (e:Nat->D) {g:Nat} {cells:List Data} (h:Γ g = some cells):evalD Γ e (.global g) = .cptr cells:=by simp [evalD,h]
@[go_sem] theorem cD_bool (b:Bool):cD (.bool b) = .data (.bool b):=rfl
@[go_sem] theorem cD_int (k:IntKind) (n:Int):cD (.int k n) = .data (.int k n):=rfl
@[go_sem] theorem cD_str (s:ByteArray):cD (.string s) = .data (.str s):=rfl
@[go_sem] theorem cD_slice:cD (.slice none 0 0) = .emp 0:=rfl
@[go_sem] theorem cD_ptr:cD (.pointer none) = .data .nilp:=rfl
@[go_sem] theorem cD_map:cD (.map none) = .data .nilm:=rfl
@[go_sem] theorem cD_nili:cD .nilIface = .data .nili:=rfl
@[go_sem] theorem cD_nilf:cD .nilFunc = .data .nilf:=rfl
@[go_sem] theorem coe_data (t:TypeId) (x:Data):coe P t (.data x) = .data x:=rfl
@[go_sem] theorem coe_ref (t:TypeId) (g o n s:Nat):coe P t (.ref g o n s) = .ref g o n s:=rfl
@[go_sem] theorem coe_ptr (t:TypeId) (g o:Nat):coe P t (.ptr g o) = .ptr g o:=rfl
@[go_sem] theorem coe_cptr (t:TypeId) (c:List Data):coe P t (.cptr c) = .cptr c:=rfl
@[go_sem] theorem coe_agg (t:TypeId) (c:List D):coe P t (.agg c) = .agg c:=rfl
@[go_sem] theorem coe_fn (t:TypeId) (f:FuncId) (c:List D):coe P t (.fn f c) = .fn f c:=rfl
@[go_sem] theorem coe_junk (t:TypeId):coe P t .junk = .junk:=rfl
@[go_sem] theorem coe_ful (t:TypeId) (s:Nat) (l:List Data):coe P t (.ful s l) = .ful s l:=rfl
@[go_sem] theorem coe_cut (t:TypeId) (g o n c s:Nat):coe P t (.cut g o n c s) = .cut g o n c s:=rfl
@[go_sem] theorem coe_bnd (t:TypeId) (f:FuncId) (r:D):coe P t (.bnd f r) = .bnd f r:=rfl
@[go_sem] theorem coe_mref (t:TypeId) (g:Nat):coe P t (.mref g) = .mref g:=rfl
@[go_sem] theorem coe_iref (t:TypeId) (g:Nat):coe P t (.iref g) = .iref g:=rfl
@[go_sem] theorem coe_emp (t:TypeId) (n:Nat):coe P t (.emp n) = .emp (((sliceT P t).bind (szT P)).getD n):=by
 unfold coe
 cases h:sliceT P t with
 | none=>rfl
 | some e=>cases h2:szT P e <;> simp [h2]
@[go_sem] theorem boolD_eq (b:Bool):boolD b = .data (.bool b):=rfl
@[go_sem] theorem intD_eq (k:IntKind) (n:Int):intD k n = .data (.int k n):=rfl
@[go_sem] theorem undefD_eq:undefD = .data (.tup []):=rfl
@[go_sem] theorem mkAgg_eq (cs:List D):mkAgg cs = (match allData cs with | some xs=>.data (.agg xs) | none=>.agg cs):=rfl
@[go_sem] theorem dstOk_some (t:Nat) (op:Op) (ty:TypeId) (pos:String) (af:Array Edge) (g:Option (Nat × Bool)) (nt:Nat):dstOk ⟨some t,op,ty,pos,af,g⟩ nt = decide (t < nt):=rfl
@[go_sem] theorem dstOk_none (op:Op) (ty:TypeId) (pos:String) (af:Array Edge) (g:Option (Nat × Bool)) (nt:Nat):dstOk ⟨none,op,ty,pos,af,g⟩ nt = true:=rfl
@[go_sem] theorem wanted_none (ops:Array Oper) (e:Nat->D) (dst:Option Nat) (op:Op) (ty:TypeId) (pos:String) (af:Array Edge):wantedD ops e ⟨dst,op,ty,pos,af,none⟩ = some true:=rfl
def slotB (want:Bool) (d:D):Option Bool:=match d with
 | .data (.bool b)=>some (b == want)
 | .data (.tup [])=>some false
 | _=>none
@[go_sem] theorem slotB_bool (want b:Bool):slotB want (.data (.bool b)) = some (b == want):=rfl
@[go_sem] theorem slotB_undef (want:Bool):slotB want (.data (.tup [])) = some false:=rfl
@[go_sem] theorem wanted_some (ops:Array Oper) (e:Nat->D) (dst:Option Nat) (op:Op) (ty:TypeId) (pos:String) (af:Array Edge) (j:Nat) (want:Bool):wantedD ops e ⟨dst,op,ty,pos,af,some (j,want)⟩ = (match (ops[j]?).bind (·.dst) with | some t=>slotB want (e t) | none=>some false):=by
 unfold wantedD
 simp only
 cases (ops[j]?).bind (·.dst) <;> rfl
@[congr] theorem wanted_congr' {n0:Nat} (tk:tick = n0) (ops:Array Oper) (e:Nat->D) (o:Oper):wantedD ops e o = wantedD ops e o:=rfl
@[go_sem] theorem opsW_nil (ops:Array Oper) (s:St) (K:St->Prop):opsW P Γ ops [] s K = K s:=rfl
@[go_sem] theorem opsW_cons (ops:Array Oper) (o:Oper) (rest:List Oper) (e:Nat->D) (H:Nat->Blk) (nx lo nt:Nat) (K:St->Prop):opsW P Γ ops (o :: rest) ⟨e,H,nx,lo,nt⟩ K =
 sideK (dstOk o nt = true) (someK (wantedD ops e o) fun b=>ifW b (ifW (isCall o)
  ((opK P Γ o e H nx fun d _ u=>opsW P Γ ops rest ⟨Env.dst e o.dst d,Hp.upd H u,nx + 1,lo,nt⟩ K) \/ dcK P Γ o e H nx fun d H' nx'=>opsW P Γ ops rest ⟨Env.dst e o.dst d,H',nx',lo,nt⟩ K)
  (opK P Γ o e H nx fun d _ u=>opsW P Γ ops rest ⟨Env.dst e o.dst d,Hp.upd H u,nx + 1,lo,nt⟩ K)) (opsW P Γ ops rest ⟨Env.dst e o.dst undefD,H,nx + 1,lo,nt⟩ K)):=by
 unfold sideK someK
 rw [opsW]
 congr 1
 simp only
 cases wantedD ops e o <;> rfl
@[go_sem] theorem drawW_nil (ops:Array Oper) (s:St) (tr:List Tr) (K:St->List Tr->Prop):drawW P Γ ops [] s tr K = K s tr.reverse:=rfl
@[go_sem] theorem drawW_cons (ops:Array Oper) (o:Oper) (rest:List Oper) (e:Nat->D) (H:Nat->Blk) (nx lo nt:Nat) (tr:List Tr) (K:St->List Tr->Prop):drawW P Γ ops (o :: rest) ⟨e,H,nx,lo,nt⟩ tr K =
 sideK (dstOk o nt = true) (someK (wantedD ops e o) fun b=>ifW b (ifW (isCall o) ((opK P Γ o e H nx fun d rd u=>drawW P Γ ops rest ⟨Env.dst e o.dst d,Hp.upd H u,nx + 1,lo,nt⟩ (⟨rd,u.map (·.1)⟩ :: tr) K) \/
  effK P Γ o e H nx fun d rd u k=>drawW P Γ ops rest ⟨Env.dst e o.dst d,Hp.upd H u,nx + k,lo,nt⟩ (⟨rd,u.map (·.1)⟩ :: tr) K)
  (opK P Γ o e H nx fun d rd u=>drawW P Γ ops rest ⟨Env.dst e o.dst d,Hp.upd H u,nx + 1,lo,nt⟩ (⟨rd,u.map (·.1)⟩ :: tr) K))
  (drawW P Γ ops rest ⟨Env.dst e o.dst undefD,H,nx + 1,lo,nt⟩ (⟨[],[]⟩ :: tr) K)):=by
 unfold sideK someK
 rw [drawW]
 congr 1
 simp only
 cases wantedD ops e o <;> rfl
@[congr] theorem opsW_congr {n0:Nat} (tk:tick = n0) (ops:Array Oper) (l:List Oper) (s:St) (K:St->Prop):opsW P Γ ops l s K = opsW P Γ ops l s K:=rfl
@[congr] theorem drawW_congr {n0:Nat} (tk:tick = n0) (ops:Array Oper) (l:List Oper) (s:St) (tr:List Tr) (K:St->List Tr->Prop):drawW P Γ ops l s tr K = drawW P Γ ops l s tr K:=rfl
@[congr] theorem opK_congr' {n0:Nat} (tk:tick = n0) (o:Oper) (e:Nat->D) (H:Nat->Blk) (fr:Nat) (K:D->List Nat->List (Nat × Blk)->Prop):opK P Γ o e H fr K = opK P Γ o e H fr K:=rfl
@[congr] theorem dcK_congr' {n0:Nat} (tk:tick = n0) (o:Oper) (e:Nat->D) (H:Nat->Blk) (fr:Nat) (K:D->(Nat->Blk)->Nat->Prop):dcK P Γ o e H fr K = dcK P Γ o e H fr K:=rfl
@[congr] theorem wpF_congr {n0:Nat} (tk:tick = n0) (c:Code) (Q:Exit->St->Prop) (s:St):wpF P Γ c Q s = wpF P Γ c Q s:=rfl
@[congr] theorem effK_congr' {n0:Nat} (tk:tick = n0) (o:Oper) (e:Nat->D) (H:Nat->Blk) (fr:Nat) (K:D->List Nat->List (Nat × Blk)->Nat->Prop):effK P Γ o e H fr K = effK P Γ o e H fr K:=rfl
@[go_sem] theorem isCall_func (dst:Option Nat) (x:Operand) (args:Array Operand) (at':Array TypeId) (ty:TypeId) (pos:String) (af:Array Edge) (g:Option (Nat × Bool)):isCall ⟨dst,.call ⟨.value x,args,at'⟩,ty,pos,af,g⟩ = true:=rfl
attribute [go_sem] isCall
section
variable (dst:Option Nat) (ty:TypeId) (pos:String) (af:Array Edge) (gd:Option (Nat × Bool)) (e:Nat->D) (H:Nat->Blk) (fr:Nat) (K:D->List Nat->List (Nat × Blk)->Prop)
@[go_sem] theorem opK_move (x:Operand):opK P Γ ⟨dst,.move x,ty,pos,af,gd⟩ e H fr K = putK (coe P ty (evalD Γ e x)) fun d=>K d [] []:=rfl
@[go_sem] theorem opK_assign (x:Operand):opK P Γ ⟨dst,.assign x,ty,pos,af,gd⟩ e H fr K = putK (coe P ty (evalD Γ e x)) fun d=>K d [] []:=rfl
def pickK (c a b:D) (K:D->Prop):Prop:=match c with
 | .data (.bool true)=>K a
 | .data (.bool false)=>K b
 | _=>False
@[go_sem] theorem pickK_true (a b:D) (K:D->Prop):pickK (.data (.bool true)) a b K = putK a K:=rfl
@[go_sem] theorem pickK_false (a b:D) (K:D->Prop):pickK (.data (.bool false)) a b K = putK b K:=rfl
@[congr] theorem pickK_congr {n0:Nat} (tk:tick = n0) {c c':D} (h:c = c') (a b:D) (K:D->Prop):pickK c a b K = pickK c' a b K:=by rw [h]
@[go_sem] theorem opK_pick (c a b:Operand):opK P Γ ⟨dst,.pick c a b,ty,pos,af,gd⟩ e H fr K = pickK (evalD Γ e c) (evalD Γ e a) (evalD Γ e b) fun d=>K d [] []:=by
 simp only [opK,pickK]
 split <;> simp_all
@[go_sem] theorem opK_alloc (t:TypeId):opK P Γ ⟨dst,.alloc t,ty,pos,af,gd⟩ e H fr K = someK (zeT P t) fun z=>sideK (z.all D.cell = true) (K (.ptr fr 0) [] [(fr,.blk true z)]):=by
 simp only [opK,someK,sideK]
 split <;> simp_all
@[go_sem] theorem opK_box (t:TypeId) (x:Operand):opK P Γ ⟨dst,.box t x,ty,pos,af,gd⟩ e H fr K = cellsK (evalD Γ e x).cells fun z=>sideK (z.all D.cell = true) (K (.ptr fr 0) [] [(fr,.blk true z)]):=rfl
@[go_sem] theorem opK_build (t:TypeId) (parts:Array (Nat × Operand)):opK P Γ ⟨dst,.build t parts,ty,pos,af,gd⟩ e H fr K = buildK P t (parts.toList.map fun x=>(x.1,evalD Γ e x.2)) fun d=>K d [] []:=rfl
@[go_sem] theorem buildK_eq (t:TypeId) (parts:List (Nat × D)) (K:D->Prop):buildK P t parts K = someK (zeT P t) fun z=>optK (arrT P t) (fun ne=>someK (szT P ne.2) fun n=>someK (fillD (fun i=>some (i * n,n)) z parts) fun cells=>putK (mkAgg cells) K)
 (someK (plT P t) fun places=>someK (fillD (fun i=>places[i]?) z parts) fun cells=>putK (mkAgg cells) K):=by
 unfold buildK someK optK putK
 cases zeT P t <;> simp only
 cases arrT P t <;> simp only
 . cases plT P t <;> simp only
   split <;> simp_all
 . rename_i ne
   obtain ⟨n,el⟩:=ne
   simp only
   cases szT P el <;> simp only
   split <;> simp_all
@[congr] theorem buildK_congr {n0:Nat} (tk:tick = n0) (t:TypeId) {p p':List (Nat × D)} (h:p = p') (K:D->Prop):buildK P t p K = buildK P t p' K:=by rw [h]
@[go_sem] theorem fillD_nil (place:Nat->Option (Nat × Nat)) (cells:List D):fillD place cells [] = some cells:=rfl
@[go_sem] theorem fillD_cons (place:Nat->Option (Nat × Nat)) (cells:List D) (i:Nat) (d:D) (rest:List (Nat × D)):fillD place cells ((i,d) :: rest) = (place i).bind fun os=>if d.cells.length = os.2/\os.1 + os.2<=cells.length/\d.cells.all D.cell = true then fillD place (over cells os.1 d.cells) rest else none:=by
 simp only [fillD]
 cases place i <;> rfl
@[go_sem] theorem opK_buildSlice (t:TypeId) (len:Nat) (parts:Array (Nat × Operand)):opK P Γ ⟨dst,.buildSlice t len parts,ty,pos,af,gd⟩ e H fr K = someK (sliceT P t) fun el=>someK (szT P el) fun es=>sideK (len * es<=16777216)
 (ifW (decide (len = 0)) (sideK (parts.size = 0) (K (.emp es) [] [])) (zerosK P el len fun z=>someK (fillD (fun i=>some (i * es,es)) z (parts.toList.map fun x=>(x.1,evalD Γ e x.2))) fun cells=>sideK (cells.all D.cell = true) (K (.ref fr 0 len es) [] [(fr,.blk true cells)]))):=by
 simp only [opK,someK,sideK,ifW]
 cases sliceT P t <;> simp only
 rename_i el
 cases szT P el <;> simp only
 by_cases h:len = 0 <;> simp only [h,if_true,if_false,decide_true,decide_false]
 congr 1
 apply congrArg
 funext z
 split <;> simp_all
@[go_sem] theorem zerosK_eq (el:TypeId) (n:Nat) (K:List D->Prop):zerosK P el n K = someK (zeT P el) fun z=>sideK (z.all D.cell = true) (sideK (szT P el = some z.length) (sideK (0 < z.length) (cellsK (List.replicate n z).flatten K))):=by
 unfold zerosK someK sideK cellsK
 cases zeT P el <;> rfl
@[congr] theorem zerosK_congr {n0:Nat} (tk:tick = n0) (el:TypeId) {n n':Nat} (h:n = n') (K:List D->Prop):zerosK P el n K = zerosK P el n' K:=by rw [h]
@[go_sem] theorem opK_load (t:TypeId) (a:Operand):opK P Γ ⟨dst,.load t a,ty,pos,af,gd⟩ e H fr K = loadK P t (evalD Γ e a) H fun d rd=>K d rd []:=rfl
@[go_sem] theorem loadK_ptr (t:TypeId) (g off:Nat) (K:D->List Nat->Prop):loadK P t (.ptr g off) H K = blkK (H g) fun _ cells=>aggK (aggT P t) (someK (szT P t) fun n=>sideK (off + n<=cells.length) (putK (mkAgg ((cells.drop off).take n)) fun d=>K d [g]))
 (someK (cells[off]?) fun d=>K d [g]):=by
 simp only [loadK,blkK,aggK,someK,sideK,putK]
 cases H g with
 | dead=>rfl
 | obj o=>rfl
 | blk rw cells =>
   cases hA:aggT P t with
   | none=>simp
   | some b =>
     cases b <;> cases hS:szT P t <;> simp only <;> (try (cases cells[off]? <;> simp))
@[go_sem] theorem loadK_cptr (t:TypeId) (cells:List Data) (K:D->List Nat->Prop):loadK P t (.cptr cells) H K = aggK (aggT P t) (someK (szT P t) fun n=>sideK (n<=cells.length) (putK (.data (.agg (cells.take n))) fun d=>K d []))
 (someK (cells[0]?) fun d=>putK (.data d) fun d=>K d []):=by
 simp only [loadK,aggK,someK,sideK,putK]
 cases hA:aggT P t with
 | none=>simp
 | some b =>
   cases b <;> cases hS:szT P t <;> simp only <;> (try (cases cells[0]? <;> simp))
@[congr] theorem loadK_congr {n0:Nat} (tk:tick = n0) (t:TypeId) {x x':D} (h:x = x') (H:Nat->Blk) (K:D->List Nat->Prop):loadK P t x H K = loadK P t x' H K:=by rw [h]
@[go_sem] theorem opK_store (t:TypeId) (a x:Operand):opK P Γ ⟨dst,.store t a x,ty,pos,af,gd⟩ e H fr K = storeK P t (evalD Γ e a) (coe P t (evalD Γ e x)) H fun u=>K .junk [] u:=rfl
@[go_sem] theorem storeK_ptr (t:TypeId) (g off:Nat) (v:D) (K:List (Nat × Blk)->Prop):storeK P t (.ptr g off) v H K = blkK (H g) fun rw cells=>ifW rw (cellsK v.cells fun vc=>sideK (szT P t = some vc.length) (sideK (vc.all D.cell = true) (sideK (off + vc.length<=cells.length) (cellsK (over cells off vc) fun nc=>K [(g,.blk true nc)])))) False:=by
 simp only [storeK,blkK,ifW,cellsK,sideK]
 cases H g with
 | dead=>rfl
 | obj o=>rfl
 | blk rw cells=>cases rw <;> rfl
@[congr] theorem storeK_congr {n0:Nat} (tk:tick = n0) (t:TypeId) {x x' v v':D} (h:x = x') (hv:v = v') (H:Nat->Blk) (K:List (Nat × Blk)->Prop):storeK P t x v H K = storeK P t x' v' H K:=by rw [h,hv]
@[go_sem] theorem opK_binOp (op:BinOp) (t t2:TypeId) (x y:Operand):opK P Γ ⟨dst,.binOp op t x y t2,ty,pos,af,gd⟩ e H fr K = binK P op t (evalD Γ e x) (evalD Γ e y) fun d=>K d [] []:=rfl
@[congr] theorem binK_congr {n0:Nat} (tk:tick = n0) (op:BinOp) (t:TypeId) {x x' y y':D} (hx:x = x') (hy:y = y') (K:D->Prop):binK P op t x y K = binK P op t x' y' K:=by rw [hx,hy]
section
variable (t:TypeId) (k:IntKind) (a b:Int) (K:D->Prop)
@[go_sem] theorem bin_add:binK P .add t (.data (.int k a)) (.data (.int k b)) K = putK (.data (.int k (k.wrap (a + b)))) K:=by simp [binK,putK,intD]
@[go_sem] theorem bin_sub:binK P .sub t (.data (.int k a)) (.data (.int k b)) K = putK (.data (.int k (k.wrap (a - b)))) K:=by simp [binK,putK,intD]
@[go_sem] theorem bin_mul:binK P .mul t (.data (.int k a)) (.data (.int k b)) K = putK (.data (.int k (k.wrap (a * b)))) K:=by simp [binK,putK,intD]
@[go_sem] theorem bin_quo:binK P .quo t (.data (.int k a)) (.data (.int k b)) K = sideK (b≠0) (putK (.data (.int k (k.wrap (a.tdiv b)))) K):=by simp [binK,putK,intD,sideK]
@[go_sem] theorem bin_rem:binK P .rem t (.data (.int k a)) (.data (.int k b)) K = sideK (b≠0) (putK (.data (.int k (a.tmod b))) K):=by simp [binK,putK,intD,sideK]
@[go_sem] theorem bin_and:binK P .and t (.data (.int k a)) (.data (.int k b)) K = putK (.data (.int k (andI k a b))) K:=by simp [binK,putK,intD,andI]
@[go_sem] theorem bin_or:binK P .or t (.data (.int k a)) (.data (.int k b)) K = putK (.data (.int k (orI k a b))) K:=by simp [binK,putK,intD,orI]
@[go_sem] theorem bin_xor:binK P .xor t (.data (.int k a)) (.data (.int k b)) K = putK (.data (.int k (xorI k a b))) K:=by simp [binK,putK,intD,xorI]
@[go_sem] theorem bin_shl (k':IntKind):binK P .shl t (.data (.int k a)) (.data (.int k' b)) K = sideK (0<=b) (putK (.data (.int k (k.wrap (a * 2 ^ (min b.toNat k.bits))))) K):=by simp [binK,putK,intD,sideK]
@[go_sem] theorem bin_shr (k':IntKind):binK P .shr t (.data (.int k a)) (.data (.int k' b)) K = sideK (0<=b) (putK (.data (.int k (a.fdiv (2 ^ (min b.toNat k.bits))))) K):=by simp [binK,putK,intD,sideK]
@[go_sem] theorem bin_eql:binK P .eql t (.data (.int k a)) (.data (.int k b)) K = putK (.data (.bool (decide (a = b)))) K:=by simp [binK,putK,boolD,cmpI]
@[go_sem] theorem bin_neq:binK P .neq t (.data (.int k a)) (.data (.int k b)) K = putK (.data (.bool (!decide (a = b)))) K:=by simp [binK,putK,boolD,cmpI]
@[go_sem] theorem bin_lss:binK P .lss t (.data (.int k a)) (.data (.int k b)) K = putK (.data (.bool (decide (a < b)))) K:=by simp [binK,putK,boolD,cmpI]
@[go_sem] theorem bin_leq:binK P .leq t (.data (.int k a)) (.data (.int k b)) K = putK (.data (.bool (decide (a<=b)))) K:=by simp [binK,putK,boolD,cmpI]
@[go_sem] theorem bin_gtr:binK P .gtr t (.data (.int k a)) (.data (.int k b)) K = putK (.data (.bool (decide (b < a)))) K:=by simp [binK,putK,boolD,cmpI]
@[go_sem] theorem bin_geq:binK P .geq t (.data (.int k a)) (.data (.int k b)) K = putK (.data (.bool (decide (b<=a)))) K:=by simp [binK,putK,boolD,cmpI]
@[go_sem] theorem bin_beql (a b:Bool):binK P .eql t (.data (.bool a)) (.data (.bool b)) K = sideK (boolT P t = true) (putK (.data (.bool (a == b))) K):=by simp [binK,putK,boolD,sideK]
@[go_sem] theorem bin_bneq (a b:Bool):binK P .neq t (.data (.bool a)) (.data (.bool b)) K = sideK (boolT P t = true) (putK (.data (.bool (!(a == b)))) K):=by simp [binK,putK,boolD,sideK]
@[go_sem] theorem bin_seql (a b:ByteArray):binK P .eql t (.data (.str a)) (.data (.str b)) K = putK (.data (.bool (decide (a = b)))) K:=by simp [binK,putK,boolD]
@[go_sem] theorem bin_sneq (a b:ByteArray):binK P .neq t (.data (.str a)) (.data (.str b)) K = putK (.data (.bool (!decide (a = b)))) K:=by simp [binK,putK,boolD]
@[go_sem] theorem bin_aeql (a b:List Data):binK P .eql t (.data (.agg a)) (.data (.agg b)) K = eqK P t (.agg a) (.agg b) fun q=>putK (.data (.bool q)) K:=by simp [binK,putK,boolD]
@[go_sem] theorem bin_aneq (a b:List Data):binK P .neq t (.data (.agg a)) (.data (.agg b)) K = eqK P t (.agg a) (.agg b) fun q=>putK (.data (.bool (!q))) K:=by simp [binK,putK,boolD]
end
@[go_sem] theorem opK_unOp (op:UnOp) (t:TypeId) (x:Operand):opK P Γ ⟨dst,.unOp op t x,ty,pos,af,gd⟩ e H fr K = unK op (evalD Γ e x) fun d=>K d [] []:=rfl
@[congr] theorem unK_congr {n0:Nat} (tk:tick = n0) (op:UnOp) {x x':D} (hx:x = x') (K:D->Prop):unK op x K = unK op x' K:=by rw [hx]
@[go_sem] theorem un_not (b:Bool) (K:D->Prop):unK .not (.data (.bool b)) K = putK (.data (.bool (!b))) K:=rfl
@[go_sem] theorem un_neg (k:IntKind) (n:Int) (K:D->Prop):unK .neg (.data (.int k n)) K = putK (.data (.int k (k.wrap (0 - n)))) K:=rfl
@[go_sem] theorem un_xor (k:IntKind) (n:Int) (K:D->Prop):unK .xor (.data (.int k n)) K = putK (.data (.int k (notI k n))) K:=rfl
def cvtK (s d:TypeId) (x:D) (H:Nat->Blk) (K:D->List Nat->List (Nat × Blk)->Prop):Prop:=match x with
 | .ref g off len es=>markK P s d g off len es H fun d u=>K d [g] u
 | .data (.str x)=>(if bytT P d = true then (P.underlying s).isSome = true/\x.size<=140737488355328/\K (.data (.sl 1 (x.toList.map fun b=>.int .u8 b.toNat))) [] []
   else (P.underlying s).isSome = true/\convK P s d (.data (.str x)) fun d=>K d [] [])
 | y=>(P.underlying s).isSome = true/\convK P s d y fun d=>K d [] []
@[congr] theorem cvtK_congr {n0:Nat} (tk:tick = n0) (s d:TypeId) {x x':D} (h:x = x') (H:Nat->Blk) (K:D->List Nat->List (Nat × Blk)->Prop):cvtK P s d x H K = cvtK P s d x' H K:=by rw [h]
@[go_sem] theorem cvt_int (s d:TypeId) (k:IntKind) (n:Int) (H:Nat->Blk) (K:D->List Nat->List (Nat × Blk)->Prop):cvtK P s d (.data (.int k n)) H K = sideK ((P.underlying s).isSome = true) (convK P s d (.data (.int k n)) fun d=>K d [] []):=rfl
@[go_sem] theorem cvt_sl (s d:TypeId) (es:Nat) (l:List Data) (H:Nat->Blk) (K:D->List Nat->List (Nat × Blk)->Prop):cvtK P s d (.data (.sl es l)) H K = sideK ((P.underlying s).isSome = true) (convK P s d (.data (.sl es l)) fun d=>K d [] []):=rfl
@[go_sem] theorem cvt_agg (s d:TypeId) (l:List Data) (H:Nat->Blk) (K:D->List Nat->List (Nat × Blk)->Prop):cvtK P s d (.data (.agg l)) H K = sideK ((P.underlying s).isSome = true) (convK P s d (.data (.agg l)) fun d=>K d [] []):=rfl
@[go_sem] theorem cvt_bool (s d:TypeId) (b:Bool) (H:Nat->Blk) (K:D->List Nat->List (Nat × Blk)->Prop):cvtK P s d (.data (.bool b)) H K = sideK ((P.underlying s).isSome = true) (convK P s d (.data (.bool b)) fun d=>K d [] []):=rfl
@[go_sem] theorem cvt_emp (s d:TypeId) (es:Nat) (H:Nat->Blk) (K:D->List Nat->List (Nat × Blk)->Prop):cvtK P s d (.emp es) H K = sideK ((P.underlying s).isSome = true) (convK P s d (.emp es) fun d=>K d [] []):=rfl
@[go_sem] theorem cvt_str (s d:TypeId) (x:ByteArray) (H:Nat->Blk) (K:D->List Nat->List (Nat × Blk)->Prop):cvtK P s d (.data (.str x)) H K = ifW (bytT P d) (sideK ((P.underlying s).isSome = true) (sideK (x.size<=140737488355328) (putK (.data (.sl 1 (x.toList.map fun b=>.int .u8 b.toNat))) fun d=>K d [] []))) (sideK ((P.underlying s).isSome = true) (convK P s d (.data (.str x)) fun d=>K d [] [])):=by
 simp only [cvtK,sideK,putK,ifW]
 cases bytT P d <;> simp
@[go_sem] theorem cvt_ref (s d:TypeId) (g off len es:Nat) (H:Nat->Blk) (K:D->List Nat->List (Nat × Blk)->Prop):cvtK P s d (.ref g off len es) H K = sideK (s = d) (sideK (off = 0) (sideK (es = 1) (sideK (0 < len) (someK (sliceT P d) fun e=>sideK (intT P e = some .u8) (blkK (H g) fun rw cells=>ifW rw (someK (allData cells) fun l=>sideK (l.length = len) (sideK (l.all Data.cell = true) (K (.data (.sl 1 l)) [g] [(g,.dead)]))) False))))):=by
 simp only [cvtK,markK,sideK,someK,blkK,ifW]
 cases sliceT P d <;> simp only
 cases H g with
 | dead=>rfl
 | obj o=>rfl
 | blk rw cells =>
   cases rw
   . rfl
   . simp only
     cases allData cells <;> rfl
@[go_sem] theorem opK_convert (s d:TypeId) (x:Operand):opK P Γ ⟨dst,.convert s d x,ty,pos,af,gd⟩ e H fr K = cvtK P s d (evalD Γ e x) H K:=by
 simp only [opK,cvtK]
 cases evalD Γ e x with
 | data x=>cases x <;> rfl
 | _=>rfl
@[congr] theorem convK_congr {n0:Nat} (tk:tick = n0) (s d:TypeId) {x x':D} (hx:x = x') (K:D->Prop):convK P s d x K = convK P s d x' K:=by rw [hx]
@[go_sem] theorem conv_int (s d:TypeId) (k:IntKind) (n:Int) (K:D->Prop):convK P s d (.data (.int k n)) K = someK (intT P d) fun k=>putK (.data (.int k (k.wrap n))) K:=by
 simp only [convK,someK,putK,intD]
 cases intT P d <;> rfl
@[go_sem] theorem conv_str (s d:TypeId) (x:ByteArray) (K:D->Prop):convK P s d (.data (.str x)) K = sideK (strT P d = true) (putK (.data (.str x)) K):=rfl
@[go_sem] theorem opK_makeSlice (t:TypeId) (l c:Operand):opK P Γ ⟨dst,.makeSlice t l c,ty,pos,af,gd⟩ e H fr K = someK (sliceT P t) fun el=>someK (szT P el) fun es=>someK (byT P el) fun by_=>someK (natD (evalD Γ e l)) fun n=>someK (natD (evalD Γ e c)) fun m =>
 sideK (0<=n) (sideK (n<=m) (sideK (m * by_<=140737488355328) (sideK (m<=9223372036854775807) (zerosK P el n.toNat fun z=>K (.ref fr 0 n.toNat es) [] [(fr,.blk true z)])))):=by
 simp only [opK,someK,sideK]
 cases sliceT P t <;> simp only
 rename_i el
 cases szT P el <;> simp only
 cases byT P el <;> simp only
 unfold natD
 cases evalD Γ e l with
 | data x =>
   cases x <;> simp only
   cases evalD Γ e c with
   | data y=>cases y <;> simp only
   | _=>simp
 | _=>simp
@[go_sem] theorem natD_int (k:IntKind) (n:Int):natD (.data (.int k n)) = some n:=rfl
@[go_sem] theorem opK_fieldAddr (t:TypeId) (x:Operand) (f:Nat):opK P Γ ⟨dst,.fieldAddr t x f,ty,pos,af,gd⟩ e H fr K = fieldAddrK P t (evalD Γ e x) f fun d=>K d [] []:=rfl
@[congr] theorem fieldAddrK_congr {n0:Nat} (tk:tick = n0) (t:TypeId) {x x':D} (hx:x = x') (f:Nat) (K:D->Prop):fieldAddrK P t x f K = fieldAddrK P t x' f K:=by rw [hx]
@[go_sem] theorem fieldAddr_ptr (t:TypeId) (g off f:Nat) (K:D->Prop):fieldAddrK P t (.ptr g off) f K = someK (fldT P t f) fun x=>someK (szT P x.2) fun n=>sideK (n≠0) (natK (off + x.1) fun q=>K (.ptr g q)):=by
 unfold fieldAddrK someK sideK natK
 cases fldT P t f <;> simp only
 rename_i x
 cases szT P x.2 with
 | none=>rfl
 | some n=>cases n <;> simp
@[go_sem] theorem fieldAddr_cptr (t:TypeId) (cells:List Data) (f:Nat) (K:D->Prop):fieldAddrK P t (.cptr cells) f K = someK (fldT P t f) fun x=>someK (szT P x.2) fun n=>sideK (n≠0) (putK (.cptr (cells.drop x.1)) K):=by
 unfold fieldAddrK someK sideK putK
 cases fldT P t f <;> simp only
 rename_i x
 cases szT P x.2 with
 | none=>rfl
 | some n=>cases n <;> simp
@[go_sem] theorem opK_field (t:TypeId) (x:Operand) (f:Nat):opK P Γ ⟨dst,.field t x f,ty,pos,af,gd⟩ e H fr K = fieldK P t (evalD Γ e x) f fun d=>K d [] []:=rfl
@[go_sem] theorem opK_indexAddr (t:TypeId) (x ix:Operand):opK P Γ ⟨dst,.indexAddr t x ix,ty,pos,af,gd⟩ e H fr K = indexAddrK P t (evalD Γ e x) (evalD Γ e ix) fun d=>K d [] []:=rfl
@[congr] theorem indexAddrK_congr {n0:Nat} (tk:tick = n0) (t:TypeId) {x x' y y':D} (hx:x = x') (hy:y = y') (K:D->Prop):indexAddrK P t x y K = indexAddrK P t x' y' K:=by rw [hx,hy]
@[go_sem] theorem indexAddr_sl (t:TypeId) (es:Nat) (l:List Data) (k:IntKind) (i:Int) (K:D->Prop):indexAddrK P t (.data (.sl es l)) (.data (.int k i)) K = someK (sliceT P t) fun el=>sideK (szT P el = some es) (sideK (0<=i) (natK i.toNat fun j=>someK (l[j]?) fun y=>putK (.cptr y.cells) K)):=by
 unfold indexAddrK someK sideK natK putK
 simp only
 cases sliceT P t <;> simp only
 congr 2
 cases l[i.toNat]? <;> simp
@[go_sem] theorem indexAddr_ref (t:TypeId) (g off len es:Nat) (k:IntKind) (i:Int) (K:D->Prop):indexAddrK P t (.ref g off len es) (.data (.int k i)) K = someK (sliceT P t) fun el=>sideK (szT P el = some es) (sideK (0<=i) (sideK (i < len) (natK (off + i.toNat * es) fun q=>K (.ptr g q)))):=by
 unfold indexAddrK someK sideK natK
 simp only
 cases sliceT P t <;> simp only
@[go_sem] theorem indexAddr_ptr (t:TypeId) (g off:Nat) (k:IntKind) (i:Int) (K:D->Prop):indexAddrK P t (.ptr g off) (.data (.int k i)) K = someK (arrT P t) fun ne=>sideK (0<=i) (sideK (i < ne.1) (someK (szT P ne.2) fun es=>natK (off + i.toNat * es) fun q=>K (.ptr g q))):=by
 unfold indexAddrK someK sideK natK
 simp only
 cases arrT P t <;> simp only
 rename_i ne
 congr 2
 cases szT P ne.2 <;> rfl
@[go_sem] theorem indexAddr_cptr (t:TypeId) (cells:List Data) (k:IntKind) (i:Int) (K:D->Prop):indexAddrK P t (.cptr cells) (.data (.int k i)) K = someK (arrT P t) fun ne=>sideK (0<=i) (sideK (i < ne.1) (someK (szT P ne.2) fun es=>putK (.cptr (cells.drop (i.toNat * es))) K)):=by
 unfold indexAddrK someK sideK putK
 simp only
 cases arrT P t <;> simp only
 rename_i ne
 congr 2
 cases szT P ne.2 <;> rfl
@[go_sem] theorem opK_arrPtr (t:TypeId) (x:Operand):opK P Γ ⟨dst,.sliceToArrayPointer t x,ty,pos,af,gd⟩ e H fr K = arrPtrK P t (evalD Γ e x) fun d=>K d [] []:=rfl
@[congr] theorem arrPtrK_congr {n0:Nat} (tk:tick = n0) (t:TypeId) {x x':D} (hx:x = x') (K:D->Prop):arrPtrK P t x K = arrPtrK P t x' K:=by rw [hx]
@[go_sem] theorem arrPtr_sl (t:TypeId) (es:Nat) (l:List Data) (K:D->Prop):arrPtrK P t (.data (.sl es l)) K = someK (arrT P t) fun ne=>sideK (0 < ne.1) (sideK (ne.1<=l.length) (putK (.cptr (flat l)) K)):=by
 unfold arrPtrK someK sideK putK
 cases arrT P t <;> rfl
@[go_sem] theorem opK_index (t:TypeId) (x ix:Operand):opK P Γ ⟨dst,.index t x ix,ty,pos,af,gd⟩ e H fr K = indexK P t (evalD Γ e x) (evalD Γ e ix) fun d=>K d [] []:=rfl
@[congr] theorem indexK_congr {n0:Nat} (tk:tick = n0) (t:TypeId) {x x' y y':D} (hx:x = x') (hy:y = y') (K:D->Prop):indexK P t x y K = indexK P t x' y' K:=by rw [hx,hy]
@[go_sem] theorem opK_nilCheck (x:Operand):opK P Γ ⟨dst,.nilCheck x,ty,pos,af,gd⟩ e H fr K = sideK (sureD (evalD Γ e x) = true) (putK (ptrD (evalD Γ e x)) fun d=>K d [] []):=rfl
@[go_sem] theorem sureD_pc (c:List Data):sureD (.data (.pc c)) = true:=rfl
@[go_sem] theorem ptrD_ptr (g o:Nat):ptrD (.ptr g o) = .ptr g o:=rfl
@[go_sem] theorem ptrD_cptr (c:List Data):ptrD (.cptr c) = .cptr c:=rfl
@[go_sem] theorem ptrD_pc (c:List Data):ptrD (.data (.pc c)) = .cptr c:=rfl
@[go_sem] theorem sureD_ptr (g o:Nat):sureD (.ptr g o) = true:=rfl
@[go_sem] theorem sureD_cptr (c:List Data):sureD (.cptr c) = true:=rfl
@[go_sem] theorem opK_makeMap (t:TypeId):opK P Γ ⟨dst,.makeMap t none,ty,pos,af,gd⟩ e H fr K = K (.mref fr) [] [(fr,.obj (.mp [] []))]:=rfl
def putM (kt:TypeId) (x key v:D) (H:Nat->Blk) (K:List Nat->List (Nat × Blk)->Prop):Prop:=match key,x with
 | .data k,.mref g=>keyT P kt k = true/\mapK (H g) fun ks xs=>fndK (findD k ks 0) (fun i=>K [g] [(g,.obj (.mp ks (xs.set i v)))]) (K [g] [(g,.obj (.mp (ks++[k]) (xs++[v])))])
 | _,_=>False
@[go_sem] theorem putM_eq (kt:TypeId) (g:Nat) (k:Data) (v:D) (H:Nat->Blk) (K:List Nat->List (Nat × Blk)->Prop):putM P kt (.mref g) (.data k) v H K = sideK (keyT P kt k = true) (mapK (H g) fun ks xs=>fndK (findD k ks 0) (fun i=>K [g] [(g,.obj (.mp ks (xs.set i v)))]) (K [g] [(g,.obj (.mp (ks++[k]) (xs++[v])))])):=rfl
@[congr] theorem putM_congr {n0:Nat} (tk:tick = n0) (kt:TypeId) {x x' k k' v v':D} (h1:x = x') (h2:k = k') (h3:v = v') (H:Nat->Blk) (K:List Nat->List (Nat × Blk)->Prop):putM P kt x k v H K = putM P kt x' k' v' H K:=by rw [h1,h2,h3]
theorem insertK_eq (t:TypeId) (m k x:D) (H:Nat->Blk) (K:List Nat->List (Nat × Blk)->Prop):insertK P t m k (coe P (match mapT P t with | some x=>x.2 | none=>t) x) H K = someK (mapT P t) fun q=>putM P q.1 m k (coe P q.2 x) H K:=by
 unfold insertK someK
 cases hq:mapT P t with
 | none=>rfl
 | some q =>
   obtain ⟨kt,et⟩:=q
   simp only
   unfold putM
   cases k with
   | data kd =>
     cases m with
     | mref g =>
       simp only [mapK,fndK]
       cases H g with
       | obj o =>
         cases o with
         | mp ks xs =>
           simp only
           cases findD kd ks 0 with
           | none=>rfl
           | some o=>cases o <;> rfl
         | it=>rfl
         | si=>rfl
       | dead=>rfl
       | blk=>rfl
     | _=>rfl
   | _=>cases m <;> rfl
@[go_sem] theorem opK_mapUpdate (t:TypeId) (m k x:Operand):opK P Γ ⟨dst,.mapUpdate t m k x,ty,pos,af,gd⟩ e H fr K = someK (mapT P t) fun q=>putM P q.1 (evalD Γ e m) (evalD Γ e k) (coe P q.2 (evalD Γ e x)) H fun rd u=>K .junk rd u:=insertK_eq P t _ _ _ H _
def getM (kt et:TypeId) (x key:D) (ok:Bool) (H:Nat->Blk) (K:D->List Nat->Prop):Prop:=match key with
 | .data k=>keyT P kt k = true/\(match x with
   | .data (.mp ks xs)=>lookK P et ks (xs.map .data) k ok fun d=>K d []
   | .mref g=>mapK (H g) fun ks xs=>lookK P et ks xs k ok fun d=>K d [g]
   | _=>False)
 | _=>False
@[go_sem] theorem getM_own (kt et:TypeId) (g:Nat) (k:Data) (ok:Bool) (H:Nat->Blk) (K:D->List Nat->Prop):getM P kt et (.mref g) (.data k) ok H K = sideK (keyT P kt k = true) (mapK (H g) fun ks xs=>lookK P et ks xs k ok fun d=>K d [g]):=rfl
@[go_sem] theorem getM_data (kt et:TypeId) (ks xs:List Data) (k:Data) (ok:Bool) (H:Nat->Blk) (K:D->List Nat->Prop):getM P kt et (.data (.mp ks xs)) (.data k) ok H K = sideK (keyT P kt k = true) (lookK P et ks (xs.map .data) k ok fun d=>K d []):=rfl
@[congr] theorem getM_congr {n0:Nat} (tk:tick = n0) (kt et:TypeId) {x x' k k':D} (h1:x = x') (h2:k = k') (ok:Bool) (H:Nat->Blk) (K:D->List Nat->Prop):getM P kt et x k ok H K = getM P kt et x' k' ok H K:=by rw [h1,h2]
@[go_sem] theorem look_get (et:TypeId) (ks:List Data) (xs:List D) (k:Data) (K:D->Prop):lookK P et ks xs k false K = fndK (findD k ks 0) (fun i=>someK (xs[i]?) fun d=>putK d K) (someK (zvT P et) fun d=>putK d K):=by
 unfold lookK fndK someK putK zvK
 cases findD k ks 0 with
 | none=>rfl
 | some o =>
   cases o with
   | none=>simp only [Bool.false_eq_true,if_false];cases zvT P et <;> rfl
   | some i =>
     simp only [Bool.false_eq_true,if_false]
     cases xs[i]? <;> rfl
@[go_sem] theorem pairD_data (x:Data) (b:Bool):pairD (.data x) b = .data (.tup [x,.bool b]):=rfl
@[go_sem] theorem pairD_bnd (f:FuncId) (r:D) (b:Bool):pairD (.bnd f r) b = .tp [.bnd f r,.data (.bool b)]:=rfl
@[go_sem] theorem pairD_fn (f:FuncId) (cs:List D) (b:Bool):pairD (.fn f cs) b = .tp [.fn f cs,.data (.bool b)]:=rfl
@[go_sem] theorem pairD_ptr (g off:Nat) (b:Bool):pairD (.ptr g off) b = .tp [.ptr g off,.data (.bool b)]:=rfl
@[go_sem] theorem pairD_ref (g off len es:Nat) (b:Bool):pairD (.ref g off len es) b = .tp [.ref g off len es,.data (.bool b)]:=rfl
@[go_sem] theorem pairD_agg (cs:List D) (b:Bool):pairD (.agg cs) b = .tp [.agg cs,.data (.bool b)]:=rfl
@[congr] theorem lookK_congr {n0:Nat} (tk:tick = n0) (et:TypeId) {ks ks':List Data} (h1:ks = ks') {xs xs':List D} (h2:xs = xs') {k k':Data} (h3:k = k') (ok:Bool) (K:D->Prop):lookK P et ks xs k ok K = lookK P et ks' xs' k' ok K:=by rw [h1,h2,h3]
@[go_sem] theorem opK_lookup (t:TypeId) (x i:Operand) (ok:Bool):opK P Γ ⟨dst,.lookup t x i ok,ty,pos,af,gd⟩ e H fr K = someK (mapT P t) fun q=>getM P q.1 q.2 (evalD Γ e x) (evalD Γ e i) ok H fun d rd=>K d rd []:=by
 simp only [opK,lookupK,someK,getM]
 cases mapT P t with
 | none=>rfl
 | some q =>
   cases evalD Γ e i with
   | data k =>
     simp only
     congr 1
   | _=>rfl
def rngK (x:D) (fr:Nat) (K:D->List Nat->List (Nat × Blk)->Prop):Prop:=match x with
 | .data (.mp ks xs)=>K (.iref fr) [] [(fr,.obj (.it ks xs (List.range ks.length) none))]
 | _=>False
@[go_sem] theorem rngK_mp (ks xs:List Data) (fr:Nat) (K:D->List Nat->List (Nat × Blk)->Prop):rngK (.data (.mp ks xs)) fr K = K (.iref fr) [] [(fr,.obj (.it ks xs (List.range ks.length) none))]:=rfl
@[congr] theorem rngK_congr {n0:Nat} (tk:tick = n0) {x x':D} (h:x = x') (fr:Nat) (K:D->List Nat->List (Nat × Blk)->Prop):rngK x fr K = rngK x' fr K:=by rw [h]
def rngM (o:Option (TypeId × TypeId)) (b:Bool) (x:D) (fr:Nat) (K:D->List Nat->List (Nat × Blk)->Prop):Prop:=match o,x with
 | some _,x=>rngK x fr K
 | none,.data (.str s)=>b = true/\K (.iref fr) [] [(fr,.obj (.si s 0))]
 | none,_=>False
@[go_sem] theorem rngM_some (q:TypeId × TypeId) (b:Bool) (x:D) (fr:Nat) (K:D->List Nat->List (Nat × Blk)->Prop):rngM (some q) b x fr K = rngK x fr K:=rfl
@[congr] theorem rngM_congr {n0:Nat} (tk:tick = n0) {o o':Option (TypeId × TypeId)} {b b':Bool} {x x':D} (h0:o = o') (h1:b = b') (h:x = x') (fr:Nat) (K:D->List Nat->List (Nat × Blk)->Prop):rngM o b x fr K = rngM o' b' x' fr K:=by rw [h0,h1,h]
@[go_sem] theorem opK_snext (x:Operand):opK P Γ ⟨dst,.next x true,ty,pos,af,gd⟩ e H fr K = snextK (evalD Γ e x) H K:=rfl
@[congr] theorem snextK_congr {n0:Nat} (tk:tick = n0) {x x':D} (h:x = x') (H:Nat->Blk) (K:D->List Nat->List (Nat × Blk)->Prop):snextK x H K = snextK x' H K:=by rw [h]
@[go_sem] theorem opK_entry (x:Operand):opK P Γ ⟨dst,.entry x,ty,pos,af,gd⟩ e H fr K = entryK (evalD Γ e x) H fun d rd=>K d rd []:=rfl
@[congr] theorem entryK_congr {n0:Nat} (tk:tick = n0) {x x':D} (h:x = x') (H:Nat->Blk) (K:D->List Nat->Prop):entryK x H K = entryK x' H K:=by rw [h]
def nextM (g:Nat) (ks xs:List Data) (left:List Nat) (H:Nat->Blk) (nx:Nat) (K:D->(Nat->Blk)->Nat->Prop):Prop:=(left = []->K (.data (.tup [.bool false])) H (nx + 1)) /\
 ∀ i k x,i∈left->ks[i]? = some k->xs[i]? = some x->K (.data (.tup [.bool true,k,x])) (Hp.set H g (.obj (.it ks xs (left.filter (· != i)) (some i)))) (nx + 1)
def nilM (p:Prop) (H:Nat->Blk) (nx:Nat) (K:D->(Nat->Blk)->Nat->Prop):Prop:=∀ b:Bool,(b = true->p)->K (.data (.bool b)) H (nx + 1)
@[congr] theorem nextM_congr {n0:Nat} (tk:tick = n0) (g:Nat) (ks xs:List Data) (left:List Nat) (H:Nat->Blk) (nx:Nat) (K:D->(Nat->Blk)->Nat->Prop):nextM g ks xs left H nx K = nextM g ks xs left H nx K:=rfl
@[congr] theorem nilM_congr {n0:Nat} (tk:tick = n0) (p:Prop) (H:Nat->Blk) (nx:Nat) (K:D->(Nat->Blk)->Nat->Prop):nilM p H nx K = nilM p H nx K:=rfl
def stepM (x:D) (H:Nat->Blk) (nx:Nat) (K:D->(Nat->Blk)->Nat->Prop):Prop:=match x with
 | .iref g=>itrK (H g) fun ks xs left _=>nextM g ks xs left H nx K
 | _=>False
@[go_sem] theorem stepM_eq (g:Nat) (H:Nat->Blk) (nx:Nat) (K:D->(Nat->Blk)->Nat->Prop):stepM (.iref g) H nx K = itrK (H g) fun ks xs left _=>nextM g ks xs left H nx K:=rfl
@[congr] theorem stepM_congr {n0:Nat} (tk:tick = n0) {x x':D} (h:x = x') (H:Nat->Blk) (nx:Nat) (K:D->(Nat->Blk)->Nat->Prop):stepM x H nx K = stepM x' H nx K:=by rw [h]
@[go_sem] theorem opK_next (x:Operand):opK P Γ ⟨dst,.next x false,ty,pos,af,gd⟩ e H fr K = False:=rfl
def isnM (x:D) (H:Nat->Blk) (nx:Nat) (K:D->(Nat->Blk)->Nat->Prop):Prop:=match x with
 | .data (.sl _ l)=>nilM (l = []) H nx K
 | .ref _ _ len _=>nilM (len = 0) H nx K
 | .emp _=>nilM True H nx K
 | _=>False
@[go_sem] theorem isnM_sl (n:Nat) (l:List Data) (H:Nat->Blk) (nx:Nat) (K:D->(Nat->Blk)->Nat->Prop):isnM (.data (.sl n l)) H nx K = nilM (l = []) H nx K:=rfl
@[go_sem] theorem isnM_ref (g o n s:Nat) (H:Nat->Blk) (nx:Nat) (K:D->(Nat->Blk)->Nat->Prop):isnM (.ref g o n s) H nx K = nilM (n = 0) H nx K:=rfl
@[go_sem] theorem isnM_emp (n:Nat) (H:Nat->Blk) (nx:Nat) (K:D->(Nat->Blk)->Nat->Prop):isnM (.emp n) H nx K = nilM True H nx K:=rfl
@[congr] theorem isnM_congr {n0:Nat} (tk:tick = n0) {x x':D} (h:x = x') (H:Nat->Blk) (nx:Nat) (K:D->(Nat->Blk)->Nat->Prop):isnM x H nx K = isnM x' H nx K:=by rw [h]
@[go_sem] theorem bin_nil_sl (op:BinOp) (t:TypeId) (n m:Nat) (l:List Data) (K:D->Prop):binK P op t (.data (.sl n l)) (.emp m) K = False:=rfl
@[go_sem] theorem bin_nil_ref (op:BinOp) (t:TypeId) (g o n s m:Nat) (K:D->Prop):binK P op t (.ref g o n s) (.emp m) K = False:=rfl
@[go_sem] theorem bin_nil_emp (op:BinOp) (t:TypeId) (n m:Nat) (K:D->Prop):binK P op t (.emp n) (.emp m) K = False:=rfl
@[go_sem] theorem findD_nil (k:Data) (i:Nat):findD k [] i = some none:=rfl
def foundK (o:Option Bool) (i:Nat) (r:Option (Option Nat)):Option (Option Nat):=match o with
 | some true=>some (some i)
 | some false=>r
 | none=>none
@[go_sem] theorem foundK_true (i:Nat) (r:Option (Option Nat)):foundK (some true) i r = some (some i):=rfl
@[go_sem] theorem foundK_false (i:Nat) (r:Option (Option Nat)):foundK (some false) i r = r:=rfl
@[congr] theorem foundK_congr {n0:Nat} (tk:tick = n0) {o o':Option Bool} (h:o = o') (i:Nat) (r:Option (Option Nat)):foundK o i r = foundK o' i r:=by rw [h]
@[go_sem] theorem keyEq_agg (a b:List Data):keyEq (.agg a) (.agg b) = bolEq a b:=rfl
@[go_sem] theorem bolEq_nil:bolEq [] [] = some true:=rfl
@[go_sem] theorem bolEq_cons (a b:Bool) (l m:List Data):bolEq (.bool a :: l) (.bool b :: m) = (bolEq l m).map fun r=>a == b && r:=rfl
@[go_sem] theorem keyEq_str (a b:ByteArray):keyEq (.str a) (.str b) = some (a == b):=rfl
@[go_sem] theorem opK_extract (x:Operand) (i:Nat):opK P Γ ⟨dst,.extract x i,ty,pos,af,gd⟩ e H fr K = extractK (evalD Γ e x) i fun d=>K d [] []:=rfl
end
end
theorem frz_ref {ok:Bool} {H:Nat->Blk} {g len es:Nat} {cells:List D} {l:List Data} {rw:Bool} (hg:H g = .blk rw cells) (hrw:ok = true \/ rw = false) (hl:l.length = len) (hes:∀ x∈l,x.cells.length = es) (hc:cells = (flat l).map .data):Frz ok H (.ref g 0 len es) (.sl es l):=by
 subst hc
 refine .ref g 0 len es rw _ l (fun i=>.data ((flat l).getD i .nilp)) hg hrw hl hes (by simp [flat_length hes,hl]) (fun i x hx=>?_) (fun i x hx=>?_)
 . have hi:=(List.getElem?_eq_some_iff.1 hx).1
   simp [hx]
 . have:(flat l).getD i .nilp = x:=by simp [hx]
   rw [this];exact .data x
theorem frz_cut {ok:Bool} {H:Nat->Blk} {g len cp es:Nat} {cells:List D} {l:List Data} {rw:Bool} (hg:H g = .blk rw cells) (hrw:ok = true \/ rw = false) (hl:l.length = len) (hes:∀ x∈l,x.cells.length = es) (hc:cells = (flat l).map .data):Frz ok H (.cut g 0 len cp es) (.sl es l):=by
 subst hc
 refine .cut g 0 len cp es rw _ l (fun i=>.data ((flat l).getD i .nilp)) hg hrw hl hes (by simp [flat_length hes,hl]) (fun i x hx=>?_) (fun i x hx=>?_)
 . have hi:=(List.getElem?_eq_some_iff.1 hx).1
   simp [hx]
 . have:(flat l).getD i .nilp = x:=by simp [hx]
   rw [this];exact .data x
attribute [irreducible] someK
theorem someK_of {α:Type} {o:Option α} {x:α} {K:α->Prop} (h:o = some x) (k:K x):someK o K:=by rw [h,someK_some];exact k
theorem side {p q:Prop} (h:p) (k:q):sideK p q:=⟨h,k⟩
theorem ifW_of {b:Bool} {x y:Prop} (h:b = true->x) (k:b = false->y):ifW b x y:=by
 cases b
 . exact k rfl
 . exact h rfl
theorem ifW_dec {p:Prop} [Decidable p] {x y:Prop} (h:p->x) (k:¬ p->y):ifW (decide p) x y:=ifW_of (fun e=>h (of_decide_eq_true e)) (fun e=>k (of_decide_eq_false e))
/- Numbers. -/
@[go_sem] theorem wrap64 {x:Int} (h:-9223372036854775808<=x/\x<=9223372036854775807):IntKind.i64.wrap x = x:=by rw [IntKind.wrap_i64];omega
@[go_sem] theorem wrapU8 (x:Int):IntKind.u8.wrap x = x % 256:=IntKind.wrap_u8 x
@[go_sem] theorem wrapU32 (x:Int):IntKind.u32.wrap x = x % 4294967296:=IntKind.wrap_u32 x
@[go_sem] theorem wrapU64 (x:Int):IntKind.u64.wrap x = x % 18446744073709551616:=IntKind.wrap_u64 x
theorem mod_of {a:Nat} {m:Nat} (h:a < m):a % m = a:=Nat.mod_eq_of_lt h
@[go_sem] theorem and_u32 {a b:Nat} (ha:a < 4294967296) (hb:b < 4294967296):andI .u32 a b = ((a &&& b:Nat):Int):=by
 have h:a &&& b < 2 ^ 32:=Nat.and_lt_two_pow a (by simpa using hb)
 unfold andI
 rw [IntKind.wrap_u32,BitVec.ofInt_natCast,BitVec.ofInt_natCast,BitVec.toNat_and,BitVec.toNat_ofNat,BitVec.toNat_ofNat,mod_of (show a < 2 ^ IntKind.u32.bits from ha),mod_of (show b < 2 ^ IntKind.u32.bits from hb)]
 omega
@[go_sem] theorem or_u32 {a b:Nat} (ha:a < 4294967296) (hb:b < 4294967296):orI .u32 a b = ((a ||| b:Nat):Int):=by
 have h:a ||| b < 2 ^ 32:=Nat.or_lt_two_pow (by simpa using ha) (by simpa using hb)
 unfold orI
 rw [IntKind.wrap_u32,BitVec.ofInt_natCast,BitVec.ofInt_natCast,BitVec.toNat_or,BitVec.toNat_ofNat,BitVec.toNat_ofNat,mod_of (show a < 2 ^ IntKind.u32.bits from ha),mod_of (show b < 2 ^ IntKind.u32.bits from hb)]
 omega
@[go_sem] theorem xor_u32 {a b:Nat} (ha:a < 4294967296) (hb:b < 4294967296):xorI .u32 a b = ((a ^^^ b:Nat):Int):=by
 have h:a ^^^ b < 2 ^ 32:=Nat.xor_lt_two_pow (by simpa using ha) (by simpa using hb)
 unfold xorI
 rw [IntKind.wrap_u32,BitVec.ofInt_natCast,BitVec.ofInt_natCast,BitVec.toNat_xor,BitVec.toNat_ofNat,BitVec.toNat_ofNat,mod_of (show a < 2 ^ IntKind.u32.bits from ha),mod_of (show b < 2 ^ IntKind.u32.bits from hb)]
 omega
@[go_sem] theorem not_u32 {a:Nat} (ha:a < 4294967296):notI .u32 a = ((4294967295 - a:Nat):Int):=by
 unfold notI
 show IntKind.u32.wrap ((BitVec.ofInt 32 4294967295 ^^^ BitVec.ofInt 32 (a:Int)).toNat:Int) = _
 have hm:a % 2 ^ 32 = a:=Nat.mod_eq_of_lt (by simpa using ha)
 rw [show BitVec.ofInt 32 4294967295 = BitVec.allOnes 32 by decide,IntKind.wrap_u32,BitVec.ofInt_natCast,BitVec.allOnes_xor,BitVec.toNat_not,BitVec.toNat_ofNat,hm]
 omega
theorem ne_lt {a b:Nat} (h:a < b):(a = b) = False:=by simp only [eq_iff_iff,iff_false];omega
theorem ne_gt {a b:Nat} (h:b < a):(a = b) = False:=by simp only [eq_iff_iff,iff_false];omega
@[go_sem] theorem tdiv_pos {a b:Int} (h:0<=a):a.tdiv b = a / b:=Int.tdiv_eq_ediv_of_nonneg h
@[go_sem] theorem tmod_pos {a b:Int} (h:0<=a):a.tmod b = a % b:=Int.tmod_eq_emod_of_nonneg h
@[go_sem] theorem fdiv_pow (a:Int) (n:Nat):a.fdiv (2 ^ n) = a / 2 ^ n:=Int.fdiv_eq_ediv_of_nonneg _ (by exact Int.le_of_lt (Int.pow_pos (by decide)))
@[go_sem] theorem get_zero {α:Type} (x:α) (l:List α):(x :: l)[0]? = some x:=rfl
@[go_sem] theorem get_succ {α:Type} (x:α) (l:List α) (i:Nat):(x :: l)[i + 1]? = l[i]?:=rfl
theorem take_data {l:List Data} {n:Nat} (h:l.length = n):List.take n (l.map D.data) = l.map D.data:=List.take_of_length_le (by simp [h])
theorem take_all {l:List Data} {n:Nat} (h:l.length = n):List.take n l = l:=List.take_of_length_le (by simp [h])
theorem all_cells {l:List Data} (h:∀ x∈l,x.cell = true):(∀ x∈l,x.cell = true) ↔ True:=iff_true_intro h
theorem all_data {l:List Data} (h:∀ x∈l,x.cell = true):(∀ x∈l.map D.data,x.cell = true) ↔ True:=⟨fun _=>trivial,fun _ x hx=>by
 obtain ⟨y,hy,rfl⟩:=List.mem_map.1 hx
 exact h y hy⟩
def condK (d:D) (x y:Prop):Prop:=match d with
 | .data (.bool b)=>ifW b x y
 | _=>False
@[go_sem] theorem condK_bool (b:Bool) (x y:Prop):condK (.data (.bool b)) x y = ifW b x y:=rfl
@[congr] theorem condK_congr {n0:Nat} (tk:tick = n0) {d d':D} (h:d = d') (x y:Prop):condK d x y = condK d' x y:=by rw [h]
section
variable (P:Program) (Γ:Nat->Option (List Data))
@[go_sem] theorem wpF_skip (Q:Exit->St->Prop) (s:St):wpF P Γ .skip Q s = Q .normal s:=rfl
@[go_sem] theorem wpF_draw (i:Nat) (ops:List Oper) (Q:Exit->St->Prop) (s:St):wpF P Γ (.region i ops.toArray true) Q s = drawW P Γ ops.toArray ops s [] (fun s' tr=>sideK (drawOk2 ops.toArray tr s.nx s'.nx = true) (Q .normal s')):=rfl
@[go_sem] theorem wpF_row (i:Nat) (ops:List Oper) (Q:Exit->St->Prop) (s:St):wpF P Γ (.region i ops.toArray false) Q s = opsW P Γ ops.toArray ops s (Q .normal):=rfl
@[go_sem] theorem wpF_seq (x y:Code) (Q:Exit->St->Prop) (s:St):wpF P Γ (.seq x y) Q s = wpF P Γ x (thenW (wpF P Γ y Q) Q) s:=rfl
@[go_sem] theorem wpF_cond (c:Operand) (x y:Code) (Q:Exit->St->Prop) (s:St):wpF P Γ (.cond c x y) Q s = condK (evalD Γ s.env c) (wpF P Γ x Q s) (wpF P Γ y Q s):=rfl
@[go_sem] theorem wpF_block (id:Nat) (b:Code) (Q:Exit->St->Prop) (s:St):wpF P Γ (.block id b) Q s = wpF P Γ b (blockW id Q) s:=rfl
@[go_sem] theorem wpF_loop (b:Code) (Q:Exit->St->Prop) (s:St):wpF P Γ (.loop b) Q s = LoopW (wpF P Γ b) Q s:=rfl
@[go_sem] theorem wpF_exit (id:Nat) (Q:Exit->St->Prop) (s:St):wpF P Γ (.exit id) Q s = Q (.exit id) s:=rfl
@[go_sem] theorem wpF_ret (Q:Exit->St->Prop) (s:St):wpF P Γ .ret Q s = Q .ret s:=rfl
@[go_sem] theorem thenW_normal (n:St->Prop) (Q:Exit->St->Prop) (s:St):thenW n Q .normal s = n s:=rfl
@[go_sem] theorem thenW_exit (n:St->Prop) (Q:Exit->St->Prop) (s:St) (id:Nat):thenW n Q (.exit id) s = Q (.exit id) s:=rfl
@[go_sem] theorem thenW_ret (n:St->Prop) (Q:Exit->St->Prop) (s:St):thenW n Q .ret s = Q .ret s:=rfl
@[go_sem] theorem blockW_normal (id:Nat) (Q:Exit->St->Prop) (s:St):blockW id Q .normal s = Q .normal s:=rfl
@[go_sem] theorem blockW_exit (id i:Nat) (Q:Exit->St->Prop) (s:St):blockW id Q (.exit i) s = ifW (decide (i = id)) (Q .normal s) (Q (.exit i) s):=by
 by_cases h:i = id <;> simp [blockW,ifW,h]
@[go_sem] theorem blockW_ret (id:Nat) (Q:Exit->St->Prop) (s:St):blockW id Q .ret s = Q .ret s:=rfl
@[congr] theorem thenW_congr {n0:Nat} (tk:tick = n0) (n:St->Prop) (Q:Exit->St->Prop) (x:Exit) (s:St):thenW n Q x s = thenW n Q x s:=rfl
@[congr] theorem blockW_congr {n0:Nat} (tk:tick = n0) (id:Nat) (Q:Exit->St->Prop) (x:Exit) (s:St):blockW id Q x s = blockW id Q x s:=rfl
@[congr] theorem resK_congr {n0:Nat} (tk:tick = n0) {l l':List ResultVar} (h:l = l') (s:St) (K:List D->Prop):resK P l s K = resK P l' s K:=by rw [h]
@[congr] theorem retQ_congr {n0:Nat} (tk:tick = n0) (fn:Func) (r:Data) (x:Exit) (s:St):retQ P fn r x s = retQ P fn r x s:=rfl
@[congr] theorem retDQ_congr {n0:Nat} (tk:tick = n0) (fn:Func) (K:D->(Nat->Blk)->Nat->Prop) (x:Exit) (s:St):retDQ P fn K x s = retDQ P fn K x s:=rfl
@[go_sem] theorem retQ_ret (fn:Func) (r:Data) (s:St):retQ P fn r .ret s = resK P fn.results.toList s fun ds=>∃ xs,FrzL true s.hp ds xs/\r = tupD xs:=rfl
@[go_sem] theorem retQ_normal (fn:Func) (r:Data) (s:St):retQ P fn r .normal s = resK P fn.results.toList s fun ds=>∃ xs,FrzL true s.hp ds xs/\r = tupD xs:=rfl
@[go_sem] theorem retDQ_ret (fn:Func) (K:D->(Nat->Blk)->Nat->Prop) (s:St):retDQ P fn K .ret s = resK P fn.results.toList s fun ds=>∃ d,tupDD ds = some d/\K d s.hp s.nx:=rfl
@[go_sem] theorem retDQ_normal (fn:Func) (K:D->(Nat->Blk)->Nat->Prop) (s:St):retDQ P fn K .normal s = resK P fn.results.toList s fun ds=>∃ d,tupDD ds = some d/\K d s.hp s.nx:=rfl
@[go_sem] theorem tupDD_one (d:D):tupDD [d] = some d:=rfl
def mkTup (ds:List D):D:=match allData ds with
 | some xs=>.data (.tup xs)
 | none=>.tp ds
@[go_sem] theorem tupDD_two (a b:D) (l:List D):tupDD (a :: b :: l) = some (mkTup (a :: b :: l)):=rfl
@[go_sem] theorem mkTup_eq (ds:List D):mkTup ds = match allData ds with
 | some xs=>.data (.tup xs)
 | none=>.tp ds:=rfl
@[go_sem] theorem resK_nil (s:St) (K:List D->Prop):resK P [] s K = K []:=rfl
@[go_sem] theorem resK_tmp (t:Nat) (rest:List ResultVar) (s:St) (K:List D->Prop):resK P (.tmp t :: rest) s K = putK (s.env t) fun d=>resK P rest s fun ds=>K (d :: ds):=rfl
@[go_sem] theorem resK_cell (a:Nat) (t:TypeId) (rest:List ResultVar) (s:St) (K:List D->Prop):resK P (.cell a t :: rest) s K = loadK P t (s.env a) s.hp fun d _=>resK P rest s fun ds=>K (d :: ds):=rfl
@[go_sem] theorem extract_tup (vs:List Data) (i:Nat) (K:D->Prop):extractK (.data (.tup vs)) i K = someK (vs[i]?) fun v=>putK (.data v) K:=by
 unfold extractK someK putK
 apply propext
 constructor
 . rintro ⟨v,hv,hk⟩;rw [hv];exact hk
 . intro hk
   cases h:vs[i]? with
   | none=>rw [h] at hk;exact hk.elim
   | some v=>rw [h] at hk;exact ⟨v,h,hk⟩
@[congr] theorem extractK_congr {n0:Nat} (tk:tick = n0) {x x':D} (h:x = x') (i:Nat) (K:D->Prop):extractK x i K = extractK x' i K:=by rw [h]
@[congr] theorem partK_congr {n0:Nat} (tk:tick = n0) (t:TypeId) {cs cs':List D} (h:cs = cs') {off off':Nat} (h2:off = off') (K:D->Prop):partK P t cs off K = partK P t cs' off' K:=by rw [h,h2]
@[congr] theorem fieldK_congr {n0:Nat} (tk:tick = n0) (t:TypeId) {x x':D} (h:x = x') (f:Nat) (K:D->Prop):fieldK P t x f K = fieldK P t x' f K:=by rw [h]
def slcK (t:TypeId) (x:D) (lo hi:Option D) (H:Nat->Blk) (K:D->List Nat->List (Nat × Blk)->Prop):Prop:=match x with
 | .ptr _ _ | .cptr _=>sliceArrK P t x lo hi none H fun d rd=>K d rd []
 | .cut g off len cp es=>cutK P t g off len cp es lo hi none fun d=>K d [] []
 | _=>sliceK P t x lo hi none fun d=>K d [] []
def slc3K (t:TypeId) (x:D) (lo hi mx:Option D) (K:D->List Nat->List (Nat × Blk)->Prop):Prop:=match x with
 | .cut g off len cp es=>cutK P t g off len cp es lo hi mx fun d=>K d [] []
 | _=>False
@[congr] theorem slc3K_congr {n0:Nat} (tk:tick = n0) (t:TypeId) {x x':D} (h:x = x') {lo lo' hi hi' mx mx':Option D} (h2:lo = lo') (h3:hi = hi') (h4:mx = mx') (K:D->List Nat->List (Nat × Blk)->Prop):slc3K P t x lo hi mx K = slc3K P t x' lo' hi' mx' K:=by rw [h,h2,h3,h4]
@[congr] theorem boundsC_congr {n0:Nat} (tk:tick = n0) (n c:Nat) {lo lo' hi hi' mx mx':Option D} (h2:lo = lo') (h3:hi = hi') (h4:mx = mx') (K:Nat->Nat->Nat->Prop):boundsC n c lo hi mx K = boundsC n c lo' hi' mx' K:=by rw [h2,h3,h4]
@[go_sem] theorem cutK_eq (t:TypeId) (g off len cp es:Nat) (lo hi mx:Option D) (K:D->Prop):cutK P t g off len cp es lo hi mx K = someK (sliceT P t) fun e=>sideK (szT P e = some es) (boundsC len cp lo hi mx fun a b c=>natK (off + a * es) fun o=>natK (b - a) fun n=>natK (c - a) fun q=>K (.cut g o n q es)):=by
 unfold cutK someK sideK natK
 cases sliceT P t <;> rfl
@[go_sem] theorem slc_cut (t:TypeId) (g off len cp es:Nat) (lo hi:Option D) (H:Nat->Blk) (K:D->List Nat->List (Nat × Blk)->Prop):slcK P t (.cut g off len cp es) lo hi H K = cutK P t g off len cp es lo hi none fun d=>K d [] []:=rfl
@[congr] theorem sliceK_congr {n0:Nat} (tk:tick = n0) (t:TypeId) {x x':D} (h:x = x') {lo lo' hi hi' mx mx':Option D} (h2:lo = lo') (h3:hi = hi') (h4:mx = mx') (K:D->Prop):sliceK P t x lo hi mx K = sliceK P t x' lo' hi' mx' K:=by rw [h,h2,h3,h4]
@[go_sem] theorem slc3_cut (t:TypeId) (g off len cp es:Nat) (lo hi mx:Option D) (K:D->List Nat->List (Nat × Blk)->Prop):slc3K P t (.cut g off len cp es) lo hi mx K = cutK P t g off len cp es lo hi mx fun d=>K d [] []:=rfl
@[go_sem] theorem boundsC_hi (n c:Nat) (k:IntKind) (h:Int) (K:Nat->Nat->Nat->Prop):boundsC n c none (some (.data (.int k h))) none K = sideK (0<=h) (sideK (h<=c) (natK h.toNat fun b=>K 0 b c)):=by simp [boundsC,natD,sideK,natK]
@[congr] theorem slcK_congr {n0:Nat} (tk:tick = n0) (t:TypeId) {x x':D} (h:x = x') {lo lo' hi hi':Option D} (h2:lo = lo') (h3:hi = hi') (H:Nat->Blk) (K:D->List Nat->List (Nat × Blk)->Prop):slcK P t x lo hi H K = slcK P t x' lo' hi' H K:=by rw [h,h2,h3]
@[congr] theorem boundsK_congr {n0:Nat} (tk:tick = n0) (n:Nat) {lo lo' hi hi':Option D} (h2:lo = lo') (h3:hi = hi') (K:Nat->Nat->Prop):boundsK n lo hi K = boundsK n lo' hi' K:=by rw [h2,h3]
@[go_sem] theorem slc_sl (t:TypeId) (es:Nat) (l:List Data) (lo hi:Option D) (H:Nat->Blk) (K:D->List Nat->List (Nat × Blk)->Prop):slcK P t (.data (.sl es l)) lo hi H K = someK (sliceT P t) fun e=>sideK (szT P e = some es) (boundsK l.length lo hi fun a b=>putK (.data (.sl es ((l.take b).drop a))) fun d=>K d [] []):=by
 unfold slcK sliceK someK sideK putK
 cases sliceT P t <;> rfl
@[go_sem] theorem slc_emp (t:TypeId) (es:Nat) (lo hi:Option D) (H:Nat->Blk) (K:D->List Nat->List (Nat × Blk)->Prop):slcK P t (.emp es) lo hi H K = someK (sliceT P t) fun e=>sideK (szT P e = some es) (boundsK 0 lo hi fun a b=>K (.emp es) [] []):=by
 unfold slcK sliceK someK sideK
 cases sliceT P t <;> rfl
@[go_sem] theorem slc_str (t:TypeId) (s:ByteArray) (lo hi:Option D) (H:Nat->Blk) (K:D->List Nat->List (Nat × Blk)->Prop):slcK P t (.data (.str s)) lo hi H K = sideK (strT P t = true) (boundsK s.size lo hi fun a b=>putK (.data (.str (s.extract a b))) fun d=>K d [] []):=rfl
@[go_sem] theorem slc_ptr (t:TypeId) (g off:Nat) (lo hi:Option D) (H:Nat->Blk) (K:D->List Nat->List (Nat × Blk)->Prop):slcK P t (.ptr g off) lo hi H K = someK (arrT P t) fun ne=>someK (szT P ne.2) fun es=>blkK (H g) fun rw cells=>sideK (ne.1<=9223372036854775807) (sideK (off + ne.1 * es<=cells.length) (boundsK ne.1 lo hi fun a b=>natK (off + a * es) fun q=>natK (b - a) fun m=>K (.ref g q m es) [g] [])):=by
 unfold slcK sliceArrK someK sideK natK blkK
 simp only
 cases arrT P t with
 | none=>rfl
 | some ne =>
   obtain ⟨n,e⟩:=ne
   simp only
   cases szT P e with
   | none=>rfl
   | some es=>cases H g <;> rfl
@[go_sem] theorem bounds_none (n:Nat) (K:Nat->Nat->Prop):boundsK n none none K = K 0 n:=by simp [boundsK]
@[go_sem] theorem bounds_hi (n:Nat) (k:IntKind) (h:Int) (K:Nat->Nat->Prop):boundsK n none (some (.data (.int k h))) K = sideK (0<=h) (sideK (h<=n) (natK h.toNat fun b=>K 0 b)):=by simp [boundsK,natD,sideK,natK]
@[go_sem] theorem bounds_lo (n:Nat) (k:IntKind) (l:Int) (K:Nat->Nat->Prop):boundsK n (some (.data (.int k l))) none K = sideK (0<=l) (sideK (l<=n) (natK l.toNat fun a=>K a n)):=by simp [boundsK,natD,sideK,natK]
@[go_sem] theorem bounds_both (n:Nat) (k k':IntKind) (l h:Int) (K:Nat->Nat->Prop):boundsK n (some (.data (.int k l))) (some (.data (.int k' h))) K = sideK (0<=l) (sideK (l<=h) (sideK (h<=n) (natK l.toNat fun a=>natK h.toNat fun b=>K a b))):=by simp [boundsK,natD,sideK,natK]
def datK (x:D) (K:Data->Prop):Prop:=match x with
 | .data d=>K d
 | _=>False
@[congr] theorem datK_congr {n0:Nat} (tk:tick = n0) {x x':D} (h:x = x') (K:Data->Prop):datK x K = datK x' K:=by rw [h]
@[go_sem] theorem datK_data (d:Data) (K:Data->Prop):datK (.data d) K = K d:=rfl
def ifcK (x:D) (K:TypeId->Data->Prop):Prop:=match x with
 | .data (.ifc t d)=>K t d
 | _=>False
@[congr] theorem ifcK_congr {n0:Nat} (tk:tick = n0) {x x':D} (h:x = x') (K:TypeId->Data->Prop):ifcK x K = ifcK x' K:=by rw [h]
@[go_sem] theorem ifcK_ifc (t:TypeId) (d:Data) (K:TypeId->Data->Prop):ifcK (.data (.ifc t d)) K = K t d:=rfl
def invK (P:Program) (name:String) (t:TypeId) (K:FuncId->Prop):Prop:=∃ f,MethOk P name t f/\K f
@[congr] theorem invK_congr {n0:Nat} (tk:tick = n0) (name:String) (t:TypeId) (K:FuncId->Prop):invK P name t K = invK P name t K:=rfl
section
variable (dst:Option Nat) (ty:TypeId) (pos:String) (af:Array Edge) (gd:Option (Nat × Bool)) (e:Nat->D) (H:Nat->Blk) (fr:Nat) (K:D->List Nat->List (Nat × Blk)->Prop)
@[go_sem] theorem opK_slice (t:TypeId) (x:Operand) (lo hi:Option Operand):opK P Γ ⟨dst,.slice t x lo hi none,ty,pos,af,gd⟩ e H fr K = slcK P t (evalD Γ e x) (lo.map (evalD Γ e)) (hi.map (evalD Γ e)) H K:=by
 simp only [opK,slcK,Option.map_none]
 cases evalD Γ e x <;> rfl
@[go_sem] theorem opK_slice3 (t:TypeId) (x m:Operand) (lo hi:Option Operand):opK P Γ ⟨dst,.slice t x lo hi (some m),ty,pos,af,gd⟩ e H fr K = (match evalD Γ e x with
 | .ptr _ _ | .cptr _=>sliceArrK P t (evalD Γ e x) (lo.map (evalD Γ e)) (hi.map (evalD Γ e)) (some (evalD Γ e m)) H fun d rd=>K d rd []
 | .cut g off len cp es=>cutK P t g off len cp es (lo.map (evalD Γ e)) (hi.map (evalD Γ e)) (some (evalD Γ e m)) fun d=>K d [] []
 | _=>sliceK P t (evalD Γ e x) (lo.map (evalD Γ e)) (hi.map (evalD Γ e)) (some (evalD Γ e m)) fun d=>K d [] []):=rfl
@[go_sem] theorem opK_makeFunc (f:FuncId) (caps:Array Operand):opK P Γ ⟨dst,.makeFunc (.func f) #[] caps,ty,pos,af,gd⟩ e H fr K = putK (.fn f (caps.toList.map (evalD Γ e))) fun d=>K d [] []:=rfl
@[go_sem] theorem opK_call (x:Operand) (args:Array Operand) (ts:Array TypeId):opK P Γ ⟨dst,.call ⟨.value x,args,ts⟩,ty,pos,af,gd⟩ e H fr K = someK (fnD (evalD Γ e x)) fun fc=>callK P Γ fc.1 (fc.2.1++(args.toList.map (evalD Γ e)++fc.2.2)) H K:=by
 simp only [opK]
 cases fnD (evalD Γ e x)
 . rw [someK_none]
 . rw [someK_some]
@[go_sem] theorem effK_call (x:Operand) (args:Array Operand) (ts:Array TypeId) (K:D->List Nat->List (Nat × Blk)->Nat->Prop):effK P Γ ⟨dst,.call ⟨.value x,args,ts⟩,ty,pos,af,gd⟩ e H fr K = someK (fnD (evalD Γ e x)) fun fc=>effC P Γ fc.1 (fc.2.1++(args.toList.map (evalD Γ e)++fc.2.2)) H fr K:=by
 simp only [effK]
 cases fnD (evalD Γ e x)
 . rw [someK_none]
 . rw [someK_some]
@[congr] theorem clearK_congr {n0:Nat} (tk:tick = n0) (t:TypeId) {x x':D} (h:x = x') (H:Nat->Blk) (K:D->List Nat->List (Nat × Blk)->Prop):clearK P t x H K = clearK P t x' H K:=by rw [h]
@[go_sem] theorem opK_clear (x:Operand) (t:TypeId):opK P Γ ⟨dst,.call ⟨.builtin .clear,#[x],#[t]⟩,ty,pos,af,gd⟩ e H fr K = clearK P t (evalD Γ e x) H K:=rfl
@[congr] theorem capK_congr {n0:Nat} (tk:tick = n0) (t:TypeId) {x x':D} (h:x = x') (K:D->Prop):capK P t x K = capK P t x' K:=by rw [h]
@[congr] theorem lenK_congr {n0:Nat} (tk:tick = n0) (t:TypeId) {x x':D} (h:x = x') (K:D->Prop):lenK P t x K = lenK P t x' K:=by rw [h]
@[go_sem] theorem opK_len (x:Operand) (t:TypeId):opK P Γ ⟨dst,.call ⟨.builtin .len,#[x],#[t]⟩,ty,pos,af,gd⟩ e H fr K = lenK P t (evalD Γ e x) fun d=>K d [] []:=rfl
@[go_sem] theorem opK_cap (x:Operand) (t:TypeId):opK P Γ ⟨dst,.call ⟨.builtin .cap,#[x],#[t]⟩,ty,pos,af,gd⟩ e H fr K = capK P t (evalD Γ e x) fun d=>K d [] []:=rfl
@[go_sem] theorem opK_copy (x y:Operand) (t u:TypeId):opK P Γ ⟨dst,.call ⟨.builtin .copy,#[x,y],#[t,u]⟩,ty,pos,af,gd⟩ e H fr K = copyK P t (evalD Γ e x) (evalD Γ e y) H K:=rfl
@[go_sem] theorem opK_append (x y:Operand) (t u:TypeId):opK P Γ ⟨dst,.call ⟨.builtin .append,#[x,y],#[t,u]⟩,ty,pos,af,gd⟩ e H fr K = appendK P t u (evalD Γ e x) (evalD Γ e y) H fr K:=rfl
@[go_sem] theorem opK_min (x y:Operand) (ts:Array TypeId):opK P Γ ⟨dst,.call ⟨.builtin .min,#[x,y],ts⟩,ty,pos,af,gd⟩ e H fr K = minmaxK false [evalD Γ e x,evalD Γ e y] fun d=>K d [] []:=rfl
@[go_sem] theorem opK_max (x y:Operand) (ts:Array TypeId):opK P Γ ⟨dst,.call ⟨.builtin .max,#[x,y],ts⟩,ty,pos,af,gd⟩ e H fr K = minmaxK true [evalD Γ e x,evalD Γ e y] fun d=>K d [] []:=rfl
@[congr] theorem minmaxK_congr {n0:Nat} (tk:tick = n0) (b:Bool) {ds ds':List D} (h:ds = ds') (K:D->Prop):minmaxK b ds K = minmaxK b ds' K:=by rw [h]
@[congr] theorem copyK_congr {n0:Nat} (tk:tick = n0) (t:TypeId) {x x' y y':D} (h:x = x') (h2:y = y') (H:Nat->Blk) (K:D->List Nat->List (Nat × Blk)->Prop):copyK P t x y H K = copyK P t x' y' H K:=by rw [h,h2]
@[congr] theorem appendK_congr {n0:Nat} (tk:tick = n0) (t u:TypeId) {x x' y y':D} (h:x = x') (h2:y = y') (H:Nat->Blk) (fr:Nat) (K:D->List Nat->List (Nat × Blk)->Prop):appendK P t u x y H fr K = appendK P t u x' y' H fr K:=by rw [h,h2]
@[congr] theorem srcK_congr {n0:Nat} (tk:tick = n0) {x x':D} (h:x = x') (es:Nat) (H:Nat->Blk) (K:Nat->List D->List Nat->Prop):srcK x es H K = srcK x' es H K:=by rw [h]
@[go_sem] theorem len_str (t:TypeId) (s:ByteArray) (K:D->Prop):lenK P t (.data (.str s)) K = sideK (strT P t = true) (putK (.data (.int .i64 s.size)) K):=rfl
@[go_sem] theorem len_sl (t:TypeId) (es:Nat) (l:List Data) (K:D->Prop):lenK P t (.data (.sl es l)) K = sideK ((sliceT P t).isSome = true) (putK (.data (.int .i64 l.length)) K):=rfl
@[go_sem] theorem len_ref (t:TypeId) (g o n es:Nat) (K:D->Prop):lenK P t (.ref g o n es) K = sideK ((sliceT P t).isSome = true) (putK (.data (.int .i64 n)) K):=rfl
@[go_sem] theorem len_cut (t:TypeId) (g o n c es:Nat) (K:D->Prop):lenK P t (.cut g o n c es) K = sideK ((sliceT P t).isSome = true) (putK (.data (.int .i64 n)) K):=rfl
@[go_sem] theorem len_ful (t:TypeId) (es:Nat) (l:List Data) (K:D->Prop):lenK P t (.ful es l) K = sideK ((sliceT P t).isSome = true) (putK (.data (.int .i64 l.length)) K):=rfl
@[go_sem] theorem cap_emp (t:TypeId) (es:Nat) (K:D->Prop):capK P t (.emp es) K = sideK ((sliceT P t).isSome = true) (putK (.data (.int .i64 0)) K):=rfl
@[go_sem] theorem len_emp (t:TypeId) (es:Nat) (K:D->Prop):lenK P t (.emp es) K = sideK ((sliceT P t).isSome = true) (putK (.data (.int .i64 0)) K):=rfl
@[go_sem] theorem min_int (k k':IntKind) (a b:Int) (K:D->Prop):minmaxK false [.data (.int k a),.data (.int k' b)] K = sideK (k = k') (putK (.data (.int k (if b < a then b else a))) K):=rfl
@[go_sem] theorem max_int (k k':IntKind) (a b:Int) (K:D->Prop):minmaxK true [.data (.int k a),.data (.int k' b)] K = sideK (k = k') (putK (.data (.int k (if b > a then b else a))) K):=rfl
@[go_sem] theorem src_sl (es es':Nat) (l:List Data) (K:Nat->List D->List Nat->Prop):srcK (.data (.sl es' l)) es H K = sideK (es' = es) (natK l.length fun n=>cellsK ((flat l).map .data) fun cs=>K n cs []):=rfl
@[go_sem] theorem src_emp (es es':Nat) (K:Nat->List D->List Nat->Prop):srcK (.emp es') es H K = K 0 [] []:=rfl
@[go_sem] theorem src_ref (g off len es es':Nat) (K:Nat->List D->List Nat->Prop):srcK (.ref g off len es') es H K = sideK (es' = es) (blkK (H g) fun _ cells=>sideK (off + len * es<=cells.length) (cellsK ((cells.drop off).take (len * es)) fun cs=>K len cs [g])):=by
 unfold srcK sideK blkK cellsK
 simp only
 cases H g <;> rfl
@[go_sem] theorem src_str (s:ByteArray) (es:Nat) (K:Nat->List D->List Nat->Prop):srcK (.data (.str s)) es H K = sideK (es = 1) (natK s.size fun n=>cellsK (s.toList.map fun b=>.data (.int .u8 b.toNat)) fun cs=>K n cs []):=rfl
@[go_sem] theorem copy_ref (t:TypeId) (g off len es:Nat) (y:D):copyK P t (.ref g off len es) y H K = someK (sliceT P t) fun el=>someK (szT P el) fun n=>sideK (es = n) (blkK (H g) fun rw cells=>ifW rw (sideK (off + len * n<=cells.length) (srcK y n H fun m cs rd=>sideK (cs.all D.cell = true) (natK (min m len) fun q=>cellsK (over cells off (cs.take (q * n))) fun nc=>K (.data (.int .i64 q)) (g :: rd) [(g,.blk true nc)]))) False):=by
 unfold copyK someK sideK blkK ifW natK cellsK
 simp only
 cases sliceT P t <;> simp only
 rename_i el
 cases szT P el <;> simp only
 cases H g with
 | dead=>rfl
 | obj o=>rfl
 | blk rw cells=>cases rw <;> rfl
def appK (e xt:TypeId) (es by_ len:Nat) (y:D) (H:Nat->Blk) (K:Nat->List D->List Nat->Prop):Prop :=
 if (intT P xt).isSome then (match y with
  | .data (.int _ n)=>0<=n/\(len + n) * by_<=140737488355328/\len + n<=140737488355328/\zerosK P e n.toNat fun z=>K n.toNat z []
  | _=>False)
  else ((sliceT P xt).isSome || strT P xt) = true/\srcK y es H fun n cs rd=>cs.all D.cell = true/\(len + n) * by_<=140737488355328/\len + n<=140737488355328/\K n cs rd
@[congr] theorem appK_congr {n0:Nat} (tk:tick = n0) (el xt:TypeId) (es by_ len:Nat) {y y':D} (h:y = y') (H:Nat->Blk) (K:Nat->List D->List Nat->Prop):appK P el xt es by_ len y H K = appK P el xt es by_ len y' H K:=by rw [h]
@[go_sem] theorem appK_int (el xt:TypeId) (es by_ len:Nat) (k:IntKind) (n:Int) (H:Nat->Blk) (K:Nat->List D->List Nat->Prop):appK P el xt es by_ len (.data (.int k n)) H K = sideK ((intT P xt).isSome = true) (sideK (0<=n) (sideK ((len + n) * by_<=140737488355328) (sideK (len + n<=140737488355328) (zerosK P el n.toNat fun z=>K n.toNat z [])))):=by
 unfold appK sideK srcK
 by_cases h:(intT P xt).isSome <;> simp [h]
@[go_sem] def appS (el xt:TypeId) (es by_ len:Nat) (y:D) (H:Nat->Blk) (K:Nat->List D->List Nat->Prop):Prop:=sideK ((intT P xt).isSome = false) (sideK (((sliceT P xt).isSome || strT P xt) = true) (srcK y es H fun n cs rd=>sideK (cs.all D.cell = true) (sideK ((len + n) * by_<=140737488355328) (sideK (len + n<=140737488355328) (K n cs rd)))))
theorem appK_src (el xt:TypeId) (es by_ len:Nat) (y:D) (hy:∀ k n,y≠.data (.int k n)) (H:Nat->Blk) (K:Nat->List D->List Nat->Prop):appK P el xt es by_ len y H K = appS P el xt es by_ len y H K:=by
 unfold appK appS sideK
 by_cases h:(intT P xt).isSome
 . simp only [h,if_true]
   cases y with
   | data x=>cases x <;> simp_all
   | _=>simp
 . simp [h]
@[go_sem] theorem appK_sl (el xt:TypeId) (es by_ len:Nat) (es':Nat) (l:List Data) (H:Nat->Blk) (K:Nat->List D->List Nat->Prop):appK P el xt es by_ len (.data (.sl es' l)) H K = appS P el xt es by_ len (.data (.sl es' l)) H K:=appK_src P el xt es by_ len _ (by simp) H K
@[go_sem] theorem appK_ref (el xt:TypeId) (es by_ len:Nat) (g o n s:Nat) (H:Nat->Blk) (K:Nat->List D->List Nat->Prop):appK P el xt es by_ len (.ref g o n s) H K = appS P el xt es by_ len (.ref g o n s) H K:=appK_src P el xt es by_ len _ (by simp) H K
theorem append_empS (t u:TypeId) (es:Nat) (y:D) (hy:∀ k n,y≠.data (.int k n)):appendK P t u (.emp es) y H fr K = someK (sliceT P t) fun el=>someK (szT P el) fun n=>someK (byT P el) fun by_=>sideK (0 < n) (sideK (zlT P el = some n) (appS P el u n by_ 0 y H fun m cs rd=>K (.ref fr 0 m n) rd [(fr,.blk true cs)])):=by
 unfold appendK someK sideK appS sideK
 simp only
 cases sliceT P t <;> simp only
 rename_i el
 cases szT P el <;> simp only
 cases byT P el <;> simp only
 by_cases h:(intT P u).isSome
 . simp only [h,if_true]
   cases y with
   | data x=>cases x <;> simp_all
   | _=>simp
 . simp [h]
@[go_sem] theorem append_emp_sl (t u:TypeId) (es es':Nat) (l:List Data):appendK P t u (.emp es) (.data (.sl es' l)) H fr K = someK (sliceT P t) fun el=>someK (szT P el) fun n=>someK (byT P el) fun by_=>sideK (0 < n) (sideK (zlT P el = some n) (appS P el u n by_ 0 (.data (.sl es' l)) H fun m cs rd=>K (.ref fr 0 m n) rd [(fr,.blk true cs)])):=append_empS P H fr K t u es _ (by simp)
@[go_sem] theorem append_ful (t u:TypeId) (es:Nat) (l:List Data) (y:D):appendK P t u (.ful es l) y H fr K = someK (sliceT P t) fun el=>someK (szT P el) fun n=>someK (byT P el) fun by_=>sideK (0 < n) (sideK (zlT P el = some n) (sideK (es = n) (sideK (((flat l).map D.data).all D.cell = true) (sideK ((intT P u).isSome = false) (sideK (((sliceT P u).isSome || strT P u) = true)
 (srcK y n H fun m cs rd=>sideK (cs.all D.cell = true) (sideK (0 < m) (sideK ((l.length + m) * by_<=140737488355328) (sideK (l.length + m<=140737488355328) (natK (l.length + m) fun q=>cellsK ((flat l).map D.data++cs) fun nc=>K (.ref fr 0 q n) rd [(fr,.blk true nc)])))))))))) :=by
 unfold appendK someK sideK cellsK natK
 simp only
 cases sliceT P t <;> simp only
 rename_i el
 cases szT P el <;> simp only
 cases byT P el <;> rfl
@[go_sem] theorem append_room (t u:TypeId) (es:Nat) (k:IntKind) (i:Int):appendK P t u (.emp es) (.data (.int k i)) H fr K = someK (sliceT P t) fun el=>someK (szT P el) fun n=>someK (byT P el) fun by_=>sideK (0 < n) (sideK (zlT P el = some n) (sideK ((intT P u).isSome = true) (sideK (0 < i) (sideK (i * by_<=140737488355328) (sideK (i<=140737488355328) (zerosK P el i.toNat fun z=>natK i.toNat fun q=>K (.cut fr 0 q q n) [] [(fr,.blk true z)])))))):=by
 unfold appendK someK sideK natK
 simp only
 cases sliceT P t <;> simp only
 rename_i el
 cases szT P el <;> simp only
 cases byT P el <;> simp only
 by_cases h:(intT P u).isSome
 . simp only [h,if_true,true_and]
 . simp [h,srcK]
@[go_sem] theorem append_cut (t u:TypeId) (g off len cp es:Nat) (y:D):appendK P t u (.cut g off len cp es) y H fr K = someK (sliceT P t) fun el=>someK (szT P el) fun n=>someK (byT P el) fun by_=>sideK (0 < n) (sideK (zlT P el = some n) (sideK (es = n) (blkK (H g) fun rw cells=>ifW rw (sideK ((intT P u).isSome = false) (sideK (((sliceT P u).isSome || strT P u) = true) (ifW (decide (off + cp * n<=cells.length))
 (srcK y n H fun m cs rd=>sideK (cs.all D.cell = true) (sideK (len + m<=cp) (natK (len + m) fun q=>cellsK (over cells (off + len * n) cs) fun nc=>K (.cut g off q cp n) (g :: rd) [(g,.blk true nc)])))
 (sideK (off = 0) (sideK (len * n<=cells.length) (srcK y n H fun m cs rd=>sideK (cs.all D.cell = true) (sideK (len + m<=cp) (natK (len + m) fun q=>cellsK (ovr cells (len * n) cs) fun nc=>K (.cut g 0 q cp n) (g :: rd) [(g,.blk true nc)])))))))) False))):=by
 unfold appendK someK sideK blkK ifW cellsK natK
 simp only
 cases sliceT P t <;> simp only
 rename_i el
 cases szT P el <;> simp only
 rename_i n
 cases byT P el <;> simp only
 by_cases he:es = n
 . subst he
   simp only [true_and]
   cases H g with
   | dead=>rfl
   | obj o=>rfl
   | blk rw cells=>cases rw <;> rfl
 . simp [he]
@[go_sem] theorem append_ref (t u:TypeId) (g len es:Nat) (y:D):appendK P t u (.ref g 0 len es) y H fr K = someK (sliceT P t) fun el=>someK (szT P el) fun n=>someK (byT P el) fun by_=>sideK (0 < n) (sideK (zlT P el = some n) (sideK (es = n) (blkK (H g) fun rw cells=>ifW rw (sideK (cells.length = len * n) (appK P el u n by_ len y H fun m cs rd=>cellsK (cells++cs) fun nc=>K (.ref fr 0 (len + m) n) (g :: rd) [(g,.dead),(fr,.blk true nc)])) False))):=by
 unfold appendK someK sideK appK blkK ifW cellsK
 simp only
 cases sliceT P t <;> simp only
 rename_i el
 cases szT P el <;> simp only
 cases byT P el <;> simp only
 cases H g with
 | dead=>rfl
 | obj o=>rfl
 | blk rw cells =>
   cases rw
   . rfl
   . simp only
     by_cases h:(intT P u).isSome
     . simp only [h,if_true]
       cases y with
       | data x=>cases x <;> rfl
       | _=>rfl
     . simp [h]
end
@[go_sem] theorem dcK_eq (dst:Option Nat) (ty:TypeId) (pos:String) (af:Array Edge) (gd:Option (Nat × Bool)) (e:Nat->D) (H:Nat->Blk) (nx:Nat) (K:D->(Nat->Blk)->Nat->Prop) (x:Operand) (args:Array Operand) (ts:Array TypeId) :
 dcK P Γ ⟨dst,.call ⟨.value x,args,ts⟩,ty,pos,af,gd⟩ e H nx K = someK (fnD (evalD Γ e x)) fun fc=>DC P Γ fc.1 (fc.2.1++(args.toList.map (evalD Γ e)++fc.2.2)) H nx K:=by
 unfold dcK someK
 simp only
 cases fnD (evalD Γ e x) <;> rfl
@[go_sem] theorem fnD_data (f:FuncId) (c:List Data):fnD (.data (.fn f c)) = some (f,[],c.map toD):=rfl
@[go_sem] theorem fnD_bn (f:FuncId) (r:Data):fnD (.data (.bn f r)) = some (f,[toD r],[]):=rfl
@[go_sem] theorem fnD_bnd (f:FuncId) (r:D):fnD (.bnd f r) = some (f,[r],[]):=rfl
@[go_sem] theorem fnD_fn (f:FuncId) (c:List D):fnD (.fn f c) = some (f,[],c):=rfl
variable {P Γ}
theorem call_data {f:FuncId} {ds:List D} {xs:List Data} {r:Data} {H:Nat->Blk} {K:D->List Nat->List (Nat × Blk)->Prop} (h:PC P Γ f xs r) (hd:ds = xs.map toD) (k:K (.data r) [] []):callK P Γ f ds H K:=by
 subst hd
 refine ⟨[],xs,r,[],(fun g hg=>by cases hg),h,.inr fun H' _=>?_,k⟩
 refine ⟨by simp,fun i d x hd hx=>?_⟩
 rw [List.getElem?_map,hx] at hd
 cases hd
 cases x with
 | pc c=>exact .cptr c
 | _=>exact .data _
theorem call_bare {f:FuncId} {ds:List D} {H:Nat->Blk} {K:D->List Nat->List (Nat × Blk)->Prop} (rd:List Nat) {xs:List Data} {r:Data} (h:PC P Γ f xs r) (hb:Bare r) (hf:∀ H',(∀ g∈rd,H' g = H g)->FrzL true H' ds xs) (k:K (.data r) rd []):callK P Γ f ds H K :=
 ⟨[],xs,r,rd,(fun g hg=>by cases hg),h,.inl ⟨rfl,hb,hf⟩,k⟩
theorem call_frz {f:FuncId} {ds:List D} {H:Nat->Blk} {K:D->List Nat->List (Nat × Blk)->Prop} (F rd:List Nat) {xs:List Data} {r:Data} (hF:∀ g∈F,∃ rw cells,H g = .blk rw cells) (h:PC P Γ f xs r) (hf:∀ H',(∀ g∈rd,H' g = H g)->FrzL false (Hp.upd H' (F.map fun g=>(g,fz (H g)))) ds xs) (k:K (.data r) rd (F.map fun g=>(g,fz (H g)))):callK P Γ f ds H K :=
 ⟨F,xs,r,rd,hF,h,.inr hf,k⟩
end
def NextW {σ:Type} (st:σ->St) (μ:σ->Nat) (x:σ) (s:St):Prop:=∃ y,WeakX s (st y)/\μ y < μ x
@[congr] theorem NextW_congr {n0:Nat} (tk:tick = n0) {σ:Type} (st:σ->St) (μ:σ->Nat) (x:σ) (s:St):NextW st μ x s = NextW st μ x s:=rfl
theorem next_of {σ:Type} {st:σ->St} {μ:σ->Nat} {x:σ} {s:St} (y:σ) (h:Weak s (st y)) (hm:μ y < μ x):NextW st μ x s:=⟨y,.inl h,hm⟩
theorem next_ren {σ:Type} {st:σ->St} {μ:σ->Nat} {x:σ} {s:St} (y:σ) (hm:μ y < μ x) (F:List Nat) (ρ:Nat->Option Nat) (h:WeakR F ρ s (st y)):NextW st μ x s:=⟨y,.inr ⟨F,ρ,h⟩,hm⟩
theorem loop_of {body:(Exit->St->Prop)->St->Prop} {Q:Exit->St->Prop} {s:St} {σ:Type} (st:σ->St) (μ:σ->Nat) (x0:σ) (h0:Weak s (st x0)) (h:∀ x,body (thenW (NextW st μ x) Q) (st x)):LoopW body Q s:=⟨σ,st,μ,x0,.inl h0,h⟩
theorem loop_ren {body:(Exit->St->Prop)->St->Prop} {Q:Exit->St->Prop} {s:St} {σ:Type} (st:σ->St) (μ:σ->Nat) (x0:σ) (F:List Nat) (ρ:Nat->Option Nat) (h0:WeakR F ρ s (st x0)) (h:∀ x,body (thenW (NextW st μ x) Q) (st x)):LoopW body Q s:=⟨σ,st,μ,x0,.inr ⟨F,ρ,h0⟩,h⟩
def startK (ds:List D) (n:Nat) (K:List D->Nat->Prop):Prop:=K ds n
@[congr] theorem startK_congr {n0:Nat} (tk:tick = n0) {ds ds':List D} (h:ds = ds') {n n':Nat} (h2:n = n') (K:List D->Nat->Prop):startK ds n K = startK ds' n' K:=by rw [h,h2]
@[go_sem] theorem startK_eq (ds:List D) (n:Nat) (K:List D->Nat->Prop):startK ds n K = K ds n:=rfl
section
variable {P:Program} {Γ:Nat->Option (List Data)}
theorem pc_by (hm:P.follows .mixedOrders = true) {f:FuncId} {fn:Func} {c:Code} {xs:List Data} {r:Data} (hf:P.funcs[f]? = some fn) (hb:fn.body = some c) (hc:CallOk P f)
 (h:startK (xs.map toD) (xs.length + (fn.ntmps - xs.length)) fun ds n=>wpF P Γ c (retQ P fn r) ⟨envArgs ds,fun _=>.dead,0,0,n⟩):PC P Γ f xs r:=pc_of hm hf hb hc h
theorem dc_by (hm:P.follows .mixedOrders = true) {f:FuncId} {fn:Func} {c:Code} {ds:List D} {H:Nat->Blk} {nx:Nat} {K:D->(Nat->Blk)->Nat->Prop} (hf:P.funcs[f]? = some fn) (hb:fn.body = some c) (hc:CallOk P f)
 (h:startK ds (ds.length + (fn.ntmps - ds.length)) fun ds n=>wpF P Γ c (retDQ P fn K) ⟨envArgs ds,H,nx,nx,n⟩):DC P Γ f ds H nx K:=dc_of hm hf hb hc h
end
theorem frz_ptr {ok:Bool} {H:Nat->Blk} {g:Nat} {l:List Data} {rw:Bool} (hg:H g = .blk rw (l.map .data)) (hrw:ok = true \/ rw = false):Frz ok H (.ptr g 0) (.pc l) :=
 .ptr g 0 rw _ l (fun i=>.data (l.getD i .nilp)) hg hrw (fun i x hx=>by simp [hx]) fun i x hx=>by
  have:l.getD i .nilp = x:=by simp [hx]
  rw [this];exact .data x
theorem frzL_c {ok:Bool} {H:Nat->Blk} {d:D} {x:Data} {ds:List D} {xs:List Data} (h:Frz ok H d x) (t:FrzL ok H ds xs):FrzL ok H (d :: ds) (x :: xs):=(frzL_cons ok H d ds (x :: xs)).2 ⟨x,xs,rfl,h,t⟩
theorem frzL_n {ok:Bool} {H:Nat->Blk}:FrzL ok H [] []:=(frzL_nil ok H []).2 rfl
def envL:List (Nat × D)->Nat->D
 | [],_=>.junk
 | (k,d) :: l,t=>if t = k then d else envL l t
def hpL:List (Nat × Blk)->Nat->Blk
 | [],_=>.dead
 | (k,d) :: l,t=>if t = k then d else hpL l t
@[go_sem] theorem envL_nil (t:Nat):envL [] t = .junk:=rfl
@[go_sem] theorem envL_cons (k:Nat) (d:D) (l:List (Nat × D)) (t:Nat):envL ((k,d) :: l) t = if t = k then d else envL l t:=rfl
@[go_sem] theorem hpL_nil (t:Nat):hpL [] t = .dead:=rfl
@[go_sem] theorem hpL_cons (k:Nat) (d:Blk) (l:List (Nat × Blk)) (t:Nat):hpL ((k,d) :: l) t = if t = k then d else hpL l t:=rfl
def below (k:Nat):D->Bool
 | .ref g _ _ _=>decide (g < k)
 | .ptr g _=>decide (g < k)
 | .cut g _ _ _ _=>decide (g < k)
 | .mref g=>decide (g < k)
 | .iref g=>decide (g < k)
 | .agg cs=>allBelow k cs
 | .fn _ cs=>allBelow k cs
 | .bnd _ r=>below k r
 | .tp cs=>allBelow k cs
 | _=>true
where allBelow (k:Nat):List D->Bool
 | []=>true
 | d :: l=>below k d && allBelow k l
mutual
theorem scoped_of {k:Nat}:∀ {d:D},below k d = true->Scoped k d
 | .ref g o n s,h=>.ref g o n s (by simpa [below] using h)
 | .ptr g o,h=>.ptr g o (by simpa [below] using h)
 | .cut g o n c s,h=>.cut g o n c s (by simpa [below] using h)
 | .mref g,h=>.mref g (by simpa [below] using h)
 | .iref g,h=>.iref g (by simpa [below] using h)
 | .agg cs,h=>.agg cs (scoped_all (by simpa [below] using h))
 | .fn f cs,h=>.fn f cs (scoped_all (by simpa [below] using h))
 | .bnd f r,h=>.bnd f r (scoped_of (by simpa [below] using h))
 | .tp cs,h=>.tp cs (scoped_all (by simpa [below] using h))
 | .data x,_=>.data x
 | .emp n,_=>.emp n
 | .cptr c,_=>.cptr c
 | .yld l,_=>.yld l
 | .ful n l,_=>.ful n l
 | .junk,_=>.junk
theorem scoped_all {k:Nat}:∀ {l:List D},below.allBelow k l = true->∀ (i:Nat) (x:D),l[i]? = some x->Scoped k x
 | d :: l,h,0,x,hx=>by
   simp only [below.allBelow,Bool.and_eq_true] at h
   simp only [List.getElem?_cons_zero,Option.some.injEq] at hx
   subst hx
   exact scoped_of h.1
 | d :: l,h,i + 1,x,hx=>by
   simp only [below.allBelow,Bool.and_eq_true] at h
   exact scoped_all h.2 i x (by simpa using hx)
end
@[go_sem] theorem below_data (k:Nat) (x:Data):below k (.data x) = true:=rfl
@[go_sem] theorem below_ref (k g o n s:Nat):below k (.ref g o n s) = decide (g < k):=rfl
@[go_sem] theorem below_ptr (k g o:Nat):below k (.ptr g o) = decide (g < k):=rfl
@[go_sem] theorem below_cut (k g o n c s:Nat):below k (.cut g o n c s) = decide (g < k):=rfl
@[go_sem] theorem below_mref (k g:Nat):below k (.mref g) = decide (g < k):=rfl
@[go_sem] theorem below_iref (k g:Nat):below k (.iref g) = decide (g < k):=rfl
@[go_sem] theorem below_emp (k n:Nat):below k (.emp n) = true:=rfl
@[go_sem] theorem below_cptr (k:Nat) (c:List Data):below k (.cptr c) = true:=rfl
@[go_sem] theorem below_fn (k:Nat) (f:FuncId) (c:List D):below k (.fn f c) = below.allBelow k c:=rfl
@[go_sem] theorem below_bnd (k:Nat) (f:FuncId) (r:D):below k (.bnd f r) = below k r:=rfl
@[go_sem] theorem below_yld (k l:Nat):below k (.yld l) = true:=rfl
@[go_sem] theorem below_ful (k n:Nat) (l:List Data):below k (.ful n l) = true:=rfl
@[go_sem] theorem below_tp (k:Nat) (c:List D):below k (.tp c) = below.allBelow k c:=rfl
@[go_sem] theorem below_agg (k:Nat) (c:List D):below k (.agg c) = below.allBelow k c:=rfl
@[go_sem] theorem allBelow_nil (k:Nat):below.allBelow k [] = true:=rfl
@[go_sem] theorem allBelow_cons (k:Nat) (d:D) (l:List D):below.allBelow k (d :: l) = (below k d && below.allBelow k l):=rfl
@[go_sem] theorem allBelow_map (k:Nat) (l:List Data):below.allBelow k (l.map .data) = true:=by
 induction l with
 | nil=>rfl
 | cons x l ih=>simp [below.allBelow,below,ih]
@[go_sem] def blkBelow (k:Nat):Blk->Bool
 | .blk _ cells=>below.allBelow k cells
 | .obj (.mp _ xs)=>below.allBelow k xs
 | .obj (.it _ _ _ _)=>true
 | .obj (.si _ _)=>true
 | .dead=>true
theorem weak_lists {e:Nat->D} {H:Nat->Blk} {nx lo nt:Nat} (L:List (Nat × D)) (M:List (Nat × Blk)) (n:Nat) (hL:∀ p∈L,e p.1 = p.2) (hM:∀ p∈M,H p.1 = p.2) (hn:n<=nx) (hlo:lo<=n) (hs:∀ p∈L,below n p.2 = true) (hb:∀ p∈M,p.1 < n/\blkBelow n p.2 = true) :
 Weak ⟨e,H,nx,lo,nt⟩ ⟨envL L,hpL M,n,lo,nt⟩:=by
 have env:∀ (L:List (Nat × D)),(∀ p∈L,e p.1 = p.2)->∀ t,envL L t = .junk \/ (envL L t = e t/\(t,e t)∈L):=by
  intro L
  induction L with
  | nil=>exact fun _ t=>.inl rfl
  | cons p L ih =>
    intro h t
    obtain ⟨k,d⟩:=p
    by_cases ht:t = k
    . subst ht
      have:=h (t,d) (by simp)
      simp only at this
      exact .inr ⟨by simp [envL,this],by simp [this]⟩
    . rcases ih (fun p hp=>h p (by simp [hp])) t with q | q
      . exact .inl (by simp [envL,ht,q])
      . exact .inr ⟨by simp [envL,ht,q.1],by simp [q.2]⟩
 have hps:∀ (M:List (Nat × Blk)),(∀ p∈M,H p.1 = p.2)->∀ t,hpL M t = .dead \/ (hpL M t = H t/\(t,H t)∈M):=by
  intro M
  induction M with
  | nil=>exact fun _ t=>.inl rfl
  | cons p M ih =>
    intro h t
    obtain ⟨k,d⟩:=p
    by_cases ht:t = k
    . subst ht
      have:=h (t,d) (by simp)
      simp only at this
      exact .inr ⟨by simp [hpL,this],by simp [this]⟩
    . rcases ih (fun p hp=>h p (by simp [hp])) t with q | q
      . exact .inl (by simp [hpL,ht,q])
      . exact .inr ⟨by simp [hpL,ht,q.1],by simp [q.2]⟩
 refine ⟨fun t=>?_,fun g=>?_,hn,rfl,hlo,rfl,fun g hg=>?_,.inr ⟨fun t=>?_,fun g rw cells hg d hd=>?_,fun g o hg=>?_⟩⟩
 . rcases env L hL t with q | q
   . exact .inr q
   . exact .inl q.1
 . rcases hps M hM g with q | q
   . exact .inr q
   . exact .inl q.1
 . rcases hps M hM g with q | q
   . exact q
   . have:=(hb _ q.2).1
     simp only at this hg
     omega
 . rcases env L hL t with q | q
   . simp only [q];exact .junk
   . simp only [q.1];exact scoped_of (hs _ q.2)
 . rcases hps M hM g with q | q
   . simp only [q] at hg;cases hg
   . have h2:=(hb _ q.2).2
     simp only [q.1] at hg
     simp only [hg,blkBelow] at h2
     obtain ⟨i,hi⟩:=List.getElem?_of_mem hd
     exact scoped_all h2 i d hi
 . rcases hps M hM g with q | q
   . simp only [q] at hg;cases hg
   . have h2:=(hb _ q.2).2
     simp only [q.1] at hg
     simp only [hg] at h2
     cases o with
     | it=>trivial
     | si=>trivial
     | mp ks xs =>
       intro d hd
       obtain ⟨i,hi⟩:=List.getElem?_of_mem hd
       exact scoped_all h2 i d hi
def rhoL:List (Nat × Option Nat)->Nat->Option Nat
 | [],g=>some g
 | (k,o) :: l,g=>if g = k then o else rhoL l g
@[go_sem] theorem rhoL_nil (g:Nat):rhoL [] g = some g:=rfl
@[go_sem] theorem rhoL_cons (k:Nat) (o:Option Nat) (l:List (Nat × Option Nat)) (g:Nat):rhoL ((k,o) :: l) g = if g = k then o else rhoL l g:=rfl
@[go_sem] theorem fzH_eq (H:Nat->Blk) (F:List Nat) (g:Nat):fzH H F g = if g∈F then fz (H g) else H g:=rfl
section
variable {n:Nat} {ρ:Nat->Option Nat} {H:Nat->Blk}
def RenCells (n:Nat) (ρ:Nat->Option Nat) (H:Nat->Blk) (cs ds:List D):Prop:=cs.length<=ds.length/\∀ (i:Nat) (c d:D),cs[i]? = some c->ds[i]? = some d->Ren n ρ H c d
@[go_sem] theorem renCells_nil (ds:List D):RenCells n ρ H [] ds ↔ True:=iff_true_intro ⟨by simp,fun i c d h=>by simp at h⟩
@[go_sem] theorem renCells_cons (c d:D) (cs ds:List D):RenCells n ρ H (c :: cs) (d :: ds) ↔ Ren n ρ H c d/\RenCells n ρ H cs ds:=by
 constructor
 . rintro ⟨h1,h2⟩
   exact ⟨h2 0 c d rfl rfl,by simpa using h1,fun i c' d' hc hd=>h2 (i + 1) c' d' (by simpa using hc) (by simpa using hd)⟩
 . rintro ⟨h1,h2,h3⟩
   refine ⟨by simpa using h2,fun i c' d' hc hd=>?_⟩
   match i with
   | 0=>simp at hc hd;subst hc;subst hd;exact h1
   | i + 1=>exact h3 i c' d' (by simpa using hc) (by simpa using hd)
theorem renCells_datas {cs:List D} (h:∀ c∈cs,∃ x,c = .data x):RenCells n ρ H cs cs:=⟨Nat.le_refl _,fun i c d hc hd=>by
 rw [hc] at hd;cases hd
 obtain ⟨x,rfl⟩:=h c (List.mem_of_getElem? hc)
 exact .data x⟩
theorem renCells_eq {l m:List Data} (h:l = m):RenCells n ρ H (l.map D.data) (m.map D.data):=by
 subst h
 exact renCells_datas fun c hc=>by obtain ⟨x,_,rfl⟩:=List.mem_map.1 hc;exact ⟨x,rfl⟩
@[go_sem] theorem renCells_map (l:List Data):RenCells n ρ H (l.map D.data) (l.map D.data) ↔ True:=iff_true_intro (renCells_eq rfl)
@[go_sem] theorem ren_data (x y:Data):Ren n ρ H (.data x) (.data y) ↔ x = y:=by
 constructor
 . intro h
   cases h with
   | data=>rfl
   | frz _ _ h=>cases h;rfl
 . rintro rfl;exact .data x
@[go_sem] theorem ren_ref (g off len es o off' len' es':Nat):Ren n ρ H (.ref g off len es) (.ref o off' len' es') ↔ g < n/\ρ g = some o/\off = off'/\len = len'/\es = es':=by
 constructor
 . intro h
   cases h with
   | ref _ _ _ _ _ h1 h2=>exact ⟨h1,h2,rfl,rfl,rfl⟩
 . rintro ⟨h1,h2,rfl,rfl,rfl⟩;exact .ref _ _ _ _ _ h1 h2
@[go_sem] theorem ren_cut (g off len cp es o off' len' cp' es':Nat):Ren n ρ H (.cut g off len cp es) (.cut o off' len' cp' es') ↔ g < n/\ρ g = some o/\off = off'/\len = len'/\cp = cp'/\es = es':=by
 constructor
 . intro h;cases h with | cut _ _ _ _ _ _ h1 h2=>exact ⟨h1,h2,rfl,rfl,rfl,rfl⟩
 . rintro ⟨h1,h2,rfl,rfl,rfl,rfl⟩;exact .cut _ _ _ _ _ _ h1 h2
@[go_sem] theorem ren_uncut (g off len es o off' len' cp' es':Nat):Ren n ρ H (.ref g off len es) (.cut o off' len' cp' es') ↔ g < n/\ρ g = some o/\off = off'/\len = len'/\es = es':=by
 constructor
 . intro h;cases h with | uncut _ _ _ _ _ _ h1 h2=>exact ⟨h1,h2,rfl,rfl,rfl⟩
 . rintro ⟨h1,h2,rfl,rfl,rfl⟩;exact .uncut _ _ _ _ _ _ h1 h2
@[go_sem] theorem ren_mref (g o:Nat):Ren n ρ H (.mref g) (.mref o) ↔ g < n/\ρ g = some o:=by
 constructor
 . intro h;cases h with | mref _ _ h1 h2=>exact ⟨h1,h2⟩
 . rintro ⟨h1,h2⟩;exact .mref _ _ h1 h2
@[go_sem] theorem ren_ptr (g off o off':Nat):Ren n ρ H (.ptr g off) (.ptr o off') ↔ g < n/\ρ g = some o/\off = off':=by
 constructor
 . intro h
   cases h with
   | ptr _ _ _ h1 h2=>exact ⟨h1,h2,rfl⟩
 . rintro ⟨h1,h2,rfl⟩;exact .ptr _ _ _ h1 h2
@[go_sem] theorem ren_emp (a b:Nat):Ren n ρ H (.emp a) (.emp b) ↔ True:=iff_true_intro (.emp a b)
@[go_sem] theorem ren_frzref (x:Data) (g off len es:Nat):Ren n ρ H (.data x) (.ref g off len es) ↔ Frz false H (.ref g off len es) x:=by
 constructor
 . intro h
   cases h with
   | frz _ _ h=>exact h
 . exact .frz _ _
end
def RenK (n:Nat) (R:List (Nat × Option Nat)) (H:Nat->Blk) (rw:Bool) (cells:List D):Blk->Prop
 | .dead=>False
 | .obj _=>False
 | .blk rw' cells'=>rw = rw'/\RenCells n (rhoL R) H cells cells'
def RenO (n:Nat) (R:List (Nat × Option Nat)) (H:Nat->Blk) (rw:Bool) (cells:List D):Option Nat->Prop
 | some o=>RenK n R H rw cells (H o)
 | none=>cells = []
def RenS (n:Nat) (R:List (Nat × Option Nat)) (H:Nat->Blk) (o2:Ob):Blk->Prop
 | .obj o1=>RenOb n (rhoL R) H o2 o1
 | _=>False
def RenP (n:Nat) (R:List (Nat × Option Nat)) (H:Nat->Blk) (o2:Ob):Option Nat->Prop
 | some o=>RenS n R H o2 (H o)
 | none=>False
def RenB (n:Nat) (R:List (Nat × Option Nat)) (H:Nat->Blk) (g:Nat):Blk->Prop
 | .dead=>True
 | .blk rw cells=>g < n/\RenO n R H rw cells (rhoL R g)
 | .obj o=>g < n/\RenP n R H o (rhoL R g)
@[go_sem] theorem renB_obj (n:Nat) (R:List (Nat × Option Nat)) (H:Nat->Blk) (g:Nat) (o:Ob):RenB n R H g (.obj o) ↔ g < n/\RenP n R H o (rhoL R g):=Iff.rfl
@[go_sem] theorem renP_some (n:Nat) (R:List (Nat × Option Nat)) (H:Nat->Blk) (o2:Ob) (o:Nat):RenP n R H o2 (some o) ↔ RenS n R H o2 (H o):=Iff.rfl
@[go_sem] theorem renS_mp (n:Nat) (R:List (Nat × Option Nat)) (H:Nat->Blk) (ks ks':List Data) (xs ys:List D):RenS n R H (.mp ks xs) (.obj (.mp ks' ys)) ↔ ks = ks'/\xs.length = ys.length/\RenCells n (rhoL R) H xs ys:=by
 constructor
 . intro h;cases h with | mp _ _ _ hl hh=>exact ⟨rfl,hl,by omega,hh⟩
 . rintro ⟨rfl,hl,_,hh⟩;exact .mp _ _ _ hl hh
@[go_sem] theorem renK_blk (n:Nat) (R:List (Nat × Option Nat)) (H:Nat->Blk) (rw:Bool) (cells:List D) (rw':Bool) (cells':List D):RenK n R H rw cells (.blk rw' cells') ↔ rw = rw'/\RenCells n (rhoL R) H cells cells':=Iff.rfl
@[go_sem] theorem renO_some (n:Nat) (R:List (Nat × Option Nat)) (H:Nat->Blk) (rw:Bool) (cells:List D) (o:Nat):RenO n R H rw cells (some o) ↔ RenK n R H rw cells (H o):=Iff.rfl
@[go_sem] theorem renO_none (n:Nat) (R:List (Nat × Option Nat)) (H:Nat->Blk) (rw:Bool) (cells:List D):RenO n R H rw cells none ↔ cells = []:=Iff.rfl
@[go_sem] theorem renB_dead (n:Nat) (R:List (Nat × Option Nat)) (H:Nat->Blk) (g:Nat):RenB n R H g .dead ↔ True:=Iff.rfl
@[go_sem] theorem renB_blk (n:Nat) (R:List (Nat × Option Nat)) (H:Nat->Blk) (g:Nat) (rw:Bool) (cells:List D):RenB n R H g (.blk rw cells) ↔ g < n/\RenO n R H rw cells (rhoL R g):=Iff.rfl
theorem nodup_inj {α:Type} (f:α->Option Nat) (k:α->Nat):∀ l:List α,(l.filterMap f).Nodup->∀ p∈l,∀ q∈l,∀ o,f p = some o->f q = some o->k p = k q
 | [],_,p,hp,_,_,_,_,_=>by simp at hp
 | a :: l,h,p,hp,q,hq,o,e1,e2=>by
   have ht:(l.filterMap f).Nodup:=by
    rw [List.filterMap_cons] at h
    split at h
    . exact h
    . exact (List.nodup_cons.1 h).2
   have hn:∀ x∈l,f a = some o->f x = some o->False:=fun x hx ea ex=>by
    rw [List.filterMap_cons_some ea] at h
    exact (List.nodup_cons.1 h).1 (List.mem_filterMap.2 ⟨x,hx,ex⟩)
   rcases List.mem_cons.1 hp with ep | hp <;> rcases List.mem_cons.1 hq with eq | hq
   . rw [ep,eq]
   . rw [ep] at e1;exact (hn q hq e1 e2).elim
   . rw [eq] at e2;exact (hn p hp e2 e1).elim
   . exact nodup_inj f k l ht p hp q hq o e1 e2
theorem ren_lists {e:Nat->D} {H:Nat->Blk} {nx lo nt:Nat} {F:List Nat} (R:List (Nat × Option Nat)) (L:List (Nat × D)) (M:List (Nat × Blk)) (n:Nat) (hL:∀ p∈L,Ren n (rhoL R) (fzH H F) p.2 (e p.1)) (hM:∀ p∈M,RenB n R (fzH H F) p.1 p.2)
 (hi:(M.filterMap fun p=>rhoL R p.1).Nodup) (hlo:lo<=n) (hf:∀ p∈R,lo<=p.1) :
 WeakR F (rhoL R) ⟨e,H,nx,lo,nt⟩ ⟨envL L,hpL M,n,lo,nt⟩:=by
 have env:∀ (L:List (Nat × D)),(∀ p∈L,Ren n (rhoL R) (fzH H F) p.2 (e p.1))->∀ t,Ren n (rhoL R) (fzH H F) (envL L t) (e t):=by
  intro L
  induction L with
  | nil=>exact fun _ t=>.junk _
  | cons p L ih =>
    intro h t
    obtain ⟨k,d⟩:=p
    by_cases ht:t = k
    . subst ht
      have:=h (t,d) (by simp)
      simpa [envL] using this
    . simp only [envL,ht,if_false]
      exact ih (fun p hp=>h p (by simp [hp])) t
 have blk:∀ (M:List (Nat × Blk)) (g:Nat) (b:Blk),hpL M g = b->b = .dead \/ (g,b)∈M:=by
  intro M
  induction M with
  | nil=>intro g b h;exact .inl h.symm
  | cons p M ih =>
    intro g b h
    obtain ⟨k,d⟩:=p
    by_cases hg:g = k
    . subst hg
      simp only [hpL,if_true] at h
      subst h
      exact .inr (by simp)
    . simp only [hpL,hg,if_false] at h
      rcases ih g b h with h | h
      . exact .inl h
      . exact .inr (by simp [h])
 have fix:∀ (R:List (Nat × Option Nat)),(∀ p∈R,lo<=p.1)->∀ g,g < lo->rhoL R g = some g:=by
  intro R
  induction R with
  | nil=>exact fun _ g _=>rfl
  | cons p R ih =>
    intro h g hg
    obtain ⟨k,o⟩:=p
    have:=h (k,o) (by simp)
    simp only [rhoL,show ¬ g = k by simp only at this;omega,if_false]
    exact ih (fun p hp=>h p (by simp [hp])) g hg
 refine ⟨env L hL,fun g rw cells hg=>?_,fun g g' o cells rw cells' hg hg' ho ho'=>?_,fun g o2 hg=>?_,fun g g' o p p' hg hg' ho ho'=>?_,rfl,hlo,fun g hg=>fix R hf g hg,rfl⟩
 rotate_left 2
 . rcases blk M g _ hg with h | h
   . cases h
   . obtain ⟨h1,h2⟩:=hM _ h
     refine ⟨h1,?_⟩
     simp only at h2
     cases ho:rhoL R g with
     | some o =>
       rw [ho] at h2
       have h3:RenS n R (fzH H F) o2 (fzH H F o):=h2
       cases hb:fzH H F o with
       | dead=>rw [hb] at h3;exact h3.elim
       | blk=>rw [hb] at h3;exact h3.elim
       | obj o1 =>
         rw [hb] at h3
         refine ⟨o,o1,rfl,?_,h3⟩
         show H o = .obj o1
         unfold fzH at hb
         split at hb
         . cases hH:H o with
           | dead=>rw [hH] at hb;cases hb
           | blk=>rw [hH] at hb;cases hb
           | obj o3=>rw [hH] at hb;exact hb
         . exact hb
     | none=>rw [ho] at h2;exact h2.elim
 . rcases blk M g _ hg with h | h
   . cases h
   . rcases blk M g' _ hg' with h' | h'
     . cases h'
     . exact nodup_inj (fun p:Nat × Blk=>rhoL R p.1) (fun p=>p.1) M hi _ h _ h' o ho ho'
 . rcases blk M g _ hg with h | h
   . cases h
   . obtain ⟨h1,h2⟩:=hM _ h
     refine ⟨h1,?_⟩
     simp only at h2
     cases ho:rhoL R g with
     | some o =>
       rw [ho] at h2
       have h3:RenK n R (fzH H F) rw cells (fzH H F o):=h2
       cases hb:fzH H F o with
       | dead=>rw [hb] at h3;exact h3.elim
       | obj o=>rw [hb] at h3;exact h3.elim
       | blk rw' cells' =>
         rw [hb] at h3
         obtain ⟨rfl,h4,h5⟩:=h3
         exact .inl ⟨o,cells',rfl,hb,h4,h5⟩
     | none=>rw [ho] at h2;exact .inr ⟨rfl,h2⟩
 . rcases blk M g _ hg with h | h
   . cases h
   . rcases blk M g' _ hg' with h' | h'
     . cases h'
     . exact nodup_inj (fun p:Nat × Blk=>rhoL R p.1) (fun p=>p.1) M hi _ h _ h' o ho ho'
mutual
def shD (n:Nat):D->D
 | .ref g off len es=>.ref (g + n) off len es
 | .ptr g off=>.ptr (g + n) off
 | .cut g off len cp es=>.cut (g + n) off len cp es
 | .mref g=>.mref (g + n)
 | .iref g=>.iref (g + n)
 | .agg cs=>.agg (shL n cs)
 | .fn f caps=>.fn f (shL n caps)
 | .bnd f r=>.bnd f (shD n r)
 | .tp cs=>.tp (shL n cs)
 | .data x=>.data x
 | .emp es=>.emp es
 | .cptr cells=>.cptr cells
 | .yld l=>.yld l
 | .ful n l=>.ful n l
 | .junk=>.junk
def shL (n:Nat):List D->List D
 | []=>[]
 | d :: ds=>shD n d :: shL n ds
end
def shB (n:Nat):Blk->Blk
 | .dead=>.dead
 | .blk rw cells=>.blk rw (shL n cells)
 | .obj (.mp ks xs)=>.obj (.mp ks (shL n xs))
 | .obj o=>.obj o
@[go_sem] theorem shB_mp (n:Nat) (ks:List Data) (xs:List D):shB n (.obj (.mp ks xs)) = .obj (.mp ks (shL n xs)):=rfl
@[go_sem] theorem shB_it (n:Nat) (ks xs:List Data) (l:List Nat) (c:Option Nat):shB n (.obj (.it ks xs l c)) = .obj (.it ks xs l c):=rfl
@[go_sem] theorem shB_si (n:Nat) (s:ByteArray) (p:Nat):shB n (.obj (.si s p)) = .obj (.si s p):=rfl
@[go_sem] theorem shB_blk (n:Nat) (rw:Bool) (cells:List D):shB n (.blk rw cells) = .blk rw (shL n cells):=rfl
@[go_sem] theorem shB_dead (n:Nat):shB n .dead = .dead:=rfl
def ownH (nx:Nat) (H:Nat->Blk) (M:List (Nat × Blk)):Nat->Blk:=fun g=>if g < nx then H g else shB nx (hpL M (g - nx))
@[go_sem] theorem ownH_eq (nx:Nat) (H:Nat->Blk) (M:List (Nat × Blk)) (g:Nat):ownH nx H M g = if g < nx then H g else shB nx (hpL M (g - nx)):=rfl
section
variable {P:Program} {Γ:Nat->Option (List Data)} {L0:Nat->Prop} {w0:W0}
def retOQ (P:Program) (fn:Func) (d:D) (M:List (Nat × Blk)) (k:Nat):Exit->St->Prop
 | .normal,s | .ret,s=>resK P fn.results.toList s fun ds=>∃ d0 F R,tupDD ds = some d0/\WeakR F (rhoL R) ⟨envL [(0,d0)],s.hp,s.nx,0,1⟩ ⟨envL [(0,d)],hpL M,k,0,1⟩
 | _,_=>False
@[congr] theorem retOQ_congr {n0:Nat} (tk:tick = n0) (P:Program) (fn:Func) (d:D) (M:List (Nat × Blk)) (k:Nat) (e:Exit) (s:St):retOQ P fn d M k e s = retOQ P fn d M k e s:=rfl
def ownK (H:Nat->Blk) (nx:Nat) (d:D) (M:List (Nat × Blk)) (k:Nat) (ds:List D):Prop:=∃ d0 F R,tupDD ds = some d0/\WeakR F (rhoL R) ⟨envL [(0,d0)],H,nx,0,1⟩ ⟨envL [(0,d)],hpL M,k,0,1⟩
@[congr] theorem ownK_congr {n0:Nat} (tk:tick = n0) (H:Nat->Blk) (nx:Nat) (d:D) (M:List (Nat × Blk)) (k:Nat) {ds ds':List D} (h:ds = ds'):ownK H nx d M k ds = ownK H nx d M k ds':=by rw [h]
@[go_sem] theorem retOQ_ret (fn:Func) (d:D) (M:List (Nat × Blk)) (k:Nat) (s:St):retOQ P fn d M k .ret s = resK P fn.results.toList s fun ds=>ownK s.hp s.nx d M k ds:=rfl
@[go_sem] theorem retOQ_normal (fn:Func) (d:D) (M:List (Nat × Blk)) (k:Nat) (s:St):retOQ P fn d M k .normal s = resK P fn.results.toList s fun ds=>ownK s.hp s.nx d M k ds:=rfl
theorem over_zero {cells vs:List D} (h:vs.length<=cells.length):over cells 0 vs = vs++cells.drop vs.length:=by
 match vs with
 | []=>simp [over]
 | [d] =>
   cases cells with
   | nil=>simp at h
   | cons c cs=>simp [over]
 | a :: b :: vs=>simp [over]
end
@[go_sem] theorem coe_tp (P:Program) (t:TypeId) (cs:List D):coe P t (.tp cs) = .tp cs:=rfl
@[go_sem] theorem coe_yld (P:Program) (t:TypeId) (l:Nat):coe P t (.yld l) = .yld l:=rfl
theorem vd_ints {L:Nat->Prop} {w:World} {k:IntKind}:∀ {l:List Nat} {vs:Array Value},l.length = vs.size->(∀ (i:Nat) (x:Data) (v:Value),(l.map fun n=>Data.int k (n:Nat))[i]? = some x->vs[i]? = some v->VD L w x v)->vs = (l.map fun n=>Value.int k (n:Nat)).toArray:=by
 intro l vs hl h
 apply Array.ext
 . simp [hl]
 . intro i h1 h2
   have hi:i < l.length:=by simpa using h2
   have:=h i (.int k (l[i]:Nat)) vs[i] (by simp [hi]) (Array.getElem?_eq_getElem h1)
   simp only [List.getElem_toArray,List.getElem_map]
   generalize vs[i] = q at this ⊢
   cases this
   rfl
def lints (k:IntKind) (l:List Nat):List Lit:=l.map fun n=>Lit.int k (n:Nat)
theorem lints_inj {k:IntKind}:∀ {l m:List Nat},lints k l = lints k m ↔ l = m
 | [],[]=>by simp
 | [],_ :: _=>by simp [lints]
 | _ :: _,[]=>by simp [lints]
 | x :: l,y :: m=>by
   have ih:=@lints_inj k l m
   show (Lit.int k (x:Nat) :: lints k l = Lit.int k (y:Nat) :: lints k m) ↔ _
   simp only [List.cons.injEq,ih,Lit.int.injEq,true_and]
   constructor <;> rintro ⟨a,b⟩ <;> exact ⟨by omega,b⟩
theorem mapM_all {α β:Type} (f:α->Option β) (g:α->β):∀ l:List α,(∀ a∈l,f a = some (g a))->l.mapM f = some (l.map g)
 | [],_=>rfl
 | a :: l,h=>by
   rw [List.mapM_cons,h a (by simp),mapM_all f g l fun b hb=>h b (by simp [hb])]
   rfl
structure IntArr (P:Program) (t e:TypeId) (n:Nat) (k:IntKind) (B:Nat):Prop where
 ut:P.underlying t = some (.array n e)
 ue:P.underlying e = some (.int k)
 ct:P.cellsOf t = n
 ce:P.cellsOf e = 1
 deep:EqAt P (9998 + 2) t
 guard:P.eqGuardType P.depth t = false
 range:∀ x:Nat,x < B->P.keyLits 2 e [.int k (x:Nat)] = some [Lit.int k (x:Nat)]
theorem eqR_ints {P:Program} {t e:TypeId} {n B:Nat} {k:IntKind} (h:IntArr P t e n k B) {l m:List Nat} (hl:l.length = n) (hm:m.length = n) (bl:∀ x∈l,x < B) (bm:∀ x∈m,x < B) :
 EqR P t (.agg (l.map fun x=>.int k (x:Nat))) (.agg (m.map fun x=>.int k (x:Nat))) (decide (l = m)):=by
 intro L w ox oy vx vy hx hy
 cases hx with
 | agg _ vs hs hv =>
 cases hy with
 | agg _ us hs2 hv2 =>
 obtain rfl:=vd_ints (by simpa using hs) hv
 obtain rfl:=vd_ints (by simpa using hs2) hv2
 refine ⟨fun op=>run_eqGuard_agg w op t ox oy _ _ h.guard,?_⟩
 have lits:∀ (l:List Nat),l.length = n->(∀ x∈l,x < B)->P.keyLits 3 t ((l.map fun x=>Value.int k (x:Nat)).toArray).toList = some (lints k l):=by
  intro l hl hb
  rw [Program.keyLits.eq_def]
  simp only [h.ut,h.ct,h.ce]
  rw [if_pos (by simp [hl]),mapM_all _ (fun i=>[Lit.int k (l.getD i 0:Nat)])]
  . subst hl
    simp only [Option.map_some,Option.some.injEq]
    rw [List.flatten_eq_flatMap,List.flatMap_map]
    simp only [id]
    unfold lints
    have fm:∀ (l':List Nat) (f:Nat->Lit),l'.flatMap (fun a=>[f a]) = l'.map f:=fun l' f=>by
     induction l' with
     | nil=>rfl
     | cons a l' ih=>simp [ih]
    rw [fm]
    apply List.ext_getElem?
    intro i
    by_cases hi:i < l.length
    . simp [hi,List.getD_eq_getElem?_getD]
    . simp [hi,List.getElem?_eq_none (Nat.le_of_not_lt hi)]
  . intro i hi
    have hi:i < l.length:=by rw [hl];exact List.mem_range.1 hi
    have e:(((l.map fun x=>Value.int k (x:Nat)).toArray.toList).drop (i * 1)).take 1 = [.int k (l[i]:Nat)]:=by
     rw [Nat.mul_one,List.drop_eq_getElem_cons (by simpa using hi)]
     simp
    rw [e,h.range _ (hb _ (List.getElem_mem hi))]
    simp [hi]
 have formed:∀ (l:List Nat),l.length = n->(Value.agg (l.map fun x=>Value.int k (x:Nat)).toArray).formed P t = true:=by
  intro l hl
  simp only [Value.formed,h.ut,h.ct]
  simp [hl]
 obtain ⟨r,hr,hi⟩:=h.deep w 3 3 _ _ (lints k l) (lints k m) (formed l hl) (formed m hm) (by simpa [Value.cells] using lits l hl bl) (by simpa [Value.cells] using lits m hm bm)
 have e:r = decide (l = m):=by
  rw [Bool.eq_iff_iff,hi,lints_inj]
  simp
 rw [<- e]
 exact hr
theorem eqK_ints {P:Program} {t e:TypeId} {n B:Nat} {k:IntKind} (h:IntArr P t e n k B) {l m:List Nat} (hl:l.length = n) (hm:m.length = n) (bl:∀ x∈l,x < B) (bm:∀ x∈m,x < B) {K:Bool->Prop} (hk:K (decide (l = m))):eqK P t (.agg (l.map fun x=>.int k (x:Nat))) (.agg (m.map fun x=>.int k (x:Nat))) K:=⟨_,eqR_ints h hl hm bl bm,hk⟩
def mkE (P:Program) (t:TypeId) (ds:List Data):Data:=match P.underlying t with
 | some (.struct _) | some (.array _ _)=>.agg ds
 | _=>ds.headD .nilp
def suppF (P:Program) (s:TypeId->Bool):Nat->List Field->Option Nat
 | o,[]=>some o
 | o,f :: fs=>if f.offset = o/\s f.type = true then suppF P s (o + P.cellsOf f.type) fs else none
def supp (P:Program):Nat->TypeId->Bool
 | 0,_=>false
 | n + 1,t=>match P.underlying t with
   | some .bool | some .string=>true
   | some (.int _)=>true
   | some (.slice e)=>supp P n e && decide (0 < P.cellsOf e) && decide (0 < P.bytesOf e)
   | some (.struct fs)=>suppF P (supp P n) 0 fs.toList == some (P.cellsOf t)
   | some (.array m e)=>supp P n e && decide (P.cellsOf t = m * P.cellsOf e)
   | _=>false
def dDF {H:Type} (r:TypeId->DataW H->List Data):List Field->List (DataW H)->List Data
 | f :: fs,d :: ds=>r f.type d++dDF r fs ds
 | _,_=>[]
def dD {H:Type} (P:Program):Nat->TypeId->DataW H->List Data
 | 0,_,_=>[]
 | n + 1,t,d=>match P.underlying t with
   | some (.slice e)=>(match d with
     | .slice elems _=>[.sl (P.cellsOf e) (elems.map fun x=>mkE P e (dD P n e x))]
     | _=>[.sl (P.cellsOf e) []])
   | some (.struct fs)=>(match d with
     | .agg parts=>dDF (dD P n) fs.toList parts
     | _=>[])
   | some (.array _ e)=>(match d with
     | .agg parts=>parts.flatMap (dD P n e)
     | _=>[])
   | _=>(match d with
     | .lit (.bool b)=>[.bool b]
     | .lit (.int k i)=>[.int k i]
     | .lit (.string s)=>[.str ⟨s.toArray⟩]
     | _=>[])
def okF (o:TypeId->List Data->Prop):List Field->List Data->Prop
 | [],ds=>ds = []
 | f :: fs,ds=>∃ a b,ds = a++b/\o f.type a/\okF o fs b
def okA (o:List Data->Prop):Nat->List Data->Prop
 | 0,ds=>ds = []
 | n + 1,ds=>∃ a b,ds = a++b/\o a/\okA o n b
def okD (P:Program):Nat->TypeId->List Data->Prop
 | 0,_,_=>False
 | n + 1,t,ds=>match P.underlying t with
   | some .bool=>∃ b,ds = [.bool b]
   | some (.int k)=>∃ i,ds = [.int k i]/\(Lit.int k i).wf = true
   | some .string=>∃ s,ds = [.str s]/\s.size<=reachBytes
   | some (.slice e)=>∃ l,ds = [.sl (P.cellsOf e) l]/\l.length<=reachBytes/\∀ x∈l,∃ es,x = mkE P e es/\okD P n e es
   | some (.struct fs)=>okF (okD P n) fs.toList ds
   | some (.array m e)=>okA (okD P n e) m ds
   | _=>False
def VDs (w:World) (cs:List Value) (ds:List Data):Prop:=ds.length = cs.length/\∀ (i:Nat) (x:Data) (v:Value),ds[i]? = some x->cs[i]? = some v->VD (fun _=>False) w x v
theorem VDs.nil (w:World):VDs w [] []:=⟨rfl,fun i x v h=>by simp at h⟩
theorem VDs.one {w:World} {v:Value} {x:Data} (h:VD (fun _=>False) w x v):VDs w [v] [x]:=⟨rfl,fun i y u hy hu=>by
 match i with
 | 0=>simp at hy hu;subst hy;subst hu;exact h
 | i + 1=>simp at hy⟩
theorem VDs.append {w:World} {a b:List Value} {x y:List Data} (h:VDs w a x) (k:VDs w b y):VDs w (a++b) (x++y):=by
 refine ⟨by simp [h.1,k.1],fun i d v hd hv=>?_⟩
 rw [List.getElem?_append] at hd hv
 rw [h.1] at hd
 split at hd
 . rename_i hi;rw [if_pos hi] at hv;exact h.2 i d v hd hv
 . rename_i hi;rw [if_neg hi] at hv;exact k.2 _ d v hd hv
section
variable {H:Type} {enc:TypeId × Value->H} {P:Program} {w:World} {held:Bool} {spare:Nat->Bool}
theorem weights_each {ts:List TypeId} {ds:List (DataW H)} (hz:∀ x∈DataW.weightsEach P ts ds,x<=reachBytes):∀ (i:Nat) t d,ts[i]? = some t->ds[i]? = some d->∀ x∈DataW.weights P t d,x<=reachBytes:=by
 induction ts generalizing ds with
 | nil=>intro i t d h;simp at h
 | cons t ts ih =>
   cases ds with
   | nil=>intro i t d _ h;simp at h
   | cons d ds =>
     simp only [DataW.weightsEach,List.mem_append] at hz
     intro i t' d' ht hd x hx
     match i with
     | 0=>simp at ht hd;subst ht;subst hd;exact hz x (.inl hx)
     | i + 1=>exact ih (fun y hy=>hz y (.inr hy)) i t' d' (by simpa using ht) (by simpa using hd) x hx
theorem weights_all {e:TypeId} {ds:List (DataW H)} (hz:∀ x∈DataW.weightsAll P e ds,x<=reachBytes):∀ d∈ds,∀ x∈DataW.weights P e d,x<=reachBytes:=by
 induction ds with
 | nil=>intro d h;simp at h
 | cons d ds ih =>
   simp only [DataW.weightsAll,List.mem_append] at hz
   intro d' hd x hx
   rcases List.mem_cons.1 hd with rfl | hd
   . exact hz x (.inl hx)
   . exact ih (fun y hy=>hz y (.inr hy)) d' hd x hx
theorem cells_get {b0:Nat} {a:Addr} {n:Nat} {cs:List Value} (h:w.cells? b0 a n = some cs):cs.length = n/\∀ i,i < n->w.cell? (a.add i) = cs[i]?:=by
 unfold World.cells? at h
 split at h
 . exact ⟨by simpa using mapM_some_length h,fun i hi=>mapM_some_get h i i (by simp [hi])⟩
 . cases h
theorem cell_lt {a:Addr} {v:Value} (h:w.cell? a = some v):a.block < w.heap.size/\a.spot = none:=by
 unfold World.cell? at h
 split at h
 . rename_i hb
   exact ⟨(Array.getElem?_eq_some_iff.1 hb).1,by cases hs:a.spot with
    | none=>rfl
    | some s=>rw [hs] at h;simp at h⟩
 . cases h
theorem mkE_cells {n:Nat} {t:TypeId} {es:List Data} (h:okD P n t es):(mkE P t es).cells = es:=by
 cases n with
 | zero=>exact h.elim
 | succ n =>
   unfold okD at h
   unfold mkE
   split at h
   all_goals rename_i hu;simp only [hu]
   . obtain ⟨b,rfl⟩:=h;rfl
   . obtain ⟨i,rfl,_⟩:=h;rfl
   . obtain ⟨s,rfl,_⟩:=h;rfl
   . obtain ⟨l,rfl,_⟩:=h;rfl
   . rfl
   . rfl
   . exact h.elim
theorem read_ok:∀ (n:Nat) (fuel:Nat) (t:TypeId) (cs:List Value) (d:DataW H) (ps:List MemPlace),supp P n t = true->DataW.trod enc P w 0 spare held fuel t cs = some (d,ps)->(∀ x∈DataW.weights P t d,x<=reachBytes) →
 VDs w cs (dD P n t d)/\okD P n t (dD P n t d):=by
 intro n
 induction n with
 | zero=>intro fuel t cs d ps hs;simp [supp] at hs
 | succ n ih =>
   intro fuel t cs d ps hs h hz
   unfold supp at hs
   split at hs
   . rename_i hu
     obtain ⟨b,rfl,e⟩:=DataW.trod_bool hu h
     cases e
     simp only [dD,okD,hu]
     exact ⟨.one (.bool b),b,rfl⟩
   . rename_i hu
     obtain ⟨s,rfl,e,_⟩:=DataW.trod_string hu h
     cases e
     simp only [dD,okD,hu]
     refine ⟨.one (.str s),s,rfl,?_⟩
     have:=hz s.data.toList.length (by simp [DataW.weights])
     simpa using this
   . rename_i k hu
     obtain ⟨i,rfl,e,hw⟩:=DataW.trod_int hu h
     cases e
     simp only [dD,okD,hu]
     exact ⟨.one (.int k i),i,rfl,hw⟩
   . rename_i e hu
     simp only [Bool.and_eq_true,decide_eq_true_eq] at hs
     obtain ⟨⟨hse,hc⟩,hb⟩:=hs
     rcases DataW.trod_slice hu h with ⟨rfl,hx⟩ | ⟨a,len,cap,elems,rest,m,rfl,rfl,hx,_,hlc,hcm,hlen,hel,_,_⟩
     . cases hx
       simp only [dD,okD,hu]
       exact ⟨.one (.sl _ [] none 0 0 0 0 (fun _=>.nilIface) rfl (Nat.le_refl _) (by simp [maxLen]) (by simp) (.inr rfl) (fun i x hx=>by simp [flat] at hx) (fun i x hx=>by simp [flat] at hx)),[],rfl,by simp,by simp⟩
     . cases hx
       simp only [DataW.weights,hu,List.mem_cons,List.mem_append,List.length_map] at hz
       have hw1:=hz _ (.inl rfl)
       have hw2:=weights_all (P:=P) (e:=e) (ds:=elems.map (·.1)) (fun x hx=>hz x (.inr (.inl hx)))
       have hlen2:elems.length<=reachBytes:=by
        have:elems.length * 1<=(elems.length + rest.length) * P.bytesOf e:=Nat.mul_le_mul (by omega) hb
        omega
       have each:∀ (i:Nat) (y:DataW H × List MemPlace),elems[i]? = some y->∃ ec,w.cells? 0 (a.add (i * P.cellsOf e)) (P.cellsOf e) = some ec/\VDs w ec (dD P n e y.1)/\okD P n e (dD P n e y.1):=by
        intro i y hy
        have hi:i < len:=by rw [<- hlen];exact (List.getElem?_eq_some_iff.1 hy).1
        have h1:=hel i hi
        rw [hy,Option.bind_eq_some_iff] at h1
        obtain ⟨ec,h2,h3⟩:=h1
        exact ⟨ec,h2,ih m e ec y.1 y.2 hse h3 (hw2 y.1 (List.mem_map.2 ⟨y,List.mem_of_getElem? hy,rfl⟩))⟩
       have hcl:∀ (i:Nat) (y:DataW H × List MemPlace),elems[i]? = some y->(mkE P e (dD P n e y.1)).cells = dD P n e y.1/\(dD P n e y.1).length = P.cellsOf e:=by
        intro i y hy
        obtain ⟨ec,h2,h3,h4⟩:=each i y hy
        exact ⟨mkE_cells h4,by rw [h3.1];exact (cells_get h2).1⟩
       have hflat:∀ (l:List Data) (c:Nat),0 < c->(∀ x∈l,x.cells.length = c)->∀ (i:Nat) (x:Data),(flat l)[i]? = some x->∃ y,l[i / c]? = some y/\y.cells[i % c]? = some x:=by
        intro l c hc0
        induction l with
        | nil=>intro _ i x hx;simp [flat] at hx
        | cons y l ihl =>
          intro hall i x hx
          have hy:y.cells.length = c:=hall y (by simp)
          simp only [flat,List.flatMap_cons,List.getElem?_append] at hx
          rw [hy] at hx
          split at hx
          . rename_i hi
            rw [Nat.div_eq_of_lt hi,Nat.mod_eq_of_lt hi]
            exact ⟨y,rfl,hx⟩
          . rename_i hi
            obtain ⟨z,h1,h2⟩:=ihl (fun x hx=>hall x (by simp [hx])) (i - c) x hx
            obtain ⟨q,rfl⟩:∃ q,i = q + c:=⟨i - c,by omega⟩
            rw [Nat.add_div_right _ hc0,Nat.add_mod_right]
            rw [Nat.add_sub_cancel] at h1 h2
            exact ⟨z,by simpa using h1,h2⟩
       have hall:∀ x∈(elems.map fun y=>mkE P e (dD P n e y.1)),x.cells.length = P.cellsOf e:=by
        intro x hx
        obtain ⟨y,hy,rfl⟩:=List.mem_map.1 hx
        obtain ⟨i,hi⟩:=List.getElem?_of_mem hy
        rw [(hcl i y hi).1,(hcl i y hi).2]
       have key:∀ (i:Nat) (x:Data),(flat (elems.map fun y=>mkE P e (dD P n e y.1)))[i]? = some x->∃ v,w.cell? (a.add i) = some v/\VD (fun _=>False) w x v:=by
        intro i x hx
        obtain ⟨y,h1,h2⟩:=hflat _ _ hc hall i x hx
        rw [List.getElem?_map,Option.map_eq_some_iff] at h1
        obtain ⟨z,h3,rfl⟩:=h1
        rw [(hcl _ z h3).1] at h2
        obtain ⟨ec,h4,h5,_⟩:=each _ z h3
        obtain ⟨h6,h7⟩:=cells_get h4
        have hlt:i % P.cellsOf e < P.cellsOf e:=Nat.mod_lt _ hc
        have hv:ec[i % P.cellsOf e]? = some ec[i % P.cellsOf e]:=List.getElem?_eq_getElem (by omega)
        refine ⟨ec[i % P.cellsOf e],?_,h5.2 _ x _ h2 hv⟩
        have h8:=h7 _ hlt
        rw [hv] at h8
        rw [<- h8]
        congr 1
        have hi:=Nat.div_add_mod i (P.cellsOf e)
        rw [Nat.mul_comm] at hi
        generalize i / P.cellsOf e * P.cellsOf e = q at hi
        generalize i % P.cellsOf e = r at hi
        subst hi
        unfold Addr.add
        by_cases hq:q = 0
        . subst hq;simp
        . by_cases hr:r = 0
          . subst hr;simp
          . simp [hq,hr,Nat.add_assoc]
       have hdd:dD P (n + 1) t (DataW.slice (elems.map (·.1)) (rest.map (·.1))) = [.sl (P.cellsOf e) (elems.map fun y=>mkE P e (dD P n e y.1))]:=by
        simp [dD,hu,Function.comp_def]
       rw [hdd]
       refine ⟨.one ?_,?_⟩
       . have spot:∀ (i:Nat) (x:Data),(flat (elems.map fun y=>mkE P e (dD P n e y.1)))[i]? = some x->a.spot = none:=by
          intro i x hx
          have h0:0 < (flat (elems.map fun y=>mkE P e (dD P n e y.1))).length:=by
           have:=(List.getElem?_eq_some_iff.1 hx).1;omega
          obtain ⟨v,hv,_⟩:=key 0 _ (List.getElem?_eq_getElem h0)
          simpa [Addr.add] using (cell_lt hv).2
         refine .sl _ _ (some a) len cap a.block a.off (fun i=>(w.cell? ⟨a.block,a.off + i,none⟩).getD .nilIface) (by simp [hlen]) hlc hcm hall ?_ ?_ ?_
         . by_cases he:elems = []
           . exact .inr (by simp [he])
           . refine .inl ?_
             have h0:0 < elems.length:=List.length_pos_iff.2 he
             obtain ⟨ec,h4,_,_⟩:=each 0 elems[0] (List.getElem?_eq_getElem h0)
             obtain ⟨h6,h7⟩:=cells_get h4
             have h8:=h7 0 hc
             rw [List.getElem?_eq_getElem (by omega)] at h8
             have h9:=cell_lt h8
             simp [Addr.add] at h9
             obtain ⟨ab,ao,az⟩:=a
             simp at h9
             exact ⟨by rw [h9.2],h9.1,fun h=>h⟩
         . intro i x hx
           obtain ⟨v,hv,_⟩:=key i x hx
           have hsp:=spot i x hx
           have:a.add i = ⟨a.block,a.off + i,none⟩:=by
            unfold Addr.add
            split
            . rename_i e0;subst e0;obtain ⟨ab,ao,az⟩:=a;simp at hsp ⊢;exact hsp
            . rfl
           rw [this] at hv
           simp only [hv,Option.getD_some]
         . intro i x hx
           obtain ⟨v,hv,hvd⟩:=key i x hx
           have hsp:=spot i x hx
           have:a.add i = ⟨a.block,a.off + i,none⟩:=by
            unfold Addr.add
            split
            . rename_i e0;subst e0;obtain ⟨ab,ao,az⟩:=a;simp at hsp ⊢;exact hsp
            . rfl
           rw [this] at hv
           simp only [hv,Option.getD_some]
           exact hvd
       . simp only [okD,hu]
         refine ⟨_,rfl,by simpa using hlen2,fun x hx=>?_⟩
         obtain ⟨y,hy,rfl⟩:=List.mem_map.1 hx
         obtain ⟨i,hi⟩:=List.getElem?_of_mem hy
         obtain ⟨ec,_,_,h4⟩:=each i y hi
         exact ⟨_,rfl,h4⟩
   . rename_i fs hu
     obtain ⟨xs,m,rfl,hx,hcl,hxl,hf⟩:=DataW.trod_struct hu h
     cases hx
     simp only [DataW.weights,hu] at hz
     have hw:=weights_each hz
     have hdd:dD P (n + 1) t (DataW.agg (xs.map (·.1))) = dDF (dD P n) fs.toList (xs.map (·.1)):=by simp [dD,hu]
     rw [hdd]
     have hs2:suppF P (supp P n) 0 fs.toList = some (P.cellsOf t):=by simpa using hs
     have go:∀ (l:List Field) (ys:List (DataW H × List MemPlace)) (o:Nat),l.length = ys.length->suppF P (supp P n) o l = some (P.cellsOf t) →
      (∀ (i:Nat) (f:Field),l[i]? = some f->DataW.trod enc P w 0 spare held m f.type ((cs.drop f.offset).take (P.cellsOf f.type)) = ys[i]?) →
      (∀ (i:Nat) (f:Field) (y:DataW H × List MemPlace),l[i]? = some f->ys[i]? = some y->∀ x∈DataW.weights P f.type y.1,x<=reachBytes)->o<=P.cellsOf t/\VDs w (cs.drop o) (dDF (dD P n) l (ys.map (·.1)))/\okF (okD P n) l (dDF (dD P n) l (ys.map (·.1))):=by
      intro l
      induction l with
      | nil =>
        intro ys o hl hs3 _ _
        simp only [suppF,Option.some.injEq] at hs3
        subst hs3
        rw [<- hcl]
        simp only [List.drop_length,dDF]
        exact ⟨Nat.le_refl _,.nil w,rfl⟩
      | cons f l ihl =>
        intro ys o hl hs3 hf3 hw3
        cases ys with
        | nil=>simp at hl
        | cons y ys =>
          simp only [suppF] at hs3
          split at hs3
          . rename_i ho
            obtain ⟨rfl,hsf⟩:=ho
            have h0:=hf3 0 f rfl
            simp only [List.getElem?_cons_zero] at h0
            obtain ⟨h1,h2⟩:=ih m f.type _ y.1 y.2 hsf h0 (hw3 0 f y rfl rfl)
            obtain ⟨h3,h4,h5⟩:=ihl ys (f.offset + P.cellsOf f.type) (by simpa using hl) hs3 (fun i g hg=>by simpa using hf3 (i + 1) g (by simpa using hg)) (fun i g z hg hz'=>hw3 (i + 1) g z (by simpa using hg) (by simpa using hz'))
            refine ⟨by omega,?_,_,_,rfl,h2,h5⟩
            have:cs.drop f.offset = (cs.drop f.offset).take (P.cellsOf f.type)++cs.drop (f.offset + P.cellsOf f.type):=by
             rw [<- List.drop_drop,List.take_append_drop]
            rw [this]
            exact h1.append h4
          . cases hs3
     obtain ⟨_,h1,h2⟩:=go fs.toList xs 0 (by simp [hxl]) hs2 (fun i f hg=>hf i f (by simpa using hg)) (fun i f y hg hy=>hw i f.type y.1 (by simp at hg ⊢;exact ⟨f,hg,rfl⟩) (by simp [hy]))
     refine ⟨by simpa using h1,?_⟩
     simp only [okD,hu]
     exact h2
   . rename_i m e hu
     simp only [Bool.and_eq_true,decide_eq_true_eq] at hs
     obtain ⟨hse,hsz⟩:=hs
     obtain ⟨xs,k,rfl,hx,hcl,hxl,hf⟩:=DataW.trod_array hu h
     cases hx
     simp only [DataW.weights,hu] at hz
     have hw:=weights_all hz
     have hdd:dD P (n + 1) t (DataW.agg (xs.map (·.1))) = (xs.map (·.1)).flatMap (dD P n e):=by simp [dD,hu]
     rw [hdd]
     have go:∀ (j:Nat),j<=m->VDs w (cs.drop ((m - j) * P.cellsOf e)) (((xs.drop (m - j)).map (·.1)).flatMap (dD P n e))/\okA (okD P n e) j (((xs.drop (m - j)).map (·.1)).flatMap (dD P n e)):=by
      intro j
      induction j with
      | zero =>
        intro _
        rw [Nat.sub_zero,<- hsz,<- hcl,<- hxl]
        simp only [List.drop_length,List.map_nil,List.flatMap_nil]
        exact ⟨.nil w,rfl⟩
      | succ j ihj =>
        intro hj
        obtain ⟨h1,h2⟩:=ihj (by omega)
        have hi:m - (j + 1) < m:=by omega
        have hxi:m - (j + 1) < xs.length:=by omega
        have h0:=hf (m - (j + 1)) hi
        rw [List.getElem?_eq_getElem hxi] at h0
        obtain ⟨h3,h4⟩:=ih k e _ xs[m - (j + 1)].1 xs[m - (j + 1)].2 hse h0 (hw _ (List.mem_map.2 ⟨_,List.getElem_mem hxi,rfl⟩))
        have e1:m - (j + 1) + 1 = m - j:=by omega
        rw [List.drop_eq_getElem_cons hxi,e1]
        simp only [List.map_cons,List.flatMap_cons]
        refine ⟨?_,_,_,rfl,h4,h2⟩
        have e2:cs.drop ((m - (j + 1)) * P.cellsOf e) = (cs.drop ((m - (j + 1)) * P.cellsOf e)).take (P.cellsOf e)++cs.drop ((m - j) * P.cellsOf e):=by
         have:(m - j) * P.cellsOf e = (m - (j + 1)) * P.cellsOf e + P.cellsOf e:=by rw [<- e1,Nat.add_mul,Nat.one_mul]
         rw [this,<- List.drop_drop,List.take_append_drop]
        rw [e2]
        exact h3.append h1
     have:=go m (Nat.le_refl _)
     simp only [Nat.sub_self,Nat.zero_mul,List.drop_zero] at this
     refine ⟨this.1,?_⟩
     simp only [okD,hu]
     exact this.2
   . cases hs
def argD (P:Program) (n:Nat) (t:TypeId) (x:Data):Prop:=∃ ds,x = mkE P t ds/\okD P n t ds
theorem read_arg {n:Nat} {base:Nat} {t:TypeId} {v:Value} {d:DataW H} {ps:List MemPlace} (hs:supp P n t = true) (hv:Value.okWide P w .any base t v) (k:DataW.Trod enc P w 0 spare held t v d ps) (hz:(DataW.weights P t d).all (fun x=>decide (x<=reachBytes)) = true) :
 ∃ x,VD (fun _=>False) w x v/\argD P n t x:=by
 obtain ⟨fuel,hf⟩:=k
 obtain ⟨h1,h2⟩:=read_ok n fuel t _ d ps hs hf (fun x hx=>by simpa using List.all_eq_true.1 hz x hx)
 refine ⟨mkE P t (dD P n t d),?_,_,rfl,h2⟩
 generalize dD P n t d = ds at h1 h2
 cases n with
 | zero=>exact h2.elim
 | succ n =>
   have one:∀ x,(∀ cs,v≠.agg cs)->ds = [x]->VD (fun _=>False) w x v:=by
    intro x hna hds
    subst hds
    have:v.cells.toList = [v]:=by
     cases v with
     | agg cs=>exact absurd rfl (hna cs)
     | _=>rfl
    rw [this] at h1
    exact h1.2 0 x v rfl rfl
   unfold Value.okWide at hv
   unfold okD at h2
   unfold mkE
   split at h2
   all_goals rename_i hu;simp only [hu] at hv ⊢
   . obtain ⟨b,rfl⟩:=h2
     exact one _ (fun cs e=>by subst e;simp [Cell.okWide,Cell.ok,hu] at hv) rfl
   . obtain ⟨i,rfl,_⟩:=h2
     exact one _ (fun cs e=>by subst e;simp [Cell.okWide,Cell.ok,hu] at hv) rfl
   . obtain ⟨s,rfl,_⟩:=h2
     exact one _ (fun cs e=>by subst e;simp [Cell.okWide,Cell.ok,hu] at hv) rfl
   . obtain ⟨l,rfl,_⟩:=h2
     exact one _ (fun cs e=>by subst e;simp [Cell.okWide,Cell.ok,hu] at hv) rfl
   . obtain ⟨cs,rfl,_⟩:=hv
     exact .agg _ _ (by simpa [Value.cells] using h1.1) (fun i x u hx hu=>h1.2 i x u hx (by simpa [Value.cells] using hu))
   . obtain ⟨cs,rfl,_⟩:=hv
     exact .agg _ _ (by simpa [Value.cells] using h1.1) (fun i x u hx hu=>h1.2 i x u hx (by simpa [Value.cells] using hu))
   . exact h2.elim
theorem calls_of_pc {Γ:Nat->Option (List Data)} {f:FuncId} {xs:List Data} {vs:Array Value} (hg:Glob Γ (fun _=>False) w) (h:PC P Γ f xs (.bool true)) (hl:xs.length = vs.size)
 (hv:∀ (i:Nat) (x:Data) (v:Value),xs[i]? = some x->vs[i]? = some v->VD (fun _=>False) w x v) :
 Calls P f vs w fun e w'=>e = .returned (.bool true)/\Below w.heap.size w w':=by
 refine (h.2 (fun _=>False) w vs hg (fun b hb=>hb.elim) hl hv).mono fun e w' ⟨v,he,hvd,hb⟩=>?_
 cases hvd
 exact ⟨he,hb⟩
theorem vdl {x0:Data} {v0:Value} {xs:List Data} {vs:List Value} (h0:VD (fun _=>False) w x0 v0) (h:∀ (i:Nat) (x:Data) (v:Value),xs[i]? = some x->vs[i]? = some v->VD (fun _=>False) w x v) :
 ∀ (i:Nat) (x:Data) (v:Value),(x0 :: xs)[i]? = some x->(v0 :: vs)[i]? = some v->VD (fun _=>False) w x v:=fun i x v hx hv=>by
 match i with
 | 0=>simp at hx hv;subst hx;subst hv;exact h0
 | i + 1=>exact h i x v (by simpa using hx) (by simpa using hv)
theorem glob_of {n:Nat} {nm:String} {g:Nat} {t:TypeId} {cs:Array Value} {fuel:Nat} {d:DataW H} {ps:List MemPlace} (hs:supp P n t = true) (hg:P.globalNamed nm = some g) (hv:w.var? P nm = some cs)
 (hd:DataW.trod enc P w 0 spare held fuel t cs.toList = some (d,ps)) (hz:(DataW.weights P t d).all (fun x=>decide (x<=reachBytes)) = true) (hne:dD P n t d≠[]) :
 VV (fun _=>False) w (fun _=>.res) (.cptr (dD P n t d)) (.pointer (some ⟨g,0,none⟩)):=by
 obtain ⟨h1,h2⟩:=read_ok n fuel t _ d ps hs hd (fun x hx=>by simpa using List.all_eq_true.1 hz x hx)
 have hc:∀ (i:Nat) (x:Data),(dD P n t d)[i]? = some x->∃ v,w.cell? ⟨g,0 + i,none⟩ = some v/\VD (fun _=>False) w x v:=by
  intro i x hx
  have hi:i < cs.size:=by
   have:=(List.getElem?_eq_some_iff.1 hx).1
   rw [h1.1] at this;simpa using this
  have hcell:=World.var?_cell hg hv i
  rw [Array.getElem?_eq_getElem hi] at hcell
  refine ⟨cs[i],by simpa using hcell,h1.2 i x _ hx (by simp [hi])⟩
 have h0:0 < (dD P n t d).length:=List.length_pos_iff.2 hne
 obtain ⟨v,hv0,_⟩:=hc 0 _ (List.getElem?_eq_getElem h0)
 refine .cptr _ g 0 (fun i=>(w.cell? ⟨g,0 + i,none⟩).getD .nilIface) (cell_lt hv0).1 (fun h=>h) (fun i x hx=>?_) (fun i x hx=>?_)
 . obtain ⟨v,hv,_⟩:=hc i x hx
   simp only [hv,Option.getD_some]
 . obtain ⟨v,hv,hvd⟩:=hc i x hx
   simp only [hv,Option.getD_some]
   exact hvd
end
def u8 (n:Nat):Data:=.int .u8 n
def bys (l:List Nat):List Data:=l.map u8
@[go_sem] theorem flat_bys (l:List Nat):flat (bys l) = bys l:=by
 induction l with
 | nil=>rfl
 | cons x l ih=>simp [bys,flat,u8,Data.cells] at ih ⊢;simpa [u8] using ih
@[go_sem] theorem bys_nil:bys [] = []:=rfl
@[go_sem] theorem bys_length (l:List Nat):(bys l).length = l.length:=by simp [bys]
theorem bys_cell' (l:List Nat):∀ x∈bys l,x.cell = true:=fun x hx=>by
 obtain ⟨n,_,rfl⟩:=List.mem_map.1 hx
 rfl
@[go_sem] theorem bys_cell (l:List Nat):(∀ x∈bys l,x.cell = true) ↔ True:=iff_true_intro (bys_cell' l)
theorem bys_cells (l:List Nat):∀ x∈bys l,x.cells.length = 1:=fun x hx=>by
 obtain ⟨n,_,rfl⟩:=List.mem_map.1 hx
 rfl
@[go_sem] theorem bys_take (l:List Nat) (n:Nat):(bys l).take n = bys (l.take n):=by simp [bys,List.map_take]
@[go_sem] theorem bys_drop (l:List Nat) (n:Nat):(bys l).drop n = bys (l.drop n):=by simp [bys,List.map_drop]
@[go_sem] theorem bys_get (l:List Nat) (i:Nat):(bys l)[i]? = (l[i]?).map u8:=by simp [bys]
@[go_sem] theorem bysd_take (l:List Nat) (n:Nat):((bys l).map D.data).take n = (bys (l.take n)).map D.data:=by rw [<- bys_take,List.map_take]
@[go_sem] theorem bysd_drop (l:List Nat) (n:Nat):((bys l).map D.data).drop n = (bys (l.drop n)).map D.data:=by rw [<- bys_drop,List.map_drop]
@[go_sem] theorem bysd_append (a b:List Nat):(bys a).map D.data++(bys b).map D.data = (bys (a++b)).map D.data:=by simp [bys]
@[go_sem] theorem bysd_rep (n:Nat):List.replicate n (D.data (.int .u8 0)) = (bys (List.replicate n 0)).map D.data:=by simp [bys,u8]
@[go_sem] theorem data_u8 (n:Nat):D.data (u8 n) = .data (.int .u8 n):=rfl
@[go_sem] theorem u8_cell (n:Nat):(u8 n).cell = true:=rfl
@[go_sem] theorem u8_cells (n:Nat):(u8 n).cells = [u8 n]:=rfl
theorem call_kept {P:Program} {Γ:Nat->Option (List Data)} {f:FuncId} {H:Nat->Blk} {K:D->List Nat->List (Nat × Blk)->Prop} (g n:Nat) (l:List Nat) {r:Data} (h:PC P Γ f [.sl 1 (bys l)] r) (hg:H g = .blk true ((bys l).map D.data)) (hn:l.length = n)
 (k:K (.data r) [g] [(g,.blk false ((bys l).map D.data))]):callK P Γ f [.ref g 0 n 1] H K:=by
 refine call_frz [g] [g] (fun q hq=>⟨true,_,by simp at hq;subst hq;exact hg⟩) h (fun H' hH'=>?_) ?_
 . refine frzL_c (frz_ref (rw:=false) (cells:=(bys l).map D.data) ?_ (.inr rfl) (by rw [bys_length,hn]) (bys_cells _) (by rw [flat_bys])) frzL_n
   simp [Hp.upd,Hp.set,hg,fz]
 . simp only [List.map_cons,List.map_nil,hg,fz]
   exact k
theorem frz_bys {ok:Bool} {H:Nat->Blk} {g n:Nat} {l:List Nat} {rw:Bool} (hg:H g = .blk rw ((bys l).map D.data)) (hrw:ok = true \/ rw = false) (hn:l.length = n):Frz ok H (.ref g 0 n 1) (.sl 1 (bys l)) :=
 frz_ref hg hrw (by rw [bys_length,hn]) (bys_cells l) (by rw [flat_bys])
theorem over_mid {A old new rest:List D} (h:old.length = new.length):over (A++(old++rest)) A.length new = A++(new++rest):=by
 have gen:(A++(old++rest)).take A.length++new++(A++(old++rest)).drop (A.length + new.length) = A++(new++rest):=by
  rw [List.take_left,<- h,<- List.drop_drop,List.drop_left,List.drop_left,List.append_assoc]
 match new,h with
 | [],h=>exact gen
 | [d],h =>
   match old,h with
   | [o],_=>simp [over]
 | a :: b :: new,h=>exact gen
def plainD:D->Bool
 | .data _ | .emp _=>true
 | _=>false
theorem renCells_plain {n:Nat} {ρ:Nat->Option Nat} {H:Nat->Blk} {cs ds:List D} (e:cs = ds) (h:cs.all plainD = true):RenCells n ρ H cs ds:=by
 subst e
 refine ⟨Nat.le_refl _,fun i c d hc hd=>?_⟩
 rw [hc] at hd;cases hd
 have:=List.all_eq_true.1 h c (List.mem_of_getElem? hc)
 cases c with
 | data x=>exact .data x
 | emp es=>exact .emp es es
 | _=>cases this
theorem frz_aggL {ok:Bool} {H:Nat->Blk} {cs:List D} {xs:List Data} (h:FrzL ok H cs xs):Frz ok H (.agg cs) (.agg xs):=.agg cs xs h.1 h.2
def toStr (l:List Nat):ByteArray:=⟨(l.map UInt8.ofNat).toArray⟩
theorem bys_u8 {l:List Nat} (h:∀ x∈l,x < 256):bys l = (l.map UInt8.ofNat).map (fun b=>Data.int .u8 (b.toNat:Int)):=by
 unfold bys u8
 rw [List.map_map]
 refine List.map_congr_left fun x hx=>?_
 have:=h x hx
 simp only [Function.comp,UInt8.toNat_ofNat']
 congr 1
 omega
theorem conv_bys {P:Program} {s d e:TypeId} {l:List Nat} {K:D->Prop} (hb:∀ x∈l,x < 256) (ht:strT P d = true) (hs:sliceT P s = some e) (he:intT P e = some .u8) (k:K (.data (.str (toStr l)))):convK P s d (.data (.sl 1 (bys l))) K :=
 ⟨rfl,ht,by simp only [hs];exact he,_,bys_u8 hb,k⟩
theorem wf_nat {k:IntKind} {i:Int} (h:(Lit.int k i).wf = true):k.min<=i/\i<=k.max:=by simpa [Lit.wf] using h
section
variable {P:Program} {n:Nat} {t e:TypeId} {x:Data}
theorem arg_int {k:IntKind} (hu:P.underlying t = some (.int k)) (a:argD P (n + 1) t x):∃ i:Int,k.min<=i/\i<=k.max/\x = .int k i:=by
 obtain ⟨ds,rfl,h⟩:=a
 simp only [okD,hu] at h
 obtain ⟨i,rfl,hw⟩:=h
 have:=wf_nat hw
 exact ⟨i,this.1,this.2,by simp [mkE,hu]⟩
theorem arg_nat {k:IntKind} (hk:k.signed = false) (hu:P.underlying t = some (.int k)) (a:argD P (n + 1) t x):∃ i:Nat,i < 2 ^ k.bits/\x = .int k i:=by
 obtain ⟨i,h1,h2,rfl⟩:=arg_int hu a
 simp [IntKind.min,IntKind.max,hk] at h1 h2
 obtain ⟨j,rfl⟩:=Int.eq_ofNat_of_zero_le h1
 have:((2 ^ k.bits:Nat):Int) = 2 ^ k.bits:=by simp
 exact ⟨j,by omega,rfl⟩
theorem nums_of {k:IntKind} (hk:k.signed = false) (hu:P.underlying e = some (.int k)):∀ l:List Data,(∀ x∈l,∃ es,x = mkE P e es/\okD P (n + 1) e es)->∃ m:List Nat,l = m.map (fun i:Nat=>Data.int k i)/\∀ b∈m,b < 2 ^ k.bits
 | [],_=>⟨[],rfl,by simp⟩
 | y :: l,h=>by
   obtain ⟨m,rfl,hm⟩:=nums_of hk hu l fun x hx=>h x (by simp [hx])
   obtain ⟨i,hi,rfl⟩:=arg_nat hk hu (h y (by simp))
   exact ⟨i :: m,rfl,by simpa using ⟨hi,hm⟩⟩
theorem okA_nums {k:IntKind} (hk:k.signed = false) (hu:P.underlying e = some (.int k)):∀ (m:Nat) (ds:List Data),okA (okD P (n + 1) e) m ds->∃ l:List Nat,l.length = m/\ds = l.map (fun i:Nat=>Data.int k i)/\∀ b∈l,b < 2 ^ k.bits
 | 0,ds,h=>⟨[],rfl,h,by simp⟩
 | m + 1,ds,h=>by
   obtain ⟨a,b,rfl,h1,h2⟩:=h
   obtain ⟨l,rfl,rfl,hl⟩:=okA_nums hk hu m b h2
   simp only [okD,hu] at h1
   obtain ⟨i,rfl,hw⟩:=h1
   have:=wf_nat hw
   simp [IntKind.min,IntKind.max,hk] at this
   obtain ⟨j,rfl⟩:=Int.eq_ofNat_of_zero_le this.1
   have e2:((2 ^ k.bits:Nat):Int) = 2 ^ k.bits:=by simp
   exact ⟨j :: l,rfl,rfl,by simpa using ⟨by omega,hl⟩⟩
theorem okA_bytes (hu:P.underlying e = some (.int .u8)) (m:Nat) (ds:List Data) (h:okA (okD P (n + 1) e) m ds):∃ l:List Nat,l.length = m/\(∀ b∈l,b < 256)/\ds = bys l:=by
 obtain ⟨l,h1,rfl,h2⟩:=okA_nums (n:=n) (k:=.u8) rfl hu m ds h
 exact ⟨l,h1,h2,by simp [bys];intro a _;rfl⟩
theorem arg_abytes {m:Nat} (hu:P.underlying t = some (.array m e)) (he:P.underlying e = some (.int .u8)) (a:argD P (n + 2) t x):∃ l:List Nat,l.length = m/\(∀ b∈l,b < 256)/\x = .agg (bys l):=by
 obtain ⟨ds,rfl,h⟩:=a
 simp only [okD,hu] at h
 obtain ⟨l,h1,h2,rfl⟩:=okA_bytes (n:=n) he m ds h
 exact ⟨l,h1,h2,by simp [mkE,hu]⟩
theorem arg_struct {fs:Array Field} (hu:P.underlying t = some (.struct fs)) (a:argD P (n + 1) t x):∃ ds,x = .agg ds/\okF (okD P n) fs.toList ds:=by
 obtain ⟨ds,rfl,h⟩:=a
 simp only [okD,hu] at h
 exact ⟨ds,by simp [mkE,hu],h⟩
theorem okF_cons {o:TypeId->List Data->Prop} {f:Field} {fs:List Field} {ds:List Data} (h:okF o (f :: fs) ds):∃ a b,ds = a++b/\o f.type a/\okF o fs b:=h
theorem okF_nil {o:TypeId->List Data->Prop} {ds:List Data} (h:okF o [] ds):ds = []:=h
theorem ok_bytes {ds:List Data} (hu:P.underlying t = some (.slice e)) (he:P.underlying e = some (.int .u8)) (hc:P.cellsOf e = 1) (h:okD P (n + 2) t ds):∃ l:List Nat,(∀ b∈l,b < 256)/\l.length<=140737488351232/\ds = [.sl 1 (bys l)]:=by
 unfold okD at h
 simp only [hu,hc] at h
 obtain ⟨l,rfl,hl,hx⟩:=h
 obtain ⟨m,rfl,hm⟩:=nums_of (n:=n) (k:=.u8) rfl he l hx
 exact ⟨m,hm,by simpa [reachBytes] using hl,by simp [bys];intro a _;rfl⟩
theorem ok_abytes {m:Nat} {ds:List Data} (hu:P.underlying t = some (.array m e)) (he:P.underlying e = some (.int .u8)) (h:okD P (n + 2) t ds):∃ l:List Nat,l.length = m/\(∀ b∈l,b < 256)/\ds = bys l:=by
 unfold okD at h
 simp only [hu] at h
 exact okA_bytes (n:=n) he m ds h
theorem ok_int {k:IntKind} {ds:List Data} (hu:P.underlying t = some (.int k)) (h:okD P (n + 1) t ds):∃ i:Int,k.min<=i/\i<=k.max/\ds = [.int k i]:=by
 unfold okD at h
 simp only [hu] at h
 obtain ⟨i,rfl,hw⟩:=h
 have:=wf_nat hw
 exact ⟨i,this.1,this.2,rfl⟩
theorem ok_i64 {ds:List Data} (hu:P.underlying t = some (.int .i64)) (h:okD P (n + 1) t ds):∃ i:Int,-9223372036854775808<=i/\i<=9223372036854775807/\ds = [.int .i64 i]:=by
 obtain ⟨i,h1,h2,rfl⟩:=ok_int hu h
 simp [IntKind.min,IntKind.max,IntKind.signed,IntKind.bits] at h1 h2
 exact ⟨i,h1,h2,rfl⟩
theorem ok_slice {ds:List Data} (hu:P.underlying t = some (.slice e)) (h:okD P (n + 1) t ds):∃ l,ds = [.sl (P.cellsOf e) l]/\l.length<=140737488351232/\∀ x∈l,argD P n e x:=by
 unfold okD at h
 simp only [hu] at h
 obtain ⟨l,h1,h2,h3⟩:=h
 exact ⟨l,h1,by simpa [reachBytes] using h2,h3⟩
theorem arg_slice (hu:P.underlying t = some (.slice e)) (a:argD P (n + 1) t x):∃ l,x = .sl (P.cellsOf e) l/\l.length<=140737488351232/\∀ x∈l,argD P n e x:=by
 obtain ⟨ds,rfl,h⟩:=a
 obtain ⟨l,rfl,h1,h2⟩:=ok_slice hu h
 exact ⟨l,by simp [mkE,hu],h1,h2⟩
end
@[go_sem] theorem dec_yes {p:Prop} [Decidable p] (h:p):decide p = true:=decide_eq_true h
@[go_sem] theorem dec_no {p:Prop} [Decidable p] (h:¬ p):decide p = false:=decide_eq_false h
section
variable (P:Program) (Γ:Nat->Option (List Data))
/- Regions of more than 64 operations: their list is put together of two. -/
@[go_sem] theorem opsW_app (ops:Array Oper) (o:Oper) (l r:List Oper) (s:St) (K:St->Prop):opsW P Γ ops (List.append (o :: l) r) s K = opsW P Γ ops (o :: List.append l r) s K:=rfl
@[go_sem] theorem opsW_app_nil (ops:Array Oper) (r:List Oper) (s:St) (K:St->Prop):opsW P Γ ops (List.append [] r) s K = opsW P Γ ops r s K:=rfl
@[go_sem] theorem drawW_app (ops:Array Oper) (o:Oper) (l r:List Oper) (s:St) (tr:List Tr) (K:St->List Tr->Prop):drawW P Γ ops (List.append (o :: l) r) s tr K = drawW P Γ ops (o :: List.append l r) s tr K:=rfl
@[go_sem] theorem drawW_app_nil (ops:Array Oper) (r:List Oper) (s:St) (tr:List Tr) (K:St->List Tr->Prop):drawW P Γ ops (List.append [] r) s tr K = drawW P Γ ops r s tr K:=rfl
end
def pan (x:Value):List PanicEntry:=[{ v:=x,recovered:=false }]
def DX (P:Program) (Γ:Nat->Option (List Data)) (f:FuncId) (ds:List D) (H:Nat->Blk) (nx:Nat) (K:D->(Nat->Blk)->Nat->Prop) (X:Value->(Nat->Blk)->Nat->Prop):Prop :=
 CallOk P f/\∀ (L0:Nat->Prop) (w0:W0) (m:Nat->MB) (w:World) (vs:Array Value),WR Γ L0 w0 m H w->(∀ g,nx<=g->m g = .res)->(∀ g,nx<=g->H g = .dead)->ds.length = vs.size->(∀ (i:Nat) (d:D) (v:Value),ds[i]? = some d->vs[i]? = some v->VV (Live L0 m H) w m d v) →
  Calls P f vs w fun e w'=>∃ H' nx' m',WR Γ L0 w0 m' H' w'/\Grow (Live L0 m H) w (Live L0 m' H') w'/\(∀ g,g < nx->m' g = m g)/\(∀ g,nx'<=g->m' g = .res)/\nx<=nx' /\
   ((∃ v d,e = .returned v/\VV (Live L0 m' H') w' m' d v/\K d H' nx') \/ ∃ x,e = .panicked (pan x)/\X x H' nx')
theorem DX.mono {P:Program} {Γ:Nat->Option (List Data)} {f:FuncId} {ds:List D} {H:Nat->Blk} {nx:Nat} {K K':D->(Nat->Blk)->Nat->Prop} {X X':Value->(Nat->Blk)->Nat->Prop} (h:DX P Γ f ds H nx K X) (hk:∀ d H' nx',K d H' nx'->K' d H' nx') (hx:∀ v H' nx',X v H' nx'->X' v H' nx'):DX P Γ f ds H nx K' X' :=
 ⟨h.1,fun L0 w0 m w vs a b c d e=>(h.2 L0 w0 m w vs a b c d e).mono fun e w' ⟨H',nx',m',k1,k2,k3,k4,k5,k6⟩=>⟨H',nx',m',k1,k2,k3,k4,k5,k6.imp (fun ⟨v,d,a,b,c⟩=>⟨v,d,a,b,hk _ _ _ c⟩) (fun ⟨x,a,b⟩=>⟨x,a,hx _ _ _ b⟩)⟩⟩
end Go.Proofs.YtafcdeegcfmcpaaDoor
