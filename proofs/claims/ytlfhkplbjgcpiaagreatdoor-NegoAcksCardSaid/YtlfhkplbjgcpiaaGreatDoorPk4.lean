/- What the walk's simp goes by. What the walk's simp goes by, second part: code, calls, loops. Functions that hand back rows of their own, which the caller may write: a contract of its own (OC), and its use in a call. Calls in operations whose order is open that hand back rows of their own, or that write rows of the caller's. Arrays of numbers, held against each other. -/
import Derived.Test.YtlfhkplbjgcpiaaGreatDoorPk3
import Derived.Laws.Bits64
import Derived.Laws.BitsAllLaws
import Derived.DeepKeys
import Derived.Laws.StructEq
namespace Go.Proofs.YtlfhkplbjgcpiaaGreatDoor
open Go.RowKit
set_option linter.unusedSimpArgs false
set_option linter.unusedVariables false
set_option maxRecDepth 100000
/-- It makes a congruence a step of its own: what the congruence leaves out is not visited. -/
@[irreducible] def tick:Nat:=0
@[go_sem] theorem tick_eq:tick = 0:=Nat.le_antisymm (by unfold tick;exact Nat.le_refl _) (Nat.zero_le _)
@[go_sem] theorem stepSt_eq (e:Nat->D) (H:Nat->Blk) (nx lo nt:Nat) (o:Oper) (d:D) (u:List (Nat × Blk)):stepSt ⟨e,H,nx,lo,nt⟩ o d u = ⟨Env.dst e o.dst d,Hp.upd H u,nx + 1,lo,nt⟩:=rfl
@[go_sem] theorem dst_some (e:Nat->D) (t:Nat) (d:D):Env.dst e (some t) d = Env.set e t d:=rfl
@[go_sem] theorem dst_none (e:Nat->D) (d:D):Env.dst e none d = e:=rfl
@[go_sem] theorem set_get (e:Nat->D) (t j:Nat) (d:D):Env.set e t d j = if j = t then d else e j:=rfl
@[go_sem] theorem hset_get (H:Nat->Blk) (t j:Nat) (b:Blk):Hp.set H t b j = if j = t then b else H j:=rfl
@[go_sem] theorem hset_hset (H:Nat->Blk) (t:Nat) (b c:Blk):Hp.set (Hp.set H t b) t c = Hp.set H t c:=by
 funext j
 unfold Hp.set
 split <;> rfl
@[go_sem] theorem upd_nil (H:Nat->Blk):Hp.upd H [] = H:=rfl
@[go_sem] theorem upd_cons (H:Nat->Blk) (g:Nat) (b:Blk) (l:List (Nat × Blk)):Hp.upd H ((g,b) :: l) = Hp.upd (Hp.set H g b) l:=rfl
@[go_sem] theorem ifW_true (x y:Prop):ifW true x y = x:=rfl
@[go_sem] theorem ifW_false (x y:Prop):ifW false x y = y:=rfl
@[congr] theorem ifW_congr {n0:Nat} (tk:tick = n0) {b b':Bool} (x y:Prop) (h:b = b'):ifW b x y = ifW b' x y:=by rw [h]
@[congr] theorem callK_congr {n0:Nat} (tk:tick = n0) (P:Program) (Γ:Nat->Option (List Data)) (f:FuncId) {ds ds':List D} (h:ds = ds') (H:Nat->Blk) (K:D->List Nat->List (Nat × Blk)->Prop):callK P Γ f ds H K = callK P Γ f ds' H K:=by rw [h]
@[congr] theorem DC_congr {n0:Nat} (tk:tick = n0) (P:Program) (Γ:Nat->Option (List Data)) (f:FuncId) {ds ds':List D} (h:ds = ds') {H H':Nat->Blk} (hH:H = H') {nx nx':Nat} (hn:nx = nx') (K:D->(Nat->Blk)->Nat->Prop):DC P Γ f ds H nx K = DC P Γ f ds' H' nx' K:=by rw [h,hH,hn]
@[congr] theorem eqK_congr {n0:Nat} (tk:tick = n0) (P:Program) (t:TypeId) {x x' y y':Data} (hx:x = x') (hy:y = y') (K:Bool->Prop):eqK P t x y K = eqK P t x' y' K:=by rw [hx,hy]
@[congr] theorem LoopW_congr {n0:Nat} (tk:tick = n0) (body:(Exit->St->Prop)->St->Prop) (Q:Exit->St->Prop) {s s':St} (h:s = s'):LoopW body Q s = LoopW body Q s':=by rw [h]
@[congr] theorem drawOk2_congr {n0:Nat} (tk:tick = n0) (ops:Array Oper) (tr:List Tr) (a b:Nat):drawOk2 ops tr a b = drawOk2 ops tr a b:=rfl
@[congr] theorem effC_congr {n0:Nat} (tk:tick = n0) (P:Program) (Γ:Nat->Option (List Data)) (f:FuncId) {ds ds':List D} (h:ds = ds') (H:Nat->Blk) (fr:Nat) (K:D->List Nat->List (Nat × Blk)->Nat->Prop):effC P Γ f ds H fr K = effC P Γ f ds' H fr K:=by rw [h]
@[congr] theorem drawOk_congr {n0:Nat} (tk:tick = n0) (ops:Array Oper) (tr:List Tr):drawOk ops tr = drawOk ops tr:=rfl
@[congr] theorem PC_congr {n0:Nat} (tk:tick = n0) (P:Program) (Γ:Nat->Option (List Data)) (f:FuncId) (xs:List Data) (r:Data):PC P Γ f xs r = PC P Γ f xs r:=rfl
@[go_sem] theorem allData_nil:allData [] = some []:=rfl
@[go_sem] theorem allData_data (x:Data) (l:List D):allData (.data x :: l) = (allData l).map (x :: ·):=rfl
@[go_sem] theorem allData_fn (f:FuncId) (c:List D) (l:List D):allData (.fn f c :: l) = none:=rfl
@[go_sem] theorem allData_ref (g o n s:Nat) (l:List D):allData (.ref g o n s :: l) = none:=rfl
@[go_sem] theorem allData_emp (s:Nat) (l:List D):allData (.emp s :: l) = none:=rfl
@[go_sem] theorem allData_ptr (g o:Nat) (l:List D):allData (.ptr g o :: l) = none:=rfl
@[go_sem] theorem allData_junk (l:List D):allData (.junk :: l) = none:=rfl
@[go_sem] theorem dcells_agg (cs:List Data):D.cells (.data (.agg cs)) = cs.map .data:=rfl
@[go_sem] theorem dcells_int (k:IntKind) (n:Int):D.cells (.data (.int k n)) = [.data (.int k n)]:=rfl
@[go_sem] theorem dcells_bool (b:Bool):D.cells (.data (.bool b)) = [.data (.bool b)]:=rfl
@[go_sem] theorem dcells_str (b:ByteArray):D.cells (.data (.str b)) = [.data (.str b)]:=rfl
@[go_sem] theorem dcells_sl (n:Nat) (l:List Data):D.cells (.data (.sl n l)) = [.data (.sl n l)]:=rfl
@[go_sem] theorem dcells_nilf:D.cells (.data .nilf) = [.data .nilf]:=rfl
@[go_sem] theorem dcells_nili:D.cells (.data .nili) = [.data .nili]:=rfl
@[go_sem] theorem dcells_nilp:D.cells (.data .nilp) = [.data .nilp]:=rfl
@[go_sem] theorem dcells_nilm:D.cells (.data .nilm) = [.data .nilm]:=rfl
@[go_sem] theorem dcells_ifc (t:TypeId) (d:Data):D.cells (.data (.ifc t d)) = [.data (.ifc t d)]:=rfl
@[go_sem] theorem dcells_dbn (f:FuncId) (r:Data):D.cells (.data (.bn f r)) = [.data (.bn f r)]:=rfl
@[go_sem] theorem dcells_dfn (f:FuncId) (c:List Data):D.cells (.data (.fn f c)) = [.data (.fn f c)]:=rfl
@[go_sem] theorem dcells_dmp (ks xs:List Data):D.cells (.data (.mp ks xs)) = [.data (.mp ks xs)]:=rfl
@[go_sem] theorem dcells_ful (s:Nat) (l:List Data):D.cells (.ful s l) = [.ful s l]:=rfl
@[go_sem] theorem dcells_cut (g o n c s:Nat):D.cells (.cut g o n c s) = [.cut g o n c s]:=rfl
@[go_sem] theorem dcells_bnd (f:FuncId) (r:D):D.cells (.bnd f r) = [.bnd f r]:=rfl
@[go_sem] theorem dcell_bnd (f:FuncId) (r:D):D.cell (.bnd f r) = true:=rfl
@[go_sem] theorem allData_bnd (f:FuncId) (r:D) (l:List D):allData (.bnd f r :: l) = none:=rfl
@[go_sem] theorem dcells_mref (g:Nat):D.cells (.mref g) = [.mref g]:=rfl
@[go_sem] theorem dcell_mref (g:Nat):D.cell (.mref g) = true:=rfl
@[go_sem] theorem dcell_ful (s:Nat) (l:List Data):D.cell (.ful s l) = true:=rfl
@[go_sem] theorem dcell_cut (g o n c s:Nat):D.cell (.cut g o n c s) = true:=rfl
@[go_sem] theorem allData_ful (s:Nat) (x:List Data) (l:List D):allData (.ful s x :: l) = none:=rfl
@[go_sem] theorem allData_cut (g o n c s:Nat) (l:List D):allData (.cut g o n c s :: l) = none:=rfl
@[go_sem] theorem allData_mref (g:Nat) (l:List D):allData (.mref g :: l) = none:=rfl
@[go_sem] theorem allData_agg (c:List D) (l:List D):allData (.agg c :: l) = none:=rfl
@[go_sem] theorem allData_cptr (c:List Data) (l:List D):allData (.cptr c :: l) = none:=rfl
@[go_sem] theorem dcells_emp (n:Nat):D.cells (.emp n) = [.emp n]:=rfl
@[go_sem] theorem dcells_ref (g o n s:Nat):D.cells (.ref g o n s) = [.ref g o n s]:=rfl
@[go_sem] theorem dcells_ptr (g o:Nat):D.cells (.ptr g o) = [.ptr g o]:=rfl
@[go_sem] theorem dcells_fn (f:FuncId) (c:List D):D.cells (.fn f c) = [.fn f c]:=rfl
@[go_sem] theorem dcells_dagg (cs:List D):D.cells (.agg cs) = cs:=rfl
@[go_sem] theorem cells_agg (cs:List Data):Data.cells (.agg cs) = cs:=rfl
@[go_sem] theorem cells_int (k:IntKind) (n:Int):Data.cells (.int k n) = [.int k n]:=rfl
@[go_sem] theorem cells_bool (b:Bool):Data.cells (.bool b) = [.bool b]:=rfl
@[go_sem] theorem cells_str (b:ByteArray):Data.cells (.str b) = [.str b]:=rfl
@[go_sem] theorem cells_sl (n:Nat) (l:List Data):Data.cells (.sl n l) = [.sl n l]:=rfl
@[go_sem] theorem dcell_data (x:Data):D.cell (.data x) = x.cell:=rfl
@[go_sem] theorem dcell_ref (g o n s:Nat):D.cell (.ref g o n s) = true:=rfl
@[go_sem] theorem dcell_ptr (g o:Nat):D.cell (.ptr g o) = true:=rfl
@[go_sem] theorem dcell_emp (n:Nat):D.cell (.emp n) = true:=rfl
@[go_sem] theorem dcell_fn (f:FuncId) (c:List D):D.cell (.fn f c) = true:=rfl
@[go_sem] theorem cell_int (k:IntKind) (n:Int):Data.cell (.int k n) = true:=rfl
@[go_sem] theorem cell_bool (b:Bool):Data.cell (.bool b) = true:=rfl
@[go_sem] theorem cell_str (b:ByteArray):Data.cell (.str b) = true:=rfl
@[go_sem] theorem cell_sl (n:Nat) (l:List Data):Data.cell (.sl n l) = true:=rfl
@[go_sem] theorem cell_nilf:Data.cell .nilf = true:=rfl
@[go_sem] theorem cell_nili:Data.cell .nili = true:=rfl
@[go_sem] theorem cell_nilp:Data.cell .nilp = true:=rfl
@[go_sem] theorem cell_nilm:Data.cell .nilm = true:=rfl
@[go_sem] theorem cell_bn (f:FuncId) (r:Data):Data.cell (.bn f r) = true:=rfl
@[go_sem] theorem cell_fn (f:FuncId) (c:List Data):Data.cell (.fn f c) = true:=rfl
@[go_sem] theorem cell_mp (ks xs:List Data):Data.cell (.mp ks xs) = true:=rfl
@[go_sem] theorem cell_pc (c:List Data):Data.cell (.pc c) = true:=rfl
@[go_sem] theorem cell_ifc (t:TypeId) (d:Data):Data.cell (.ifc t d) = true:=rfl
@[go_sem] theorem over_one (cells:List D) (off:Nat) (d:D):over cells off [d] = cells.set off d:=rfl
@[go_sem] theorem over_two (cells:List D) (off:Nat) (a b:D) (vs:List D):over cells off (a :: b :: vs) = cells.take off++(a :: b :: vs)++cells.drop (off + (a :: b :: vs).length):=rfl
@[go_sem] theorem frzL_nil (ok:Bool) (H:Nat->Blk) (xs:List Data):FrzL ok H [] xs ↔ xs = []:=by
 constructor
 · rintro ⟨h,_⟩;exact List.eq_nil_of_length_eq_zero h.symm
 · rintro rfl;exact ⟨rfl,fun i d x h=>by simp at h⟩
@[go_sem] theorem frzL_cons (ok:Bool) (H:Nat->Blk) (d:D) (ds:List D) (xs:List Data):FrzL ok H (d :: ds) xs ↔ ∃ y ys,xs = y :: ys∧Frz ok H d y∧FrzL ok H ds ys:=by
 constructor
 · rintro ⟨h,hh⟩
   cases xs with
   | nil=>simp at h
   | cons y ys=>exact ⟨y,ys,rfl,hh 0 d y rfl rfl,by simpa using h,fun i d x h1 h2=>hh (i + 1) d x (by simpa using h1) (by simpa using h2)⟩
 · rintro ⟨y,ys,rfl,h1,h2,h3⟩
   refine ⟨by simp [h2],fun i d' x h4 h5=>?_⟩
   match i with
   | 0=>simp at h4 h5;subst h4;subst h5;exact h1
   | i + 1=>exact h3 i d' x (by simpa using h4) (by simpa using h5)
@[go_sem] theorem frz_data (ok:Bool) (H:Nat->Blk) (x y:Data):Frz ok H (.data x) y ↔ y = x:=by
 constructor
 · intro h;cases h;rfl
 · rintro rfl;exact .data _
@[go_sem] theorem frz_fn (ok:Bool) (H:Nat->Blk) (f:FuncId) (c:List D) (y:Data):Frz ok H (.fn f c) y ↔ ∃ xs,y = .fn f xs∧FrzL ok H c xs:=by
 constructor
 · intro h;cases h with | fn _ _ xs hl hh=>exact ⟨xs,rfl,hl,hh⟩
 · rintro ⟨xs,rfl,hl,hh⟩;exact .fn f c xs hl hh
/-- A pointer into a block of which the cells are read out. -/
theorem frz_ptrL {ok:Bool} {H:Nat->Blk} {g off:Nat} {rw:Bool} {cells:List D} {l:List Data} (hg:H g = .blk rw cells) (hrw:ok = true ∨ rw = false) (h:FrzL ok H ((cells.drop off).take l.length) l):Frz ok H (.ptr g off) (.pc l):=by
 obtain ⟨h1,h2⟩:=h
 have key:∀ i,i < l.length->cells[off + i]? = ((cells.drop off).take l.length)[i]?:=fun i hi=>by rw [List.getElem?_take,if_pos hi,List.getElem?_drop]
 refine .ptr g off rw cells l (fun i=>(cells[off + i]?).getD .junk) hg hrw (fun i x hx=>?_) (fun i x hx=>?_)
 · have hi:=(List.getElem?_eq_some_iff.1 hx).1
   rw [key i hi]
   have:i < ((cells.drop off).take l.length).length:=by omega
   simp [List.getElem?_eq_getElem this]
 · have hi:=(List.getElem?_eq_some_iff.1 hx).1
   have h3:i < ((cells.drop off).take l.length).length:=by omega
   rw [key i hi,List.getElem?_eq_getElem h3]
   exact h2 i _ x (List.getElem?_eq_getElem h3) hx
@[go_sem] theorem toD_pc (c:List Data):toD (.pc c) = .cptr c:=rfl
@[go_sem] theorem toD_int (k:IntKind) (n:Int):toD (.int k n) = .data (.int k n):=rfl
@[go_sem] theorem toD_bool (b:Bool):toD (.bool b) = .data (.bool b):=rfl
@[go_sem] theorem toD_str (b:ByteArray):toD (.str b) = .data (.str b):=rfl
@[go_sem] theorem toD_sl (n:Nat) (l:List Data):toD (.sl n l) = .data (.sl n l):=rfl
@[go_sem] theorem toD_agg (l:List Data):toD (.agg l) = .data (.agg l):=rfl
@[go_sem] theorem toD_nilf:toD .nilf = .data .nilf:=rfl
@[go_sem] theorem toD_nili:toD .nili = .data .nili:=rfl
@[go_sem] theorem toD_nilp:toD .nilp = .data .nilp:=rfl
@[go_sem] theorem toD_nilm:toD .nilm = .data .nilm:=rfl
@[go_sem] theorem toD_bn (f:FuncId) (r:Data):toD (.bn f r) = .data (.bn f r):=rfl
@[go_sem] theorem toD_fn (f:FuncId) (c:List Data):toD (.fn f c) = .data (.fn f c):=rfl
@[go_sem] theorem toD_mp (ks xs:List Data):toD (.mp ks xs) = .data (.mp ks xs):=rfl
@[go_sem] theorem toD_tup (c:List Data):toD (.tup c) = .data (.tup c):=rfl
@[go_sem] theorem toD_ifc (t:TypeId) (d:Data):toD (.ifc t d) = .data (.ifc t d):=rfl
@[go_sem] theorem dcell_cptr (c:List Data):D.cell (.cptr c) = true:=rfl
@[go_sem] theorem dcells_cptr (c:List Data):D.cells (.cptr c) = [.cptr c]:=rfl
@[go_sem] theorem tupD_one (x:Data):tupD [x] = x:=rfl
@[go_sem] theorem tupD_two (x y:Data) (l:List Data):tupD (x :: y :: l) = .tup (x :: y :: l):=rfl
@[go_sem] theorem tupD_nil:tupD [] = .tup []:=rfl
@[go_sem] theorem envArgs_zero (d:D) (l:List D):envArgs (d :: l) 0 = d:=rfl
@[go_sem] theorem envArgs_succ (d:D) (l:List D) (t:Nat):envArgs (d :: l) (t + 1) = envArgs l t:=rfl
@[go_sem] theorem envArgs_nil (t:Nat):envArgs [] t = undefD:=rfl
/- Combinators: the walk looks at what they hang on,and at nothing else. -/
def blkK (b:Blk) (K:Bool->List D->Prop):Prop:=match b with
 | .blk rw cells=>K rw cells
 | _=>False
/-- A map of the call's own. -/
def mapK (b:Blk) (K:List Data->List D->Prop):Prop:=match b with
 | .obj (.mp ks xs)=>K ks xs
 | _=>False
def itrK (b:Blk) (K:List Data->List Data->List Nat->Option Nat->Prop):Prop:=match b with
 | .obj (.it ks xs left cur)=>K ks xs left cur
 | _=>False
/-- What goes through a string. -/
def sitK (b:Blk) (K:ByteArray->Nat->Prop):Prop:=match b with
 | .obj (.si s p)=>K s p
 | _=>False
@[go_sem] theorem sitK_si (s:ByteArray) (p:Nat) (K:ByteArray->Nat->Prop):sitK (.obj (.si s p)) K = K s p:=rfl
/-- Where a key stands,or not. -/
def fndK (o:Option (Option Nat)) (f:Nat->Prop) (n:Prop):Prop:=match o with
 | some (some i)=>f i
 | some none=>n
 | none=>False
def dataK (d:D) (K:Data->Prop):Prop:=match d with
 | .data x=>K x
 | _=>False
@[go_sem] theorem blkK_obj (o:Ob) (K:Bool->List D->Prop):blkK (.obj o) K = False:=rfl
@[go_sem] theorem mapK_mp (ks:List Data) (xs:List D) (K:List Data->List D->Prop):mapK (.obj (.mp ks xs)) K = K ks xs:=rfl
@[go_sem] theorem itrK_it (ks xs:List Data) (left:List Nat) (cur:Option Nat) (K:List Data->List Data->List Nat->Option Nat->Prop):itrK (.obj (.it ks xs left cur)) K = K ks xs left cur:=rfl
@[go_sem] theorem fndK_some (i:Nat) (f:Nat->Prop) (n:Prop):fndK (some (some i)) f n = f i:=rfl
@[go_sem] theorem fndK_none (f:Nat->Prop) (n:Prop):fndK (some none) f n = n:=rfl
@[go_sem] theorem dataK_data (x:Data) (K:Data->Prop):dataK (.data x) K = K x:=rfl
@[congr] theorem mapK_congr {n0:Nat} (tk:tick = n0) {b b':Blk} (h:b = b') (K:List Data->List D->Prop):mapK b K = mapK b' K:=by rw [h]
@[congr] theorem itrK_congr {n0:Nat} (tk:tick = n0) {b b':Blk} (h:b = b') (K:List Data->List Data->List Nat->Option Nat->Prop):itrK b K = itrK b' K:=by rw [h]
@[congr] theorem fndK_congr {n0:Nat} (tk:tick = n0) {o o':Option (Option Nat)} (h:o = o') (f:Nat->Prop) (n:Prop):fndK o f n = fndK o' f n:=by rw [h]
@[congr] theorem dataK_congr {n0:Nat} (tk:tick = n0) {d d':D} (h:d = d') (K:Data->Prop):dataK d K = dataK d' K:=by rw [h]
def aggK (o:Option Bool) (x y:Prop):Prop:=match o with
 | some true=>x
 | some false=>y
 | none=>False
def someK {α:Type} (o:Option α) (K:α->Prop):Prop:=match o with
 | some x=>K x
 | none=>False
def optK {α:Type} (o:Option α) (K:α->Prop) (n:Prop):Prop:=match o with
 | some x=>K x
 | none=>n
def sideK (p q:Prop):Prop:=p∧q
def putK (d:D) (K:D->Prop):Prop:=K d
def cellsK (d:List D) (K:List D->Prop):Prop:=K d
def natK (d:Nat) (K:Nat->Prop):Prop:=K d
@[go_sem] theorem blkK_blk (rw:Bool) (c:List D) (K:Bool->List D->Prop):blkK (.blk rw c) K = K rw c:=rfl
@[go_sem] theorem blkK_dead (K:Bool->List D->Prop):blkK .dead K = False:=rfl
@[go_sem] theorem aggK_true (x y:Prop):aggK (some true) x y = x:=rfl
@[go_sem] theorem aggK_false (x y:Prop):aggK (some false) x y = y:=rfl
@[go_sem] theorem someK_some {α:Type} (x:α) (K:α->Prop):someK (some x) K = K x:=rfl
@[go_sem] theorem someK_none {α:Type} (K:α->Prop):someK none K = False:=rfl
@[go_sem] theorem optK_some {α:Type} (x:α) (K:α->Prop) (n:Prop):optK (some x) K n = K x:=rfl
@[go_sem] theorem optK_none {α:Type} (K:α->Prop) (n:Prop):optK none K n = n:=rfl
@[go_sem] theorem sideK_true (q:Prop):sideK True q = q:=by simp [sideK]
@[go_sem] theorem sideK_of {p:Prop} (q:Prop) (h:p):sideK p q = q:=by simp [sideK,h]
@[go_sem] theorem putK_eq (d:D) (K:D->Prop):putK d K = K d:=rfl
@[go_sem] theorem cellsK_eq (d:List D) (K:List D->Prop):cellsK d K = K d:=rfl
@[go_sem] theorem natK_eq (d:Nat) (K:Nat->Prop):natK d K = K d:=rfl
@[congr] theorem blkK_congr {n0:Nat} (tk:tick = n0) {b b':Blk} (h:b = b') (K:Bool->List D->Prop):blkK b K = blkK b' K:=by rw [h]
@[congr] theorem aggK_congr {n0:Nat} (tk:tick = n0) {b b':Option Bool} (h:b = b') (x y:Prop):aggK b x y = aggK b' x y:=by rw [h]
@[congr] theorem someK_congr {n0:Nat} (tk:tick = n0) {α:Type} {b b':Option α} (h:b = b') (K:α->Prop):someK b K = someK b' K:=by rw [h]
@[congr] theorem optK_congr {n0:Nat} (tk:tick = n0) {α:Type} {b b':Option α} (h:b = b') (K:α->Prop) (n:Prop):optK b K n = optK b' K n:=by rw [h]
@[congr] theorem sideK_congr {n0:Nat} (tk:tick = n0) {p p':Prop} (h:p = p') (q:Prop):sideK p q = sideK p' q:=by rw [h]
@[congr] theorem putK_congr {n0:Nat} (tk:tick = n0) {d d':D} (h:d = d') (K:D->Prop):putK d K = putK d' K:=by rw [h]
@[congr] theorem cellsK_congr {n0:Nat} (tk:tick = n0) {d d':List D} (h:d = d') (K:List D->Prop):cellsK d K = cellsK d' K:=by rw [h]
@[congr] theorem natK_congr {n0:Nat} (tk:tick = n0) {d d':Nat} (h:d = d') (K:Nat->Prop):natK d K = natK d' K:=by rw [h]
/- Bits. -/
def andI (k:IntKind) (a b:Int):Int:=k.wrap (BitVec.ofInt k.bits a &&& BitVec.ofInt k.bits b).toNat
def orI (k:IntKind) (a b:Int):Int:=k.wrap (BitVec.ofInt k.bits a ||| BitVec.ofInt k.bits b).toNat
def notI (k:IntKind) (n:Int):Int:=k.wrap (BitVec.ofInt k.bits (if k.signed then -1 else k.max) ^^^ BitVec.ofInt k.bits n).toNat
section
variable (P:Program) (Γ:Nat->Option (List Data))
@[go_sem] theorem evalD_tmp (e:Nat->D) (t:Nat):evalD Γ e (.tmp t) = e t:=rfl
@[go_sem] theorem evalD_const (e:Nat->D) (v:Value):evalD Γ e (.const v) = cD v:=rfl
@[go_sem] theorem evalD_func (e:Nat->D) (f:FuncId):evalD Γ e (.func f) = .data (.fn f []):=rfl
theorem evalD_global (e:Nat->D) {g:Nat} {cells:List Data} (h:Γ g = some cells):evalD Γ e (.global g) = .cptr cells:=by simp [evalD,h]
@[go_sem] theorem cD_bool (b:Bool):cD (.bool b) = .data (.bool b):=rfl
@[go_sem] theorem cD_int (k:IntKind) (n:Int):cD (.int k n) = .data (.int k n):=rfl
@[go_sem] theorem cD_str (s:ByteArray):cD (.string s) = .data (.str s):=rfl
@[go_sem] theorem cD_slice:cD (.slice none 0 0) = .emp 0:=rfl
@[go_sem] theorem cD_ptr:cD (.pointer none) = .data .nilp:=rfl
@[go_sem] theorem cD_map:cD (.map none) = .data .nilm:=rfl
@[go_sem] theorem cD_nili:cD .nilIface = .data .nili:=rfl
@[go_sem] theorem cD_nilf:cD .nilFunc = .data .nilf:=rfl
@[go_sem] theorem coe_data (t:TypeId) (x:Data):coe P t (.data x) = .data x:=rfl
@[go_sem] theorem coe_ref (t:TypeId) (g o n s:Nat):coe P t (.ref g o n s) = .ref g o n s:=rfl
@[go_sem] theorem coe_ptr (t:TypeId) (g o:Nat):coe P t (.ptr g o) = .ptr g o:=rfl
@[go_sem] theorem coe_cptr (t:TypeId) (c:List Data):coe P t (.cptr c) = .cptr c:=rfl
@[go_sem] theorem coe_agg (t:TypeId) (c:List D):coe P t (.agg c) = .agg c:=rfl
@[go_sem] theorem coe_fn (t:TypeId) (f:FuncId) (c:List D):coe P t (.fn f c) = .fn f c:=rfl
@[go_sem] theorem coe_junk (t:TypeId):coe P t .junk = .junk:=rfl
@[go_sem] theorem coe_ful (t:TypeId) (s:Nat) (l:List Data):coe P t (.ful s l) = .ful s l:=rfl
@[go_sem] theorem coe_cut (t:TypeId) (g o n c s:Nat):coe P t (.cut g o n c s) = .cut g o n c s:=rfl
@[go_sem] theorem coe_bnd (t:TypeId) (f:FuncId) (r:D):coe P t (.bnd f r) = .bnd f r:=rfl
@[go_sem] theorem coe_mref (t:TypeId) (g:Nat):coe P t (.mref g) = .mref g:=rfl
@[go_sem] theorem coe_iref (t:TypeId) (g:Nat):coe P t (.iref g) = .iref g:=rfl
@[go_sem] theorem coe_emp (t:TypeId) (n:Nat):coe P t (.emp n) = .emp (((sliceT P t).bind (szT P)).getD n):=by
 unfold coe
 cases h:sliceT P t with
 | none=>rfl
 | some e=>cases h2:szT P e <;> simp [h2]
@[go_sem] theorem boolD_eq (b:Bool):boolD b = .data (.bool b):=rfl
@[go_sem] theorem intD_eq (k:IntKind) (n:Int):intD k n = .data (.int k n):=rfl
@[go_sem] theorem undefD_eq:undefD = .data (.tup []):=rfl
@[go_sem] theorem mkAgg_eq (cs:List D):mkAgg cs = (match allData cs with | some xs=>.data (.agg xs) | none=>.agg cs):=rfl
@[go_sem] theorem dstOk_some (t:Nat) (op:Op) (ty:TypeId) (pos:String) (af:Array Edge) (g:Option (Nat × Bool)) (nt:Nat):dstOk ⟨some t,op,ty,pos,af,g⟩ nt = decide (t < nt):=rfl
@[go_sem] theorem dstOk_none (op:Op) (ty:TypeId) (pos:String) (af:Array Edge) (g:Option (Nat × Bool)) (nt:Nat):dstOk ⟨none,op,ty,pos,af,g⟩ nt = true:=rfl
@[go_sem] theorem wanted_none (ops:Array Oper) (e:Nat->D) (dst:Option Nat) (op:Op) (ty:TypeId) (pos:String) (af:Array Edge):wantedD ops e ⟨dst,op,ty,pos,af,none⟩ = some true:=rfl
/-- What a guard's slot says. -/
def slotB (want:Bool) (d:D):Option Bool:=match d with
 | .data (.bool b)=>some (b == want)
 | .data (.tup [])=>some false
 | _=>none
@[go_sem] theorem slotB_bool (want b:Bool):slotB want (.data (.bool b)) = some (b == want):=rfl
@[go_sem] theorem slotB_undef (want:Bool):slotB want (.data (.tup [])) = some false:=rfl
@[go_sem] theorem wanted_some (ops:Array Oper) (e:Nat->D) (dst:Option Nat) (op:Op) (ty:TypeId) (pos:String) (af:Array Edge) (j:Nat) (want:Bool):wantedD ops e ⟨dst,op,ty,pos,af,some (j,want)⟩ = (match (ops[j]?).bind (·.dst) with | some t=>slotB want (e t) | none=>some false):=by
 unfold wantedD
 simp only
 cases (ops[j]?).bind (·.dst) <;> rfl
@[congr] theorem wanted_congr' {n0:Nat} (tk:tick = n0) (ops:Array Oper) (e:Nat->D) (o:Oper):wantedD ops e o = wantedD ops e o:=rfl
@[go_sem] theorem opsW_nil (ops:Array Oper) (s:St) (K:St->Prop):opsW P Γ ops [] s K = K s:=rfl
@[go_sem] theorem opsW_cons (ops:Array Oper) (o:Oper) (rest:List Oper) (e:Nat->D) (H:Nat->Blk) (nx lo nt:Nat) (K:St->Prop):opsW P Γ ops (o :: rest) ⟨e,H,nx,lo,nt⟩ K =
 sideK (dstOk o nt = true) (someK (wantedD ops e o) fun b=>ifW b (ifW (isCall o)
  ((opK P Γ o e H nx fun d _ u=>opsW P Γ ops rest ⟨Env.dst e o.dst d,Hp.upd H u,nx + 1,lo,nt⟩ K) ∨ dcK P Γ o e H nx fun d H' nx'=>opsW P Γ ops rest ⟨Env.dst e o.dst d,H',nx',lo,nt⟩ K)
  (opK P Γ o e H nx fun d _ u=>opsW P Γ ops rest ⟨Env.dst e o.dst d,Hp.upd H u,nx + 1,lo,nt⟩ K)) (opsW P Γ ops rest ⟨Env.dst e o.dst undefD,H,nx + 1,lo,nt⟩ K)):=by
 unfold sideK someK
 rw [opsW]
 congr 1
 simp only
 cases wantedD ops e o <;> rfl
@[go_sem] theorem drawW_nil (ops:Array Oper) (s:St) (tr:List Tr) (K:St->List Tr->Prop):drawW P Γ ops [] s tr K = K s tr.reverse:=rfl
@[go_sem] theorem drawW_cons (ops:Array Oper) (o:Oper) (rest:List Oper) (e:Nat->D) (H:Nat->Blk) (nx lo nt:Nat) (tr:List Tr) (K:St->List Tr->Prop):drawW P Γ ops (o :: rest) ⟨e,H,nx,lo,nt⟩ tr K =
 sideK (dstOk o nt = true) (someK (wantedD ops e o) fun b=>ifW b (ifW (isCall o) ((opK P Γ o e H nx fun d rd u=>drawW P Γ ops rest ⟨Env.dst e o.dst d,Hp.upd H u,nx + 1,lo,nt⟩ (⟨rd,u.map (·.1)⟩ :: tr) K) ∨
  effK P Γ o e H nx fun d rd u k=>drawW P Γ ops rest ⟨Env.dst e o.dst d,Hp.upd H u,nx + k,lo,nt⟩ (⟨rd,u.map (·.1)⟩ :: tr) K)
  (opK P Γ o e H nx fun d rd u=>drawW P Γ ops rest ⟨Env.dst e o.dst d,Hp.upd H u,nx + 1,lo,nt⟩ (⟨rd,u.map (·.1)⟩ :: tr) K))
  (drawW P Γ ops rest ⟨Env.dst e o.dst undefD,H,nx + 1,lo,nt⟩ (⟨[],[]⟩ :: tr) K)):=by
 unfold sideK someK
 rw [drawW]
 congr 1
 simp only
 cases wantedD ops e o <;> rfl
@[congr] theorem opsW_congr {n0:Nat} (tk:tick = n0) (ops:Array Oper) (l:List Oper) (s:St) (K:St->Prop):opsW P Γ ops l s K = opsW P Γ ops l s K:=rfl
@[congr] theorem drawW_congr {n0:Nat} (tk:tick = n0) (ops:Array Oper) (l:List Oper) (s:St) (tr:List Tr) (K:St->List Tr->Prop):drawW P Γ ops l s tr K = drawW P Γ ops l s tr K:=rfl
@[congr] theorem opK_congr' {n0:Nat} (tk:tick = n0) (o:Oper) (e:Nat->D) (H:Nat->Blk) (fr:Nat) (K:D->List Nat->List (Nat × Blk)->Prop):opK P Γ o e H fr K = opK P Γ o e H fr K:=rfl
@[congr] theorem dcK_congr' {n0:Nat} (tk:tick = n0) (o:Oper) (e:Nat->D) (H:Nat->Blk) (fr:Nat) (K:D->(Nat->Blk)->Nat->Prop):dcK P Γ o e H fr K = dcK P Γ o e H fr K:=rfl
@[congr] theorem wpF_congr {n0:Nat} (tk:tick = n0) (c:Code) (Q:Exit->St->Prop) (s:St):wpF P Γ c Q s = wpF P Γ c Q s:=rfl
@[congr] theorem effK_congr' {n0:Nat} (tk:tick = n0) (o:Oper) (e:Nat->D) (H:Nat->Blk) (fr:Nat) (K:D->List Nat->List (Nat × Blk)->Nat->Prop):effK P Γ o e H fr K = effK P Γ o e H fr K:=rfl
@[go_sem] theorem isCall_func (dst:Option Nat) (x:Operand) (args:Array Operand) (at':Array TypeId) (ty:TypeId) (pos:String) (af:Array Edge) (g:Option (Nat × Bool)):isCall ⟨dst,.call ⟨.value x,args,at'⟩,ty,pos,af,g⟩ = true:=rfl
attribute [go_sem] isCall
section
variable (dst:Option Nat) (ty:TypeId) (pos:String) (af:Array Edge) (gd:Option (Nat × Bool)) (e:Nat->D) (H:Nat->Blk) (fr:Nat) (K:D->List Nat->List (Nat × Blk)->Prop)
@[go_sem] theorem opK_move (x:Operand):opK P Γ ⟨dst,.move x,ty,pos,af,gd⟩ e H fr K = putK (coe P ty (evalD Γ e x)) fun d=>K d [] []:=rfl
@[go_sem] theorem opK_assign (x:Operand):opK P Γ ⟨dst,.assign x,ty,pos,af,gd⟩ e H fr K = putK (coe P ty (evalD Γ e x)) fun d=>K d [] []:=rfl
def pickK (c a b:D) (K:D->Prop):Prop:=match c with
 | .data (.bool true)=>K a
 | .data (.bool false)=>K b
 | _=>False
@[go_sem] theorem pickK_true (a b:D) (K:D->Prop):pickK (.data (.bool true)) a b K = putK a K:=rfl
@[go_sem] theorem pickK_false (a b:D) (K:D->Prop):pickK (.data (.bool false)) a b K = putK b K:=rfl
@[congr] theorem pickK_congr {n0:Nat} (tk:tick = n0) {c c':D} (h:c = c') (a b:D) (K:D->Prop):pickK c a b K = pickK c' a b K:=by rw [h]
@[go_sem] theorem opK_pick (c a b:Operand):opK P Γ ⟨dst,.pick c a b,ty,pos,af,gd⟩ e H fr K = pickK (evalD Γ e c) (evalD Γ e a) (evalD Γ e b) fun d=>K d [] []:=by
 simp only [opK,pickK]
 split <;> simp_all
@[go_sem] theorem opK_alloc (t:TypeId):opK P Γ ⟨dst,.alloc t,ty,pos,af,gd⟩ e H fr K = someK (zeT P t) fun z=>sideK (z.all D.cell = true) (K (.ptr fr 0) [] [(fr,.blk true z)]):=by
 simp only [opK,someK,sideK]
 split <;> simp_all
@[go_sem] theorem opK_box (t:TypeId) (x:Operand):opK P Γ ⟨dst,.box t x,ty,pos,af,gd⟩ e H fr K = cellsK (evalD Γ e x).cells fun z=>sideK (z.all D.cell = true) (K (.ptr fr 0) [] [(fr,.blk true z)]):=rfl
@[go_sem] theorem opK_build (t:TypeId) (parts:Array (Nat × Operand)):opK P Γ ⟨dst,.build t parts,ty,pos,af,gd⟩ e H fr K = buildK P t (parts.toList.map fun x=>(x.1,evalD Γ e x.2)) fun d=>K d [] []:=rfl
@[go_sem] theorem buildK_eq (t:TypeId) (parts:List (Nat × D)) (K:D->Prop):buildK P t parts K = someK (zeT P t) fun z=>optK (arrT P t) (fun ne=>someK (szT P ne.2) fun n=>someK (fillD (fun i=>some (i * n,n)) z parts) fun cells=>putK (mkAgg cells) K)
 (someK (plT P t) fun places=>someK (fillD (fun i=>places[i]?) z parts) fun cells=>putK (mkAgg cells) K):=by
 unfold buildK someK optK putK
 cases zeT P t <;> simp only
 cases arrT P t <;> simp only
 · cases plT P t <;> simp only
   split <;> simp_all
 · rename_i ne
   obtain ⟨n,el⟩:=ne
   simp only
   cases szT P el <;> simp only
   split <;> simp_all
@[congr] theorem buildK_congr {n0:Nat} (tk:tick = n0) (t:TypeId) {p p':List (Nat × D)} (h:p = p') (K:D->Prop):buildK P t p K = buildK P t p' K:=by rw [h]
@[go_sem] theorem fillD_nil (place:Nat->Option (Nat × Nat)) (cells:List D):fillD place cells [] = some cells:=rfl
@[go_sem] theorem fillD_cons (place:Nat->Option (Nat × Nat)) (cells:List D) (i:Nat) (d:D) (rest:List (Nat × D)):fillD place cells ((i,d) :: rest) = (place i).bind fun os=>if d.cells.length = os.2∧os.1 + os.2≤cells.length∧d.cells.all D.cell = true then fillD place (over cells os.1 d.cells) rest else none:=by
 simp only [fillD]
 cases place i <;> rfl
@[go_sem] theorem opK_buildSlice (t:TypeId) (len:Nat) (parts:Array (Nat × Operand)):opK P Γ ⟨dst,.buildSlice t len parts,ty,pos,af,gd⟩ e H fr K = someK (sliceT P t) fun el=>someK (szT P el) fun es=>sideK (len * es≤16777216)
 (ifW (decide (len = 0)) (sideK (parts.size = 0) (K (.emp es) [] [])) (zerosK P el len fun z=>someK (fillD (fun i=>some (i * es,es)) z (parts.toList.map fun x=>(x.1,evalD Γ e x.2))) fun cells=>sideK (cells.all D.cell = true) (K (.ref fr 0 len es) [] [(fr,.blk true cells)]))):=by
 simp only [opK,someK,sideK,ifW]
 cases sliceT P t <;> simp only
 rename_i el
 cases szT P el <;> simp only
 by_cases h:len = 0 <;> simp only [h,if_true,if_false,decide_true,decide_false]
 congr 1
 apply congrArg
 funext z
 split <;> simp_all
@[go_sem] theorem zerosK_eq (el:TypeId) (n:Nat) (K:List D->Prop):zerosK P el n K = someK (zeT P el) fun z=>sideK (z.all D.cell = true) (sideK (szT P el = some z.length) (sideK (0 < z.length) (cellsK (List.replicate n z).flatten K))):=by
 unfold zerosK someK sideK cellsK
 cases zeT P el <;> rfl
@[congr] theorem zerosK_congr {n0:Nat} (tk:tick = n0) (el:TypeId) {n n':Nat} (h:n = n') (K:List D->Prop):zerosK P el n K = zerosK P el n' K:=by rw [h]
@[go_sem] theorem opK_load (t:TypeId) (a:Operand):opK P Γ ⟨dst,.load t a,ty,pos,af,gd⟩ e H fr K = loadK P t (evalD Γ e a) H fun d rd=>K d rd []:=rfl
@[go_sem] theorem loadK_ptr (t:TypeId) (g off:Nat) (K:D->List Nat->Prop):loadK P t (.ptr g off) H K = blkK (H g) fun _ cells=>aggK (aggT P t) (someK (szT P t) fun n=>sideK (off + n≤cells.length) (putK (mkAgg ((cells.drop off).take n)) fun d=>K d [g]))
 (someK (cells[off]?) fun d=>K d [g]):=by
 simp only [loadK,blkK,aggK,someK,sideK,putK]
 cases H g with
 | dead=>rfl
 | obj o=>rfl
 | blk rw cells =>
   cases hA:aggT P t with
   | none=>simp
   | some b =>
     cases b <;> cases hS:szT P t <;> simp only <;> (try (cases cells[off]? <;> simp))
@[go_sem] theorem loadK_cptr (t:TypeId) (cells:List Data) (K:D->List Nat->Prop):loadK P t (.cptr cells) H K = aggK (aggT P t) (someK (szT P t) fun n=>sideK (n≤cells.length) (putK (.data (.agg (cells.take n))) fun d=>K d []))
 (someK (cells[0]?) fun d=>putK (.data d) fun d=>K d []):=by
 simp only [loadK,aggK,someK,sideK,putK]
 cases hA:aggT P t with
 | none=>simp
 | some b =>
   cases b <;> cases hS:szT P t <;> simp only <;> (try (cases cells[0]? <;> simp))
@[congr] theorem loadK_congr {n0:Nat} (tk:tick = n0) (t:TypeId) {x x':D} (h:x = x') (H:Nat->Blk) (K:D->List Nat->Prop):loadK P t x H K = loadK P t x' H K:=by rw [h]
@[go_sem] theorem opK_store (t:TypeId) (a x:Operand):opK P Γ ⟨dst,.store t a x,ty,pos,af,gd⟩ e H fr K = storeK P t (evalD Γ e a) (coe P t (evalD Γ e x)) H fun u=>K .junk [] u:=rfl
@[go_sem] theorem storeK_ptr (t:TypeId) (g off:Nat) (v:D) (K:List (Nat × Blk)->Prop):storeK P t (.ptr g off) v H K = blkK (H g) fun rw cells=>ifW rw (cellsK v.cells fun vc=>sideK (szT P t = some vc.length) (sideK (vc.all D.cell = true) (sideK (off + vc.length≤cells.length) (cellsK (over cells off vc) fun nc=>K [(g,.blk true nc)])))) False:=by
 simp only [storeK,blkK,ifW,cellsK,sideK]
 cases H g with
 | dead=>rfl
 | obj o=>rfl
 | blk rw cells=>cases rw <;> rfl
@[congr] theorem storeK_congr {n0:Nat} (tk:tick = n0) (t:TypeId) {x x' v v':D} (h:x = x') (hv:v = v') (H:Nat->Blk) (K:List (Nat × Blk)->Prop):storeK P t x v H K = storeK P t x' v' H K:=by rw [h,hv]
@[go_sem] theorem opK_binOp (op:BinOp) (t t2:TypeId) (x y:Operand):opK P Γ ⟨dst,.binOp op t x y t2,ty,pos,af,gd⟩ e H fr K = binK P op t (evalD Γ e x) (evalD Γ e y) fun d=>K d [] []:=rfl
@[congr] theorem binK_congr {n0:Nat} (tk:tick = n0) (op:BinOp) (t:TypeId) {x x' y y':D} (hx:x = x') (hy:y = y') (K:D->Prop):binK P op t x y K = binK P op t x' y' K:=by rw [hx,hy]
section
variable (t:TypeId) (k:IntKind) (a b:Int) (K:D->Prop)
@[go_sem] theorem bin_add:binK P .add t (.data (.int k a)) (.data (.int k b)) K = putK (.data (.int k (k.wrap (a + b)))) K:=by simp [binK,putK,intD]
@[go_sem] theorem bin_sub:binK P .sub t (.data (.int k a)) (.data (.int k b)) K = putK (.data (.int k (k.wrap (a - b)))) K:=by simp [binK,putK,intD]
@[go_sem] theorem bin_mul:binK P .mul t (.data (.int k a)) (.data (.int k b)) K = putK (.data (.int k (k.wrap (a * b)))) K:=by simp [binK,putK,intD]
@[go_sem] theorem bin_quo:binK P .quo t (.data (.int k a)) (.data (.int k b)) K = sideK (b≠0) (putK (.data (.int k (k.wrap (a.tdiv b)))) K):=by simp [binK,putK,intD,sideK]
@[go_sem] theorem bin_rem:binK P .rem t (.data (.int k a)) (.data (.int k b)) K = sideK (b≠0) (putK (.data (.int k (a.tmod b))) K):=by simp [binK,putK,intD,sideK]
@[go_sem] theorem bin_and:binK P .and t (.data (.int k a)) (.data (.int k b)) K = putK (.data (.int k (andI k a b))) K:=by simp [binK,putK,intD,andI]
@[go_sem] theorem bin_or:binK P .or t (.data (.int k a)) (.data (.int k b)) K = putK (.data (.int k (orI k a b))) K:=by simp [binK,putK,intD,orI]
@[go_sem] theorem bin_shl (k':IntKind):binK P .shl t (.data (.int k a)) (.data (.int k' b)) K = sideK (0≤b) (putK (.data (.int k (k.wrap (a * 2 ^ (min b.toNat k.bits))))) K):=by simp [binK,putK,intD,sideK]
@[go_sem] theorem bin_shr (k':IntKind):binK P .shr t (.data (.int k a)) (.data (.int k' b)) K = sideK (0≤b) (putK (.data (.int k (a.fdiv (2 ^ (min b.toNat k.bits))))) K):=by simp [binK,putK,intD,sideK]
@[go_sem] theorem bin_eql:binK P .eql t (.data (.int k a)) (.data (.int k b)) K = putK (.data (.bool (decide (a = b)))) K:=by simp [binK,putK,boolD,cmpI]
@[go_sem] theorem bin_neq:binK P .neq t (.data (.int k a)) (.data (.int k b)) K = putK (.data (.bool (!decide (a = b)))) K:=by simp [binK,putK,boolD,cmpI]
@[go_sem] theorem bin_lss:binK P .lss t (.data (.int k a)) (.data (.int k b)) K = putK (.data (.bool (decide (a < b)))) K:=by simp [binK,putK,boolD,cmpI]
@[go_sem] theorem bin_leq:binK P .leq t (.data (.int k a)) (.data (.int k b)) K = putK (.data (.bool (decide (a≤b)))) K:=by simp [binK,putK,boolD,cmpI]
@[go_sem] theorem bin_gtr:binK P .gtr t (.data (.int k a)) (.data (.int k b)) K = putK (.data (.bool (decide (b < a)))) K:=by simp [binK,putK,boolD,cmpI]
@[go_sem] theorem bin_geq:binK P .geq t (.data (.int k a)) (.data (.int k b)) K = putK (.data (.bool (decide (b≤a)))) K:=by simp [binK,putK,boolD,cmpI]
@[go_sem] theorem bin_beql (a b:Bool):binK P .eql t (.data (.bool a)) (.data (.bool b)) K = sideK (boolT P t = true) (putK (.data (.bool (a == b))) K):=by simp [binK,putK,boolD,sideK]
@[go_sem] theorem bin_seql (a b:ByteArray):binK P .eql t (.data (.str a)) (.data (.str b)) K = putK (.data (.bool (decide (a = b)))) K:=by simp [binK,putK,boolD]
@[go_sem] theorem bin_aeql (a b:List Data):binK P .eql t (.data (.agg a)) (.data (.agg b)) K = eqK P t (.agg a) (.agg b) fun q=>putK (.data (.bool q)) K:=by simp [binK,putK,boolD]
end
@[go_sem] theorem opK_unOp (op:UnOp) (t:TypeId) (x:Operand):opK P Γ ⟨dst,.unOp op t x,ty,pos,af,gd⟩ e H fr K = unK op (evalD Γ e x) fun d=>K d [] []:=rfl
@[congr] theorem unK_congr {n0:Nat} (tk:tick = n0) (op:UnOp) {x x':D} (hx:x = x') (K:D->Prop):unK op x K = unK op x' K:=by rw [hx]
@[go_sem] theorem un_not (b:Bool) (K:D->Prop):unK .not (.data (.bool b)) K = putK (.data (.bool (!b))) K:=rfl
@[go_sem] theorem un_neg (k:IntKind) (n:Int) (K:D->Prop):unK .neg (.data (.int k n)) K = putK (.data (.int k (k.wrap (0 - n)))) K:=rfl
@[go_sem] theorem un_xor (k:IntKind) (n:Int) (K:D->Prop):unK .xor (.data (.int k n)) K = putK (.data (.int k (notI k n))) K:=rfl
def cvtK (s d:TypeId) (x:D) (H:Nat->Blk) (K:D->List Nat->List (Nat × Blk)->Prop):Prop:=match x with
 | .ref g off len es=>markK P s d g off len es H fun d u=>K d [g] u
 | .data (.str x)=>(if bytT P d = true then (P.underlying s).isSome = true∧x.size≤140737488355328∧K (.data (.sl 1 (x.toList.map fun b=>.int .u8 b.toNat))) [] []
   else (P.underlying s).isSome = true∧convK P s d (.data (.str x)) fun d=>K d [] [])
 | y=>(P.underlying s).isSome = true∧convK P s d y fun d=>K d [] []
@[congr] theorem cvtK_congr {n0:Nat} (tk:tick = n0) (s d:TypeId) {x x':D} (h:x = x') (H:Nat->Blk) (K:D->List Nat->List (Nat × Blk)->Prop):cvtK P s d x H K = cvtK P s d x' H K:=by rw [h]
@[go_sem] theorem cvt_int (s d:TypeId) (k:IntKind) (n:Int) (H:Nat->Blk) (K:D->List Nat->List (Nat × Blk)->Prop):cvtK P s d (.data (.int k n)) H K = sideK ((P.underlying s).isSome = true) (convK P s d (.data (.int k n)) fun d=>K d [] []):=rfl
@[go_sem] theorem cvt_sl (s d:TypeId) (es:Nat) (l:List Data) (H:Nat->Blk) (K:D->List Nat->List (Nat × Blk)->Prop):cvtK P s d (.data (.sl es l)) H K = sideK ((P.underlying s).isSome = true) (convK P s d (.data (.sl es l)) fun d=>K d [] []):=rfl
@[go_sem] theorem cvt_agg (s d:TypeId) (l:List Data) (H:Nat->Blk) (K:D->List Nat->List (Nat × Blk)->Prop):cvtK P s d (.data (.agg l)) H K = sideK ((P.underlying s).isSome = true) (convK P s d (.data (.agg l)) fun d=>K d [] []):=rfl
@[go_sem] theorem cvt_bool (s d:TypeId) (b:Bool) (H:Nat->Blk) (K:D->List Nat->List (Nat × Blk)->Prop):cvtK P s d (.data (.bool b)) H K = sideK ((P.underlying s).isSome = true) (convK P s d (.data (.bool b)) fun d=>K d [] []):=rfl
@[go_sem] theorem cvt_emp (s d:TypeId) (es:Nat) (H:Nat->Blk) (K:D->List Nat->List (Nat × Blk)->Prop):cvtK P s d (.emp es) H K = sideK ((P.underlying s).isSome = true) (convK P s d (.emp es) fun d=>K d [] []):=rfl
@[go_sem] theorem opK_convert (s d:TypeId) (x:Operand):opK P Γ ⟨dst,.convert s d x,ty,pos,af,gd⟩ e H fr K = cvtK P s d (evalD Γ e x) H K:=by
 simp only [opK,cvtK]
 cases evalD Γ e x with
 | data x=>cases x <;> rfl
 | _=>rfl
@[congr] theorem convK_congr {n0:Nat} (tk:tick = n0) (s d:TypeId) {x x':D} (hx:x = x') (K:D->Prop):convK P s d x K = convK P s d x' K:=by rw [hx]
@[go_sem] theorem conv_int (s d:TypeId) (k:IntKind) (n:Int) (K:D->Prop):convK P s d (.data (.int k n)) K = someK (intT P d) fun k=>putK (.data (.int k (k.wrap n))) K:=by
 simp only [convK,someK,putK,intD]
 cases intT P d <;> rfl
@[go_sem] theorem conv_str (s d:TypeId) (x:ByteArray) (K:D->Prop):convK P s d (.data (.str x)) K = sideK (strT P d = true) (putK (.data (.str x)) K):=rfl
@[go_sem] theorem opK_makeSlice (t:TypeId) (l c:Operand):opK P Γ ⟨dst,.makeSlice t l c,ty,pos,af,gd⟩ e H fr K = someK (sliceT P t) fun el=>someK (szT P el) fun es=>someK (byT P el) fun by_=>someK (natD (evalD Γ e l)) fun n=>someK (natD (evalD Γ e c)) fun m =>
 sideK (0≤n) (sideK (n≤m) (sideK (m * by_≤140737488355328) (sideK (m≤9223372036854775807) (zerosK P el n.toNat fun z=>K (.ref fr 0 n.toNat es) [] [(fr,.blk true z)])))):=by
 simp only [opK,someK,sideK]
 cases sliceT P t <;> simp only
 rename_i el
 cases szT P el <;> simp only
 cases byT P el <;> simp only
 unfold natD
 cases evalD Γ e l with
 | data x =>
   cases x <;> simp only
   cases evalD Γ e c with
   | data y=>cases y <;> simp only
   | _=>simp
 | _=>simp
@[go_sem] theorem natD_int (k:IntKind) (n:Int):natD (.data (.int k n)) = some n:=rfl
@[go_sem] theorem opK_fieldAddr (t:TypeId) (x:Operand) (f:Nat):opK P Γ ⟨dst,.fieldAddr t x f,ty,pos,af,gd⟩ e H fr K = fieldAddrK P t (evalD Γ e x) f fun d=>K d [] []:=rfl
@[congr] theorem fieldAddrK_congr {n0:Nat} (tk:tick = n0) (t:TypeId) {x x':D} (hx:x = x') (f:Nat) (K:D->Prop):fieldAddrK P t x f K = fieldAddrK P t x' f K:=by rw [hx]
@[go_sem] theorem fieldAddr_ptr (t:TypeId) (g off f:Nat) (K:D->Prop):fieldAddrK P t (.ptr g off) f K = someK (fldT P t f) fun x=>someK (szT P x.2) fun n=>sideK (n≠0) (natK (off + x.1) fun q=>K (.ptr g q)):=by
 unfold fieldAddrK someK sideK natK
 cases fldT P t f <;> simp only
 rename_i x
 cases szT P x.2 with
 | none=>rfl
 | some n=>cases n <;> simp
@[go_sem] theorem fieldAddr_cptr (t:TypeId) (cells:List Data) (f:Nat) (K:D->Prop):fieldAddrK P t (.cptr cells) f K = someK (fldT P t f) fun x=>someK (szT P x.2) fun n=>sideK (n≠0) (putK (.cptr (cells.drop x.1)) K):=by
 unfold fieldAddrK someK sideK putK
 cases fldT P t f <;> simp only
 rename_i x
 cases szT P x.2 with
 | none=>rfl
 | some n=>cases n <;> simp
@[go_sem] theorem opK_field (t:TypeId) (x:Operand) (f:Nat):opK P Γ ⟨dst,.field t x f,ty,pos,af,gd⟩ e H fr K = fieldK P t (evalD Γ e x) f fun d=>K d [] []:=rfl
@[go_sem] theorem opK_indexAddr (t:TypeId) (x ix:Operand):opK P Γ ⟨dst,.indexAddr t x ix,ty,pos,af,gd⟩ e H fr K = indexAddrK P t (evalD Γ e x) (evalD Γ e ix) fun d=>K d [] []:=rfl
@[congr] theorem indexAddrK_congr {n0:Nat} (tk:tick = n0) (t:TypeId) {x x' y y':D} (hx:x = x') (hy:y = y') (K:D->Prop):indexAddrK P t x y K = indexAddrK P t x' y' K:=by rw [hx,hy]
@[go_sem] theorem indexAddr_sl (t:TypeId) (es:Nat) (l:List Data) (k:IntKind) (i:Int) (K:D->Prop):indexAddrK P t (.data (.sl es l)) (.data (.int k i)) K = someK (sliceT P t) fun el=>sideK (szT P el = some es) (sideK (0≤i) (natK i.toNat fun j=>someK (l[j]?) fun y=>putK (.cptr y.cells) K)):=by
 unfold indexAddrK someK sideK natK putK
 simp only
 cases sliceT P t <;> simp only
 congr 2
 cases l[i.toNat]? <;> simp
@[go_sem] theorem indexAddr_ref (t:TypeId) (g off len es:Nat) (k:IntKind) (i:Int) (K:D->Prop):indexAddrK P t (.ref g off len es) (.data (.int k i)) K = someK (sliceT P t) fun el=>sideK (szT P el = some es) (sideK (0≤i) (sideK (i < len) (natK (off + i.toNat * es) fun q=>K (.ptr g q)))):=by
 unfold indexAddrK someK sideK natK
 simp only
 cases sliceT P t <;> simp only
@[go_sem] theorem indexAddr_ptr (t:TypeId) (g off:Nat) (k:IntKind) (i:Int) (K:D->Prop):indexAddrK P t (.ptr g off) (.data (.int k i)) K = someK (arrT P t) fun ne=>sideK (0≤i) (sideK (i < ne.1) (someK (szT P ne.2) fun es=>natK (off + i.toNat * es) fun q=>K (.ptr g q))):=by
 unfold indexAddrK someK sideK natK
 simp only
 cases arrT P t <;> simp only
 rename_i ne
 congr 2
 cases szT P ne.2 <;> rfl
@[go_sem] theorem indexAddr_cptr (t:TypeId) (cells:List Data) (k:IntKind) (i:Int) (K:D->Prop):indexAddrK P t (.cptr cells) (.data (.int k i)) K = someK (arrT P t) fun ne=>sideK (0≤i) (sideK (i < ne.1) (someK (szT P ne.2) fun es=>putK (.cptr (cells.drop (i.toNat * es))) K)):=by
 unfold indexAddrK someK sideK putK
 simp only
 cases arrT P t <;> simp only
 rename_i ne
 congr 2
 cases szT P ne.2 <;> rfl
@[go_sem] theorem opK_index (t:TypeId) (x ix:Operand):opK P Γ ⟨dst,.index t x ix,ty,pos,af,gd⟩ e H fr K = indexK P t (evalD Γ e x) (evalD Γ e ix) fun d=>K d [] []:=rfl
@[congr] theorem indexK_congr {n0:Nat} (tk:tick = n0) (t:TypeId) {x x' y y':D} (hx:x = x') (hy:y = y') (K:D->Prop):indexK P t x y K = indexK P t x' y' K:=by rw [hx,hy]
@[go_sem] theorem index_str (t:TypeId) (s:ByteArray) (k:IntKind) (i:Int) (K:D->Prop):indexK P t (.data (.str s)) (.data (.int k i)) K = sideK (strT P t = true) (sideK (0≤i) (someK (s[i.toNat]?) fun b=>putK (.data (.int .u8 b.toNat)) K)):=by
 unfold indexK sideK someK putK intD
 simp only
 congr 2
 cases s[i.toNat]? <;> simp
@[go_sem] theorem opK_nilCheck (x:Operand):opK P Γ ⟨dst,.nilCheck x,ty,pos,af,gd⟩ e H fr K = sideK (sureD (evalD Γ e x) = true) (putK (ptrD (evalD Γ e x)) fun d=>K d [] []):=rfl
@[go_sem] theorem sureD_pc (c:List Data):sureD (.data (.pc c)) = true:=rfl
@[go_sem] theorem ptrD_ptr (g o:Nat):ptrD (.ptr g o) = .ptr g o:=rfl
@[go_sem] theorem ptrD_cptr (c:List Data):ptrD (.cptr c) = .cptr c:=rfl
@[go_sem] theorem ptrD_pc (c:List Data):ptrD (.data (.pc c)) = .cptr c:=rfl
@[go_sem] theorem sureD_ptr (g o:Nat):sureD (.ptr g o) = true:=rfl
@[go_sem] theorem sureD_cptr (c:List Data):sureD (.cptr c) = true:=rfl
@[go_sem] theorem opK_makeMap (t:TypeId):opK P Γ ⟨dst,.makeMap t none,ty,pos,af,gd⟩ e H fr K = K (.mref fr) [] [(fr,.obj (.mp [] []))]:=rfl
/-- Something put into a map. -/
def putM (kt:TypeId) (x key v:D) (H:Nat->Blk) (K:List Nat->List (Nat × Blk)->Prop):Prop:=match key,x with
 | .data k,.mref g=>keyT P kt k = true∧mapK (H g) fun ks xs=>fndK (findD k ks 0) (fun i=>K [g] [(g,.obj (.mp ks (xs.set i v)))]) (K [g] [(g,.obj (.mp (ks++[k]) (xs++[v])))])
 | _,_=>False
@[go_sem] theorem putM_eq (kt:TypeId) (g:Nat) (k:Data) (v:D) (H:Nat->Blk) (K:List Nat->List (Nat × Blk)->Prop):putM P kt (.mref g) (.data k) v H K = sideK (keyT P kt k = true) (mapK (H g) fun ks xs=>fndK (findD k ks 0) (fun i=>K [g] [(g,.obj (.mp ks (xs.set i v)))]) (K [g] [(g,.obj (.mp (ks++[k]) (xs++[v])))])):=rfl
@[congr] theorem putM_congr {n0:Nat} (tk:tick = n0) (kt:TypeId) {x x' k k' v v':D} (h1:x = x') (h2:k = k') (h3:v = v') (H:Nat->Blk) (K:List Nat->List (Nat × Blk)->Prop):putM P kt x k v H K = putM P kt x' k' v' H K:=by rw [h1,h2,h3]
theorem insertK_eq (t:TypeId) (m k x:D) (H:Nat->Blk) (K:List Nat->List (Nat × Blk)->Prop):insertK P t m k (coe P (match mapT P t with | some x=>x.2 | none=>t) x) H K = someK (mapT P t) fun q=>putM P q.1 m k (coe P q.2 x) H K:=by
 unfold insertK someK
 cases hq:mapT P t with
 | none=>rfl
 | some q =>
   obtain ⟨kt,et⟩:=q
   simp only
   unfold putM
   cases k with
   | data kd =>
     cases m with
     | mref g =>
       simp only [mapK,fndK]
       cases H g with
       | obj o =>
         cases o with
         | mp ks xs =>
           simp only
           cases findD kd ks 0 with
           | none=>rfl
           | some o=>cases o <;> rfl
         | it=>rfl
         | si=>rfl
       | dead=>rfl
       | blk=>rfl
     | _=>rfl
   | _=>cases m <;> rfl
@[go_sem] theorem opK_insert (t:TypeId) (m k x:Operand):opK P Γ ⟨dst,.insert t m k x,ty,pos,af,gd⟩ e H fr K = someK (mapT P t) fun q=>putM P q.1 (evalD Γ e m) (evalD Γ e k) (coe P q.2 (evalD Γ e x)) H fun rd u=>K .junk rd u:=insertK_eq P t _ _ _ H _
/-- Something looked up in a map. -/
def getM (kt et:TypeId) (x key:D) (ok:Bool) (H:Nat->Blk) (K:D->List Nat->Prop):Prop:=match key with
 | .data k=>keyT P kt k = true∧(match x with
   | .data (.mp ks xs)=>lookK P et ks (xs.map .data) k ok fun d=>K d []
   | .mref g=>mapK (H g) fun ks xs=>lookK P et ks xs k ok fun d=>K d [g]
   | _=>False)
 | _=>False
@[go_sem] theorem getM_own (kt et:TypeId) (g:Nat) (k:Data) (ok:Bool) (H:Nat->Blk) (K:D->List Nat->Prop):getM P kt et (.mref g) (.data k) ok H K = sideK (keyT P kt k = true) (mapK (H g) fun ks xs=>lookK P et ks xs k ok fun d=>K d [g]):=rfl
@[go_sem] theorem getM_data (kt et:TypeId) (ks xs:List Data) (k:Data) (ok:Bool) (H:Nat->Blk) (K:D->List Nat->Prop):getM P kt et (.data (.mp ks xs)) (.data k) ok H K = sideK (keyT P kt k = true) (lookK P et ks (xs.map .data) k ok fun d=>K d []):=rfl
@[congr] theorem getM_congr {n0:Nat} (tk:tick = n0) (kt et:TypeId) {x x' k k':D} (h1:x = x') (h2:k = k') (ok:Bool) (H:Nat->Blk) (K:D->List Nat->Prop):getM P kt et x k ok H K = getM P kt et x' k' ok H K:=by rw [h1,h2]
@[go_sem] theorem look_ok2 (et:TypeId) (ks:List Data) (xs:List D) (k:Data) (K:D->Prop):lookK P et ks xs k true K = fndK (findD k ks 0) (fun i=>someK (xs[i]?) fun d=>putK (pairD d true) K) (someK (zvT P et) fun d=>putK (pairD d false) K):=by
 unfold lookK fndK someK putK zvK
 cases findD k ks 0 with
 | none=>rfl
 | some o =>
   cases o with
   | none =>
     simp only [if_true]
     cases zvT P et <;> rfl
   | some i =>
     simp only [if_true]
     cases xs[i]? <;> rfl
@[go_sem] theorem pairD_data (x:Data) (b:Bool):pairD (.data x) b = .data (.tup [x,.bool b]):=rfl
@[go_sem] theorem pairD_bnd (f:FuncId) (r:D) (b:Bool):pairD (.bnd f r) b = .tp [.bnd f r,.data (.bool b)]:=rfl
@[go_sem] theorem pairD_fn (f:FuncId) (cs:List D) (b:Bool):pairD (.fn f cs) b = .tp [.fn f cs,.data (.bool b)]:=rfl
@[go_sem] theorem pairD_ptr (g off:Nat) (b:Bool):pairD (.ptr g off) b = .tp [.ptr g off,.data (.bool b)]:=rfl
@[go_sem] theorem pairD_ref (g off len es:Nat) (b:Bool):pairD (.ref g off len es) b = .tp [.ref g off len es,.data (.bool b)]:=rfl
@[go_sem] theorem pairD_agg (cs:List D) (b:Bool):pairD (.agg cs) b = .tp [.agg cs,.data (.bool b)]:=rfl
@[congr] theorem lookK_congr {n0:Nat} (tk:tick = n0) (et:TypeId) {ks ks':List Data} (h1:ks = ks') {xs xs':List D} (h2:xs = xs') {k k':Data} (h3:k = k') (ok:Bool) (K:D->Prop):lookK P et ks xs k ok K = lookK P et ks' xs' k' ok K:=by rw [h1,h2,h3]
@[go_sem] theorem opK_lookup (t:TypeId) (x i:Operand) (ok:Bool):opK P Γ ⟨dst,.lookup t x i ok,ty,pos,af,gd⟩ e H fr K = someK (mapT P t) fun q=>getM P q.1 q.2 (evalD Γ e x) (evalD Γ e i) ok H fun d rd=>K d rd []:=by
 simp only [opK,lookupK,someK,getM]
 cases mapT P t with
 | none=>rfl
 | some q =>
   cases evalD Γ e i with
   | data k =>
     simp only
     congr 1
   | _=>rfl
def rngK (x:D) (fr:Nat) (K:D->List Nat->List (Nat × Blk)->Prop):Prop:=match x with
 | .data (.mp ks xs)=>K (.iref fr) [] [(fr,.obj (.it ks xs (List.range ks.length) none))]
 | _=>False
@[go_sem] theorem rngK_mp (ks xs:List Data) (fr:Nat) (K:D->List Nat->List (Nat × Blk)->Prop):rngK (.data (.mp ks xs)) fr K = K (.iref fr) [] [(fr,.obj (.it ks xs (List.range ks.length) none))]:=rfl
@[congr] theorem rngK_congr {n0:Nat} (tk:tick = n0) {x x':D} (h:x = x') (fr:Nat) (K:D->List Nat->List (Nat × Blk)->Prop):rngK x fr K = rngK x' fr K:=by rw [h]
def rngM (o:Option (TypeId × TypeId)) (b:Bool) (x:D) (fr:Nat) (K:D->List Nat->List (Nat × Blk)->Prop):Prop:=match o,x with
 | some _,x=>rngK x fr K
 | none,.data (.str s)=>b = true∧K (.iref fr) [] [(fr,.obj (.si s 0))]
 | none,_=>False
@[go_sem] theorem rngM_some (q:TypeId × TypeId) (b:Bool) (x:D) (fr:Nat) (K:D->List Nat->List (Nat × Blk)->Prop):rngM (some q) b x fr K = rngK x fr K:=rfl
@[go_sem] theorem rngM_str (s:ByteArray) (fr:Nat) (K:D->List Nat->List (Nat × Blk)->Prop):rngM none true (.data (.str s)) fr K = K (.iref fr) [] [(fr,.obj (.si s 0))]:=by simp [rngM]
@[congr] theorem rngM_congr {n0:Nat} (tk:tick = n0) {o o':Option (TypeId × TypeId)} {b b':Bool} {x x':D} (h0:o = o') (h1:b = b') (h:x = x') (fr:Nat) (K:D->List Nat->List (Nat × Blk)->Prop):rngM o b x fr K = rngM o' b' x' fr K:=by rw [h0,h1,h]
@[go_sem] theorem opK_range (t:TypeId) (x:Operand):opK P Γ ⟨dst,.range t x,ty,pos,af,gd⟩ e H fr K = rngM (mapT P t) (strT P t) (evalD Γ e x) fr K:=by
 simp only [opK,rngM,rngK,sideK]
 cases mapT P t with
 | none =>
   cases evalD Γ e x with
   | data x=>cases x <;> rfl
   | _=>rfl
 | some q =>
   cases evalD Γ e x with
   | data x=>cases x <;> rfl
   | _=>rfl
@[go_sem] theorem opK_snext (x:Operand):opK P Γ ⟨dst,.next x true,ty,pos,af,gd⟩ e H fr K = snextK (evalD Γ e x) H K:=rfl
@[go_sem] theorem snextK_eq (g:Nat) (K:D->List Nat->List (Nat × Blk)->Prop):snextK (.iref g) H K = sitK (H g) fun s p=>ifW (decide (p < s.size)) (K (.data (.tup [.bool true,.int .i64 p,.int .i32 (Utf8.decode s p).1])) [g] [(g,.obj (.si s (p + (Utf8.decode s p).2)))]) (K (.data (.tup [.bool false])) [g] []):=by
 unfold snextK sitK ifW
 simp only
 cases H g with
 | dead=>rfl
 | blk=>rfl
 | obj o =>
   cases o with
   | mp=>rfl
   | it=>rfl
   | si s p=>by_cases h:p < s.size <;> simp [h]
@[congr] theorem snextK_congr {n0:Nat} (tk:tick = n0) {x x':D} (h:x = x') (H:Nat->Blk) (K:D->List Nat->List (Nat × Blk)->Prop):snextK x H K = snextK x' H K:=by rw [h]
@[go_sem] theorem opK_entry (x:Operand):opK P Γ ⟨dst,.entry x,ty,pos,af,gd⟩ e H fr K = entryK (evalD Γ e x) H fun d rd=>K d rd []:=rfl
@[congr] theorem entryK_congr {n0:Nat} (tk:tick = n0) {x x':D} (h:x = x') (H:Nat->Blk) (K:D->List Nat->Prop):entryK x H K = entryK x' H K:=by rw [h]
/-- What goes on in more than one way: what comes next of a map;a row that may be none. -/
def nextM (g:Nat) (ks xs:List Data) (left:List Nat) (H:Nat->Blk) (nx:Nat) (K:D->(Nat->Blk)->Nat->Prop):Prop:=(left = []->K (.data (.tup [.bool false])) H (nx + 1)) ∧
 ∀ i k x,i∈left->ks[i]? = some k->xs[i]? = some x->K (.data (.tup [.bool true,k,x])) (Hp.set H g (.obj (.it ks xs (left.filter (· != i)) (some i)))) (nx + 1)
def nilM (p:Prop) (H:Nat->Blk) (nx:Nat) (K:D->(Nat->Blk)->Nat->Prop):Prop:=∀ b:Bool,(b = true->p)->K (.data (.bool b)) H (nx + 1)
@[congr] theorem nextM_congr {n0:Nat} (tk:tick = n0) (g:Nat) (ks xs:List Data) (left:List Nat) (H:Nat->Blk) (nx:Nat) (K:D->(Nat->Blk)->Nat->Prop):nextM g ks xs left H nx K = nextM g ks xs left H nx K:=rfl
@[congr] theorem nilM_congr {n0:Nat} (tk:tick = n0) (p:Prop) (H:Nat->Blk) (nx:Nat) (K:D->(Nat->Blk)->Nat->Prop):nilM p H nx K = nilM p H nx K:=rfl
def stepM (x:D) (H:Nat->Blk) (nx:Nat) (K:D->(Nat->Blk)->Nat->Prop):Prop:=match x with
 | .iref g=>itrK (H g) fun ks xs left _=>nextM g ks xs left H nx K
 | _=>False
@[go_sem] theorem stepM_eq (g:Nat) (H:Nat->Blk) (nx:Nat) (K:D->(Nat->Blk)->Nat->Prop):stepM (.iref g) H nx K = itrK (H g) fun ks xs left _=>nextM g ks xs left H nx K:=rfl
@[congr] theorem stepM_congr {n0:Nat} (tk:tick = n0) {x x':D} (h:x = x') (H:Nat->Blk) (nx:Nat) (K:D->(Nat->Blk)->Nat->Prop):stepM x H nx K = stepM x' H nx K:=by rw [h]
@[go_sem] theorem opK_next (x:Operand):opK P Γ ⟨dst,.next x false,ty,pos,af,gd⟩ e H fr K = False:=rfl
def isnM (x:D) (H:Nat->Blk) (nx:Nat) (K:D->(Nat->Blk)->Nat->Prop):Prop:=match x with
 | .data (.sl _ l)=>nilM (l = []) H nx K
 | .ref _ _ len _=>nilM (len = 0) H nx K
 | .emp _=>nilM True H nx K
 | _=>False
@[go_sem] theorem isnM_sl (n:Nat) (l:List Data) (H:Nat->Blk) (nx:Nat) (K:D->(Nat->Blk)->Nat->Prop):isnM (.data (.sl n l)) H nx K = nilM (l = []) H nx K:=rfl
@[go_sem] theorem isnM_ref (g o n s:Nat) (H:Nat->Blk) (nx:Nat) (K:D->(Nat->Blk)->Nat->Prop):isnM (.ref g o n s) H nx K = nilM (n = 0) H nx K:=rfl
@[go_sem] theorem isnM_emp (n:Nat) (H:Nat->Blk) (nx:Nat) (K:D->(Nat->Blk)->Nat->Prop):isnM (.emp n) H nx K = nilM True H nx K:=rfl
@[congr] theorem isnM_congr {n0:Nat} (tk:tick = n0) {x x':D} (h:x = x') (H:Nat->Blk) (nx:Nat) (K:D->(Nat->Blk)->Nat->Prop):isnM x H nx K = isnM x' H nx K:=by rw [h]
@[go_sem] theorem dcK_nil (t yt:TypeId) (x:Operand) (K:D->(Nat->Blk)->Nat->Prop):dcK P Γ ⟨dst,.binOp .eql t x (.const (.slice none 0 0)) yt,ty,pos,af,gd⟩ e H fr K = sideK ((sliceT P t).isSome = true) (isnM (evalD Γ e x) H fr K):=by
 simp only [dcK,isnM,sideK,nilM]
 congr 1
 cases evalD Γ e x with
 | data x=>cases x <;> rfl
 | emp n=>simp;rfl
 | _=>rfl
@[go_sem] theorem bin_nil_sl (op:BinOp) (t:TypeId) (n m:Nat) (l:List Data) (K:D->Prop):binK P op t (.data (.sl n l)) (.emp m) K = False:=rfl
@[go_sem] theorem bin_nil_ref (op:BinOp) (t:TypeId) (g o n s m:Nat) (K:D->Prop):binK P op t (.ref g o n s) (.emp m) K = False:=rfl
@[go_sem] theorem bin_nil_emp (op:BinOp) (t:TypeId) (n m:Nat) (K:D->Prop):binK P op t (.emp n) (.emp m) K = False:=rfl
@[go_sem] theorem findD_nil (k:Data) (i:Nat):findD k [] i = some none:=rfl
def foundK (o:Option Bool) (i:Nat) (r:Option (Option Nat)):Option (Option Nat):=match o with
 | some true=>some (some i)
 | some false=>r
 | none=>none
@[go_sem] theorem findD_cons (k x:Data) (ks:List Data) (i:Nat):findD k (x :: ks) i = foundK (keyEq k x) i (findD k ks (i + 1)):=by
 simp only [findD,foundK]
 split <;> simp_all
@[go_sem] theorem foundK_true (i:Nat) (r:Option (Option Nat)):foundK (some true) i r = some (some i):=rfl
@[go_sem] theorem foundK_false (i:Nat) (r:Option (Option Nat)):foundK (some false) i r = r:=rfl
@[congr] theorem foundK_congr {n0:Nat} (tk:tick = n0) {o o':Option Bool} (h:o = o') (i:Nat) (r:Option (Option Nat)):foundK o i r = foundK o' i r:=by rw [h]
@[go_sem] theorem keyEq_int (k:IntKind) (a b:Int):keyEq (.int k a) (.int k b) = some (a == b):=by simp [keyEq]
@[go_sem] theorem keyEq_agg (a b:List Data):keyEq (.agg a) (.agg b) = bolEq a b:=rfl
@[go_sem] theorem bolEq_nil:bolEq [] [] = some true:=rfl
@[go_sem] theorem bolEq_cons (a b:Bool) (l m:List Data):bolEq (.bool a :: l) (.bool b :: m) = (bolEq l m).map fun r=>a == b && r:=rfl
@[go_sem] theorem keyEq_str (a b:ByteArray):keyEq (.str a) (.str b) = some (a == b):=rfl
@[go_sem] theorem opK_extract (x:Operand) (i:Nat):opK P Γ ⟨dst,.extract x i,ty,pos,af,gd⟩ e H fr K = extractK (evalD Γ e x) i fun d=>K d [] []:=rfl
end
end
/-- A row of the call's own,read out. -/
theorem frz_ref {ok:Bool} {H:Nat->Blk} {g len es:Nat} {cells:List D} {l:List Data} {rw:Bool} (hg:H g = .blk rw cells) (hrw:ok = true ∨ rw = false) (hl:l.length = len) (hes:∀ x∈l,x.cells.length = es) (hc:cells = (flat l).map .data):Frz ok H (.ref g 0 len es) (.sl es l):=by
 subst hc
 refine .ref g 0 len es rw _ l (fun i=>.data ((flat l).getD i .nilp)) hg hrw hl hes (by simp [flat_length hes,hl]) (fun i x hx=>?_) (fun i x hx=>?_)
 · have hi:=(List.getElem?_eq_some_iff.1 hx).1
   simp [hx]
 · have:(flat l).getD i .nilp = x:=by simp [hx]
   rw [this];exact .data x
attribute [irreducible] someK
theorem side {p q:Prop} (h:p) (k:q):sideK p q:=⟨h,k⟩
/-- Both sides of a choice that hangs on something open. -/
theorem ifW_of {b:Bool} {x y:Prop} (h:b = true->x) (k:b = false->y):ifW b x y:=by
 cases b
 · exact k rfl
 · exact h rfl
theorem ifW_dec {p:Prop} [Decidable p] {x y:Prop} (h:p->x) (k:¬ p->y):ifW (decide p) x y:=ifW_of (fun e=>h (of_decide_eq_true e)) (fun e=>k (of_decide_eq_false e))
theorem ifW_ndec {p:Prop} [Decidable p] {x y:Prop} (h:¬ p->x) (k:p->y):ifW (!decide p) x y:=ifW_of (fun e=>h (by simpa using e)) (fun e=>k (by simpa using e))
/- Numbers. -/
@[go_sem] theorem wrap64 {x:Int} (h:-9223372036854775808≤x∧x≤9223372036854775807):IntKind.i64.wrap x = x:=by rw [IntKind.wrap_i64];omega
@[go_sem] theorem wrapI32 {x:Int} (h:-2147483648≤x∧x≤2147483647):IntKind.i32.wrap x = x:=by rw [IntKind.wrap_i32];omega
@[go_sem] theorem wrapU8 (x:Int):IntKind.u8.wrap x = x % 256:=IntKind.wrap_u8 x
@[go_sem] theorem wrapU16 (x:Int):IntKind.u16.wrap x = x % 65536:=IntKind.wrap_u16 x
@[go_sem] theorem wrapU32 (x:Int):IntKind.u32.wrap x = x % 4294967296:=IntKind.wrap_u32 x
theorem mod_of {a:Nat} {m:Nat} (h:a < m):a % m = a:=Nat.mod_eq_of_lt h
@[go_sem] theorem tdiv_pos {a b:Int} (h:0≤a):a.tdiv b = a / b:=Int.tdiv_eq_ediv_of_nonneg h
@[go_sem] theorem tmod_pos {a b:Int} (h:0≤a):a.tmod b = a % b:=Int.tmod_eq_emod_of_nonneg h
@[go_sem] theorem get_zero {α:Type} (x:α) (l:List α):(x :: l)[0]? = some x:=rfl
@[go_sem] theorem get_succ {α:Type} (x:α) (l:List α) (i:Nat):(x :: l)[i + 1]? = l[i]?:=rfl
def condK (d:D) (x y:Prop):Prop:=match d with
 | .data (.bool b)=>ifW b x y
 | _=>False
@[go_sem] theorem condK_bool (b:Bool) (x y:Prop):condK (.data (.bool b)) x y = ifW b x y:=rfl
@[congr] theorem condK_congr {n0:Nat} (tk:tick = n0) {d d':D} (h:d = d') (x y:Prop):condK d x y = condK d' x y:=by rw [h]
section
variable (P:Program) (Γ:Nat->Option (List Data))
@[go_sem] theorem wpF_skip (Q:Exit->St->Prop) (s:St):wpF P Γ .skip Q s = Q .normal s:=rfl
@[go_sem] theorem wpF_draw (i:Nat) (ops:List Oper) (Q:Exit->St->Prop) (s:St):wpF P Γ (.region i ops.toArray true) Q s = drawW P Γ ops.toArray ops s [] (fun s' tr=>sideK (drawOk2 ops.toArray tr s.nx s'.nx = true) (Q .normal s')):=rfl
@[go_sem] theorem wpF_row (i:Nat) (ops:List Oper) (Q:Exit->St->Prop) (s:St):wpF P Γ (.region i ops.toArray false) Q s = opsW P Γ ops.toArray ops s (Q .normal):=rfl
@[go_sem] theorem wpF_seq (x y:Code) (Q:Exit->St->Prop) (s:St):wpF P Γ (.seq x y) Q s = wpF P Γ x (thenW (wpF P Γ y Q) Q) s:=rfl
@[go_sem] theorem wpF_cond (c:Operand) (x y:Code) (Q:Exit->St->Prop) (s:St):wpF P Γ (.cond c x y) Q s = condK (evalD Γ s.env c) (wpF P Γ x Q s) (wpF P Γ y Q s):=rfl
@[go_sem] theorem wpF_block (id:Nat) (b:Code) (Q:Exit->St->Prop) (s:St):wpF P Γ (.block id b) Q s = wpF P Γ b (blockW id Q) s:=rfl
@[go_sem] theorem wpF_loop (b:Code) (Q:Exit->St->Prop) (s:St):wpF P Γ (.loop b) Q s = LoopW (wpF P Γ b) Q s:=rfl
@[go_sem] theorem wpF_exit (id:Nat) (Q:Exit->St->Prop) (s:St):wpF P Γ (.exit id) Q s = Q (.exit id) s:=rfl
@[go_sem] theorem wpF_ret (Q:Exit->St->Prop) (s:St):wpF P Γ .ret Q s = Q .ret s:=rfl
@[go_sem] theorem thenW_normal (n:St->Prop) (Q:Exit->St->Prop) (s:St):thenW n Q .normal s = n s:=rfl
@[go_sem] theorem thenW_exit (n:St->Prop) (Q:Exit->St->Prop) (s:St) (id:Nat):thenW n Q (.exit id) s = Q (.exit id) s:=rfl
@[go_sem] theorem thenW_ret (n:St->Prop) (Q:Exit->St->Prop) (s:St):thenW n Q .ret s = Q .ret s:=rfl
@[go_sem] theorem blockW_normal (id:Nat) (Q:Exit->St->Prop) (s:St):blockW id Q .normal s = Q .normal s:=rfl
@[go_sem] theorem blockW_exit (id i:Nat) (Q:Exit->St->Prop) (s:St):blockW id Q (.exit i) s = ifW (decide (i = id)) (Q .normal s) (Q (.exit i) s):=by
 by_cases h:i = id <;> simp [blockW,ifW,h]
@[go_sem] theorem blockW_ret (id:Nat) (Q:Exit->St->Prop) (s:St):blockW id Q .ret s = Q .ret s:=rfl
@[congr] theorem thenW_congr {n0:Nat} (tk:tick = n0) (n:St->Prop) (Q:Exit->St->Prop) (x:Exit) (s:St):thenW n Q x s = thenW n Q x s:=rfl
@[congr] theorem blockW_congr {n0:Nat} (tk:tick = n0) (id:Nat) (Q:Exit->St->Prop) (x:Exit) (s:St):blockW id Q x s = blockW id Q x s:=rfl
@[congr] theorem resK_congr {n0:Nat} (tk:tick = n0) {l l':List ResultVar} (h:l = l') (s:St) (K:List D->Prop):resK P l s K = resK P l' s K:=by rw [h]
@[congr] theorem retQ_congr {n0:Nat} (tk:tick = n0) (fn:Func) (r:Data) (x:Exit) (s:St):retQ P fn r x s = retQ P fn r x s:=rfl
@[congr] theorem retDQ_congr {n0:Nat} (tk:tick = n0) (fn:Func) (K:D->(Nat->Blk)->Nat->Prop) (x:Exit) (s:St):retDQ P fn K x s = retDQ P fn K x s:=rfl
@[go_sem] theorem retQ_ret (fn:Func) (r:Data) (s:St):retQ P fn r .ret s = resK P fn.results.toList s fun ds=>∃ xs,FrzL true s.hp ds xs∧r = tupD xs:=rfl
@[go_sem] theorem retQ_normal (fn:Func) (r:Data) (s:St):retQ P fn r .normal s = resK P fn.results.toList s fun ds=>∃ xs,FrzL true s.hp ds xs∧r = tupD xs:=rfl
@[go_sem] theorem retDQ_ret (fn:Func) (K:D->(Nat->Blk)->Nat->Prop) (s:St):retDQ P fn K .ret s = resK P fn.results.toList s fun ds=>∃ d,tupDD ds = some d∧K d s.hp s.nx:=rfl
@[go_sem] theorem retDQ_normal (fn:Func) (K:D->(Nat->Blk)->Nat->Prop) (s:St):retDQ P fn K .normal s = resK P fn.results.toList s fun ds=>∃ d,tupDD ds = some d∧K d s.hp s.nx:=rfl
@[go_sem] theorem tupDD_one (d:D):tupDD [d] = some d:=rfl
def mkTup (ds:List D):D:=match allData ds with
 | some xs=>.data (.tup xs)
 | none=>.tp ds
@[go_sem] theorem tupDD_two (a b:D) (l:List D):tupDD (a :: b :: l) = some (mkTup (a :: b :: l)):=rfl
@[go_sem] theorem mkTup_eq (ds:List D):mkTup ds = match allData ds with
 | some xs=>.data (.tup xs)
 | none=>.tp ds:=rfl
@[go_sem] theorem resK_nil (s:St) (K:List D->Prop):resK P [] s K = K []:=rfl
@[go_sem] theorem resK_tmp (t:Nat) (rest:List ResultVar) (s:St) (K:List D->Prop):resK P (.tmp t :: rest) s K = putK (s.env t) fun d=>resK P rest s fun ds=>K (d :: ds):=rfl
@[go_sem] theorem resK_cell (a:Nat) (t:TypeId) (rest:List ResultVar) (s:St) (K:List D->Prop):resK P (.cell a t :: rest) s K = loadK P t (s.env a) s.hp fun d _=>resK P rest s fun ds=>K (d :: ds):=rfl
@[go_sem] theorem extract_tup (vs:List Data) (i:Nat) (K:D->Prop):extractK (.data (.tup vs)) i K = someK (vs[i]?) fun v=>putK (.data v) K:=by
 unfold extractK someK putK
 apply propext
 constructor
 · rintro ⟨v,hv,hk⟩;rw [hv];exact hk
 · intro hk
   cases h:vs[i]? with
   | none=>rw [h] at hk;exact hk.elim
   | some v=>rw [h] at hk;exact ⟨v,h,hk⟩
@[go_sem] theorem extract_tp (cs:List D) (i:Nat) (K:D->Prop):extractK (.tp cs) i K = someK (cs[i]?) fun d=>putK d K:=by
 unfold extractK someK putK
 simp only
 cases cs[i]? <;> simp
@[congr] theorem extractK_congr {n0:Nat} (tk:tick = n0) {x x':D} (h:x = x') (i:Nat) (K:D->Prop):extractK x i K = extractK x' i K:=by rw [h]
@[go_sem] theorem partK_eq (t:TypeId) (cs:List D) (off:Nat) (K:D->Prop):partK P t cs off K = aggK (aggT P t) (someK (szT P t) fun n=>sideK (off + n≤cs.length) (putK (mkAgg ((cs.drop off).take n)) K)) (someK (cs[off]?) fun d=>K d):=by
 unfold partK aggK someK sideK putK
 cases aggT P t with
 | none=>cases szT P t <;> rfl
 | some b =>
   cases b
   · cases szT P t <;> simp only <;> cases cs[off]? <;> simp
   · cases szT P t <;> rfl
@[congr] theorem partK_congr {n0:Nat} (tk:tick = n0) (t:TypeId) {cs cs':List D} (h:cs = cs') {off off':Nat} (h2:off = off') (K:D->Prop):partK P t cs off K = partK P t cs' off' K:=by rw [h,h2]
@[congr] theorem fieldK_congr {n0:Nat} (tk:tick = n0) (t:TypeId) {x x':D} (h:x = x') (f:Nat) (K:D->Prop):fieldK P t x f K = fieldK P t x' f K:=by rw [h]
@[go_sem] theorem index_data (t:TypeId) (cs:List Data) (k:IntKind) (i:Int) (K:D->Prop):indexK P t (.data (.agg cs)) (.data (.int k i)) K = someK (arrT P t) fun ne=>sideK (0≤i) (sideK (i < ne.1) (someK (szT P ne.2) fun es=>partK P ne.2 (cs.map .data) (i.toNat * es) K)):=by
 unfold indexK aggD someK sideK
 cases arrT P t with
 | none=>rfl
 | some ne=>obtain ⟨n,e⟩:=ne;simp only;congr 2;cases szT P e <;> rfl
/-- A slice expression. -/
def slcK (t:TypeId) (x:D) (lo hi:Option D) (H:Nat->Blk) (K:D->List Nat->List (Nat × Blk)->Prop):Prop:=match x with
 | .ptr _ _ | .cptr _=>sliceArrK P t x lo hi none H fun d rd=>K d rd []
 | .cut g off len cp es=>cutK P t g off len cp es lo hi none fun d=>K d [] []
 | _=>sliceK P t x lo hi none fun d=>K d [] []
/-- A slice expression with three bounds. -/
def slc3K (t:TypeId) (x:D) (lo hi mx:Option D) (K:D->List Nat->List (Nat × Blk)->Prop):Prop:=match x with
 | .cut g off len cp es=>cutK P t g off len cp es lo hi mx fun d=>K d [] []
 | _=>False
@[congr] theorem slc3K_congr {n0:Nat} (tk:tick = n0) (t:TypeId) {x x':D} (h:x = x') {lo lo' hi hi' mx mx':Option D} (h2:lo = lo') (h3:hi = hi') (h4:mx = mx') (K:D->List Nat->List (Nat × Blk)->Prop):slc3K P t x lo hi mx K = slc3K P t x' lo' hi' mx' K:=by rw [h,h2,h3,h4]
@[congr] theorem boundsC_congr {n0:Nat} (tk:tick = n0) (n c:Nat) {lo lo' hi hi' mx mx':Option D} (h2:lo = lo') (h3:hi = hi') (h4:mx = mx') (K:Nat->Nat->Nat->Prop):boundsC n c lo hi mx K = boundsC n c lo' hi' mx' K:=by rw [h2,h3,h4]
@[go_sem] theorem cutK_eq (t:TypeId) (g off len cp es:Nat) (lo hi mx:Option D) (K:D->Prop):cutK P t g off len cp es lo hi mx K = someK (sliceT P t) fun e=>sideK (szT P e = some es) (boundsC len cp lo hi mx fun a b c=>natK (off + a * es) fun o=>natK (b - a) fun n=>natK (c - a) fun q=>K (.cut g o n q es)):=by
 unfold cutK someK sideK natK
 cases sliceT P t <;> rfl
@[go_sem] theorem slc_cut (t:TypeId) (g off len cp es:Nat) (lo hi:Option D) (H:Nat->Blk) (K:D->List Nat->List (Nat × Blk)->Prop):slcK P t (.cut g off len cp es) lo hi H K = cutK P t g off len cp es lo hi none fun d=>K d [] []:=rfl
@[congr] theorem sliceK_congr {n0:Nat} (tk:tick = n0) (t:TypeId) {x x':D} (h:x = x') {lo lo' hi hi' mx mx':Option D} (h2:lo = lo') (h3:hi = hi') (h4:mx = mx') (K:D->Prop):sliceK P t x lo hi mx K = sliceK P t x' lo' hi' mx' K:=by rw [h,h2,h3,h4]
@[go_sem] theorem slice3_sl (t:TypeId) (es:Nat) (l:List Data) (lo hi:Option D) (mx:D) (K:D->Prop):sliceK P t (.data (.sl es l)) lo hi (some mx) K = someK (sliceT P t) fun e=>sideK (szT P e = some es) (boundsC l.length l.length lo hi (some mx) fun a b c=>sideK (b = c) (K (.ful es ((l.take b).drop a)))):=by
 unfold sliceK someK sideK
 cases sliceT P t <;> rfl
@[go_sem] theorem boundsC_most (n c:Nat) (k' k2:IntKind) (h m:Int) (K:Nat->Nat->Nat->Prop):boundsC n c none (some (.data (.int k' h))) (some (.data (.int k2 m))) K = sideK (0≤h) (sideK (h≤m) (sideK (m≤c) (natK h.toNat fun b=>natK m.toNat fun q=>K 0 b q))):=by simp [boundsC,natD,sideK,natK]
@[go_sem] theorem slc3_cut (t:TypeId) (g off len cp es:Nat) (lo hi mx:Option D) (K:D->List Nat->List (Nat × Blk)->Prop):slc3K P t (.cut g off len cp es) lo hi mx K = cutK P t g off len cp es lo hi mx fun d=>K d [] []:=rfl
@[go_sem] theorem boundsC_hi (n c:Nat) (k:IntKind) (h:Int) (K:Nat->Nat->Nat->Prop):boundsC n c none (some (.data (.int k h))) none K = sideK (0≤h) (sideK (h≤c) (natK h.toNat fun b=>K 0 b c)):=by simp [boundsC,natD,sideK,natK]
@[congr] theorem slcK_congr {n0:Nat} (tk:tick = n0) (t:TypeId) {x x':D} (h:x = x') {lo lo' hi hi':Option D} (h2:lo = lo') (h3:hi = hi') (H:Nat->Blk) (K:D->List Nat->List (Nat × Blk)->Prop):slcK P t x lo hi H K = slcK P t x' lo' hi' H K:=by rw [h,h2,h3]
@[congr] theorem boundsK_congr {n0:Nat} (tk:tick = n0) (n:Nat) {lo lo' hi hi':Option D} (h2:lo = lo') (h3:hi = hi') (K:Nat->Nat->Prop):boundsK n lo hi K = boundsK n lo' hi' K:=by rw [h2,h3]
@[go_sem] theorem slc_sl (t:TypeId) (es:Nat) (l:List Data) (lo hi:Option D) (H:Nat->Blk) (K:D->List Nat->List (Nat × Blk)->Prop):slcK P t (.data (.sl es l)) lo hi H K = someK (sliceT P t) fun e=>sideK (szT P e = some es) (boundsK l.length lo hi fun a b=>putK (.data (.sl es ((l.take b).drop a))) fun d=>K d [] []):=by
 unfold slcK sliceK someK sideK putK
 cases sliceT P t <;> rfl
@[go_sem] theorem slc_emp (t:TypeId) (es:Nat) (lo hi:Option D) (H:Nat->Blk) (K:D->List Nat->List (Nat × Blk)->Prop):slcK P t (.emp es) lo hi H K = someK (sliceT P t) fun e=>sideK (szT P e = some es) (boundsK 0 lo hi fun a b=>K (.emp es) [] []):=by
 unfold slcK sliceK someK sideK
 cases sliceT P t <;> rfl
@[go_sem] theorem slc_str (t:TypeId) (s:ByteArray) (lo hi:Option D) (H:Nat->Blk) (K:D->List Nat->List (Nat × Blk)->Prop):slcK P t (.data (.str s)) lo hi H K = sideK (strT P t = true) (boundsK s.size lo hi fun a b=>putK (.data (.str (s.extract a b))) fun d=>K d [] []):=rfl
@[go_sem] theorem bounds_hi (n:Nat) (k:IntKind) (h:Int) (K:Nat->Nat->Prop):boundsK n none (some (.data (.int k h))) K = sideK (0≤h) (sideK (h≤n) (natK h.toNat fun b=>K 0 b)):=by simp [boundsK,natD,sideK,natK]
@[go_sem] theorem bounds_lo (n:Nat) (k:IntKind) (l:Int) (K:Nat->Nat->Prop):boundsK n (some (.data (.int k l))) none K = sideK (0≤l) (sideK (l≤n) (natK l.toNat fun a=>K a n)):=by simp [boundsK,natD,sideK,natK]
@[go_sem] theorem bounds_both (n:Nat) (k k':IntKind) (l h:Int) (K:Nat->Nat->Prop):boundsK n (some (.data (.int k l))) (some (.data (.int k' h))) K = sideK (0≤l) (sideK (l≤h) (sideK (h≤n) (natK l.toNat fun a=>natK h.toNat fun b=>K a b))):=by simp [boundsK,natD,sideK,natK]
/-- Plain data. -/
def datK (x:D) (K:Data->Prop):Prop:=match x with
 | .data d=>K d
 | _=>False
@[congr] theorem datK_congr {n0:Nat} (tk:tick = n0) {x x':D} (h:x = x') (K:Data->Prop):datK x K = datK x' K:=by rw [h]
@[go_sem] theorem datK_data (d:Data) (K:Data->Prop):datK (.data d) K = K d:=rfl
/-- What an interface holds. -/
def ifcK (x:D) (K:TypeId->Data->Prop):Prop:=match x with
 | .data (.ifc t d)=>K t d
 | _=>False
@[congr] theorem ifcK_congr {n0:Nat} (tk:tick = n0) {x x':D} (h:x = x') (K:TypeId->Data->Prop):ifcK x K = ifcK x' K:=by rw [h]
@[go_sem] theorem ifcK_ifc (t:TypeId) (d:Data) (K:TypeId->Data->Prop):ifcK (.data (.ifc t d)) K = K t d:=rfl
def invK (P:Program) (name:String) (t:TypeId) (K:FuncId->Prop):Prop:=∃ f,MethOk P name t f∧K f
@[congr] theorem invK_congr {n0:Nat} (tk:tick = n0) (name:String) (t:TypeId) (K:FuncId->Prop):invK P name t K = invK P name t K:=rfl
section
variable (dst:Option Nat) (ty:TypeId) (pos:String) (af:Array Edge) (gd:Option (Nat × Bool)) (e:Nat->D) (H:Nat->Blk) (fr:Nat) (K:D->List Nat->List (Nat × Blk)->Prop)
@[go_sem] theorem opK_slice (t:TypeId) (x:Operand) (lo hi:Option Operand):opK P Γ ⟨dst,.slice t x lo hi none,ty,pos,af,gd⟩ e H fr K = slcK P t (evalD Γ e x) (lo.map (evalD Γ e)) (hi.map (evalD Γ e)) H K:=by
 simp only [opK,slcK,Option.map_none]
 cases evalD Γ e x <;> rfl
@[go_sem] theorem opK_slice3 (t:TypeId) (x m:Operand) (lo hi:Option Operand):opK P Γ ⟨dst,.slice t x lo hi (some m),ty,pos,af,gd⟩ e H fr K = (match evalD Γ e x with
 | .ptr _ _ | .cptr _=>sliceArrK P t (evalD Γ e x) (lo.map (evalD Γ e)) (hi.map (evalD Γ e)) (some (evalD Γ e m)) H fun d rd=>K d rd []
 | .cut g off len cp es=>cutK P t g off len cp es (lo.map (evalD Γ e)) (hi.map (evalD Γ e)) (some (evalD Γ e m)) fun d=>K d [] []
 | _=>sliceK P t (evalD Γ e x) (lo.map (evalD Γ e)) (hi.map (evalD Γ e)) (some (evalD Γ e m)) fun d=>K d [] []):=rfl
@[go_sem] theorem opK_makeFunc (f:FuncId) (caps:Array Operand):opK P Γ ⟨dst,.makeFunc (.func f) #[] caps,ty,pos,af,gd⟩ e H fr K = putK (.fn f (caps.toList.map (evalD Γ e))) fun d=>K d [] []:=rfl
@[go_sem] theorem opK_bind (f:FuncId) (r:Operand):opK P Γ ⟨dst,.makeFunc (.func f) #[r] #[],ty,pos,af,gd⟩ e H fr K = putK (.bnd f (evalD Γ e r)) fun d=>K d [] []:=by
 simp [opK,putK]
@[go_sem] theorem opK_call (x:Operand) (args:Array Operand) (ts:Array TypeId):opK P Γ ⟨dst,.call ⟨.value x,args,ts⟩,ty,pos,af,gd⟩ e H fr K = someK (fnD (evalD Γ e x)) fun fc=>callK P Γ fc.1 (fc.2.1++(args.toList.map (evalD Γ e)++fc.2.2)) H K:=by
 simp only [opK]
 cases fnD (evalD Γ e x)
 · rw [someK_none]
 · rw [someK_some]
@[go_sem] theorem effK_call (x:Operand) (args:Array Operand) (ts:Array TypeId) (K:D->List Nat->List (Nat × Blk)->Nat->Prop):effK P Γ ⟨dst,.call ⟨.value x,args,ts⟩,ty,pos,af,gd⟩ e H fr K = someK (fnD (evalD Γ e x)) fun fc=>effC P Γ fc.1 (fc.2.1++(args.toList.map (evalD Γ e)++fc.2.2)) H fr K:=by
 simp only [effK]
 cases fnD (evalD Γ e x)
 · rw [someK_none]
 · rw [someK_some]
@[congr] theorem clearK_congr {n0:Nat} (tk:tick = n0) (t:TypeId) {x x':D} (h:x = x') (H:Nat->Blk) (K:D->List Nat->List (Nat × Blk)->Prop):clearK P t x H K = clearK P t x' H K:=by rw [h]
@[go_sem] theorem opK_clear (x:Operand) (t:TypeId):opK P Γ ⟨dst,.call ⟨.builtin .clear,#[x],#[t]⟩,ty,pos,af,gd⟩ e H fr K = clearK P t (evalD Γ e x) H K:=rfl
@[congr] theorem capK_congr {n0:Nat} (tk:tick = n0) (t:TypeId) {x x':D} (h:x = x') (K:D->Prop):capK P t x K = capK P t x' K:=by rw [h]
@[congr] theorem lenK_congr {n0:Nat} (tk:tick = n0) (t:TypeId) {x x':D} (h:x = x') (K:D->Prop):lenK P t x K = lenK P t x' K:=by rw [h]
@[go_sem] theorem opK_len (x:Operand) (t:TypeId):opK P Γ ⟨dst,.call ⟨.builtin .len,#[x],#[t]⟩,ty,pos,af,gd⟩ e H fr K = lenK P t (evalD Γ e x) fun d=>K d [] []:=rfl
@[go_sem] theorem opK_cap (x:Operand) (t:TypeId):opK P Γ ⟨dst,.call ⟨.builtin .cap,#[x],#[t]⟩,ty,pos,af,gd⟩ e H fr K = capK P t (evalD Γ e x) fun d=>K d [] []:=rfl
@[go_sem] theorem opK_copy (x y:Operand) (t u:TypeId):opK P Γ ⟨dst,.call ⟨.builtin .copy,#[x,y],#[t,u]⟩,ty,pos,af,gd⟩ e H fr K = copyK P t (evalD Γ e x) (evalD Γ e y) H K:=rfl
@[go_sem] theorem opK_append (x y:Operand) (t u:TypeId):opK P Γ ⟨dst,.call ⟨.builtin .append,#[x,y],#[t,u]⟩,ty,pos,af,gd⟩ e H fr K = appendK P t u (evalD Γ e x) (evalD Γ e y) H fr K:=rfl
@[go_sem] theorem opK_min (x y:Operand) (ts:Array TypeId):opK P Γ ⟨dst,.call ⟨.builtin .min,#[x,y],ts⟩,ty,pos,af,gd⟩ e H fr K = minmaxK false [evalD Γ e x,evalD Γ e y] fun d=>K d [] []:=rfl
@[go_sem] theorem opK_max (x y:Operand) (ts:Array TypeId):opK P Γ ⟨dst,.call ⟨.builtin .max,#[x,y],ts⟩,ty,pos,af,gd⟩ e H fr K = minmaxK true [evalD Γ e x,evalD Γ e y] fun d=>K d [] []:=rfl
@[congr] theorem minmaxK_congr {n0:Nat} (tk:tick = n0) (b:Bool) {ds ds':List D} (h:ds = ds') (K:D->Prop):minmaxK b ds K = minmaxK b ds' K:=by rw [h]
@[congr] theorem copyK_congr {n0:Nat} (tk:tick = n0) (t:TypeId) {x x' y y':D} (h:x = x') (h2:y = y') (H:Nat->Blk) (K:D->List Nat->List (Nat × Blk)->Prop):copyK P t x y H K = copyK P t x' y' H K:=by rw [h,h2]
@[congr] theorem appendK_congr {n0:Nat} (tk:tick = n0) (t u:TypeId) {x x' y y':D} (h:x = x') (h2:y = y') (H:Nat->Blk) (fr:Nat) (K:D->List Nat->List (Nat × Blk)->Prop):appendK P t u x y H fr K = appendK P t u x' y' H fr K:=by rw [h,h2]
@[congr] theorem srcK_congr {n0:Nat} (tk:tick = n0) {x x':D} (h:x = x') (es:Nat) (H:Nat->Blk) (K:Nat->List D->List Nat->Prop):srcK x es H K = srcK x' es H K:=by rw [h]
@[go_sem] theorem len_str (t:TypeId) (s:ByteArray) (K:D->Prop):lenK P t (.data (.str s)) K = sideK (strT P t = true) (putK (.data (.int .i64 s.size)) K):=rfl
@[go_sem] theorem len_sl (t:TypeId) (es:Nat) (l:List Data) (K:D->Prop):lenK P t (.data (.sl es l)) K = sideK ((sliceT P t).isSome = true) (putK (.data (.int .i64 l.length)) K):=rfl
@[go_sem] theorem len_ref (t:TypeId) (g o n es:Nat) (K:D->Prop):lenK P t (.ref g o n es) K = sideK ((sliceT P t).isSome = true) (putK (.data (.int .i64 n)) K):=rfl
@[go_sem] theorem len_cut (t:TypeId) (g o n c es:Nat) (K:D->Prop):lenK P t (.cut g o n c es) K = sideK ((sliceT P t).isSome = true) (putK (.data (.int .i64 n)) K):=rfl
@[go_sem] theorem len_ful (t:TypeId) (es:Nat) (l:List Data) (K:D->Prop):lenK P t (.ful es l) K = sideK ((sliceT P t).isSome = true) (putK (.data (.int .i64 l.length)) K):=rfl
@[go_sem] theorem cap_emp (t:TypeId) (es:Nat) (K:D->Prop):capK P t (.emp es) K = sideK ((sliceT P t).isSome = true) (putK (.data (.int .i64 0)) K):=rfl
@[go_sem] theorem len_emp (t:TypeId) (es:Nat) (K:D->Prop):lenK P t (.emp es) K = sideK ((sliceT P t).isSome = true) (putK (.data (.int .i64 0)) K):=rfl
@[go_sem] theorem min_int (k k':IntKind) (a b:Int) (K:D->Prop):minmaxK false [.data (.int k a),.data (.int k' b)] K = sideK (k = k') (putK (.data (.int k (if b < a then b else a))) K):=rfl
@[go_sem] theorem max_int (k k':IntKind) (a b:Int) (K:D->Prop):minmaxK true [.data (.int k a),.data (.int k' b)] K = sideK (k = k') (putK (.data (.int k (if b > a then b else a))) K):=rfl
@[go_sem] theorem src_sl (es es':Nat) (l:List Data) (K:Nat->List D->List Nat->Prop):srcK (.data (.sl es' l)) es H K = sideK (es' = es) (natK l.length fun n=>cellsK ((flat l).map .data) fun cs=>K n cs []):=rfl
@[go_sem] theorem src_emp (es es':Nat) (K:Nat->List D->List Nat->Prop):srcK (.emp es') es H K = K 0 [] []:=rfl
@[go_sem] theorem src_ref (g off len es es':Nat) (K:Nat->List D->List Nat->Prop):srcK (.ref g off len es') es H K = sideK (es' = es) (blkK (H g) fun _ cells=>sideK (off + len * es≤cells.length) (cellsK ((cells.drop off).take (len * es)) fun cs=>K len cs [g])):=by
 unfold srcK sideK blkK cellsK
 simp only
 cases H g <;> rfl
@[go_sem] theorem src_str (s:ByteArray) (es:Nat) (K:Nat->List D->List Nat->Prop):srcK (.data (.str s)) es H K = sideK (es = 1) (natK s.size fun n=>cellsK (s.toList.map fun b=>.data (.int .u8 b.toNat)) fun cs=>K n cs []):=rfl
/-- What is put behind a row. -/
def appK (e xt:TypeId) (es by_ len:Nat) (y:D) (H:Nat->Blk) (K:Nat->List D->List Nat->Prop):Prop :=
 if (intT P xt).isSome then (match y with
  | .data (.int _ n)=>0≤n∧(len + n) * by_≤140737488355328∧len + n≤140737488355328∧zerosK P e n.toNat fun z=>K n.toNat z []
  | _=>False)
  else ((sliceT P xt).isSome || strT P xt) = true∧srcK y es H fun n cs rd=>cs.all D.cell = true∧(len + n) * by_≤140737488355328∧len + n≤140737488355328∧K n cs rd
@[congr] theorem appK_congr {n0:Nat} (tk:tick = n0) (el xt:TypeId) (es by_ len:Nat) {y y':D} (h:y = y') (H:Nat->Blk) (K:Nat->List D->List Nat->Prop):appK P el xt es by_ len y H K = appK P el xt es by_ len y' H K:=by rw [h]
@[go_sem] def appS (el xt:TypeId) (es by_ len:Nat) (y:D) (H:Nat->Blk) (K:Nat->List D->List Nat->Prop):Prop:=sideK ((intT P xt).isSome = false) (sideK (((sliceT P xt).isSome || strT P xt) = true) (srcK y es H fun n cs rd=>sideK (cs.all D.cell = true) (sideK ((len + n) * by_≤140737488355328) (sideK (len + n≤140737488355328) (K n cs rd)))))
theorem appK_src (el xt:TypeId) (es by_ len:Nat) (y:D) (hy:∀ k n,y≠.data (.int k n)) (H:Nat->Blk) (K:Nat->List D->List Nat->Prop):appK P el xt es by_ len y H K = appS P el xt es by_ len y H K:=by
 unfold appK appS sideK
 by_cases h:(intT P xt).isSome
 · simp only [h,if_true]
   cases y with
   | data x=>cases x <;> simp_all
   | _=>simp
 · simp [h]
@[go_sem] theorem appK_sl (el xt:TypeId) (es by_ len:Nat) (es':Nat) (l:List Data) (H:Nat->Blk) (K:Nat->List D->List Nat->Prop):appK P el xt es by_ len (.data (.sl es' l)) H K = appS P el xt es by_ len (.data (.sl es' l)) H K:=appK_src P el xt es by_ len _ (by simp) H K
@[go_sem] theorem appK_ref (el xt:TypeId) (es by_ len:Nat) (g o n s:Nat) (H:Nat->Blk) (K:Nat->List D->List Nat->Prop):appK P el xt es by_ len (.ref g o n s) H K = appS P el xt es by_ len (.ref g o n s) H K:=appK_src P el xt es by_ len _ (by simp) H K
theorem append_empS (t u:TypeId) (es:Nat) (y:D) (hy:∀ k n,y≠.data (.int k n)):appendK P t u (.emp es) y H fr K = someK (sliceT P t) fun el=>someK (szT P el) fun n=>someK (byT P el) fun by_=>sideK (0 < n) (sideK (zlT P el = some n) (appS P el u n by_ 0 y H fun m cs rd=>K (.ref fr 0 m n) rd [(fr,.blk true cs)])):=by
 unfold appendK someK sideK appS sideK
 simp only
 cases sliceT P t <;> simp only
 rename_i el
 cases szT P el <;> simp only
 cases byT P el <;> simp only
 by_cases h:(intT P u).isSome
 · simp only [h,if_true]
   cases y with
   | data x=>cases x <;> simp_all
   | _=>simp
 · simp [h]
@[go_sem] theorem append_emp_sl (t u:TypeId) (es es':Nat) (l:List Data):appendK P t u (.emp es) (.data (.sl es' l)) H fr K = someK (sliceT P t) fun el=>someK (szT P el) fun n=>someK (byT P el) fun by_=>sideK (0 < n) (sideK (zlT P el = some n) (appS P el u n by_ 0 (.data (.sl es' l)) H fun m cs rd=>K (.ref fr 0 m n) rd [(fr,.blk true cs)])):=append_empS P H fr K t u es _ (by simp)
/-- Room made,of zeros,where there was nothing. -/
@[go_sem] theorem append_room (t u:TypeId) (es:Nat) (k:IntKind) (i:Int):appendK P t u (.emp es) (.data (.int k i)) H fr K = someK (sliceT P t) fun el=>someK (szT P el) fun n=>someK (byT P el) fun by_=>sideK (0 < n) (sideK (zlT P el = some n) (sideK ((intT P u).isSome = true) (sideK (0 < i) (sideK (i * by_≤140737488355328) (sideK (i≤140737488355328) (zerosK P el i.toNat fun z=>natK i.toNat fun q=>K (.cut fr 0 q q n) [] [(fr,.blk true z)])))))):=by
 unfold appendK someK sideK natK
 simp only
 cases sliceT P t <;> simp only
 rename_i el
 cases szT P el <;> simp only
 cases byT P el <;> simp only
 by_cases h:(intT P u).isSome
 · simp only [h,if_true,true_and]
 · simp [h,srcK]
@[go_sem] theorem append_cut (t u:TypeId) (g off len cp es:Nat) (y:D):appendK P t u (.cut g off len cp es) y H fr K = someK (sliceT P t) fun el=>someK (szT P el) fun n=>someK (byT P el) fun by_=>sideK (0 < n) (sideK (zlT P el = some n) (sideK (es = n) (blkK (H g) fun rw cells=>ifW rw (sideK ((intT P u).isSome = false) (sideK (((sliceT P u).isSome || strT P u) = true) (ifW (decide (off + cp * n≤cells.length))
 (srcK y n H fun m cs rd=>sideK (cs.all D.cell = true) (sideK (len + m≤cp) (natK (len + m) fun q=>cellsK (over cells (off + len * n) cs) fun nc=>K (.cut g off q cp n) (g :: rd) [(g,.blk true nc)])))
 (sideK (off = 0) (sideK (len * n≤cells.length) (srcK y n H fun m cs rd=>sideK (cs.all D.cell = true) (sideK (len + m≤cp) (natK (len + m) fun q=>cellsK (ovr cells (len * n) cs) fun nc=>K (.cut g 0 q cp n) (g :: rd) [(g,.blk true nc)])))))))) False))):=by
 unfold appendK someK sideK blkK ifW cellsK natK
 simp only
 cases sliceT P t <;> simp only
 rename_i el
 cases szT P el <;> simp only
 rename_i n
 cases byT P el <;> simp only
 by_cases he:es = n
 · subst he
   simp only [true_and]
   cases H g with
   | dead=>rfl
   | obj o=>rfl
   | blk rw cells=>cases rw <;> rfl
 · simp [he]
@[go_sem] theorem append_ref (t u:TypeId) (g len es:Nat) (y:D):appendK P t u (.ref g 0 len es) y H fr K = someK (sliceT P t) fun el=>someK (szT P el) fun n=>someK (byT P el) fun by_=>sideK (0 < n) (sideK (zlT P el = some n) (sideK (es = n) (blkK (H g) fun rw cells=>ifW rw (sideK (cells.length = len * n) (appK P el u n by_ len y H fun m cs rd=>cellsK (cells++cs) fun nc=>K (.ref fr 0 (len + m) n) (g :: rd) [(g,.dead),(fr,.blk true nc)])) False))):=by
 unfold appendK someK sideK appK blkK ifW cellsK
 simp only
 cases sliceT P t <;> simp only
 rename_i el
 cases szT P el <;> simp only
 cases byT P el <;> simp only
 cases H g with
 | dead=>rfl
 | obj o=>rfl
 | blk rw cells =>
   cases rw
   · rfl
   · simp only
     by_cases h:(intT P u).isSome
     · simp only [h,if_true]
       cases y with
       | data x=>cases x <;> rfl
       | _=>rfl
     · simp [h]
end
@[go_sem] theorem dcK_eq (dst:Option Nat) (ty:TypeId) (pos:String) (af:Array Edge) (gd:Option (Nat × Bool)) (e:Nat->D) (H:Nat->Blk) (nx:Nat) (K:D->(Nat->Blk)->Nat->Prop) (x:Operand) (args:Array Operand) (ts:Array TypeId) :
 dcK P Γ ⟨dst,.call ⟨.value x,args,ts⟩,ty,pos,af,gd⟩ e H nx K = someK (fnD (evalD Γ e x)) fun fc=>DC P Γ fc.1 (fc.2.1++(args.toList.map (evalD Γ e)++fc.2.2)) H nx K:=by
 unfold dcK someK
 simp only
 cases fnD (evalD Γ e x) <;> rfl
@[go_sem] theorem fnD_data (f:FuncId) (c:List Data):fnD (.data (.fn f c)) = some (f,[],c.map toD):=rfl
@[go_sem] theorem fnD_bn (f:FuncId) (r:Data):fnD (.data (.bn f r)) = some (f,[toD r],[]):=rfl
@[go_sem] theorem fnD_bnd (f:FuncId) (r:D):fnD (.bnd f r) = some (f,[r],[]):=rfl
@[go_sem] theorem fnD_fn (f:FuncId) (c:List D):fnD (.fn f c) = some (f,[],c):=rfl
variable {P Γ}
/-- A call whose arguments are plain data. -/
theorem call_data {f:FuncId} {ds:List D} {xs:List Data} {r:Data} {H:Nat->Blk} {K:D->List Nat->List (Nat × Blk)->Prop} (h:PC P Γ f xs r) (hd:ds = xs.map toD) (k:K (.data r) [] []):callK P Γ f ds H K:=by
 subst hd
 refine ⟨[],xs,r,[],(fun g hg=>by cases hg),h,.inr fun H' _=>?_,k⟩
 refine ⟨by simp,fun i d x hd hx=>?_⟩
 rw [List.getElem?_map,hx] at hd
 cases hd
 cases x with
 | pc c=>exact .cptr c
 | _=>exact .data _
/-- A call that keeps rows of the caller's: nobody writes them from there on. -/
theorem call_frz {f:FuncId} {ds:List D} {H:Nat->Blk} {K:D->List Nat->List (Nat × Blk)->Prop} (F rd:List Nat) {xs:List Data} {r:Data} (hF:∀ g∈F,∃ rw cells,H g = .blk rw cells) (h:PC P Γ f xs r) (hf:∀ H',(∀ g∈rd,H' g = H g)->FrzL false (Hp.upd H' (F.map fun g=>(g,fz (H g)))) ds xs) (k:K (.data r) rd (F.map fun g=>(g,fz (H g)))):callK P Γ f ds H K :=
 ⟨F,xs,r,rd,hF,h,.inr hf,k⟩
end
/-- Behind a loop's round: a state of the family,nearer to the end. -/
def NextW {σ:Type} (st:σ->St) (μ:σ->Nat) (x:σ) (s:St):Prop:=∃ y,WeakX s (st y)∧μ y < μ x
@[congr] theorem NextW_congr {n0:Nat} (tk:tick = n0) {σ:Type} (st:σ->St) (μ:σ->Nat) (x:σ) (s:St):NextW st μ x s = NextW st μ x s:=rfl
theorem next_of {σ:Type} {st:σ->St} {μ:σ->Nat} {x:σ} {s:St} (y:σ) (h:Weak s (st y)) (hm:μ y < μ x):NextW st μ x s:=⟨y,.inl h,hm⟩
theorem next_ren {σ:Type} {st:σ->St} {μ:σ->Nat} {x:σ} {s:St} (y:σ) (hm:μ y < μ x) (F:List Nat) (ρ:Nat->Option Nat) (h:WeakR F ρ s (st y)):NextW st μ x s:=⟨y,.inr ⟨F,ρ,h⟩,hm⟩
theorem loop_of {body:(Exit->St->Prop)->St->Prop} {Q:Exit->St->Prop} {s:St} {σ:Type} (st:σ->St) (μ:σ->Nat) (x0:σ) (h0:Weak s (st x0)) (h:∀ x,body (thenW (NextW st μ x) Q) (st x)):LoopW body Q s:=⟨σ,st,μ,x0,.inl h0,h⟩
theorem loop_ren {body:(Exit->St->Prop)->St->Prop} {Q:Exit->St->Prop} {s:St} {σ:Type} (st:σ->St) (μ:σ->Nat) (x0:σ) (F:List Nat) (ρ:Nat->Option Nat) (h0:WeakR F ρ s (st x0)) (h:∀ x,body (thenW (NextW st μ x) Q) (st x)):LoopW body Q s:=⟨σ,st,μ,x0,.inr ⟨F,ρ,h0⟩,h⟩
def startK (ds:List D) (n:Nat) (K:List D->Nat->Prop):Prop:=K ds n
@[congr] theorem startK_congr {n0:Nat} (tk:tick = n0) {ds ds':List D} (h:ds = ds') {n n':Nat} (h2:n = n') (K:List D->Nat->Prop):startK ds n K = startK ds' n' K:=by rw [h,h2]
@[go_sem] theorem startK_eq (ds:List D) (n:Nat) (K:List D->Nat->Prop):startK ds n K = K ds n:=rfl
section
variable {P:Program} {Γ:Nat->Option (List Data)}
theorem pc_by (hm:P.follows .mixedOrders = true) {f:FuncId} {fn:Func} {c:Code} {xs:List Data} {r:Data} (hf:P.funcs[f]? = some fn) (hb:fn.body = some c) (hc:CallOk P f)
 (h:startK (xs.map toD) (xs.length + (fn.ntmps - xs.length)) fun ds n=>wpF P Γ c (retQ P fn r) ⟨envArgs ds,fun _=>.dead,0,0,n⟩):PC P Γ f xs r:=pc_of hm hf hb hc h
theorem dc_by (hm:P.follows .mixedOrders = true) {f:FuncId} {fn:Func} {c:Code} {ds:List D} {H:Nat->Blk} {nx:Nat} {K:D->(Nat->Blk)->Nat->Prop} (hf:P.funcs[f]? = some fn) (hb:fn.body = some c) (hc:CallOk P f)
 (h:startK ds (ds.length + (fn.ntmps - ds.length)) fun ds n=>wpF P Γ c (retDQ P fn K) ⟨envArgs ds,H,nx,nx,n⟩):DC P Γ f ds H nx K:=dc_of hm hf hb hc h
end
/-- A pointer to a row of the call's own,for as long as nobody writes it. -/
theorem frz_ptr {ok:Bool} {H:Nat->Blk} {g:Nat} {l:List Data} {rw:Bool} (hg:H g = .blk rw (l.map .data)) (hrw:ok = true ∨ rw = false):Frz ok H (.ptr g 0) (.pc l) :=
 .ptr g 0 rw _ l (fun i=>.data (l.getD i .nilp)) hg hrw (fun i x hx=>by simp [hx]) fun i x hx=>by
  have:l.getD i .nilp = x:=by simp [hx]
  rw [this];exact .data x
theorem frzL_c {ok:Bool} {H:Nat->Blk} {d:D} {x:Data} {ds:List D} {xs:List Data} (h:Frz ok H d x) (t:FrzL ok H ds xs):FrzL ok H (d :: ds) (x :: xs):=(frzL_cons ok H d ds (x :: xs)).2 ⟨x,xs,rfl,h,t⟩
theorem frzL_n {ok:Bool} {H:Nat->Blk}:FrzL ok H [] []:=(frzL_nil ok H []).2 rfl
/-- Slots by a list. -/
def envL:List (Nat × D)->Nat->D
 | [],_=>.junk
 | (k,d) :: l,t=>if t = k then d else envL l t
def hpL:List (Nat × Blk)->Nat->Blk
 | [],_=>.dead
 | (k,d) :: l,t=>if t = k then d else hpL l t
@[go_sem] theorem envL_nil (t:Nat):envL [] t = .junk:=rfl
@[go_sem] theorem envL_cons (k:Nat) (d:D) (l:List (Nat × D)) (t:Nat):envL ((k,d) :: l) t = if t = k then d else envL l t:=rfl
@[go_sem] theorem hpL_nil (t:Nat):hpL [] t = .dead:=rfl
@[go_sem] theorem hpL_cons (k:Nat) (d:Blk) (l:List (Nat × Blk)) (t:Nat):hpL ((k,d) :: l) t = if t = k then d else hpL l t:=rfl
/-- All that it holds lies below a number. -/
def below (k:Nat):D->Bool
 | .ref g _ _ _=>decide (g < k)
 | .ptr g _=>decide (g < k)
 | .cut g _ _ _ _=>decide (g < k)
 | .mref g=>decide (g < k)
 | .iref g=>decide (g < k)
 | .agg cs=>allBelow k cs
 | .fn _ cs=>allBelow k cs
 | .bnd _ r=>below k r
 | .tp cs=>allBelow k cs
 | _=>true
where allBelow (k:Nat):List D->Bool
 | []=>true
 | d :: l=>below k d && allBelow k l
mutual
theorem scoped_of {k:Nat}:∀ {d:D},below k d = true->Scoped k d
 | .ref g o n s,h=>.ref g o n s (by simpa [below] using h)
 | .ptr g o,h=>.ptr g o (by simpa [below] using h)
 | .cut g o n c s,h=>.cut g o n c s (by simpa [below] using h)
 | .mref g,h=>.mref g (by simpa [below] using h)
 | .iref g,h=>.iref g (by simpa [below] using h)
 | .agg cs,h=>.agg cs (scoped_all (by simpa [below] using h))
 | .fn f cs,h=>.fn f cs (scoped_all (by simpa [below] using h))
 | .bnd f r,h=>.bnd f r (scoped_of (by simpa [below] using h))
 | .tp cs,h=>.tp cs (scoped_all (by simpa [below] using h))
 | .data x,_=>.data x
 | .emp n,_=>.emp n
 | .cptr c,_=>.cptr c
 | .yld l,_=>.yld l
 | .ful n l,_=>.ful n l
 | .junk,_=>.junk
theorem scoped_all {k:Nat}:∀ {l:List D},below.allBelow k l = true->∀ (i:Nat) (x:D),l[i]? = some x->Scoped k x
 | d :: l,h,0,x,hx=>by
   simp only [below.allBelow,Bool.and_eq_true] at h
   simp only [List.getElem?_cons_zero,Option.some.injEq] at hx
   subst hx
   exact scoped_of h.1
 | d :: l,h,i + 1,x,hx=>by
   simp only [below.allBelow,Bool.and_eq_true] at h
   exact scoped_all h.2 i x (by simpa using hx)
end
@[go_sem] theorem below_data (k:Nat) (x:Data):below k (.data x) = true:=rfl
@[go_sem] theorem below_ref (k g o n s:Nat):below k (.ref g o n s) = decide (g < k):=rfl
@[go_sem] theorem below_ptr (k g o:Nat):below k (.ptr g o) = decide (g < k):=rfl
@[go_sem] theorem below_cut (k g o n c s:Nat):below k (.cut g o n c s) = decide (g < k):=rfl
@[go_sem] theorem below_mref (k g:Nat):below k (.mref g) = decide (g < k):=rfl
@[go_sem] theorem below_iref (k g:Nat):below k (.iref g) = decide (g < k):=rfl
@[go_sem] theorem below_emp (k n:Nat):below k (.emp n) = true:=rfl
@[go_sem] theorem below_cptr (k:Nat) (c:List Data):below k (.cptr c) = true:=rfl
@[go_sem] theorem below_fn (k:Nat) (f:FuncId) (c:List D):below k (.fn f c) = below.allBelow k c:=rfl
@[go_sem] theorem below_bnd (k:Nat) (f:FuncId) (r:D):below k (.bnd f r) = below k r:=rfl
@[go_sem] theorem below_yld (k l:Nat):below k (.yld l) = true:=rfl
@[go_sem] theorem below_ful (k n:Nat) (l:List Data):below k (.ful n l) = true:=rfl
@[go_sem] theorem below_tp (k:Nat) (c:List D):below k (.tp c) = below.allBelow k c:=rfl
@[go_sem] theorem below_agg (k:Nat) (c:List D):below k (.agg c) = below.allBelow k c:=rfl
@[go_sem] theorem allBelow_nil (k:Nat):below.allBelow k [] = true:=rfl
@[go_sem] theorem allBelow_cons (k:Nat) (d:D) (l:List D):below.allBelow k (d :: l) = (below k d && below.allBelow k l):=rfl
@[go_sem] def blkBelow (k:Nat):Blk->Bool
 | .blk _ cells=>below.allBelow k cells
 | .obj (.mp _ xs)=>below.allBelow k xs
 | .obj (.it _ _ _ _)=>true
 | .obj (.si _ _)=>true
 | .dead=>true
theorem weak_lists {e:Nat->D} {H:Nat->Blk} {nx lo nt:Nat} (L:List (Nat × D)) (M:List (Nat × Blk)) (n:Nat) (hL:∀ p∈L,e p.1 = p.2) (hM:∀ p∈M,H p.1 = p.2) (hn:n≤nx) (hlo:lo≤n) (hs:∀ p∈L,below n p.2 = true) (hb:∀ p∈M,p.1 < n∧blkBelow n p.2 = true) :
 Weak ⟨e,H,nx,lo,nt⟩ ⟨envL L,hpL M,n,lo,nt⟩:=by
 have env:∀ (L:List (Nat × D)),(∀ p∈L,e p.1 = p.2)->∀ t,envL L t = .junk ∨ (envL L t = e t∧(t,e t)∈L):=by
  intro L
  induction L with
  | nil=>exact fun _ t=>.inl rfl
  | cons p L ih =>
    intro h t
    obtain ⟨k,d⟩:=p
    by_cases ht:t = k
    · subst ht
      have:=h (t,d) (by simp)
      simp only at this
      exact .inr ⟨by simp [envL,this],by simp [this]⟩
    · rcases ih (fun p hp=>h p (by simp [hp])) t with q | q
      · exact .inl (by simp [envL,ht,q])
      · exact .inr ⟨by simp [envL,ht,q.1],by simp [q.2]⟩
 have hps:∀ (M:List (Nat × Blk)),(∀ p∈M,H p.1 = p.2)->∀ t,hpL M t = .dead ∨ (hpL M t = H t∧(t,H t)∈M):=by
  intro M
  induction M with
  | nil=>exact fun _ t=>.inl rfl
  | cons p M ih =>
    intro h t
    obtain ⟨k,d⟩:=p
    by_cases ht:t = k
    · subst ht
      have:=h (t,d) (by simp)
      simp only at this
      exact .inr ⟨by simp [hpL,this],by simp [this]⟩
    · rcases ih (fun p hp=>h p (by simp [hp])) t with q | q
      · exact .inl (by simp [hpL,ht,q])
      · exact .inr ⟨by simp [hpL,ht,q.1],by simp [q.2]⟩
 refine ⟨fun t=>?_,fun g=>?_,hn,rfl,hlo,rfl,fun g hg=>?_,.inr ⟨fun t=>?_,fun g rw cells hg d hd=>?_,fun g o hg=>?_⟩⟩
 · rcases env L hL t with q | q
   · exact .inr q
   · exact .inl q.1
 · rcases hps M hM g with q | q
   · exact .inr q
   · exact .inl q.1
 · rcases hps M hM g with q | q
   · exact q
   · have:=(hb _ q.2).1
     simp only at this hg
     omega
 · rcases env L hL t with q | q
   · simp only [q];exact .junk
   · simp only [q.1];exact scoped_of (hs _ q.2)
 · rcases hps M hM g with q | q
   · simp only [q] at hg;cases hg
   · have h2:=(hb _ q.2).2
     simp only [q.1] at hg
     simp only [hg,blkBelow] at h2
     obtain ⟨i,hi⟩:=List.getElem?_of_mem hd
     exact scoped_all h2 i d hi
 · rcases hps M hM g with q | q
   · simp only [q] at hg;cases hg
   · have h2:=(hb _ q.2).2
     simp only [q.1] at hg
     simp only [hg] at h2
     cases o with
     | it=>trivial
     | si=>trivial
     | mp ks xs =>
       intro d hd
       obtain ⟨i,hi⟩:=List.getElem?_of_mem hd
       exact scoped_all h2 i d hi
/-- New numbers by a list. -/
def rhoL:List (Nat × Option Nat)->Nat->Option Nat
 | [],g=>some g
 | (k,o) :: l,g=>if g = k then o else rhoL l g
@[go_sem] theorem rhoL_nil (g:Nat):rhoL [] g = some g:=rfl
@[go_sem] theorem rhoL_cons (k:Nat) (o:Option Nat) (l:List (Nat × Option Nat)) (g:Nat):rhoL ((k,o) :: l) g = if g = k then o else rhoL l g:=rfl
@[go_sem] theorem fzH_eq (H:Nat->Blk) (F:List Nat) (g:Nat):fzH H F g = if g∈F then fz (H g) else H g:=rfl
section
variable {n:Nat} {ρ:Nat->Option Nat} {H:Nat->Blk}
def RenCells (n:Nat) (ρ:Nat->Option Nat) (H:Nat->Blk) (cs ds:List D):Prop:=cs.length≤ds.length∧∀ (i:Nat) (c d:D),cs[i]? = some c->ds[i]? = some d->Ren n ρ H c d
@[go_sem] theorem renCells_nil (ds:List D):RenCells n ρ H [] ds ↔ True:=iff_true_intro ⟨by simp,fun i c d h=>by simp at h⟩
@[go_sem] theorem renCells_cons (c d:D) (cs ds:List D):RenCells n ρ H (c :: cs) (d :: ds) ↔ Ren n ρ H c d∧RenCells n ρ H cs ds:=by
 constructor
 · rintro ⟨h1,h2⟩
   exact ⟨h2 0 c d rfl rfl,by simpa using h1,fun i c' d' hc hd=>h2 (i + 1) c' d' (by simpa using hc) (by simpa using hd)⟩
 · rintro ⟨h1,h2,h3⟩
   refine ⟨by simpa using h2,fun i c' d' hc hd=>?_⟩
   match i with
   | 0=>simp at hc hd;subst hc;subst hd;exact h1
   | i + 1=>exact h3 i c' d' (by simpa using hc) (by simpa using hd)
theorem renCells_datas {cs:List D} (h:∀ c∈cs,∃ x,c = .data x):RenCells n ρ H cs cs:=⟨Nat.le_refl _,fun i c d hc hd=>by
 rw [hc] at hd;cases hd
 obtain ⟨x,rfl⟩:=h c (List.mem_of_getElem? hc)
 exact .data x⟩
theorem renCells_eq {l m:List Data} (h:l = m):RenCells n ρ H (l.map D.data) (m.map D.data):=by
 subst h
 exact renCells_datas fun c hc=>by obtain ⟨x,_,rfl⟩:=List.mem_map.1 hc;exact ⟨x,rfl⟩
@[go_sem] theorem renCells_map (l:List Data):RenCells n ρ H (l.map D.data) (l.map D.data) ↔ True:=iff_true_intro (renCells_eq rfl)
@[go_sem] theorem ren_data (x y:Data):Ren n ρ H (.data x) (.data y) ↔ x = y:=by
 constructor
 · intro h
   cases h with
   | data=>rfl
   | frz _ _ h=>cases h;rfl
 · rintro rfl;exact .data x
@[go_sem] theorem ren_ref (g off len es o off' len' es':Nat):Ren n ρ H (.ref g off len es) (.ref o off' len' es') ↔ g < n∧ρ g = some o∧off = off'∧len = len'∧es = es':=by
 constructor
 · intro h
   cases h with
   | ref _ _ _ _ _ h1 h2=>exact ⟨h1,h2,rfl,rfl,rfl⟩
 · rintro ⟨h1,h2,rfl,rfl,rfl⟩;exact .ref _ _ _ _ _ h1 h2
@[go_sem] theorem ren_refnil (g off len es es':Nat):Ren n ρ H (.ref g off len es) (.emp es') ↔ g < n∧ρ g = none∧off = 0∧len = 0:=by
 constructor
 · intro h
   cases h with
   | nil _ _ _ h1 h2=>exact ⟨h1,h2,rfl,rfl⟩
 · rintro ⟨h1,h2,rfl,rfl⟩;exact .nil _ _ _ h1 h2
@[go_sem] theorem ren_cut (g off len cp es o off' len' cp' es':Nat):Ren n ρ H (.cut g off len cp es) (.cut o off' len' cp' es') ↔ g < n∧ρ g = some o∧off = off'∧len = len'∧cp = cp'∧es = es':=by
 constructor
 · intro h;cases h with | cut _ _ _ _ _ _ h1 h2=>exact ⟨h1,h2,rfl,rfl,rfl,rfl⟩
 · rintro ⟨h1,h2,rfl,rfl,rfl,rfl⟩;exact .cut _ _ _ _ _ _ h1 h2
@[go_sem] theorem ren_uncut (g off len es o off' len' cp' es':Nat):Ren n ρ H (.ref g off len es) (.cut o off' len' cp' es') ↔ g < n∧ρ g = some o∧off = off'∧len = len'∧es = es':=by
 constructor
 · intro h;cases h with | uncut _ _ _ _ _ _ h1 h2=>exact ⟨h1,h2,rfl,rfl,rfl⟩
 · rintro ⟨h1,h2,rfl,rfl,rfl⟩;exact .uncut _ _ _ _ _ _ h1 h2
@[go_sem] theorem ren_mref (g o:Nat):Ren n ρ H (.mref g) (.mref o) ↔ g < n∧ρ g = some o:=by
 constructor
 · intro h;cases h with | mref _ _ h1 h2=>exact ⟨h1,h2⟩
 · rintro ⟨h1,h2⟩;exact .mref _ _ h1 h2
@[go_sem] theorem ren_iref (g o:Nat):Ren n ρ H (.iref g) (.iref o) ↔ g < n∧ρ g = some o:=by
 constructor
 · intro h;cases h with | iref _ _ h1 h2=>exact ⟨h1,h2⟩
 · rintro ⟨h1,h2⟩;exact .iref _ _ h1 h2
@[go_sem] theorem ren_ptr (g off o off':Nat):Ren n ρ H (.ptr g off) (.ptr o off') ↔ g < n∧ρ g = some o∧off = off':=by
 constructor
 · intro h
   cases h with
   | ptr _ _ _ h1 h2=>exact ⟨h1,h2,rfl⟩
 · rintro ⟨h1,h2,rfl⟩;exact .ptr _ _ _ h1 h2
@[go_sem] theorem ren_emp (a b:Nat):Ren n ρ H (.emp a) (.emp b) ↔ True:=iff_true_intro (.emp a b)
@[go_sem] theorem ren_frzref (x:Data) (g off len es:Nat):Ren n ρ H (.data x) (.ref g off len es) ↔ Frz false H (.ref g off len es) x:=by
 constructor
 · intro h
   cases h with
   | frz _ _ h=>exact h
 · exact .frz _ _
@[go_sem] theorem ren_frzemp (x:Data) (es:Nat):Ren n ρ H (.data x) (.emp es) ↔ ∃ es',x = .sl es' []:=by
 constructor
 · intro h
   cases h with
   | frz _ _ h=>cases h with | emp _ es'=>exact ⟨es',rfl⟩
 · rintro ⟨es',rfl⟩;exact .frz _ _ (.emp es es')
end
/-- A row under its new number. -/
def RenK (n:Nat) (R:List (Nat × Option Nat)) (H:Nat->Blk) (rw:Bool) (cells:List D):Blk->Prop
 | .dead=>False
 | .obj _=>False
 | .blk rw' cells'=>rw = rw'∧RenCells n (rhoL R) H cells cells'
def RenO (n:Nat) (R:List (Nat × Option Nat)) (H:Nat->Blk) (rw:Bool) (cells:List D):Option Nat->Prop
 | some o=>RenK n R H rw cells (H o)
 | none=>cells = []
def RenS (n:Nat) (R:List (Nat × Option Nat)) (H:Nat->Blk) (o2:Ob):Blk->Prop
 | .obj o1=>RenOb n (rhoL R) H o2 o1
 | _=>False
def RenP (n:Nat) (R:List (Nat × Option Nat)) (H:Nat->Blk) (o2:Ob):Option Nat->Prop
 | some o=>RenS n R H o2 (H o)
 | none=>False
def RenB (n:Nat) (R:List (Nat × Option Nat)) (H:Nat->Blk) (g:Nat):Blk->Prop
 | .dead=>True
 | .blk rw cells=>g < n∧RenO n R H rw cells (rhoL R g)
 | .obj o=>g < n∧RenP n R H o (rhoL R g)
@[go_sem] theorem renB_obj (n:Nat) (R:List (Nat × Option Nat)) (H:Nat->Blk) (g:Nat) (o:Ob):RenB n R H g (.obj o) ↔ g < n∧RenP n R H o (rhoL R g):=Iff.rfl
@[go_sem] theorem renP_some (n:Nat) (R:List (Nat × Option Nat)) (H:Nat->Blk) (o2:Ob) (o:Nat):RenP n R H o2 (some o) ↔ RenS n R H o2 (H o):=Iff.rfl
@[go_sem] theorem renS_mp (n:Nat) (R:List (Nat × Option Nat)) (H:Nat->Blk) (ks ks':List Data) (xs ys:List D):RenS n R H (.mp ks xs) (.obj (.mp ks' ys)) ↔ ks = ks'∧xs.length = ys.length∧RenCells n (rhoL R) H xs ys:=by
 constructor
 · intro h;cases h with | mp _ _ _ hl hh=>exact ⟨rfl,hl,by omega,hh⟩
 · rintro ⟨rfl,hl,_,hh⟩;exact .mp _ _ _ hl hh
@[go_sem] theorem renS_si (n:Nat) (R:List (Nat × Option Nat)) (H:Nat->Blk) (s s':ByteArray) (p p':Nat):RenS n R H (.si s p) (.obj (.si s' p')) ↔ s = s'∧p = p':=by
 constructor
 · intro h;cases h;exact ⟨rfl,rfl⟩
 · rintro ⟨rfl,rfl⟩;exact .si _ _
@[go_sem] theorem renK_blk (n:Nat) (R:List (Nat × Option Nat)) (H:Nat->Blk) (rw:Bool) (cells:List D) (rw':Bool) (cells':List D):RenK n R H rw cells (.blk rw' cells') ↔ rw = rw'∧RenCells n (rhoL R) H cells cells':=Iff.rfl
@[go_sem] theorem renO_some (n:Nat) (R:List (Nat × Option Nat)) (H:Nat->Blk) (rw:Bool) (cells:List D) (o:Nat):RenO n R H rw cells (some o) ↔ RenK n R H rw cells (H o):=Iff.rfl
@[go_sem] theorem renO_none (n:Nat) (R:List (Nat × Option Nat)) (H:Nat->Blk) (rw:Bool) (cells:List D):RenO n R H rw cells none ↔ cells = []:=Iff.rfl
@[go_sem] theorem renB_dead (n:Nat) (R:List (Nat × Option Nat)) (H:Nat->Blk) (g:Nat):RenB n R H g .dead ↔ True:=Iff.rfl
@[go_sem] theorem renB_blk (n:Nat) (R:List (Nat × Option Nat)) (H:Nat->Blk) (g:Nat) (rw:Bool) (cells:List D):RenB n R H g (.blk rw cells) ↔ g < n∧RenO n R H rw cells (rhoL R g):=Iff.rfl
theorem nodup_inj {α:Type} (f:α->Option Nat) (k:α->Nat):∀ l:List α,(l.filterMap f).Nodup->∀ p∈l,∀ q∈l,∀ o,f p = some o->f q = some o->k p = k q
 | [],_,p,hp,_,_,_,_,_=>by simp at hp
 | a :: l,h,p,hp,q,hq,o,e1,e2=>by
   have ht:(l.filterMap f).Nodup:=by
    rw [List.filterMap_cons] at h
    split at h
    · exact h
    · exact (List.nodup_cons.1 h).2
   have hn:∀ x∈l,f a = some o->f x = some o->False:=fun x hx ea ex=>by
    rw [List.filterMap_cons_some ea] at h
    exact (List.nodup_cons.1 h).1 (List.mem_filterMap.2 ⟨x,hx,ex⟩)
   rcases List.mem_cons.1 hp with ep | hp <;> rcases List.mem_cons.1 hq with eq | hq
   · rw [ep,eq]
   · rw [ep] at e1;exact (hn q hq e1 e2).elim
   · rw [eq] at e2;exact (hn p hp e2 e1).elim
   · exact nodup_inj f k l ht p hp q hq o e1 e2
theorem ren_lists {e:Nat->D} {H:Nat->Blk} {nx lo nt:Nat} {F:List Nat} (R:List (Nat × Option Nat)) (L:List (Nat × D)) (M:List (Nat × Blk)) (n:Nat) (hL:∀ p∈L,Ren n (rhoL R) (fzH H F) p.2 (e p.1)) (hM:∀ p∈M,RenB n R (fzH H F) p.1 p.2)
 (hi:(M.filterMap fun p=>rhoL R p.1).Nodup) (hlo:lo≤n) (hf:∀ p∈R,lo≤p.1) :
 WeakR F (rhoL R) ⟨e,H,nx,lo,nt⟩ ⟨envL L,hpL M,n,lo,nt⟩:=by
 have env:∀ (L:List (Nat × D)),(∀ p∈L,Ren n (rhoL R) (fzH H F) p.2 (e p.1))->∀ t,Ren n (rhoL R) (fzH H F) (envL L t) (e t):=by
  intro L
  induction L with
  | nil=>exact fun _ t=>.junk _
  | cons p L ih =>
    intro h t
    obtain ⟨k,d⟩:=p
    by_cases ht:t = k
    · subst ht
      have:=h (t,d) (by simp)
      simpa [envL] using this
    · simp only [envL,ht,if_false]
      exact ih (fun p hp=>h p (by simp [hp])) t
 have blk:∀ (M:List (Nat × Blk)) (g:Nat) (b:Blk),hpL M g = b->b = .dead ∨ (g,b)∈M:=by
  intro M
  induction M with
  | nil=>intro g b h;exact .inl h.symm
  | cons p M ih =>
    intro g b h
    obtain ⟨k,d⟩:=p
    by_cases hg:g = k
    · subst hg
      simp only [hpL,if_true] at h
      subst h
      exact .inr (by simp)
    · simp only [hpL,hg,if_false] at h
      rcases ih g b h with h | h
      · exact .inl h
      · exact .inr (by simp [h])
 have fix:∀ (R:List (Nat × Option Nat)),(∀ p∈R,lo≤p.1)->∀ g,g < lo->rhoL R g = some g:=by
  intro R
  induction R with
  | nil=>exact fun _ g _=>rfl
  | cons p R ih =>
    intro h g hg
    obtain ⟨k,o⟩:=p
    have:=h (k,o) (by simp)
    simp only [rhoL,show ¬ g = k by simp only at this;omega,if_false]
    exact ih (fun p hp=>h p (by simp [hp])) g hg
 refine ⟨env L hL,fun g rw cells hg=>?_,fun g g' o cells rw cells' hg hg' ho ho'=>?_,fun g o2 hg=>?_,fun g g' o p p' hg hg' ho ho'=>?_,rfl,hlo,fun g hg=>fix R hf g hg,rfl⟩
 rotate_left 2
 · rcases blk M g _ hg with h | h
   · cases h
   · obtain ⟨h1,h2⟩:=hM _ h
     refine ⟨h1,?_⟩
     simp only at h2
     cases ho:rhoL R g with
     | some o =>
       rw [ho] at h2
       have h3:RenS n R (fzH H F) o2 (fzH H F o):=h2
       cases hb:fzH H F o with
       | dead=>rw [hb] at h3;exact h3.elim
       | blk=>rw [hb] at h3;exact h3.elim
       | obj o1 =>
         rw [hb] at h3
         refine ⟨o,o1,rfl,?_,h3⟩
         show H o = .obj o1
         unfold fzH at hb
         split at hb
         · cases hH:H o with
           | dead=>rw [hH] at hb;cases hb
           | blk=>rw [hH] at hb;cases hb
           | obj o3=>rw [hH] at hb;exact hb
         · exact hb
     | none=>rw [ho] at h2;exact h2.elim
 · rcases blk M g _ hg with h | h
   · cases h
   · rcases blk M g' _ hg' with h' | h'
     · cases h'
     · exact nodup_inj (fun p:Nat × Blk=>rhoL R p.1) (fun p=>p.1) M hi _ h _ h' o ho ho'
 · rcases blk M g _ hg with h | h
   · cases h
   · obtain ⟨h1,h2⟩:=hM _ h
     refine ⟨h1,?_⟩
     simp only at h2
     cases ho:rhoL R g with
     | some o =>
       rw [ho] at h2
       have h3:RenK n R (fzH H F) rw cells (fzH H F o):=h2
       cases hb:fzH H F o with
       | dead=>rw [hb] at h3;exact h3.elim
       | obj o=>rw [hb] at h3;exact h3.elim
       | blk rw' cells' =>
         rw [hb] at h3
         obtain ⟨rfl,h4,h5⟩:=h3
         exact .inl ⟨o,cells',rfl,hb,h4,h5⟩
     | none=>rw [ho] at h2;exact .inr ⟨rfl,h2⟩
 · rcases blk M g _ hg with h | h
   · cases h
   · rcases blk M g' _ hg' with h' | h'
     · cases h'
     · exact nodup_inj (fun p:Nat × Blk=>rhoL R p.1) (fun p=>p.1) M hi _ h _ h' o ho ho'
mutual
/-- Numbers moved up. -/
def shD (n:Nat):D->D
 | .ref g off len es=>.ref (g + n) off len es
 | .ptr g off=>.ptr (g + n) off
 | .cut g off len cp es=>.cut (g + n) off len cp es
 | .mref g=>.mref (g + n)
 | .iref g=>.iref (g + n)
 | .agg cs=>.agg (shL n cs)
 | .fn f caps=>.fn f (shL n caps)
 | .bnd f r=>.bnd f (shD n r)
 | .tp cs=>.tp (shL n cs)
 | .data x=>.data x
 | .emp es=>.emp es
 | .cptr cells=>.cptr cells
 | .yld l=>.yld l
 | .ful n l=>.ful n l
 | .junk=>.junk
def shL (n:Nat):List D->List D
 | []=>[]
 | d :: ds=>shD n d :: shL n ds
end
theorem shL_eq (n:Nat):∀ ds:List D,shL n ds = ds.map (shD n)
 | []=>by simp [shL]
 | d :: ds=>by simp [shL,shL_eq n ds]
def shB (n:Nat):Blk->Blk
 | .dead=>.dead
 | .blk rw cells=>.blk rw (shL n cells)
 | .obj (.mp ks xs)=>.obj (.mp ks (shL n xs))
 | .obj o=>.obj o
@[go_sem] theorem shB_mp (n:Nat) (ks:List Data) (xs:List D):shB n (.obj (.mp ks xs)) = .obj (.mp ks (shL n xs)):=rfl
@[go_sem] theorem shB_it (n:Nat) (ks xs:List Data) (l:List Nat) (c:Option Nat):shB n (.obj (.it ks xs l c)) = .obj (.it ks xs l c):=rfl
@[go_sem] theorem shB_si (n:Nat) (s:ByteArray) (p:Nat):shB n (.obj (.si s p)) = .obj (.si s p):=rfl
@[go_sem] theorem shD_ref (n g off len es:Nat):shD n (.ref g off len es) = .ref (g + n) off len es:=by simp [shD]
@[go_sem] theorem shD_ptr (n g off:Nat):shD n (.ptr g off) = .ptr (g + n) off:=by simp [shD]
@[go_sem] theorem shD_agg (n:Nat) (cs:List D):shD n (.agg cs) = .agg (shL n cs):=by simp [shD]
@[go_sem] theorem shD_data (n:Nat) (x:Data):shD n (.data x) = .data x:=by simp [shD]
@[go_sem] theorem shD_emp (n es:Nat):shD n (.emp es) = .emp es:=by simp [shD]
@[go_sem] theorem shL_nil (n:Nat):shL n [] = []:=by simp [shL]
@[go_sem] theorem shL_cons (n:Nat) (d:D) (ds:List D):shL n (d :: ds) = shD n d :: shL n ds:=by simp [shL]
@[go_sem] theorem shL_data (n:Nat) (l:List Data):shL n (l.map D.data) = l.map D.data:=by rw [shL_eq];simp [shD_data]
@[go_sem] theorem shB_blk (n:Nat) (rw:Bool) (cells:List D):shB n (.blk rw cells) = .blk rw (shL n cells):=rfl
@[go_sem] theorem shB_dead (n:Nat):shB n .dead = .dead:=rfl
/-- The caller's rows,and above them those handed back. -/
def ownH (nx:Nat) (H:Nat->Blk) (M:List (Nat × Blk)):Nat->Blk:=fun g=>if g < nx then H g else shB nx (hpL M (g - nx))
@[go_sem] theorem ownH_eq (nx:Nat) (H:Nat->Blk) (M:List (Nat × Blk)) (g:Nat):ownH nx H M g = if g < nx then H g else shB nx (hpL M (g - nx)):=rfl
/-- What a call comes to that hands back rows of its own: d,over k rows M. -/
def OC (P:Program) (Γ:Nat->Option (List Data)) (f:FuncId) (xs:List Data) (d:D) (M:List (Nat × Blk)) (k:Nat):Prop:=CallOk P f ∧
 ∀ (L:Nat->Prop) (w:World) (vs:Array Value),Glob Γ L w->(∀ b,L b->b < w.heap.size)->xs.length = vs.size->(∀ (i:Nat) (x:Data) (v:Value),xs[i]? = some x->vs[i]? = some v->VD L w x v) →
  Calls P f vs w fun e w'=>∃ v m,e = .returned v∧WR Γ L (W0.of w) m (hpL M) w'∧VV (Live L m (hpL M)) w' m d v∧(∀ g,k≤g->m g = .res)∧∀ g,k≤g->hpL M g = .dead
section
variable {P:Program} {Γ:Nat->Option (List Data)} {L0:Nat->Prop} {w0:W0}
/-- The caller's rows,and in a window those handed back. -/
def ownW (fr k:Nat) (H:Nat->Blk) (M:List (Nat × Blk)):Nat->Blk:=fun g=>if fr≤g∧g < fr + k then shB fr (hpL M (g - fr)) else H g
theorem WR.joinedW {m:Nat->MB} {H H2:Nat->Blk} {w:World} {fr k:Nat} (h:WR Γ L0 w0 m H w) (hold:∀ g,H2 g = H g ∨ ∃ rw cells,H g = .blk rw cells∧H2 g = .blk false cells) (hres:∀ q,q < k->m (fr + q) = .res)
 {mc:Nat->MB} {M:List (Nat × Blk)} {w':World} (hc:WR Γ (Live L0 m H2) (W0.of w) mc (hpL M) w') (hk:∀ g,k≤g->mc g = .res) :
 let m':=fun g=>if fr≤g∧g < fr + k then mc (g - fr) else m g
 WR Γ L0 w0 m' (ownW fr k H2 M) w'∧Grow (Live L0 m H) w (Live L0 m' (ownW fr k H2 M)) w'∧∀ d v,VV (Live (Live L0 m H2) mc (hpL M)) w' mc d v->VV (Live L0 m' (ownW fr k H2 M)) w' m' (shD fr d) v:=by
 intro m'
 have hlo:∀ g,¬ (fr≤g∧g < fr + k)->m' g = m g:=fun g hg=>if_neg hg
 have hin:∀ g,g < k->m' (g + fr) = mc g:=fun g hg=>by simp only [m'];rw [if_pos (by omega)];congr 1;omega
 have hhi:∀ g,mc g≠.res->m' (g + fr) = mc g:=fun g hg=>hin g (Nat.lt_of_not_le fun e=>hg (hk g e))
 have Hlo:∀ g,¬ (fr≤g∧g < fr + k)->ownW fr k H2 M g = H2 g:=fun g hg=>if_neg hg
 have Hhi:∀ g,g < k->ownW fr k H2 M (g + fr) = shB fr (hpL M g):=fun g hg=>by simp only [ownW];rw [if_pos (by omega)];congr 2;omega
 have out_of:∀ g,m g≠.res->¬ (fr≤g∧g < fr + k):=fun g hg e=>hg (by have:=hres (g - fr) (by omega);rwa [show fr + (g - fr) = g by omega] at this)
 have part:∀ g,¬ (fr≤g∧g < fr + k) ∨ ∃ q,q < k∧g = q + fr:=fun g=>by
  by_cases e:fr≤g∧g < fr + k
  · exact .inr ⟨g - fr,by omega,by omega⟩
  · exact .inl e
 have unsh:∀ {b:Blk} {rw:Bool} {cs:List D},shB fr b = .blk rw cs->∃ c0,b = .blk rw c0∧cs = c0.map (shD fr):=by
  intro b rw cs e
  cases b with
  | dead=>cases e
  | obj o=>cases o <;> cases e
  | blk r c=>simp only [shB,Blk.blk.injEq] at e;exact ⟨c,by rw [e.1],by rw [<- e.2,shL_eq]⟩
 have src:∀ g rw cs,H2 g = .blk rw cs->∃ rw0,H g = .blk rw0 cs∧(rw = true->rw0 = true):=by
  intro g rw cs hg
  rcases hold g with e | ⟨rw0,cells,e1,e⟩
  · rw [e] at hg;exact ⟨rw,hg,id⟩
  · rw [e] at hg;cases hg;exact ⟨rw0,e1,fun e=>by cases e⟩
 have osrc:∀ g o,H2 g = .obj o->H g = .obj o:=by
  intro g o hg
  rcases hold g with e | ⟨rw0,cells,e1,e⟩
  · rw [<- e];exact hg
  · rw [e] at hg;cases hg
 have rsrc:∀ g,(H2 g).rw = true->H2 g = H g:=by
  intro g hg
  rcases hold g with e | ⟨rw0,cells,e1,e⟩
  · exact e
  · rw [e] at hg;cases hg
 have rwsh:∀ b:Blk,(shB fr b).rw = b.rw:=fun b=>by
  cases b with
  | dead=>rfl
  | blk=>rfl
  | obj o=>cases o <;> rfl
 have hsub:∀ b,Live L0 m H2 b->Live L0 m H b:=by
  rintro b (hb | ⟨g,sz,hg,hm⟩)
  · exact .inl hb
  · exact .inr ⟨g,sz,by rw [<- rsrc g hg];exact hg,hm⟩
 have live1:∀ b,Live L0 m' (ownW fr k H2 M) b->Live (Live L0 m H2) mc (hpL M) b:=by
  rintro b (hb | ⟨g,sz,hg,hm⟩)
  · exact .inl (.inl hb)
  · rcases part g with e | ⟨q,hq,rfl⟩
    · rw [Hlo g e] at hg;rw [hlo g e] at hm
      exact .inl (.inr ⟨g,sz,hg,hm⟩)
    · rw [Hhi q hq,rwsh] at hg;rw [hin q hq] at hm
      exact .inr ⟨q,sz,hg,hm⟩
 have newb:∀ q b sz,hpL M q≠.dead->mc q = .at b sz->w.heap.size≤b:=by
  intro q b sz hg hm
  cases hb:hpL M q with
  | dead=>exact absurd hb hg
  | blk rw cs =>
    rcases hc.heap.blk q rw cs hb with ⟨k1,_⟩ | ⟨b',sz',vs,ty,k1,k2,_⟩
    · rw [k1] at hm;cases hm
    · rw [k1] at hm;cases hm;exact k2.1
  | obj o =>
    obtain ⟨b',v,k1,k2,_⟩:=hc.heap.obj q o hb
    rw [k1] at hm;cases hm;exact k2.1
 have old_live:∀ b,b < w.heap.size->Live (Live L0 m H2) mc (hpL M) b->Live L0 m H2 b:=by
  rintro b hb (hl | ⟨q,sz,hg,hm⟩)
  · exact hl
  · have:=newb q b sz (fun e=>by rw [e] at hg;cases hg) hm;omega
 have hgrow:Grow (Live L0 m H) w (Live L0 m' (ownW fr k H2 M)) w' :=
  ⟨hc.below.size,fun b hb hL=>⟨hc.below.block b hb,fun hl=>hL (hsub b (old_live b hb (live1 b hl)))⟩⟩
 have hgrow2:Grow (Live (Live L0 m H2) mc (hpL M)) w' (Live L0 m' (ownW fr k H2 M)) w':=Grow.less w' live1
 have ne:∀ {g b sz},mc g = .at b sz->mc g≠.res:=fun e q=>by rw [e] at q;cases q
 have hVV:∀ d v,VV (Live (Live L0 m H2) mc (hpL M)) w' mc d v->VV (Live L0 m' (ownW fr k H2 M)) w' m' (shD fr d) v:=by
  intro d v hv
  induction hv with
  | data x v h=>rw [shD_data];exact .data x v (h.mono hgrow2)
  | emp es a=>rw [shD_emp];exact .emp es a
  | ref g off len es b sz cap o h1 h2 h3 h4 h5=>rw [shD_ref];exact .ref _ off len es b sz cap o (by rw [hhi g (ne h1)];exact h1) h2 h3 h4 h5
  | ref0 g es a h1=>rw [shD_ref];exact .ref0 _ es a (by rw [hhi g (fun q=>by rw [h1] at q;cases q)];exact h1)
  | ptr g off b sz h1=>rw [shD_ptr];exact .ptr _ off b sz (by rw [hhi g (ne h1)];exact h1)
  | cut g off len cp es b sz cap o h1 h2 h3 h4 h5 h6=>simp only [shD];exact .cut _ off len cp es b sz cap o (by rw [hhi g (ne h1)];exact h1) h2 h3 h4 h5 h6
  | mref g b h1=>simp only [shD];exact .mref _ b (by rw [hhi g (ne h1)];exact h1)
  | iref g b h1=>simp only [shD];exact .iref _ b (by rw [hhi g (ne h1)];exact h1)
  | cptr cells b off vs hb hL hc hv=>simp only [shD];exact .cptr cells b off vs hb (fun hl=>hL (live1 b hl)) hc (fun i x hx=>(hv i x hx).mono hgrow2)
  | agg cs vs hl _ ih =>
    rw [shD_agg,shL_eq]
    refine .agg _ vs (by simpa using hl) fun i x v hx hv=>?_
    rw [List.getElem?_map,Option.map_eq_some_iff] at hx
    obtain ⟨y,hy,rfl⟩:=hx
    exact ih i y v hy hv
  | fn f caps vs hl _ ih =>
    simp only [shD,shL_eq]
    refine .fn f _ vs (by simpa using hl) fun i x v hx hv=>?_
    rw [List.getElem?_map,Option.map_eq_some_iff] at hx
    obtain ⟨y,hy,rfl⟩:=hx
    exact ih i y v hy hv
  | bnd f r v _ ih=>simp only [shD];exact .bnd f _ v ih
  | tp cs vs hl _ ih =>
    simp only [shD,shL_eq]
    refine .tp _ vs (by simpa using hl) fun i x v hx hv=>?_
    rw [List.getElem?_map,Option.map_eq_some_iff] at hx
    obtain ⟨y,hy,rfl⟩:=hx
    exact ih i y v hy hv
  | yld l=>simp only [shD];exact .yld l
  | ful es l a n h=>simp only [shD];exact .ful es l a n (h.mono hgrow2)
  | junk v=>simp only [shD];exact .junk v
 have hkeep:∀ g,m g≠.res->m' g = m g:=fun g hg=>hlo g (out_of g hg)
 have big:∀ q,hpL M q≠.dead->q < k:=fun q hq=>Nat.lt_of_not_le fun e=>hq (hc.none (hk q e))
 refine ⟨⟨⟨?_,?_,?_,?_⟩,?_,(fun k hk=>⟨Nat.lt_of_lt_of_le (h.l0 k hk).1 hgrow.size,(hc.below.block k (h.l0 k hk).1).trans (h.l0 k hk).2⟩),h.glob.mono hgrow⟩,hgrow,hVV⟩
 · intro g rw cs hg
   rcases part g with e | ⟨q,hq,rfl⟩
   · rw [Hlo g e] at hg
     obtain ⟨rw0,hg0,hrw⟩:=src g rw cs hg
     rcases h.heap.blk g rw0 cs hg0 with ⟨k1,k2⟩ | ⟨b,sz,vs,ty,k1,k2,k3,k4,k5,k6,k7⟩
     · exact .inl ⟨by rw [hlo g e];exact k1,k2⟩
     · have hlt:=h.lt hg0 k1
       refine .inr ⟨b,sz,vs,ty,by rw [hlo g e];exact k1,k2,fun e2 hl=>?_,by rw [hc.below.block b hlt];exact k4,k5,k6,fun i d hd=>?_⟩
       · rcases old_live b hlt (live1 b hl) with hl | ⟨q,szq,hq,hmq⟩
         · exact absurd hl k2.2
         · have hqg:=h.inj (by rw [<- rsrc q hq];exact hq) (fun q2=>by rw [q2] at hg0;cases hg0) hmq k1
           subst hqg
           rw [hg,e2] at hq;cases hq
       · obtain ⟨v,hv,h1c,hvv⟩:=k7 i d hd
         exact ⟨v,hv,h1c,hvv.mono hgrow hkeep⟩
   · rw [Hhi q hq] at hg
     obtain ⟨c0,e1,rfl⟩:=unsh hg
     rcases hc.heap.blk q rw c0 e1 with ⟨k1,k2⟩ | ⟨b,sz,vs,ty,k1,k2,k3,k4,k5,k6,k7⟩
     · exact .inl ⟨by rw [hin q hq];exact k1,by rw [k2];rfl⟩
     · refine .inr ⟨b,sz,vs,ty,by rw [hin q hq];exact k1,⟨Nat.le_trans h.base k2.1,fun hl=>by have:=(h.l0 _ hl).1;have:w.heap.size≤b:=k2.1;omega⟩,fun e2 hl=>k3 e2 (live1 b hl),k4,k5,by simpa using k6,fun i d hd=>?_⟩
       rw [List.getElem?_map,Option.map_eq_some_iff] at hd
       obtain ⟨y,hy,rfl⟩:=hd
       obtain ⟨v,hv,h1c,hvv⟩:=k7 i y hy
       exact ⟨v,hv,h1c,hVV y v hvv⟩
 · intro g g' cs rw' cs' b sz sz' hg hg' hm1 hm2
   rcases part g with e | ⟨q,hq,rfl⟩ <;> rcases part g' with e' | ⟨q',hq',rfl⟩
   · rw [Hlo g e] at hg;rw [Hlo g' e'] at hg';rw [hlo g e] at hm1;rw [hlo g' e'] at hm2
     obtain ⟨rw0,hg0,hrw⟩:=src g true cs hg
     obtain ⟨rw0',hg0',hrw'⟩:=src g' rw' cs' hg'
     have:=hrw rfl
     subst this
     exact h.heap.inj g g' cs rw0' cs' b sz sz' hg0 hg0' hm1 hm2
   · rw [Hlo g e] at hg;rw [hlo g e] at hm1;rw [Hhi q' hq'] at hg';rw [hin q' hq'] at hm2
     obtain ⟨c0,e1,_⟩:=unsh hg'
     obtain ⟨rw0,hg0,_⟩:=src g true cs hg
     have h1:=h.lt hg0 hm1
     have h2:=newb q' b sz' (by rw [e1];intro q;cases q) hm2
     omega
   · rw [Hlo g' e'] at hg';rw [hlo g' e'] at hm2;rw [Hhi q hq] at hg;rw [hin q hq] at hm1
     obtain ⟨c0,e1,_⟩:=unsh hg
     obtain ⟨rw0,hg0,_⟩:=src g' rw' cs' hg'
     have h1:=h.lt hg0 hm2
     have h2:=newb q b sz (by rw [e1];intro q;cases q) hm1
     omega
   · rw [Hhi q hq] at hg;rw [Hhi q' hq'] at hg';rw [hin q hq] at hm1;rw [hin q' hq'] at hm2
     obtain ⟨c0,e1,_⟩:=unsh hg
     obtain ⟨c1,e2,_⟩:=unsh hg'
     rw [hc.heap.inj q q' c0 rw' c1 b sz sz' e1 e2 hm1 hm2]
 · intro g o hg
   rcases part g with e | ⟨q,hq,rfl⟩
   · rw [Hlo g e] at hg
     obtain ⟨b,v,k1,k2,k3,k4⟩:=h.heap.obj g o (osrc g o hg)
     have hlt:=h.ltO (osrc g o hg) k1
     exact ⟨b,v,by rw [hlo g e];exact k1,k2,by rw [hc.below.block b hlt];exact k3,k4.mono hgrow hkeep⟩
   · rw [Hhi q hq] at hg
     cases hb:hpL M q with
     | dead=>rw [hb] at hg;cases hg
     | blk=>rw [hb] at hg;cases hg
     | obj o1 =>
       obtain ⟨b,v,k1,k2,k3,k4⟩:=hc.heap.obj q o1 hb
       rw [hb] at hg
       refine ⟨b,v,by rw [hin q hq];exact k1,⟨Nat.le_trans h.base k2.1,fun hl=>by have:=(h.l0 _ hl).1;have:w.heap.size≤b:=k2.1;omega⟩,k3,?_⟩
       cases k4 with
       | mp ks xs es clock a1 a2 a3 a4 a5 a6 =>
         cases hg
         rw [shL_eq]
         refine .mp ks _ es clock a1 (by simpa using a2) (fun i x e p q=>(a3 i x e p q).mono hgrow2) (fun i x e p q=>?_) a5 a6
         rw [List.getElem?_map,Option.map_eq_some_iff] at p
         obtain ⟨y,hy,rfl⟩:=p
         exact hVV y _ (a4 i y e hy q)
       | it ks xs left cur bm seen hv a1 a2 =>
         cases hg
         exact .it ks xs left cur bm seen (hv.mono hgrow2) a1 a2
       | si s pos =>
         cases hg
         exact .si s pos
 · intro g g' o o' b sz sz' hg hg' hm1 hm2
   have osh:∀ {b:Blk} {o:Ob},shB fr b = .obj o->∃ o0,b = .obj o0:=by
    intro b o e
    cases b with
    | dead=>cases e
    | blk=>cases e
    | obj o0=>exact ⟨o0,rfl⟩
   rcases part g with e | ⟨q,hq,rfl⟩ <;> rcases part g' with e' | ⟨q',hq',rfl⟩
   · rw [Hlo g e] at hg;rw [Hlo g' e'] at hg';rw [hlo g e] at hm1;rw [hlo g' e'] at hm2
     exact h.heap.injO g g' o o' b sz sz' (osrc g o hg) (osrc g' o' hg') hm1 hm2
   · rw [Hlo g e] at hg;rw [hlo g e] at hm1;rw [Hhi q' hq'] at hg';rw [hin q' hq'] at hm2
     obtain ⟨c0,e1⟩:=osh hg'
     have h1:=h.ltO (osrc g o hg) hm1
     have h2:=newb q' b sz' (by rw [e1];intro q;cases q) hm2
     omega
   · rw [Hlo g' e'] at hg';rw [hlo g' e'] at hm2;rw [Hhi q hq] at hg;rw [hin q hq] at hm1
     obtain ⟨c0,e1⟩:=osh hg
     have h1:=h.ltO (osrc g' o' hg') hm2
     have h2:=newb q b sz (by rw [e1];intro q;cases q) hm1
     omega
   · rw [Hhi q hq] at hg;rw [Hhi q' hq'] at hg';rw [hin q hq] at hm1;rw [hin q' hq'] at hm2
     obtain ⟨c0,e1⟩:=osh hg
     obtain ⟨c1,e2⟩:=osh hg'
     rw [hc.heap.injO q q' c0 c1 b sz sz' e1 e2 hm1 hm2]
 · exact h.below.trans (hc.below.mono h.base)
theorem WR.joined {m:Nat->MB} {H H2:Nat->Blk} {w:World} {nx k:Nat} (h:WR Γ L0 w0 m H w) (hold:∀ g,H2 g = H g ∨ ∃ rw cells,H g = .blk rw cells∧H2 g = .blk false cells) (hres:∀ g,nx≤g->m g = .res)
 {mc:Nat->MB} {M:List (Nat × Blk)} {w':World} (hc:WR Γ (Live L0 m H2) (W0.of w) mc (hpL M) w') (hk:∀ g,k≤g->mc g = .res) :
 let m':=fun g=>if g < nx then m g else mc (g - nx)
 WR Γ L0 w0 m' (ownH nx H2 M) w'∧Grow (Live L0 m H) w (Live L0 m' (ownH nx H2 M)) w'∧∀ d v,VV (Live (Live L0 m H2) mc (hpL M)) w' mc d v->VV (Live L0 m' (ownH nx H2 M)) w' m' (shD nx d) v:=by
 intro m'
 have e1:m' = fun g=>if nx≤g∧g < nx + k then mc (g - nx) else m g:=by
  funext g
  simp only [m']
  by_cases h1:g < nx
  · rw [if_pos h1,if_neg (by omega)]
  · rw [if_neg h1]
    by_cases h2:g < nx + k
    · rw [if_pos (by omega)]
    · rw [if_neg (by omega),hk _ (by omega),hres g (by omega)]
 have hdead:∀ g,nx≤g->H2 g = .dead:=fun g hg=>by
  have h0:=h.none (hres g hg)
  rcases hold g with e | ⟨rw0,cells,e,_⟩
  · rw [e,h0]
  · rw [h0] at e;cases e
 have e2:ownH nx H2 M = ownW nx k H2 M:=by
  funext g
  simp only [ownH,ownW]
  by_cases h1:g < nx
  · rw [if_pos h1,if_neg (by omega)]
  · rw [if_neg h1]
    by_cases h2:g < nx + k
    · rw [if_pos (by omega)]
    · rw [if_neg (by omega),hdead g (by omega),hc.none (hk _ (by omega))];rfl
 rw [e1,e2]
 exact h.joinedW hold (fun q _=>hres _ (by omega)) hc hk
/-- A call that hands back rows of its own: the caller's rows F,if any are handed over,are written no more. -/
theorem dc_own {f:FuncId} {ds:List D} {H:Nat->Blk} {nx:Nat} {K:D->(Nat->Blk)->Nat->Prop} (F:List Nat) {xs:List Data} {d:D} {M:List (Nat × Blk)} {k:Nat} (hF:∀ g∈F,∃ rw cells,H g = .blk rw cells) (h:OC P Γ f xs d M k)
 (hf:FrzL false (fzH H F) ds xs) (hk:K (shD nx d) (ownH nx (fzH H F) M) (nx + k)):DC P Γ f ds H nx K:=by
 obtain ⟨hcall,hoc⟩:=h
 refine ⟨hcall,fun L0 w0 m w vs hwr hres hdead hl hv=>?_⟩
 have hold:∀ g,fzH H F g = H g ∨ ∃ rw cells,H g = .blk rw cells∧fzH H F g = .blk false cells:=fun g=>by
  unfold fzH
  by_cases e:g∈F
  · obtain ⟨rw,cells,hg⟩:=hF g e
    exact .inr ⟨rw,cells,hg,by simp [e,hg,fz]⟩
  · exact .inl (by simp [e])
 obtain ⟨h1,hg1⟩:=hwr.called (Below.refl _ w) hold
 have hlive:∀ b,Live L0 m (fzH H F) b->Live L0 m H b:=by
  rintro b (hb | ⟨g,sz,hg,hm⟩)
  · exact .inl hb
  · rcases hold g with e | ⟨rw,cs,e1,e2⟩
    · rw [e] at hg;exact .inr ⟨g,sz,hg,hm⟩
    · rw [e2] at hg;cases hg
 obtain ⟨hlx,hfx⟩:=hf
 refine (hoc (Live L0 m (fzH H F)) w vs h1.glob (fun b hb=>h1.live_lt hb) (by omega) (fun i x v hx hvi=>?_)).mono fun e w' ⟨v,mc,he,hc,hd,hr,hM⟩=>?_
 · have hi:i < ds.length:=by rw [hlx];exact (List.getElem?_eq_some_iff.1 hx).1
   have hd:=List.getElem?_eq_getElem hi
   refine (hfx i _ x hd hx).vd (m:=m) (L:=Live L0 m H) hlive (fun g rw cells b sz hg hrw hm=>?_) (fun g rw cells hg hm=>?_) (fun e=>by cases e) (hv i _ v hd hvi)
   · have e:rw = false:=by simpa using hrw
     obtain ⟨vs',ty,e1,e2,e3,e4,e5⟩:=at_of h1 hg hm
     obtain ⟨rw0,hg0,_⟩:=fzH_blk hg
     obtain ⟨vs2,ty2,f1,_,_,_,f5⟩:=at_of hwr hg0 hm
     exact ⟨hwr.lt hg0 hm,e4 e,vs2,ty2,f1,fun i d hd=>by obtain ⟨v,a1,_,a3⟩:=f5 i d hd;exact ⟨v,a1,a3⟩⟩
   · rcases h1.heap.blk g rw cells hg with ⟨_,q⟩ | ⟨_,_,_,_,q,_⟩
     · exact q
     · rw [hm] at q;cases q
 · obtain ⟨j1,j2,j3⟩:=hwr.joined hold hres hc hr
   exact ⟨v,shD nx d,ownH nx (fzH H F) M,nx + k,_,he,j1,j3 d v hd,j2,fun g hg=>if_pos hg,fun g hg=>(if_neg (by omega)).trans (hr _ (by omega)),by omega,hk⟩
/-- What a function hands back of its own. -/
def retOQ (P:Program) (fn:Func) (d:D) (M:List (Nat × Blk)) (k:Nat):Exit->St->Prop
 | .normal,s | .ret,s=>resK P fn.results.toList s fun ds=>∃ d0 F R,tupDD ds = some d0∧WeakR F (rhoL R) ⟨envL [(0,d0)],s.hp,s.nx,0,1⟩ ⟨envL [(0,d)],hpL M,k,0,1⟩
 | _,_=>False
@[congr] theorem retOQ_congr {n0:Nat} (tk:tick = n0) (P:Program) (fn:Func) (d:D) (M:List (Nat × Blk)) (k:Nat) (e:Exit) (s:St):retOQ P fn d M k e s = retOQ P fn d M k e s:=rfl
/-- The result,and the rows that it takes with it. -/
def ownK (H:Nat->Blk) (nx:Nat) (d:D) (M:List (Nat × Blk)) (k:Nat) (ds:List D):Prop:=∃ d0 F R,tupDD ds = some d0∧WeakR F (rhoL R) ⟨envL [(0,d0)],H,nx,0,1⟩ ⟨envL [(0,d)],hpL M,k,0,1⟩
@[congr] theorem ownK_congr {n0:Nat} (tk:tick = n0) (H:Nat->Blk) (nx:Nat) (d:D) (M:List (Nat × Blk)) (k:Nat) {ds ds':List D} (h:ds = ds'):ownK H nx d M k ds = ownK H nx d M k ds':=by rw [h]
@[go_sem] theorem retOQ_ret (fn:Func) (d:D) (M:List (Nat × Blk)) (k:Nat) (s:St):retOQ P fn d M k .ret s = resK P fn.results.toList s fun ds=>ownK s.hp s.nx d M k ds:=rfl
@[go_sem] theorem retOQ_normal (fn:Func) (d:D) (M:List (Nat × Blk)) (k:Nat) (s:St):retOQ P fn d M k .normal s = resK P fn.results.toList s fun ds=>ownK s.hp s.nx d M k ds:=rfl
def resV (us:List Value):Value:=match us with
 | [v]=>v
 | vs=>.tuple vs.toArray
theorem results_runV {P:Program} {fn:Func} {a:Act} {w:World} {vs:List Value} (h:(fn.results.toList.mapM (resOne a.tmps)).run P w = .ok vs w):(results fn a.tmps).run P w = .ok (resV vs) w:=by
 rw [results_run h]
 match vs with
 | []=>rfl
 | [v]=>rfl
 | v :: u :: vs=>rfl
theorem tup_vv {L:Nat->Prop} {w:World} {m:Nat->MB} {es:List D} {us:List Value} {d:D} (hd:tupDD es = some d) (k1:es.length = us.length) (k2:∀ (i:Nat) (e:D) (v:Value),es[i]? = some e->us[i]? = some v->VV L w m e v):VV L w m d (resV us):=by
 match es,us,k1,k2,hd with
 | [e],[u],_,k2,hd =>
   simp only [tupDD,Option.some.injEq] at hd
   subst hd
   exact k2 0 e u rfl rfl
 | [],[],_,_,hd =>
   simp only [tupDD,allData,Option.some.injEq] at hd
   subst hd
   exact .data _ _ (.tup [] #[] rfl (fun i x v hx=>by simp at hx))
 | e :: e2 :: es,u :: u2 :: us,k1,k2,hd =>
   simp only [tupDD,Option.some.injEq] at hd
   cases hxs:allData (e :: e2 :: es) with
   | some xs =>
     rw [hxs] at hd
     simp only at hd
     subst hd
     have hx:=allData_eq hxs
     refine .data _ _ (.tup xs _ (by have:=congrArg List.length hx;simp at this k1 ⊢;omega) fun i x v hxi hvi=>?_)
     exact (k2 i (.data x) v (by rw [hx,List.getElem?_map,hxi];rfl) (by simpa using hvi)).data_inv
   | none =>
     rw [hxs] at hd
     simp only at hd
     subst hd
     exact .tp _ _ (by simp at k1 ⊢;omega) fun i x v hxi hvi=>k2 i x v hxi (by simpa using hvi)
 | [],u :: us,k1,_,_=>simp at k1
 | [e],[],k1,_,_=>simp at k1
 | [e],u :: u2 :: us,k1,_,_=>simp at k1
 | e :: e2 :: es,[],k1,_,_=>simp at k1
 | e :: e2 :: es,[u],k1,_,_=>simp at k1
theorem oc_of (hm:P.follows .mixedOrders = true) {f:FuncId} {fn:Func} {c:Code} {xs:List Data} {d:D} {M:List (Nat × Blk)} {k:Nat} (hf:P.funcs[f]? = some fn) (hb:fn.body = some c) (hc:CallOk P f)
 (h:wpF P Γ c (retOQ P fn d M k) ⟨envArgs (xs.map toD),fun _=>.dead,0,0,xs.length + (fn.ntmps - xs.length)⟩):OC P Γ f xs d M k:=by
 refine ⟨hc,fun L w vs hg hL hl hv=>calls_of_wp hf hb ?_⟩
 have hlive:∀ b,Live L (fun _=>.res) (fun _=>Blk.dead) b ↔ L b:=fun b=>⟨(fun h=>by
  rcases h with h | ⟨g,sz,hg,_⟩
  · exact h
  · cases hg),.inl⟩
 have hrel:Rel Γ L (W0.of w) (fun _=>.res) ⟨envArgs (xs.map toD),fun _=>.dead,0,0,xs.length + (fn.ntmps - xs.length)⟩ { tmps:=vs++Array.replicate (fn.ntmps - vs.size) undef,defers:=[] } w:=by
  refine ⟨rfl,fun t=>?_,⟨(fun g rw cells hg=>by cases hg),(fun g g' cells rw' cells' b sz sz' hg=>by cases hg),(fun g o hg=>by cases hg),(fun g g' o o' b sz sz' hg=>by cases hg)⟩,fun _ _=>rfl,fun _ _=>rfl,Below.refl _ _,(fun b hb=>⟨hL b hb,rfl⟩),hg.mono (Grow.less w fun b hb=>(hlive b).1 hb),Nat.le_refl _,by simp [hl]⟩
  refine args_env (by simpa using hl) (fun i d v hd hvi=>?_) t
  rw [List.getElem?_map,Option.map_eq_some_iff] at hd
  obtain ⟨x,hx,rfl⟩:=hd
  exact toD_ok ((hv i x v hx hvi).mono (Grow.less w fun b hb=>(hlive b).1 hb))
 refine wp_mono (wp_sound hm c _ _ _ _ _ hrel h) fun e a' w' ⟨m',s',h1,h2,h3⟩=>?_
 have hlo:s'.lo = 0:=h2.lo
 have key:(resK P fn.results.toList s' fun ds=>∃ d0 F R,tupDD ds = some d0∧WeakR F (rhoL R) ⟨envL [(0,d0)],s'.hp,s'.nx,0,1⟩ ⟨envL [(0,d)],hpL M,k,0,1⟩)->a'.defers = []∧∃ v,(results fn a'.tmps).run P w' = .ok v w'∧∃ v' m,Ending.returned v = .returned v'∧WR Γ L (W0.of w) m (hpL M) w'∧VV (Live L m (hpL M)) w' m d v'∧(∀ g,k≤g->m g = .res)∧∀ g,k≤g->hpL M g = .dead:=by
  intro hk
  obtain ⟨ds,us,⟨d0,F,R,hd0,hw⟩,k1,k2,k3⟩:=res_ok h1 _ _ hk
  have hv0:=tup_vv hd0 k1 k2
  have hrun:=results_runV k3
  generalize resV us = u at hv0 hrun
  have hr2:Rel Γ L (W0.of w) m' ⟨envL [(0,d0)],s'.hp,s'.nx,0,1⟩ { tmps:=#[u],defers:=[] } w':=by
   refine ⟨rfl,fun t=>?_,h1.heap,h1.res,h1.dead,h1.below,h1.l0,h1.glob,Nat.zero_le _,rfl⟩
   by_cases ht:t = 0
   · subst ht;exact hv0
   · simp only [envL,ht,if_false];exact .junk _
  obtain ⟨m2,r1,r2⟩:=renW_rel hr2 hw
  exact ⟨h1.defers,_,hrun,_,m2,rfl,r1.wr,r1.vals 0,r1.res,r1.dead⟩
 cases e with
 | normal=>exact key h3
 | ret=>exact key h3
 | _=>exact h3.elim
theorem oc_by (hm:P.follows .mixedOrders = true) {f:FuncId} {fn:Func} {c:Code} {xs:List Data} {d:D} {M:List (Nat × Blk)} {k:Nat} (hf:P.funcs[f]? = some fn) (hb:fn.body = some c) (hc:CallOk P f)
 (h:startK (xs.map toD) (xs.length + (fn.ntmps - xs.length)) fun ds n=>wpF P Γ c (retOQ P fn d M k) ⟨envArgs ds,fun _=>.dead,0,0,n⟩):OC P Γ f xs d M k:=oc_of hm hf hb hc h
theorem own_of {H:Nat->Blk} {nx:Nat} {d d0:D} {M:List (Nat × Blk)} {k:Nat} (F:List Nat) (R:List (Nat × Option Nat)) (h:WeakR F (rhoL R) ⟨envL [(0,d0)],H,nx,0,1⟩ ⟨envL [(0,d)],hpL M,k,0,1⟩):ownK H nx d M k [d0]:=⟨d0,F,R,rfl,h⟩
end
theorem toD_inv {L:Nat->Prop} {w:World} {m:Nat->MB} {x:Data} {v:Value} (h:VV L w m (toD x) v):VD L w x v:=by
 cases x with
 | pc cells=>cases h with | cptr _ b off vs hb hL hc hv=>exact .pc cells b off vs hb hL hc hv
 | _=>exact h.data_inv
@[go_sem] theorem ren_yld {n:Nat} {ρ:Nat->Option Nat} {H:Nat->Blk} (l l':Nat):Ren n ρ H (.yld l) (.yld l') ↔ l = l':=by
 constructor
 · intro h;cases h;rfl
 · rintro rfl;exact .yld l
@[go_sem] theorem coe_tp (P:Program) (t:TypeId) (cs:List D):coe P t (.tp cs) = .tp cs:=rfl
@[go_sem] theorem coe_yld (P:Program) (t:TypeId) (l:Nat):coe P t (.yld l) = .yld l:=rfl
@[go_sem] theorem ren_bnd {n:Nat} {ρ:Nat->Option Nat} {H:Nat->Blk} (f f':FuncId) (c d:D):Ren n ρ H (.bnd f c) (.bnd f' d) ↔ f = f'∧Ren n ρ H c d:=by
 constructor
 · intro h;cases h with | bnd _ _ _ h=>exact ⟨rfl,h⟩
 · rintro ⟨rfl,h⟩;exact .bnd f c d h
section
variable {P:Program} {Γ:Nat->Option (List Data)} {L0:Nat->Prop} {w0:W0}
/-- A call that hands back rows of its own. -/
theorem eff_own {f:FuncId} {ds:List D} {H:Nat->Blk} {fr:Nat} {K:D->List Nat->List (Nat × Blk)->Nat->Prop} {xs:List Data} {d:D} {M:List (Nat × Blk)} {k:Nat} (u:List (Nat × Blk)) (hk0:0 < k) (h:OC P Γ f xs d M k) (hd:ds = xs.map toD)
 (hu:∀ H',Hp.upd H' u = ownW fr k H' M) (hk:K (shD fr d) [] u k):effC P Γ f ds H fr K:=by
 subst hd
 obtain ⟨hcall,hoc⟩:=h
 refine ⟨_,_,_,k,hk0,fun H' _ _=>⟨hcall,fun L0 w0 m w vs hwr hres hbey hl hv=>?_⟩,hk⟩
 refine (hoc (Live L0 m H') w vs hwr.glob (fun b hb=>hwr.live_lt hb) (by simpa using hl) (fun i x v hx hvi=>toD_inv (hv i (toD x) v (by rw [List.getElem?_map,hx];rfl) hvi))).mono fun e w' ⟨v,mc,he,hc,hd,hr,_⟩=>?_
 obtain ⟨j1,j2,j3⟩:=hwr.joinedW (fun g=>.inl rfl) hres hc hr
 rw [<- hu] at j1 j2 j3
 exact ⟨v,he,_,j1,j3 _ _ hd,j2,fun g hg=>if_neg (by omega)⟩
theorem eff_own1 {f:FuncId} {ds:List D} {H:Nat->Blk} {fr:Nat} {K:D->List Nat->List (Nat × Blk)->Nat->Prop} {xs:List Data} {d:D} {B:Blk} (h:OC P Γ f xs d [(0,B)] 1) (hd:ds = xs.map toD)
 (hk:K (shD fr d) [] [(fr,shB fr B)] 1):effC P Γ f ds H fr K:=by
 refine eff_own _ (by omega) h hd (fun H'=>?_) hk
 funext g
 simp only [Hp.upd,Hp.set,ownW]
 by_cases e:g = fr
 · subst e;rw [if_pos rfl,if_pos (by omega),Nat.sub_self];rfl
 · rw [if_neg e,if_neg (by omega)]
/-- Nothing stands from a number on. -/
def deadFrom (H:Nat->Blk) (n:Nat):Prop:=∀ g,n≤g->H g = .dead
/-- A state under new numbers: where they lie is told. -/
theorem renW_told {m:Nat->MB} {s s2:St} {a:Act} {w:World} {F:List Nat} {ρ:Nat->Option Nat} (h:Rel Γ L0 w0 m s a w) (hw:WeakR F ρ s s2):∃ m2,Rel Γ L0 w0 m2 s2 a w∧Grow (Live L0 m s.hp) w (Live L0 m2 s2.hp) w∧∀ g,m2 g = if g < s2.nx then (match ρ g with | some o=>m o | none=>.nil) else .res:=by
 let m2:Nat->MB:=fun g=>if g < s2.nx then (match ρ g with | some o=>m o | none=>.nil) else .res
 have hm2:∀ g o,g < s2.nx->ρ g = some o->m2 g = m o:=fun g o hg ho=>by simp [m2,hg,ho]
 have hm3:∀ g,g < s2.nx->ρ g = none->m2 g = .nil:=fun g hg ho=>by simp [m2,hg,ho]
 have back:∀ g cells b sz,s2.hp g = .blk true cells->m2 g = .at b sz->∃ o cells',ρ g = some o∧s.hp o = .blk true cells'∧o ∉ F∧m o = .at b sz:=by
  intro g cells b sz hg hm
  obtain ⟨hn,⟨o,cells',h1,h2,_,_⟩ | ⟨h1,_⟩⟩:=hw.hp g true cells hg
  · obtain ⟨rw0,h3,h4,_⟩:=fzH_blk h2
    obtain ⟨rfl,h5⟩:=h4 rfl
    exact ⟨o,cells',h1,h3,h5,by rw [<- hm2 g o hn h1];exact hm⟩
  · rw [hm3 g hn h1] at hm;cases hm
 have hlive:∀ b,Live L0 m2 s2.hp b->Live L0 m s.hp b:=by
  rintro b (hb | ⟨g,sz,hg,hm⟩)
  · exact .inl hb
  · rcases Blk.rw_inv hg with ⟨cells,hg⟩ | ⟨o2,hg⟩
    · obtain ⟨o,cells',_,h2,_,h4⟩:=back g cells b sz hg hm
      exact .inr ⟨o,sz,by rw [h2];rfl,h4⟩
    · obtain ⟨hn,o,o1,h1,h2,_⟩:=hw.obj g o2 hg
      rw [hm2 g o hn h1] at hm
      exact .inr ⟨o,sz,by rw [h2];rfl,hm⟩
 have hgrow:Grow (Live L0 m s.hp) w (Live L0 m2 s2.hp) w:=Grow.less w hlive
 have quiet:∀ o cells b sz,fzH s.hp F o = .blk false cells->m o = .at b sz->¬ Live L0 m2 s2.hp b:=by
  intro o cells b sz ho hm hl
  obtain ⟨rw0,h1,_,h2⟩:=fzH_blk ho
  rcases h.heap.blk o rw0 cells h1 with ⟨k1,_⟩ | ⟨b',sz',vs,ty,k1,k2,k3,_⟩
  · rw [k1] at hm;cases hm
  · rw [k1] at hm;cases hm
    cases rw0 with
    | false=>exact k3 rfl (hlive b hl)
    | true =>
      rcases hl with hb | ⟨g,sz2,hg,hm'⟩
      · exact k2.2 hb
      · rcases Blk.rw_inv hg with ⟨c2,hg⟩ | ⟨o2,hg⟩
        · obtain ⟨o',c3,_,h5,h6,h7⟩:=back g c2 b sz2 hg hm'
          have:=h.heap.inj o' o c3 true cells b sz2 sz h5 h1 h7 k1
          subst this
          exact h6 (h2 rfl rfl)
        · obtain ⟨hn,o',o1,q1,q2,_⟩:=hw.obj g o2 hg
          rw [hm2 g o' hn q1] at hm'
          exact h.wr.apart h1 q2 k1 hm'
 have frz:∀ (d:D) (x:Data) (v:Value),Frz false (fzH s.hp F) d x->VV (Live L0 m s.hp) w m d v->VD (Live L0 m2 s2.hp) w x v:=by
  intro d x v hf hv
  refine hf.vd hlive (fun g rw cells b sz hg hrw hm=>?_) (fun g rw cells hg hm=>?_) (fun e=>by cases e) hv
  · have e:rw = false:=by simpa using hrw
    subst e
    obtain ⟨rw0,h1,_,_⟩:=fzH_blk hg
    rcases h.heap.blk g rw0 cells h1 with ⟨k1,_⟩ | ⟨b',sz',vs,ty,k1,_,_,k4,_,_,k7⟩
    · rw [k1] at hm;cases hm
    · rw [k1] at hm
      cases hm
      exact ⟨(Array.getElem?_eq_some_iff.1 k4).1,quiet g cells b sz hg k1,vs,ty,k4,fun i d hd=>by obtain ⟨v,e1,_,e3⟩:=k7 i d hd;exact ⟨v,e1,e3⟩⟩
  · obtain ⟨rw0,h1,_,_⟩:=fzH_blk hg
    rcases h.heap.blk g rw0 cells h1 with ⟨_,k2⟩ | ⟨b',sz',vs,ty,k1,_⟩
    · exact k2
    · rw [k1] at hm;cases hm
 have ren:∀ (c d:D) (v:Value),Ren s2.nx ρ (fzH s.hp F) c d->VV (Live L0 m s.hp) w m d v->VV (Live L0 m2 s2.hp) w m2 c v:=by
  intro c d v hr
  induction hr generalizing v with
  | data x=>intro hv;exact .data x v (hv.data_inv.mono hgrow)
  | frz d x hf=>intro hv;exact .data x v (frz d x v hf hv)
  | emp es es'=>intro hv;cases hv with | emp _ a=>exact .emp es a
  | ref g off len es o hg ho =>
    intro hv
    cases hv with
    | ref _ _ _ _ b sz cap o' h1 h2 h3 h4 h5=>exact .ref g off len es b sz cap o' (by rw [hm2 g o hg ho];exact h1) h2 h3 h4 h5
    | ref0 _ _ a h1=>exact .ref0 g es a (by rw [hm2 g o hg ho];exact h1)
  | nil g es es' hg ho=>intro hv;cases hv with | emp _ a=>exact .ref0 g es a (hm3 g hg ho)
  | ptr g off o hg ho=>intro hv;cases hv with | ptr _ _ b sz h1=>exact .ptr g off b sz (by rw [hm2 g o hg ho];exact h1)
  | cut g off len cp es o hg ho=>intro hv;cases hv with | cut _ _ _ _ _ b sz cap o' h1 h2 h3 h4 h5 h6=>exact .cut g off len cp es b sz cap o' (by rw [hm2 g o hg ho];exact h1) h2 h3 h4 h5 h6
  | uncut g off len cp es o hg ho=>intro hv;cases hv with | cut _ _ _ _ _ b sz cap o' h1 h2 h3 h4 h5 h6=>exact .ref g off len es b sz cap o' (by rw [hm2 g o hg ho];exact h1) h2 h3 (by omega) h6
  | recut g off len es o h0 hg ho =>
    intro hv
    cases hv with
    | ref _ _ _ _ b sz cap o' h1 h2 h3 h4 h5=>exact .cut g off len len es b sz cap o' (by rw [hm2 g o hg ho];exact h1) h2 h3 (Nat.le_refl _) h4 h5
    | ref0 _ _ a h1=>omega
  | mref g o hg ho=>intro hv;cases hv with | mref _ b h1=>exact .mref g b (by rw [hm2 g o hg ho];exact h1)
  | iref g o hg ho=>intro hv;cases hv with | iref _ b h1=>exact .iref g b (by rw [hm2 g o hg ho];exact h1)
  | cptr cells=>intro hv;cases hv with | cptr _ b off vs hb hL hc hv=>exact .cptr cells b off vs hb (fun hl=>hL (hlive b hl)) hc (fun i x hx=>(hv i x hx).mono hgrow)
  | agg cs ds hl _ ih =>
    intro hv
    cases hv with
    | agg _ vs hl2 hv =>
      refine .agg cs vs (by omega) fun i x u hx hu=>?_
      have hi:i < ds.length:=by rw [<- hl];exact (List.getElem?_eq_some_iff.1 hx).1
      exact ih i x ds[i] hx (List.getElem?_eq_getElem hi) u (hv i _ u (List.getElem?_eq_getElem hi) hu)
  | fn f cs ds hl _ ih =>
    intro hv
    cases hv with
    | fn _ _ vs hl2 hv =>
      refine .fn f cs vs (by omega) fun i x u hx hu=>?_
      have hi:i < ds.length:=by rw [<- hl];exact (List.getElem?_eq_some_iff.1 hx).1
      exact ih i x ds[i] hx (List.getElem?_eq_getElem hi) u (hv i _ u (List.getElem?_eq_getElem hi) hu)
  | bnd f c d _ ih =>
    intro hv
    cases hv with
    | bnd _ _ u h=>exact .bnd f c u (ih u h)
  | tp cs ds hl _ ih =>
    intro hv
    cases hv with
    | tp _ vs hl2 hv =>
      refine .tp cs vs (by omega) fun i x u hx hu=>?_
      have hi:i < ds.length:=by rw [<- hl];exact (List.getElem?_eq_some_iff.1 hx).1
      exact ih i x ds[i] hx (List.getElem?_eq_getElem hi) u (hv i _ u (List.getElem?_eq_getElem hi) hu)
  | yld l=>intro hv;cases hv;exact .yld l
  | ful es l=>intro hv;cases hv with | ful _ _ a n h=>exact .ful es l a n (h.mono hgrow)
  | junk d=>intro _;exact .junk v
 refine ⟨m2,⟨h.defers,fun t=>ren _ _ _ (hw.env t) (h.vals t),⟨?_,?_,fun g o2 hg=>by
  obtain ⟨hn,o,o1,q1,q2,q3⟩:=hw.obj g o2 hg
  obtain ⟨b,v,k1,k2,k3,k4⟩:=h.heap.obj o o1 q2
  refine ⟨b,v,by rw [hm2 g o hn q1];exact k1,k2,k3,?_⟩
  cases q3 with
  | mp ks cs ds hl hr =>
    cases k4 with
    | mp _ _ es clock a1 a2 a3 a4 a5 a6 =>
      refine .mp ks cs es clock a1 (by omega) (fun i x e p q=>(a3 i x e p q).mono hgrow) (fun i x e p q=>?_) a5 a6
      have hi:i < ds.length:=by rw [<- hl];exact (List.getElem?_eq_some_iff.1 p).1
      exact ren _ _ _ (hr i x _ p (List.getElem?_eq_getElem hi)) (a4 i _ e (List.getElem?_eq_getElem hi) q)
  | it ks xs left cur =>
    cases k4 with
    | it _ _ _ _ b seen hv a1 a2=>exact .it _ _ _ _ b seen (hv.mono hgrow) a1 a2
  | si s pos =>
    cases k4 with
    | si _ _=>exact .si s pos,fun g g' o o' b sz sz' hg hg' hm hm'=>by
  obtain ⟨hn,p,p1,q1,q2,_⟩:=hw.obj g o hg
  obtain ⟨hn',p',p1',q1',q2',_⟩:=hw.obj g' o' hg'
  rw [hm2 g p hn q1] at hm;rw [hm2 g' p' hn' q1'] at hm'
  have:=h.heap.injO p p' p1 p1' b sz sz' q2 q2' hm hm'
  subst this
  exact hw.injO g g' p o o' hg hg' q1 q1'⟩,fun g hg=>by simp [m2,show ¬ g < s2.nx by omega],fun g hg=>?_,h.below,h.l0,h.glob.mono hgrow,hw.low,by rw [hw.nt];exact h.slots⟩,hgrow,fun g=>rfl⟩
 · intro g rw cells hg
   obtain ⟨hn,⟨o,cells',h1,h2,h3,h4⟩ | ⟨h1,rfl⟩⟩:=hw.hp g rw cells hg
   · obtain ⟨rw0,h5,h6,h7⟩:=fzH_blk h2
     rcases h.heap.blk o rw0 cells' h5 with ⟨k1,k2⟩ | ⟨b,sz,vs,ty,k1,k2,k3,k4,k5,k6,k7⟩
     · subst k2
       exact .inl ⟨by rw [hm2 g o hn h1];exact k1,List.eq_nil_of_length_eq_zero (by simpa using h3)⟩
     · refine .inr ⟨b,sz,vs,ty,by rw [hm2 g o hn h1];exact k1,k2,fun hrw=>?_,k4,k5,by omega,fun i c hc=>?_⟩
       · subst hrw
         exact quiet o cells' b sz h2 k1
       · have hi:i < cells'.length:=by have:=(List.getElem?_eq_some_iff.1 hc).1;omega
         obtain ⟨v,e1,e2,e3⟩:=k7 i _ (List.getElem?_eq_getElem hi)
         exact ⟨v,e1,e2,ren _ _ _ (h4 i c _ hc (List.getElem?_eq_getElem hi)) e3⟩
   · exact .inl ⟨hm3 g hn h1,rfl⟩
 · intro g g' cells rw' cells' b sz sz' hg hg' hm hm'
   obtain ⟨o,c1,h1,h2,_,h4⟩:=back g cells b sz hg hm
   obtain ⟨hn',⟨o',c2,h5,h6,_,_⟩ | ⟨h5,_⟩⟩:=hw.hp g' rw' cells' hg'
   · obtain ⟨rw0,h7,_,_⟩:=fzH_blk h6
     have hm'':m o' = .at b sz':=by rw [<- hm2 g' o' hn' h5];exact hm'
     have:=h.heap.inj o o' c1 rw0 c2 b sz sz' h2 h7 h4 hm''
     subst this
     exact hw.inj g g' o cells rw' cells' hg hg' h1 h5
   · rw [hm3 g' hn' h5] at hm';cases hm'
 · cases hb:s2.hp g with
   | dead=>rfl
   | blk rw cells=>have:=(hw.hp g rw cells hb).1;omega
   | obj o=>have:=(hw.obj g o hb).1;omega
/-- A call that makes something under the one new number,and may write rows of the caller's: all that the caller has is known. -/
theorem eff_new {f:FuncId} {ds:List D} {H:Nat->Blk} {fr:Nat} {K:D->List Nat->List (Nat × Blk)->Nat->Prop} {d:D} (u M:List (Nat × Blk)) (hM:Hp.upd H u = hpL M) (hH:deadFrom H (fr + 64))
 (h:DC P Γ f ds H (fr + 64) fun d0 H1 nx1=>∃ F R,(∀ x∈R,x.1 = fr)∧WeakR F (rhoL R) ⟨envL [(0,d0)],H1,nx1,0,1⟩ ⟨envL [(0,d)],hpL M,fr + 64,0,1⟩)
 (hk:K d (List.range (fr + 64)) u 1):effC P Γ f ds H fr K:=by
 obtain ⟨hcall,hdc⟩:=h
 refine ⟨_,_,_,1,Nat.one_pos,fun H' hrd _=>⟨hcall,fun L0 w0 m w vs hwr hres hbey hl hv=>?_⟩,hk⟩
 have hHH:H' = H:=by
  funext g
  by_cases e:g < fr + 64
  · exact hrd g (List.mem_range.2 e)
  · rw [hwr.none (hbey g (by omega)),hH g (by omega)]
 subst hHH
 refine (hdc L0 w0 m w vs hwr hbey hH hl hv).mono fun e w' ⟨v,d0,H1,nx1,m1,he,k1,k2,k3,k4,k5,k6,F,R,hR,hw⟩=>⟨v,he,?_⟩
 have hr2:Rel Γ L0 w0 m1 ⟨envL [(0,d0)],H1,nx1,0,1⟩ { tmps:=#[v],defers:=[] } w':=by
  refine ⟨rfl,fun t=>?_,k1.heap,k5,fun g hg=>k1.none (k5 g hg),k1.below,k1.l0,k1.glob,Nat.zero_le _,rfl⟩
  by_cases ht:t = 0
  · subst ht;exact k2
  · simp only [envL,ht,if_false];exact .junk _
 obtain ⟨m2,r1,r2,r6⟩:=renW_told hr2 hw
 have r3:=r1.wr
 have r4:=r1.vals 0
 have r5:=k3.trans r2
 simp only at r3 r4 r5
 rw [<- hM] at r3 r4 r5
 refine ⟨m2,r3,r4,r5,fun g hg=>?_⟩
 have hrho:rhoL R g = some g:=by
  have:∀ R:List (Nat × Option Nat),(∀ x∈R,x.1 = fr)->rhoL R g = some g:=by
   intro R
   induction R with
   | nil=>intro _;rfl
   | cons p R ih =>
     intro h
     obtain ⟨k,o⟩:=p
     have hk:=h (k,o) (by simp)
     simp only at hk
     subst hk
     simp only [rhoL,show ¬ g = k by omega,if_false]
     exact ih fun x hx=>h x (by simp [hx])
  exact this R hR
 rw [r6 g]
 simp only
 by_cases e:g < fr + 64
 · rw [if_pos e,hrho];exact k4 g e
 · rw [if_neg e,hbey g (by omega)]
/-- A call that writes rows of the caller's: all that the caller has is known,and nothing new is handed back. -/
theorem eff_dc {f:FuncId} {ds:List D} {H:Nat->Blk} {fr:Nat} {K:D->List Nat->List (Nat × Blk)->Nat->Prop} {d:D} (u M:List (Nat × Blk)) (hM:Hp.upd H u = hpL M) (hH:deadFrom H (fr + 64))
 (h:DC P Γ f ds H (fr + 64) fun d0 H1 nx1=>∃ F,WeakR F (rhoL []) ⟨envL [(0,d0)],H1,nx1,fr + 64,1⟩ ⟨envL [(0,d)],hpL M,fr + 64,fr + 64,1⟩)
 (hk:K d (List.range (fr + 64)) u 1):effC P Γ f ds H fr K:=by
 obtain ⟨hcall,hdc⟩:=h
 refine ⟨_,_,_,1,Nat.one_pos,fun H' hrd _=>⟨hcall,fun L0 w0 m w vs hwr hres hbey hl hv=>?_⟩,hk⟩
 have hHH:H' = H:=by
  funext g
  by_cases e:g < fr + 64
  · exact hrd g (List.mem_range.2 e)
  · rw [hwr.none (hbey g (by omega)),hH g (by omega)]
 subst hHH
 refine (hdc L0 w0 m w vs hwr hbey hH hl hv).mono fun e w' ⟨v,d0,H1,nx1,m1,he,k1,k2,k3,k4,k5,k6,F,hw⟩=>⟨v,he,?_⟩
 have hr2:Rel Γ L0 w0 m1 ⟨envL [(0,d0)],H1,nx1,fr + 64,1⟩ { tmps:=#[v],defers:=[] } w':=by
  refine ⟨rfl,fun t=>?_,k1.heap,k5,fun g hg=>k1.none (k5 g hg),k1.below,k1.l0,k1.glob,k6,rfl⟩
  by_cases ht:t = 0
  · subst ht;exact k2
  · simp only [envL,ht,if_false];exact .junk _
 obtain ⟨m2,r1,r2⟩:=renW_rel hr2 hw
 have r3:=r1.wr
 have r4:=r1.vals 0
 have r5:=k3.trans r2.grow
 simp only at r3 r4 r5
 rw [<- hM] at r3 r4 r5
 refine ⟨m2,r3,r4,r5,fun g hg=>?_⟩
 by_cases e:g < fr + 64
 · exact (r2.keep g e).trans (k4 g e)
 · rw [r1.res g (by show fr + 64≤g;omega),hbey g (by omega)]
end
end Go.Proofs.YtlfhkplbjgcpiaaGreatDoor
