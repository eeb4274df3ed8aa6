/- What the walk's simp goes by, second part: code, calls, loops. Functions that hand back rows of their own, which the caller may write: a contract of its own (OC), and its use in a call. Calls in operations whose order is open that hand back rows of their own, or that write rows of the caller's. Arrays of numbers, held against each other. What came in, read as plain data: the arguments of a law, the listed variables. Rows of bytes; what arguments are. Choices that the numbers at hand decide: by omega, in the walk's simp. (Import it where the walk should decide by itself.) Functions that may panic, on plain data; functions that are lent a row of the caller's. A row of the caller's, lent to a call: the call is looked at with this row alone. The closed facts on the types. The document's own comparison of rows. Frames on a line: bytes escaped, plain, fed: the mathematics. Frames on a line: how a byte is escaped. Frames on a line: what is plain, as the program tells it and as the document does. Frames on a line: rows joined, what is sent. Check sequences: the program's and the document's own functions, on plain data. Options: the mathematics. Options: the document's own functions. Options: joined, dropped, put; numbers. Rules: the document's own functions. -/
import Derived.Test.YtmappnpigpcimaaPk3
import Derived.Laws.Bits64
import Derived.Laws.BitsAllLaws
import Derived.DeepKeys
import Derived.Laws.StructEq
import Derived.OpenShut
import Derived.SizedLaws
import Derived.LaidMore
import Derived.KernelRfl
import Derived.Test.YtmappnpigpcimaaChecked
namespace Go.Proofs.Ytmappnpigpcimaa
open Go.RowKit
set_option linter.unusedSimpArgs false
set_option linter.unusedVariables false
set_option maxRecDepth 100000
theorem side {p q:Prop} (h:p) (k:q):sideK p q:=⟨h,k⟩
/-- Both sides of a choice that hangs on something open. -/
theorem ifW_of {b:Bool} {x y:Prop} (h:b = true->x) (k:b = false->y):ifW b x y:=by
 cases b
 · exact k rfl
 · exact h rfl
theorem ifW_dec {p:Prop} [Decidable p] {x y:Prop} (h:p->x) (k:¬ p->y):ifW (decide p) x y:=ifW_of (fun e=>h (of_decide_eq_true e)) (fun e=>k (of_decide_eq_false e))
theorem ifW_ndec {p:Prop} [Decidable p] {x y:Prop} (h:¬ p->x) (k:p->y):ifW (!decide p) x y:=ifW_of (fun e=>h (by simpa using e)) (fun e=>k (by simpa using e))
/- Numbers. -/
@[go_sem] theorem wrap64 {x:Int} (h:-9223372036854775808≤x∧x≤9223372036854775807):IntKind.i64.wrap x = x:=by rw [IntKind.wrap_i64];omega
@[go_sem] theorem wrapU8 (x:Int):IntKind.u8.wrap x = x % 256:=IntKind.wrap_u8 x
@[go_sem] theorem wrapU32 (x:Int):IntKind.u32.wrap x = x % 4294967296:=IntKind.wrap_u32 x
@[go_sem] theorem tmod_pos {a b:Int} (h:0≤a):a.tmod b = a % b:=Int.tmod_eq_emod_of_nonneg h
@[go_sem] theorem get_zero {α:Type} (x:α) (l:List α):(x :: l)[0]? = some x:=rfl
@[go_sem] theorem get_succ {α:Type} (x:α) (l:List α) (i:Nat):(x :: l)[i + 1]? = l[i]?:=rfl
def condK (d:D) (x y:Prop):Prop:=match d with
 | .data (.bool b)=>ifW b x y
 | _=>False
@[go_sem] theorem condK_bool (b:Bool) (x y:Prop):condK (.data (.bool b)) x y = ifW b x y:=rfl
@[congr] theorem condK_congr {n0:Nat} (tk:tick = n0) {d d':D} (h:d = d') (x y:Prop):condK d x y = condK d' x y:=by rw [h]
section
variable (P:Program) (Γ:Nat->Option (List Data))
@[go_sem] theorem wpF_skip (Q:Exit->St->Prop) (s:St):wpF P Γ .skip Q s = Q .normal s:=rfl
@[go_sem] theorem wpF_draw (i:Nat) (ops:List Oper) (Q:Exit->St->Prop) (s:St):wpF P Γ (.region i ops.toArray true) Q s = drawW P Γ ops.toArray ops s [] (fun s' tr=>sideK (drawOk2 ops.toArray tr s.nx s'.nx = true) (Q .normal s')):=rfl
@[go_sem] theorem wpF_row (i:Nat) (ops:List Oper) (Q:Exit->St->Prop) (s:St):wpF P Γ (.region i ops.toArray false) Q s = opsW P Γ ops.toArray ops s (Q .normal):=rfl
@[go_sem] theorem wpF_seq (x y:Code) (Q:Exit->St->Prop) (s:St):wpF P Γ (.seq x y) Q s = wpF P Γ x (thenW (wpF P Γ y Q) Q) s:=rfl
@[go_sem] theorem wpF_cond (c:Operand) (x y:Code) (Q:Exit->St->Prop) (s:St):wpF P Γ (.cond c x y) Q s = condK (evalD Γ s.env c) (wpF P Γ x Q s) (wpF P Γ y Q s):=rfl
@[go_sem] theorem wpF_block (id:Nat) (b:Code) (Q:Exit->St->Prop) (s:St):wpF P Γ (.block id b) Q s = wpF P Γ b (blockW id Q) s:=rfl
@[go_sem] theorem wpF_loop (b:Code) (Q:Exit->St->Prop) (s:St):wpF P Γ (.loop b) Q s = LoopW (wpF P Γ b) Q s:=rfl
@[go_sem] theorem wpF_exit (id:Nat) (Q:Exit->St->Prop) (s:St):wpF P Γ (.exit id) Q s = Q (.exit id) s:=rfl
@[go_sem] theorem wpF_ret (Q:Exit->St->Prop) (s:St):wpF P Γ .ret Q s = Q .ret s:=rfl
@[go_sem] theorem thenW_normal (n:St->Prop) (Q:Exit->St->Prop) (s:St):thenW n Q .normal s = n s:=rfl
@[go_sem] theorem thenW_exit (n:St->Prop) (Q:Exit->St->Prop) (s:St) (id:Nat):thenW n Q (.exit id) s = Q (.exit id) s:=rfl
@[go_sem] theorem thenW_ret (n:St->Prop) (Q:Exit->St->Prop) (s:St):thenW n Q .ret s = Q .ret s:=rfl
@[go_sem] theorem blockW_normal (id:Nat) (Q:Exit->St->Prop) (s:St):blockW id Q .normal s = Q .normal s:=rfl
@[go_sem] theorem blockW_exit (id i:Nat) (Q:Exit->St->Prop) (s:St):blockW id Q (.exit i) s = ifW (decide (i = id)) (Q .normal s) (Q (.exit i) s):=by
 by_cases h:i = id <;> simp [blockW,ifW,h]
@[go_sem] theorem blockW_ret (id:Nat) (Q:Exit->St->Prop) (s:St):blockW id Q .ret s = Q .ret s:=rfl
@[congr] theorem thenW_congr {n0:Nat} (tk:tick = n0) (n:St->Prop) (Q:Exit->St->Prop) (x:Exit) (s:St):thenW n Q x s = thenW n Q x s:=rfl
@[congr] theorem blockW_congr {n0:Nat} (tk:tick = n0) (id:Nat) (Q:Exit->St->Prop) (x:Exit) (s:St):blockW id Q x s = blockW id Q x s:=rfl
@[congr] theorem resK_congr {n0:Nat} (tk:tick = n0) {l l':List ResultVar} (h:l = l') (s:St) (K:List D->Prop):resK P l s K = resK P l' s K:=by rw [h]
@[congr] theorem retQ_congr {n0:Nat} (tk:tick = n0) (fn:Func) (r:Data) (x:Exit) (s:St):retQ P fn r x s = retQ P fn r x s:=rfl
@[congr] theorem retDQ_congr {n0:Nat} (tk:tick = n0) (fn:Func) (K:D->(Nat->Blk)->Nat->Prop) (x:Exit) (s:St):retDQ P fn K x s = retDQ P fn K x s:=rfl
@[go_sem] theorem retQ_ret (fn:Func) (r:Data) (s:St):retQ P fn r .ret s = resK P fn.results.toList s fun ds=>∃ xs,FrzL true s.hp ds xs∧r = tupD xs:=rfl
@[go_sem] theorem retQ_normal (fn:Func) (r:Data) (s:St):retQ P fn r .normal s = resK P fn.results.toList s fun ds=>∃ xs,FrzL true s.hp ds xs∧r = tupD xs:=rfl
@[go_sem] theorem retDQ_ret (fn:Func) (K:D->(Nat->Blk)->Nat->Prop) (s:St):retDQ P fn K .ret s = resK P fn.results.toList s fun ds=>∃ d,tupDD ds = some d∧K d s.hp s.nx:=rfl
@[go_sem] theorem retDQ_normal (fn:Func) (K:D->(Nat->Blk)->Nat->Prop) (s:St):retDQ P fn K .normal s = resK P fn.results.toList s fun ds=>∃ d,tupDD ds = some d∧K d s.hp s.nx:=rfl
@[go_sem] theorem tupDD_one (d:D):tupDD [d] = some d:=rfl
def mkTup (ds:List D):D:=match allData ds with
 | some xs=>.data (.tup xs)
 | none=>.tp ds
@[go_sem] theorem tupDD_two (a b:D) (l:List D):tupDD (a :: b :: l) = some (mkTup (a :: b :: l)):=rfl
@[go_sem] theorem mkTup_eq (ds:List D):mkTup ds = match allData ds with
 | some xs=>.data (.tup xs)
 | none=>.tp ds:=rfl
@[go_sem] theorem resK_nil (s:St) (K:List D->Prop):resK P [] s K = K []:=rfl
@[go_sem] theorem resK_tmp (t:Nat) (rest:List ResultVar) (s:St) (K:List D->Prop):resK P (.tmp t :: rest) s K = putK (s.env t) fun d=>resK P rest s fun ds=>K (d :: ds):=rfl
@[go_sem] theorem resK_cell (a:Nat) (t:TypeId) (rest:List ResultVar) (s:St) (K:List D->Prop):resK P (.cell a t :: rest) s K = loadK P t (s.env a) s.hp fun d _=>resK P rest s fun ds=>K (d :: ds):=rfl
@[go_sem] theorem extract_tup (vs:List Data) (i:Nat) (K:D->Prop):extractK (.data (.tup vs)) i K = someK (vs[i]?) fun v=>putK (.data v) K:=by
 unfold extractK someK putK
 apply propext
 constructor
 · rintro ⟨v,hv,hk⟩;rw [hv];exact hk
 · intro hk
   cases h:vs[i]? with
   | none=>rw [h] at hk;exact hk.elim
   | some v=>rw [h] at hk;exact ⟨v,h,hk⟩
@[congr] theorem extractK_congr {n0:Nat} (tk:tick = n0) {x x':D} (h:x = x') (i:Nat) (K:D->Prop):extractK x i K = extractK x' i K:=by rw [h]
@[go_sem] theorem partK_eq (t:TypeId) (cs:List D) (off:Nat) (K:D->Prop):partK P t cs off K = aggK (aggT P t) (someK (szT P t) fun n=>sideK (off + n≤cs.length) (putK (mkAgg ((cs.drop off).take n)) K)) (someK (cs[off]?) fun d=>K d):=by
 unfold partK aggK someK sideK putK
 cases aggT P t with
 | none=>cases szT P t <;> rfl
 | some b =>
   cases b
   · cases szT P t <;> simp only <;> cases cs[off]? <;> simp
   · cases szT P t <;> rfl
@[congr] theorem partK_congr {n0:Nat} (tk:tick = n0) (t:TypeId) {cs cs':List D} (h:cs = cs') {off off':Nat} (h2:off = off') (K:D->Prop):partK P t cs off K = partK P t cs' off' K:=by rw [h,h2]
@[go_sem] theorem field_data (t:TypeId) (cs:List Data) (f:Nat) (K:D->Prop):fieldK P t (.data (.agg cs)) f K = someK (fldT P t f) fun x=>partK P x.2 (cs.map .data) x.1 K:=by
 unfold fieldK aggD someK
 cases fldT P t f <;> rfl
@[congr] theorem fieldK_congr {n0:Nat} (tk:tick = n0) (t:TypeId) {x x':D} (h:x = x') (f:Nat) (K:D->Prop):fieldK P t x f K = fieldK P t x' f K:=by rw [h]
/-- A slice expression. -/
def slcK (t:TypeId) (x:D) (lo hi:Option D) (H:Nat->Blk) (K:D->List Nat->List (Nat × Blk)->Prop):Prop:=match x with
 | .ptr _ _ | .cptr _=>sliceArrK P t x lo hi none H fun d rd=>K d rd []
 | .cut g off len cp es=>cutK P t g off len cp es lo hi none fun d=>K d [] []
 | _=>sliceK P t x lo hi none fun d=>K d [] []
/-- A slice expression with three bounds. -/
def slc3K (t:TypeId) (x:D) (lo hi mx:Option D) (K:D->List Nat->List (Nat × Blk)->Prop):Prop:=match x with
 | .cut g off len cp es=>cutK P t g off len cp es lo hi mx fun d=>K d [] []
 | _=>False
@[congr] theorem slc3K_congr {n0:Nat} (tk:tick = n0) (t:TypeId) {x x':D} (h:x = x') {lo lo' hi hi' mx mx':Option D} (h2:lo = lo') (h3:hi = hi') (h4:mx = mx') (K:D->List Nat->List (Nat × Blk)->Prop):slc3K P t x lo hi mx K = slc3K P t x' lo' hi' mx' K:=by rw [h,h2,h3,h4]
@[congr] theorem boundsC_congr {n0:Nat} (tk:tick = n0) (n c:Nat) {lo lo' hi hi' mx mx':Option D} (h2:lo = lo') (h3:hi = hi') (h4:mx = mx') (K:Nat->Nat->Nat->Prop):boundsC n c lo hi mx K = boundsC n c lo' hi' mx' K:=by rw [h2,h3,h4]
@[go_sem] theorem slc_cut (t:TypeId) (g off len cp es:Nat) (lo hi:Option D) (H:Nat->Blk) (K:D->List Nat->List (Nat × Blk)->Prop):slcK P t (.cut g off len cp es) lo hi H K = cutK P t g off len cp es lo hi none fun d=>K d [] []:=rfl
@[congr] theorem sliceK_congr {n0:Nat} (tk:tick = n0) (t:TypeId) {x x':D} (h:x = x') {lo lo' hi hi' mx mx':Option D} (h2:lo = lo') (h3:hi = hi') (h4:mx = mx') (K:D->Prop):sliceK P t x lo hi mx K = sliceK P t x' lo' hi' mx' K:=by rw [h,h2,h3,h4]
@[go_sem] theorem slc3_cut (t:TypeId) (g off len cp es:Nat) (lo hi mx:Option D) (K:D->List Nat->List (Nat × Blk)->Prop):slc3K P t (.cut g off len cp es) lo hi mx K = cutK P t g off len cp es lo hi mx fun d=>K d [] []:=rfl
@[congr] theorem slcK_congr {n0:Nat} (tk:tick = n0) (t:TypeId) {x x':D} (h:x = x') {lo lo' hi hi':Option D} (h2:lo = lo') (h3:hi = hi') (H:Nat->Blk) (K:D->List Nat->List (Nat × Blk)->Prop):slcK P t x lo hi H K = slcK P t x' lo' hi' H K:=by rw [h,h2,h3]
@[congr] theorem boundsK_congr {n0:Nat} (tk:tick = n0) (n:Nat) {lo lo' hi hi':Option D} (h2:lo = lo') (h3:hi = hi') (K:Nat->Nat->Prop):boundsK n lo hi K = boundsK n lo' hi' K:=by rw [h2,h3]
@[go_sem] theorem slc_sl (t:TypeId) (es:Nat) (l:List Data) (lo hi:Option D) (H:Nat->Blk) (K:D->List Nat->List (Nat × Blk)->Prop):slcK P t (.data (.sl es l)) lo hi H K = someK (sliceT P t) fun e=>sideK (szT P e = some es) (boundsK l.length lo hi fun a b=>putK (.data (.sl es ((l.take b).drop a))) fun d=>K d [] []):=by
 unfold slcK sliceK someK sideK putK
 cases sliceT P t <;> rfl
@[go_sem] theorem slc_str (t:TypeId) (s:ByteArray) (lo hi:Option D) (H:Nat->Blk) (K:D->List Nat->List (Nat × Blk)->Prop):slcK P t (.data (.str s)) lo hi H K = sideK (strT P t = true) (boundsK s.size lo hi fun a b=>putK (.data (.str (s.extract a b))) fun d=>K d [] []):=rfl
@[go_sem] theorem bounds_hi (n:Nat) (k:IntKind) (h:Int) (K:Nat->Nat->Prop):boundsK n none (some (.data (.int k h))) K = sideK (0≤h) (sideK (h≤n) (natK h.toNat fun b=>K 0 b)):=by simp [boundsK,natD,sideK,natK]
/-- Plain data. -/
def datK (x:D) (K:Data->Prop):Prop:=match x with
 | .data d=>K d
 | _=>False
@[congr] theorem datK_congr {n0:Nat} (tk:tick = n0) {x x':D} (h:x = x') (K:Data->Prop):datK x K = datK x' K:=by rw [h]
@[go_sem] theorem datK_data (d:Data) (K:Data->Prop):datK (.data d) K = K d:=rfl
/-- What an interface holds. -/
def ifcK (x:D) (K:TypeId->Data->Prop):Prop:=match x with
 | .data (.ifc t d)=>K t d
 | _=>False
@[congr] theorem ifcK_congr {n0:Nat} (tk:tick = n0) {x x':D} (h:x = x') (K:TypeId->Data->Prop):ifcK x K = ifcK x' K:=by rw [h]
@[go_sem] theorem ifcK_ifc (t:TypeId) (d:Data) (K:TypeId->Data->Prop):ifcK (.data (.ifc t d)) K = K t d:=rfl
def invK (P:Program) (name:String) (t:TypeId) (K:FuncId->Prop):Prop:=∃ f,MethOk P name t f∧K f
@[congr] theorem invK_congr {n0:Nat} (tk:tick = n0) (name:String) (t:TypeId) (K:FuncId->Prop):invK P name t K = invK P name t K:=rfl
section
variable (dst:Option Nat) (ty:TypeId) (pos:String) (af:Array Edge) (gd:Option (Nat × Bool)) (e:Nat->D) (H:Nat->Blk) (fr:Nat) (K:D->List Nat->List (Nat × Blk)->Prop)
@[go_sem] theorem opK_slice (t:TypeId) (x:Operand) (lo hi:Option Operand):opK P Γ ⟨dst,.slice t x lo hi none,ty,pos,af,gd⟩ e H fr K = slcK P t (evalD Γ e x) (lo.map (evalD Γ e)) (hi.map (evalD Γ e)) H K:=by
 simp only [opK,slcK,Option.map_none]
 cases evalD Γ e x <;> rfl
@[go_sem] theorem opK_slice3 (t:TypeId) (x m:Operand) (lo hi:Option Operand):opK P Γ ⟨dst,.slice t x lo hi (some m),ty,pos,af,gd⟩ e H fr K = (match evalD Γ e x with
 | .ptr _ _ | .cptr _=>sliceArrK P t (evalD Γ e x) (lo.map (evalD Γ e)) (hi.map (evalD Γ e)) (some (evalD Γ e m)) H fun d rd=>K d rd []
 | .cut g off len cp es=>cutK P t g off len cp es (lo.map (evalD Γ e)) (hi.map (evalD Γ e)) (some (evalD Γ e m)) fun d=>K d [] []
 | _=>sliceK P t (evalD Γ e x) (lo.map (evalD Γ e)) (hi.map (evalD Γ e)) (some (evalD Γ e m)) fun d=>K d [] []):=rfl
@[go_sem] theorem opK_makeFunc (f:FuncId) (caps:Array Operand):opK P Γ ⟨dst,.makeFunc (.func f) #[] caps,ty,pos,af,gd⟩ e H fr K = putK (.fn f (caps.toList.map (evalD Γ e))) fun d=>K d [] []:=rfl
@[go_sem] theorem opK_bind (f:FuncId) (r:Operand):opK P Γ ⟨dst,.makeFunc (.func f) #[r] #[],ty,pos,af,gd⟩ e H fr K = putK (.bnd f (evalD Γ e r)) fun d=>K d [] []:=by
 simp [opK,putK]
@[go_sem] theorem opK_call (x:Operand) (args:Array Operand) (ts:Array TypeId):opK P Γ ⟨dst,.call ⟨.value x,args,ts⟩,ty,pos,af,gd⟩ e H fr K = someK (fnD (evalD Γ e x)) fun fc=>callK P Γ fc.1 (fc.2.1++(args.toList.map (evalD Γ e)++fc.2.2)) H K:=by
 simp only [opK]
 cases fnD (evalD Γ e x)
 · rw [someK_none]
 · rw [someK_some]
@[go_sem] theorem effK_call (x:Operand) (args:Array Operand) (ts:Array TypeId) (K:D->List Nat->List (Nat × Blk)->Nat->Prop):effK P Γ ⟨dst,.call ⟨.value x,args,ts⟩,ty,pos,af,gd⟩ e H fr K = someK (fnD (evalD Γ e x)) fun fc=>effC P Γ fc.1 (fc.2.1++(args.toList.map (evalD Γ e)++fc.2.2)) H fr K:=by
 simp only [effK]
 cases fnD (evalD Γ e x)
 · rw [someK_none]
 · rw [someK_some]
@[congr] theorem clearK_congr {n0:Nat} (tk:tick = n0) (t:TypeId) {x x':D} (h:x = x') (H:Nat->Blk) (K:D->List Nat->List (Nat × Blk)->Prop):clearK P t x H K = clearK P t x' H K:=by rw [h]
@[go_sem] theorem opK_clear (x:Operand) (t:TypeId):opK P Γ ⟨dst,.call ⟨.builtin .clear,#[x],#[t]⟩,ty,pos,af,gd⟩ e H fr K = clearK P t (evalD Γ e x) H K:=rfl
@[congr] theorem capK_congr {n0:Nat} (tk:tick = n0) (t:TypeId) {x x':D} (h:x = x') (K:D->Prop):capK P t x K = capK P t x' K:=by rw [h]
@[congr] theorem lenK_congr {n0:Nat} (tk:tick = n0) (t:TypeId) {x x':D} (h:x = x') (K:D->Prop):lenK P t x K = lenK P t x' K:=by rw [h]
@[go_sem] theorem opK_len (x:Operand) (t:TypeId):opK P Γ ⟨dst,.call ⟨.builtin .len,#[x],#[t]⟩,ty,pos,af,gd⟩ e H fr K = lenK P t (evalD Γ e x) fun d=>K d [] []:=rfl
@[go_sem] theorem opK_cap (x:Operand) (t:TypeId):opK P Γ ⟨dst,.call ⟨.builtin .cap,#[x],#[t]⟩,ty,pos,af,gd⟩ e H fr K = capK P t (evalD Γ e x) fun d=>K d [] []:=rfl
@[go_sem] theorem opK_copy (x y:Operand) (t u:TypeId):opK P Γ ⟨dst,.call ⟨.builtin .copy,#[x,y],#[t,u]⟩,ty,pos,af,gd⟩ e H fr K = copyK P t (evalD Γ e x) (evalD Γ e y) H K:=rfl
@[go_sem] theorem opK_append (x y:Operand) (t u:TypeId):opK P Γ ⟨dst,.call ⟨.builtin .append,#[x,y],#[t,u]⟩,ty,pos,af,gd⟩ e H fr K = appendK P t u (evalD Γ e x) (evalD Γ e y) H fr K:=rfl
@[go_sem] theorem opK_min (x y:Operand) (ts:Array TypeId):opK P Γ ⟨dst,.call ⟨.builtin .min,#[x,y],ts⟩,ty,pos,af,gd⟩ e H fr K = minmaxK false [evalD Γ e x,evalD Γ e y] fun d=>K d [] []:=rfl
@[go_sem] theorem opK_max (x y:Operand) (ts:Array TypeId):opK P Γ ⟨dst,.call ⟨.builtin .max,#[x,y],ts⟩,ty,pos,af,gd⟩ e H fr K = minmaxK true [evalD Γ e x,evalD Γ e y] fun d=>K d [] []:=rfl
@[congr] theorem minmaxK_congr {n0:Nat} (tk:tick = n0) (b:Bool) {ds ds':List D} (h:ds = ds') (K:D->Prop):minmaxK b ds K = minmaxK b ds' K:=by rw [h]
@[congr] theorem copyK_congr {n0:Nat} (tk:tick = n0) (t:TypeId) {x x' y y':D} (h:x = x') (h2:y = y') (H:Nat->Blk) (K:D->List Nat->List (Nat × Blk)->Prop):copyK P t x y H K = copyK P t x' y' H K:=by rw [h,h2]
@[congr] theorem appendK_congr {n0:Nat} (tk:tick = n0) (t u:TypeId) {x x' y y':D} (h:x = x') (h2:y = y') (H:Nat->Blk) (fr:Nat) (K:D->List Nat->List (Nat × Blk)->Prop):appendK P t u x y H fr K = appendK P t u x' y' H fr K:=by rw [h,h2]
@[congr] theorem srcK_congr {n0:Nat} (tk:tick = n0) {x x':D} (h:x = x') (es:Nat) (H:Nat->Blk) (K:Nat->List D->List Nat->Prop):srcK x es H K = srcK x' es H K:=by rw [h]
@[go_sem] theorem len_str (t:TypeId) (s:ByteArray) (K:D->Prop):lenK P t (.data (.str s)) K = sideK (strT P t = true) (putK (.data (.int .i64 s.size)) K):=rfl
@[go_sem] theorem len_sl (t:TypeId) (es:Nat) (l:List Data) (K:D->Prop):lenK P t (.data (.sl es l)) K = sideK ((sliceT P t).isSome = true) (putK (.data (.int .i64 l.length)) K):=rfl
@[go_sem] theorem len_ref (t:TypeId) (g o n es:Nat) (K:D->Prop):lenK P t (.ref g o n es) K = sideK ((sliceT P t).isSome = true) (putK (.data (.int .i64 n)) K):=rfl
@[go_sem] theorem len_cut (t:TypeId) (g o n c es:Nat) (K:D->Prop):lenK P t (.cut g o n c es) K = sideK ((sliceT P t).isSome = true) (putK (.data (.int .i64 n)) K):=rfl
@[go_sem] theorem len_ful (t:TypeId) (es:Nat) (l:List Data) (K:D->Prop):lenK P t (.ful es l) K = sideK ((sliceT P t).isSome = true) (putK (.data (.int .i64 l.length)) K):=rfl
@[go_sem] theorem cap_emp (t:TypeId) (es:Nat) (K:D->Prop):capK P t (.emp es) K = sideK ((sliceT P t).isSome = true) (putK (.data (.int .i64 0)) K):=rfl
@[go_sem] theorem len_emp (t:TypeId) (es:Nat) (K:D->Prop):lenK P t (.emp es) K = sideK ((sliceT P t).isSome = true) (putK (.data (.int .i64 0)) K):=rfl
@[go_sem] theorem min_int (k k':IntKind) (a b:Int) (K:D->Prop):minmaxK false [.data (.int k a),.data (.int k' b)] K = sideK (k = k') (putK (.data (.int k (if b < a then b else a))) K):=rfl
@[go_sem] theorem max_int (k k':IntKind) (a b:Int) (K:D->Prop):minmaxK true [.data (.int k a),.data (.int k' b)] K = sideK (k = k') (putK (.data (.int k (if b > a then b else a))) K):=rfl
@[go_sem] theorem src_sl (es es':Nat) (l:List Data) (K:Nat->List D->List Nat->Prop):srcK (.data (.sl es' l)) es H K = sideK (es' = es) (natK l.length fun n=>cellsK ((flat l).map .data) fun cs=>K n cs []):=rfl
@[go_sem] theorem src_emp (es es':Nat) (K:Nat->List D->List Nat->Prop):srcK (.emp es') es H K = K 0 [] []:=rfl
@[go_sem] theorem src_ref (g off len es es':Nat) (K:Nat->List D->List Nat->Prop):srcK (.ref g off len es') es H K = sideK (es' = es) (blkK (H g) fun _ cells=>sideK (off + len * es≤cells.length) (cellsK ((cells.drop off).take (len * es)) fun cs=>K len cs [g])):=by
 unfold srcK sideK blkK cellsK
 simp only
 cases H g <;> rfl
@[go_sem] theorem src_str (s:ByteArray) (es:Nat) (K:Nat->List D->List Nat->Prop):srcK (.data (.str s)) es H K = sideK (es = 1) (natK s.size fun n=>cellsK (s.toList.map fun b=>.data (.int .u8 b.toNat)) fun cs=>K n cs []):=rfl
/-- What is put behind a row. -/
def appK (e xt:TypeId) (es by_ len:Nat) (y:D) (H:Nat->Blk) (K:Nat->List D->List Nat->Prop):Prop :=
 if (intT P xt).isSome then (match y with
  | .data (.int _ n)=>0≤n∧(len + n) * by_≤140737488355328∧len + n≤140737488355328∧zerosK P e n.toNat fun z=>K n.toNat z []
  | _=>False)
  else ((sliceT P xt).isSome || strT P xt) = true∧srcK y es H fun n cs rd=>cs.all D.cell = true∧(len + n) * by_≤140737488355328∧len + n≤140737488355328∧K n cs rd
@[congr] theorem appK_congr {n0:Nat} (tk:tick = n0) (el xt:TypeId) (es by_ len:Nat) {y y':D} (h:y = y') (H:Nat->Blk) (K:Nat->List D->List Nat->Prop):appK P el xt es by_ len y H K = appK P el xt es by_ len y' H K:=by rw [h]
@[go_sem] def appS (el xt:TypeId) (es by_ len:Nat) (y:D) (H:Nat->Blk) (K:Nat->List D->List Nat->Prop):Prop:=sideK ((intT P xt).isSome = false) (sideK (((sliceT P xt).isSome || strT P xt) = true) (srcK y es H fun n cs rd=>sideK (cs.all D.cell = true) (sideK ((len + n) * by_≤140737488355328) (sideK (len + n≤140737488355328) (K n cs rd)))))
theorem appK_src (el xt:TypeId) (es by_ len:Nat) (y:D) (hy:∀ k n,y≠.data (.int k n)) (H:Nat->Blk) (K:Nat->List D->List Nat->Prop):appK P el xt es by_ len y H K = appS P el xt es by_ len y H K:=by
 unfold appK appS sideK
 by_cases h:(intT P xt).isSome
 · simp only [h,if_true]
   cases y with
   | data x=>cases x <;> simp_all
   | _=>simp
 · simp [h]
@[go_sem] theorem appK_sl (el xt:TypeId) (es by_ len:Nat) (es':Nat) (l:List Data) (H:Nat->Blk) (K:Nat->List D->List Nat->Prop):appK P el xt es by_ len (.data (.sl es' l)) H K = appS P el xt es by_ len (.data (.sl es' l)) H K:=appK_src P el xt es by_ len _ (by simp) H K
@[go_sem] theorem appK_ref (el xt:TypeId) (es by_ len:Nat) (g o n s:Nat) (H:Nat->Blk) (K:Nat->List D->List Nat->Prop):appK P el xt es by_ len (.ref g o n s) H K = appS P el xt es by_ len (.ref g o n s) H K:=appK_src P el xt es by_ len _ (by simp) H K
theorem append_empS (t u:TypeId) (es:Nat) (y:D) (hy:∀ k n,y≠.data (.int k n)):appendK P t u (.emp es) y H fr K = someK (sliceT P t) fun el=>someK (szT P el) fun n=>someK (byT P el) fun by_=>sideK (0 < n) (sideK (zlT P el = some n) (appS P el u n by_ 0 y H fun m cs rd=>K (.ref fr 0 m n) rd [(fr,.blk true cs)])):=by
 unfold appendK someK sideK appS sideK
 simp only
 cases sliceT P t <;> simp only
 rename_i el
 cases szT P el <;> simp only
 cases byT P el <;> simp only
 by_cases h:(intT P u).isSome
 · simp only [h,if_true]
   cases y with
   | data x=>cases x <;> simp_all
   | _=>simp
 · simp [h]
@[go_sem] theorem append_emp_sl (t u:TypeId) (es es':Nat) (l:List Data):appendK P t u (.emp es) (.data (.sl es' l)) H fr K = someK (sliceT P t) fun el=>someK (szT P el) fun n=>someK (byT P el) fun by_=>sideK (0 < n) (sideK (zlT P el = some n) (appS P el u n by_ 0 (.data (.sl es' l)) H fun m cs rd=>K (.ref fr 0 m n) rd [(fr,.blk true cs)])):=append_empS P H fr K t u es _ (by simp)
@[go_sem] theorem append_ref (t u:TypeId) (g len es:Nat) (y:D):appendK P t u (.ref g 0 len es) y H fr K = someK (sliceT P t) fun el=>someK (szT P el) fun n=>someK (byT P el) fun by_=>sideK (0 < n) (sideK (zlT P el = some n) (sideK (es = n) (blkK (H g) fun rw cells=>ifW rw (sideK (cells.length = len * n) (appK P el u n by_ len y H fun m cs rd=>cellsK (cells++cs) fun nc=>K (.ref fr 0 (len + m) n) (g :: rd) [(g,.dead),(fr,.blk true nc)])) False))):=by
 unfold appendK someK sideK appK blkK ifW cellsK
 simp only
 cases sliceT P t <;> simp only
 rename_i el
 cases szT P el <;> simp only
 cases byT P el <;> simp only
 cases H g with
 | dead=>rfl
 | obj o=>rfl
 | blk rw cells =>
   cases rw
   · rfl
   · simp only
     by_cases h:(intT P u).isSome
     · simp only [h,if_true]
       cases y with
       | data x=>cases x <;> rfl
       | _=>rfl
     · simp [h]
end
@[go_sem] theorem dcK_eq (dst:Option Nat) (ty:TypeId) (pos:String) (af:Array Edge) (gd:Option (Nat × Bool)) (e:Nat->D) (H:Nat->Blk) (nx:Nat) (K:D->(Nat->Blk)->Nat->Prop) (x:Operand) (args:Array Operand) (ts:Array TypeId) :
 dcK P Γ ⟨dst,.call ⟨.value x,args,ts⟩,ty,pos,af,gd⟩ e H nx K = someK (fnD (evalD Γ e x)) fun fc=>DC P Γ fc.1 (fc.2.1++(args.toList.map (evalD Γ e)++fc.2.2)) H nx K:=by
 unfold dcK someK
 simp only
 cases fnD (evalD Γ e x) <;> rfl
@[go_sem] theorem fnD_data (f:FuncId) (c:List Data):fnD (.data (.fn f c)) = some (f,[],c.map toD):=rfl
@[go_sem] theorem fnD_bn (f:FuncId) (r:Data):fnD (.data (.bn f r)) = some (f,[toD r],[]):=rfl
@[go_sem] theorem fnD_bnd (f:FuncId) (r:D):fnD (.bnd f r) = some (f,[r],[]):=rfl
@[go_sem] theorem fnD_fn (f:FuncId) (c:List D):fnD (.fn f c) = some (f,[],c):=rfl
variable {P Γ}
/-- A call whose arguments are plain data. -/
theorem call_data {f:FuncId} {ds:List D} {xs:List Data} {r:Data} {H:Nat->Blk} {K:D->List Nat->List (Nat × Blk)->Prop} (h:PC P Γ f xs r) (hd:ds = xs.map toD) (k:K (.data r) [] []):callK P Γ f ds H K:=by
 subst hd
 refine ⟨[],xs,r,[],(fun g hg=>by cases hg),h,.inr fun H' _=>?_,k⟩
 refine ⟨by simp,fun i d x hd hx=>?_⟩
 rw [List.getElem?_map,hx] at hd
 cases hd
 cases x with
 | pc c=>exact .cptr c
 | _=>exact .data _
/-- A call that reads rows of the caller's,and hands back what holds none. -/
theorem call_bare {f:FuncId} {ds:List D} {H:Nat->Blk} {K:D->List Nat->List (Nat × Blk)->Prop} (rd:List Nat) {xs:List Data} {r:Data} (h:PC P Γ f xs r) (hb:Bare r) (hf:∀ H',(∀ g∈rd,H' g = H g)->FrzL true H' ds xs) (k:K (.data r) rd []):callK P Γ f ds H K :=
 ⟨[],xs,r,rd,(fun g hg=>by cases hg),h,.inl ⟨rfl,hb,hf⟩,k⟩
/-- A call that keeps rows of the caller's: nobody writes them from there on. -/
theorem call_frz {f:FuncId} {ds:List D} {H:Nat->Blk} {K:D->List Nat->List (Nat × Blk)->Prop} (F rd:List Nat) {xs:List Data} {r:Data} (hF:∀ g∈F,∃ rw cells,H g = .blk rw cells) (h:PC P Γ f xs r) (hf:∀ H',(∀ g∈rd,H' g = H g)->FrzL false (Hp.upd H' (F.map fun g=>(g,fz (H g)))) ds xs) (k:K (.data r) rd (F.map fun g=>(g,fz (H g)))):callK P Γ f ds H K :=
 ⟨F,xs,r,rd,hF,h,.inr hf,k⟩
end
/-- Behind a loop's round: a state of the family,nearer to the end. -/
def NextW {σ:Type} (st:σ->St) (μ:σ->Nat) (x:σ) (s:St):Prop:=∃ y,WeakX s (st y)∧μ y < μ x
@[congr] theorem NextW_congr {n0:Nat} (tk:tick = n0) {σ:Type} (st:σ->St) (μ:σ->Nat) (x:σ) (s:St):NextW st μ x s = NextW st μ x s:=rfl
theorem next_of {σ:Type} {st:σ->St} {μ:σ->Nat} {x:σ} {s:St} (y:σ) (h:Weak s (st y)) (hm:μ y < μ x):NextW st μ x s:=⟨y,.inl h,hm⟩
theorem next_ren {σ:Type} {st:σ->St} {μ:σ->Nat} {x:σ} {s:St} (y:σ) (hm:μ y < μ x) (F:List Nat) (ρ:Nat->Option Nat) (h:WeakR F ρ s (st y)):NextW st μ x s:=⟨y,.inr ⟨F,ρ,h⟩,hm⟩
theorem loop_of {body:(Exit->St->Prop)->St->Prop} {Q:Exit->St->Prop} {s:St} {σ:Type} (st:σ->St) (μ:σ->Nat) (x0:σ) (h0:Weak s (st x0)) (h:∀ x,body (thenW (NextW st μ x) Q) (st x)):LoopW body Q s:=⟨σ,st,μ,x0,.inl h0,h⟩
theorem loop_ren {body:(Exit->St->Prop)->St->Prop} {Q:Exit->St->Prop} {s:St} {σ:Type} (st:σ->St) (μ:σ->Nat) (x0:σ) (F:List Nat) (ρ:Nat->Option Nat) (h0:WeakR F ρ s (st x0)) (h:∀ x,body (thenW (NextW st μ x) Q) (st x)):LoopW body Q s:=⟨σ,st,μ,x0,.inr ⟨F,ρ,h0⟩,h⟩
def startK (ds:List D) (n:Nat) (K:List D->Nat->Prop):Prop:=K ds n
@[congr] theorem startK_congr {n0:Nat} (tk:tick = n0) {ds ds':List D} (h:ds = ds') {n n':Nat} (h2:n = n') (K:List D->Nat->Prop):startK ds n K = startK ds' n' K:=by rw [h,h2]
@[go_sem] theorem startK_eq (ds:List D) (n:Nat) (K:List D->Nat->Prop):startK ds n K = K ds n:=rfl
section
variable {P:Program} {Γ:Nat->Option (List Data)}
theorem pc_by (hm:P.follows .mixedOrders = true) {f:FuncId} {fn:Func} {c:Code} {xs:List Data} {r:Data} (hf:P.funcs[f]? = some fn) (hb:fn.body = some c) (hc:CallOk P f)
 (h:startK (xs.map toD) (xs.length + (fn.ntmps - xs.length)) fun ds n=>wpF P Γ c (retQ P fn r) ⟨envArgs ds,fun _=>.dead,0,0,n⟩):PC P Γ f xs r:=pc_of hm hf hb hc h
end
theorem frzL_c {ok:Bool} {H:Nat->Blk} {d:D} {x:Data} {ds:List D} {xs:List Data} (h:Frz ok H d x) (t:FrzL ok H ds xs):FrzL ok H (d :: ds) (x :: xs):=(frzL_cons ok H d ds (x :: xs)).2 ⟨x,xs,rfl,h,t⟩
theorem frzL_n {ok:Bool} {H:Nat->Blk}:FrzL ok H [] []:=(frzL_nil ok H []).2 rfl
/-- Slots by a list. -/
def envL:List (Nat × D)->Nat->D
 | [],_=>.junk
 | (k,d) :: l,t=>if t = k then d else envL l t
def hpL:List (Nat × Blk)->Nat->Blk
 | [],_=>.dead
 | (k,d) :: l,t=>if t = k then d else hpL l t
@[go_sem] theorem envL_nil (t:Nat):envL [] t = .junk:=rfl
@[go_sem] theorem envL_cons (k:Nat) (d:D) (l:List (Nat × D)) (t:Nat):envL ((k,d) :: l) t = if t = k then d else envL l t:=rfl
@[go_sem] theorem hpL_nil (t:Nat):hpL [] t = .dead:=rfl
@[go_sem] theorem hpL_cons (k:Nat) (d:Blk) (l:List (Nat × Blk)) (t:Nat):hpL ((k,d) :: l) t = if t = k then d else hpL l t:=rfl
/-- All that it holds lies below a number. -/
def below (k:Nat):D->Bool
 | .ref g _ _ _=>decide (g < k)
 | .ptr g _=>decide (g < k)
 | .cut g _ _ _ _=>decide (g < k)
 | .mref g=>decide (g < k)
 | .iref g=>decide (g < k)
 | .agg cs=>allBelow k cs
 | .fn _ cs=>allBelow k cs
 | .bnd _ r=>below k r
 | .tp cs=>allBelow k cs
 | _=>true
where allBelow (k:Nat):List D->Bool
 | []=>true
 | d :: l=>below k d && allBelow k l
mutual
theorem scoped_of {k:Nat}:∀ {d:D},below k d = true->Scoped k d
 | .ref g o n s,h=>.ref g o n s (by simpa [below] using h)
 | .ptr g o,h=>.ptr g o (by simpa [below] using h)
 | .cut g o n c s,h=>.cut g o n c s (by simpa [below] using h)
 | .mref g,h=>.mref g (by simpa [below] using h)
 | .iref g,h=>.iref g (by simpa [below] using h)
 | .agg cs,h=>.agg cs (scoped_all (by simpa [below] using h))
 | .fn f cs,h=>.fn f cs (scoped_all (by simpa [below] using h))
 | .bnd f r,h=>.bnd f r (scoped_of (by simpa [below] using h))
 | .tp cs,h=>.tp cs (scoped_all (by simpa [below] using h))
 | .data x,_=>.data x
 | .emp n,_=>.emp n
 | .cptr c,_=>.cptr c
 | .yld l,_=>.yld l
 | .ful n l,_=>.ful n l
 | .junk,_=>.junk
theorem scoped_all {k:Nat}:∀ {l:List D},below.allBelow k l = true->∀ (i:Nat) (x:D),l[i]? = some x->Scoped k x
 | d :: l,h,0,x,hx=>by
   simp only [below.allBelow,Bool.and_eq_true] at h
   simp only [List.getElem?_cons_zero,Option.some.injEq] at hx
   subst hx
   exact scoped_of h.1
 | d :: l,h,i + 1,x,hx=>by
   simp only [below.allBelow,Bool.and_eq_true] at h
   exact scoped_all h.2 i x (by simpa using hx)
end
@[go_sem] theorem below_data (k:Nat) (x:Data):below k (.data x) = true:=rfl
@[go_sem] theorem below_ref (k g o n s:Nat):below k (.ref g o n s) = decide (g < k):=rfl
@[go_sem] theorem below_ptr (k g o:Nat):below k (.ptr g o) = decide (g < k):=rfl
@[go_sem] theorem below_cut (k g o n c s:Nat):below k (.cut g o n c s) = decide (g < k):=rfl
@[go_sem] theorem below_mref (k g:Nat):below k (.mref g) = decide (g < k):=rfl
@[go_sem] theorem below_iref (k g:Nat):below k (.iref g) = decide (g < k):=rfl
@[go_sem] theorem below_emp (k n:Nat):below k (.emp n) = true:=rfl
@[go_sem] theorem below_cptr (k:Nat) (c:List Data):below k (.cptr c) = true:=rfl
@[go_sem] theorem below_fn (k:Nat) (f:FuncId) (c:List D):below k (.fn f c) = below.allBelow k c:=rfl
@[go_sem] theorem below_bnd (k:Nat) (f:FuncId) (r:D):below k (.bnd f r) = below k r:=rfl
@[go_sem] theorem below_yld (k l:Nat):below k (.yld l) = true:=rfl
@[go_sem] theorem below_ful (k n:Nat) (l:List Data):below k (.ful n l) = true:=rfl
@[go_sem] theorem below_tp (k:Nat) (c:List D):below k (.tp c) = below.allBelow k c:=rfl
@[go_sem] theorem below_agg (k:Nat) (c:List D):below k (.agg c) = below.allBelow k c:=rfl
@[go_sem] theorem allBelow_nil (k:Nat):below.allBelow k [] = true:=rfl
@[go_sem] theorem allBelow_cons (k:Nat) (d:D) (l:List D):below.allBelow k (d :: l) = (below k d && below.allBelow k l):=rfl
@[go_sem] def blkBelow (k:Nat):Blk->Bool
 | .blk _ cells=>below.allBelow k cells
 | .obj (.mp _ xs)=>below.allBelow k xs
 | .obj (.it _ _ _ _)=>true
 | .obj (.si _ _)=>true
 | .dead=>true
theorem weak_lists {e:Nat->D} {H:Nat->Blk} {nx lo nt:Nat} (L:List (Nat × D)) (M:List (Nat × Blk)) (n:Nat) (hL:∀ p∈L,e p.1 = p.2) (hM:∀ p∈M,H p.1 = p.2) (hn:n≤nx) (hlo:lo≤n) (hs:∀ p∈L,below n p.2 = true) (hb:∀ p∈M,p.1 < n∧blkBelow n p.2 = true) :
 Weak ⟨e,H,nx,lo,nt⟩ ⟨envL L,hpL M,n,lo,nt⟩:=by
 have env:∀ (L:List (Nat × D)),(∀ p∈L,e p.1 = p.2)->∀ t,envL L t = .junk ∨ (envL L t = e t∧(t,e t)∈L):=by
  intro L
  induction L with
  | nil=>exact fun _ t=>.inl rfl
  | cons p L ih =>
    intro h t
    obtain ⟨k,d⟩:=p
    by_cases ht:t = k
    · subst ht
      have:=h (t,d) (by simp)
      simp only at this
      exact .inr ⟨by simp [envL,this],by simp [this]⟩
    · rcases ih (fun p hp=>h p (by simp [hp])) t with q | q
      · exact .inl (by simp [envL,ht,q])
      · exact .inr ⟨by simp [envL,ht,q.1],by simp [q.2]⟩
 have hps:∀ (M:List (Nat × Blk)),(∀ p∈M,H p.1 = p.2)->∀ t,hpL M t = .dead ∨ (hpL M t = H t∧(t,H t)∈M):=by
  intro M
  induction M with
  | nil=>exact fun _ t=>.inl rfl
  | cons p M ih =>
    intro h t
    obtain ⟨k,d⟩:=p
    by_cases ht:t = k
    · subst ht
      have:=h (t,d) (by simp)
      simp only at this
      exact .inr ⟨by simp [hpL,this],by simp [this]⟩
    · rcases ih (fun p hp=>h p (by simp [hp])) t with q | q
      · exact .inl (by simp [hpL,ht,q])
      · exact .inr ⟨by simp [hpL,ht,q.1],by simp [q.2]⟩
 refine ⟨fun t=>?_,fun g=>?_,hn,rfl,hlo,rfl,fun g hg=>?_,.inr ⟨fun t=>?_,fun g rw cells hg d hd=>?_,fun g o hg=>?_⟩⟩
 · rcases env L hL t with q | q
   · exact .inr q
   · exact .inl q.1
 · rcases hps M hM g with q | q
   · exact .inr q
   · exact .inl q.1
 · rcases hps M hM g with q | q
   · exact q
   · have:=(hb _ q.2).1
     simp only at this hg
     omega
 · rcases env L hL t with q | q
   · simp only [q];exact .junk
   · simp only [q.1];exact scoped_of (hs _ q.2)
 · rcases hps M hM g with q | q
   · simp only [q] at hg;cases hg
   · have h2:=(hb _ q.2).2
     simp only [q.1] at hg
     simp only [hg,blkBelow] at h2
     obtain ⟨i,hi⟩:=List.getElem?_of_mem hd
     exact scoped_all h2 i d hi
 · rcases hps M hM g with q | q
   · simp only [q] at hg;cases hg
   · have h2:=(hb _ q.2).2
     simp only [q.1] at hg
     simp only [hg] at h2
     cases o with
     | it=>trivial
     | si=>trivial
     | mp ks xs =>
       intro d hd
       obtain ⟨i,hi⟩:=List.getElem?_of_mem hd
       exact scoped_all h2 i d hi
/-- New numbers by a list. -/
def rhoL:List (Nat × Option Nat)->Nat->Option Nat
 | [],g=>some g
 | (k,o) :: l,g=>if g = k then o else rhoL l g
@[go_sem] theorem rhoL_nil (g:Nat):rhoL [] g = some g:=rfl
@[go_sem] theorem rhoL_cons (k:Nat) (o:Option Nat) (l:List (Nat × Option Nat)) (g:Nat):rhoL ((k,o) :: l) g = if g = k then o else rhoL l g:=rfl
@[go_sem] theorem fzH_eq (H:Nat->Blk) (F:List Nat) (g:Nat):fzH H F g = if g∈F then fz (H g) else H g:=rfl
section
variable {n:Nat} {ρ:Nat->Option Nat} {H:Nat->Blk}
def RenCells (n:Nat) (ρ:Nat->Option Nat) (H:Nat->Blk) (cs ds:List D):Prop:=cs.length≤ds.length∧∀ (i:Nat) (c d:D),cs[i]? = some c->ds[i]? = some d->Ren n ρ H c d
@[go_sem] theorem renCells_nil (ds:List D):RenCells n ρ H [] ds ↔ True:=iff_true_intro ⟨by simp,fun i c d h=>by simp at h⟩
@[go_sem] theorem renCells_cons (c d:D) (cs ds:List D):RenCells n ρ H (c :: cs) (d :: ds) ↔ Ren n ρ H c d∧RenCells n ρ H cs ds:=by
 constructor
 · rintro ⟨h1,h2⟩
   exact ⟨h2 0 c d rfl rfl,by simpa using h1,fun i c' d' hc hd=>h2 (i + 1) c' d' (by simpa using hc) (by simpa using hd)⟩
 · rintro ⟨h1,h2,h3⟩
   refine ⟨by simpa using h2,fun i c' d' hc hd=>?_⟩
   match i with
   | 0=>simp at hc hd;subst hc;subst hd;exact h1
   | i + 1=>exact h3 i c' d' (by simpa using hc) (by simpa using hd)
theorem renCells_datas {cs:List D} (h:∀ c∈cs,∃ x,c = .data x):RenCells n ρ H cs cs:=⟨Nat.le_refl _,fun i c d hc hd=>by
 rw [hc] at hd;cases hd
 obtain ⟨x,rfl⟩:=h c (List.mem_of_getElem? hc)
 exact .data x⟩
theorem renCells_eq {l m:List Data} (h:l = m):RenCells n ρ H (l.map D.data) (m.map D.data):=by
 subst h
 exact renCells_datas fun c hc=>by obtain ⟨x,_,rfl⟩:=List.mem_map.1 hc;exact ⟨x,rfl⟩
@[go_sem] theorem renCells_map (l:List Data):RenCells n ρ H (l.map D.data) (l.map D.data) ↔ True:=iff_true_intro (renCells_eq rfl)
@[go_sem] theorem ren_data (x y:Data):Ren n ρ H (.data x) (.data y) ↔ x = y:=by
 constructor
 · intro h
   cases h with
   | data=>rfl
   | frz _ _ h=>cases h;rfl
 · rintro rfl;exact .data x
@[go_sem] theorem ren_ref (g off len es o off' len' es':Nat):Ren n ρ H (.ref g off len es) (.ref o off' len' es') ↔ g < n∧ρ g = some o∧off = off'∧len = len'∧es = es':=by
 constructor
 · intro h
   cases h with
   | ref _ _ _ _ _ h1 h2=>exact ⟨h1,h2,rfl,rfl,rfl⟩
 · rintro ⟨h1,h2,rfl,rfl,rfl⟩;exact .ref _ _ _ _ _ h1 h2
@[go_sem] theorem ren_refnil (g off len es es':Nat):Ren n ρ H (.ref g off len es) (.emp es') ↔ g < n∧ρ g = none∧off = 0∧len = 0:=by
 constructor
 · intro h
   cases h with
   | nil _ _ _ h1 h2=>exact ⟨h1,h2,rfl,rfl⟩
 · rintro ⟨h1,h2,rfl,rfl⟩;exact .nil _ _ _ h1 h2
@[go_sem] theorem ren_ptr (g off o off':Nat):Ren n ρ H (.ptr g off) (.ptr o off') ↔ g < n∧ρ g = some o∧off = off':=by
 constructor
 · intro h
   cases h with
   | ptr _ _ _ h1 h2=>exact ⟨h1,h2,rfl⟩
 · rintro ⟨h1,h2,rfl⟩;exact .ptr _ _ _ h1 h2
@[go_sem] theorem ren_emp (a b:Nat):Ren n ρ H (.emp a) (.emp b) ↔ True:=iff_true_intro (.emp a b)
end
/-- A row under its new number. -/
def RenK (n:Nat) (R:List (Nat × Option Nat)) (H:Nat->Blk) (rw:Bool) (cells:List D):Blk->Prop
 | .dead=>False
 | .obj _=>False
 | .blk rw' cells'=>rw = rw'∧RenCells n (rhoL R) H cells cells'
def RenO (n:Nat) (R:List (Nat × Option Nat)) (H:Nat->Blk) (rw:Bool) (cells:List D):Option Nat->Prop
 | some o=>RenK n R H rw cells (H o)
 | none=>cells = []
def RenS (n:Nat) (R:List (Nat × Option Nat)) (H:Nat->Blk) (o2:Ob):Blk->Prop
 | .obj o1=>RenOb n (rhoL R) H o2 o1
 | _=>False
def RenP (n:Nat) (R:List (Nat × Option Nat)) (H:Nat->Blk) (o2:Ob):Option Nat->Prop
 | some o=>RenS n R H o2 (H o)
 | none=>False
def RenB (n:Nat) (R:List (Nat × Option Nat)) (H:Nat->Blk) (g:Nat):Blk->Prop
 | .dead=>True
 | .blk rw cells=>g < n∧RenO n R H rw cells (rhoL R g)
 | .obj o=>g < n∧RenP n R H o (rhoL R g)
@[go_sem] theorem renB_obj (n:Nat) (R:List (Nat × Option Nat)) (H:Nat->Blk) (g:Nat) (o:Ob):RenB n R H g (.obj o) ↔ g < n∧RenP n R H o (rhoL R g):=Iff.rfl
@[go_sem] theorem renP_some (n:Nat) (R:List (Nat × Option Nat)) (H:Nat->Blk) (o2:Ob) (o:Nat):RenP n R H o2 (some o) ↔ RenS n R H o2 (H o):=Iff.rfl
@[go_sem] theorem renK_blk (n:Nat) (R:List (Nat × Option Nat)) (H:Nat->Blk) (rw:Bool) (cells:List D) (rw':Bool) (cells':List D):RenK n R H rw cells (.blk rw' cells') ↔ rw = rw'∧RenCells n (rhoL R) H cells cells':=Iff.rfl
@[go_sem] theorem renO_some (n:Nat) (R:List (Nat × Option Nat)) (H:Nat->Blk) (rw:Bool) (cells:List D) (o:Nat):RenO n R H rw cells (some o) ↔ RenK n R H rw cells (H o):=Iff.rfl
@[go_sem] theorem renO_none (n:Nat) (R:List (Nat × Option Nat)) (H:Nat->Blk) (rw:Bool) (cells:List D):RenO n R H rw cells none ↔ cells = []:=Iff.rfl
@[go_sem] theorem renB_dead (n:Nat) (R:List (Nat × Option Nat)) (H:Nat->Blk) (g:Nat):RenB n R H g .dead ↔ True:=Iff.rfl
@[go_sem] theorem renB_blk (n:Nat) (R:List (Nat × Option Nat)) (H:Nat->Blk) (g:Nat) (rw:Bool) (cells:List D):RenB n R H g (.blk rw cells) ↔ g < n∧RenO n R H rw cells (rhoL R g):=Iff.rfl
theorem nodup_inj {α:Type} (f:α->Option Nat) (k:α->Nat):∀ l:List α,(l.filterMap f).Nodup->∀ p∈l,∀ q∈l,∀ o,f p = some o->f q = some o->k p = k q
 | [],_,p,hp,_,_,_,_,_=>by simp at hp
 | a :: l,h,p,hp,q,hq,o,e1,e2=>by
   have ht:(l.filterMap f).Nodup:=by
    rw [List.filterMap_cons] at h
    split at h
    · exact h
    · exact (List.nodup_cons.1 h).2
   have hn:∀ x∈l,f a = some o->f x = some o->False:=fun x hx ea ex=>by
    rw [List.filterMap_cons_some ea] at h
    exact (List.nodup_cons.1 h).1 (List.mem_filterMap.2 ⟨x,hx,ex⟩)
   rcases List.mem_cons.1 hp with ep | hp <;> rcases List.mem_cons.1 hq with eq | hq
   · rw [ep,eq]
   · rw [ep] at e1;exact (hn q hq e1 e2).elim
   · rw [eq] at e2;exact (hn p hp e2 e1).elim
   · exact nodup_inj f k l ht p hp q hq o e1 e2
theorem ren_lists {e:Nat->D} {H:Nat->Blk} {nx lo nt:Nat} {F:List Nat} (R:List (Nat × Option Nat)) (L:List (Nat × D)) (M:List (Nat × Blk)) (n:Nat) (hL:∀ p∈L,Ren n (rhoL R) (fzH H F) p.2 (e p.1)) (hM:∀ p∈M,RenB n R (fzH H F) p.1 p.2)
 (hi:(M.filterMap fun p=>rhoL R p.1).Nodup) (hlo:lo≤n) (hf:∀ p∈R,lo≤p.1) :
 WeakR F (rhoL R) ⟨e,H,nx,lo,nt⟩ ⟨envL L,hpL M,n,lo,nt⟩:=by
 have env:∀ (L:List (Nat × D)),(∀ p∈L,Ren n (rhoL R) (fzH H F) p.2 (e p.1))->∀ t,Ren n (rhoL R) (fzH H F) (envL L t) (e t):=by
  intro L
  induction L with
  | nil=>exact fun _ t=>.junk _
  | cons p L ih =>
    intro h t
    obtain ⟨k,d⟩:=p
    by_cases ht:t = k
    · subst ht
      have:=h (t,d) (by simp)
      simpa [envL] using this
    · simp only [envL,ht,if_false]
      exact ih (fun p hp=>h p (by simp [hp])) t
 have blk:∀ (M:List (Nat × Blk)) (g:Nat) (b:Blk),hpL M g = b->b = .dead ∨ (g,b)∈M:=by
  intro M
  induction M with
  | nil=>intro g b h;exact .inl h.symm
  | cons p M ih =>
    intro g b h
    obtain ⟨k,d⟩:=p
    by_cases hg:g = k
    · subst hg
      simp only [hpL,if_true] at h
      subst h
      exact .inr (by simp)
    · simp only [hpL,hg,if_false] at h
      rcases ih g b h with h | h
      · exact .inl h
      · exact .inr (by simp [h])
 have fix:∀ (R:List (Nat × Option Nat)),(∀ p∈R,lo≤p.1)->∀ g,g < lo->rhoL R g = some g:=by
  intro R
  induction R with
  | nil=>exact fun _ g _=>rfl
  | cons p R ih =>
    intro h g hg
    obtain ⟨k,o⟩:=p
    have:=h (k,o) (by simp)
    simp only [rhoL,show ¬ g = k by simp only at this;omega,if_false]
    exact ih (fun p hp=>h p (by simp [hp])) g hg
 refine ⟨env L hL,fun g rw cells hg=>?_,fun g g' o cells rw cells' hg hg' ho ho'=>?_,fun g o2 hg=>?_,fun g g' o p p' hg hg' ho ho'=>?_,rfl,hlo,fun g hg=>fix R hf g hg,rfl⟩
 rotate_left 2
 · rcases blk M g _ hg with h | h
   · cases h
   · obtain ⟨h1,h2⟩:=hM _ h
     refine ⟨h1,?_⟩
     simp only at h2
     cases ho:rhoL R g with
     | some o =>
       rw [ho] at h2
       have h3:RenS n R (fzH H F) o2 (fzH H F o):=h2
       cases hb:fzH H F o with
       | dead=>rw [hb] at h3;exact h3.elim
       | blk=>rw [hb] at h3;exact h3.elim
       | obj o1 =>
         rw [hb] at h3
         refine ⟨o,o1,rfl,?_,h3⟩
         show H o = .obj o1
         unfold fzH at hb
         split at hb
         · cases hH:H o with
           | dead=>rw [hH] at hb;cases hb
           | blk=>rw [hH] at hb;cases hb
           | obj o3=>rw [hH] at hb;exact hb
         · exact hb
     | none=>rw [ho] at h2;exact h2.elim
 · rcases blk M g _ hg with h | h
   · cases h
   · rcases blk M g' _ hg' with h' | h'
     · cases h'
     · exact nodup_inj (fun p:Nat × Blk=>rhoL R p.1) (fun p=>p.1) M hi _ h _ h' o ho ho'
 · rcases blk M g _ hg with h | h
   · cases h
   · obtain ⟨h1,h2⟩:=hM _ h
     refine ⟨h1,?_⟩
     simp only at h2
     cases ho:rhoL R g with
     | some o =>
       rw [ho] at h2
       have h3:RenK n R (fzH H F) rw cells (fzH H F o):=h2
       cases hb:fzH H F o with
       | dead=>rw [hb] at h3;exact h3.elim
       | obj o=>rw [hb] at h3;exact h3.elim
       | blk rw' cells' =>
         rw [hb] at h3
         obtain ⟨rfl,h4,h5⟩:=h3
         exact .inl ⟨o,cells',rfl,hb,h4,h5⟩
     | none=>rw [ho] at h2;exact .inr ⟨rfl,h2⟩
 · rcases blk M g _ hg with h | h
   · cases h
   · rcases blk M g' _ hg' with h' | h'
     · cases h'
     · exact nodup_inj (fun p:Nat × Blk=>rhoL R p.1) (fun p=>p.1) M hi _ h _ h' o ho ho'
mutual
/-- Numbers moved up. -/
def shD (n:Nat):D->D
 | .ref g off len es=>.ref (g + n) off len es
 | .ptr g off=>.ptr (g + n) off
 | .cut g off len cp es=>.cut (g + n) off len cp es
 | .mref g=>.mref (g + n)
 | .iref g=>.iref (g + n)
 | .agg cs=>.agg (shL n cs)
 | .fn f caps=>.fn f (shL n caps)
 | .bnd f r=>.bnd f (shD n r)
 | .tp cs=>.tp (shL n cs)
 | .data x=>.data x
 | .emp es=>.emp es
 | .cptr cells=>.cptr cells
 | .yld l=>.yld l
 | .ful n l=>.ful n l
 | .junk=>.junk
def shL (n:Nat):List D->List D
 | []=>[]
 | d :: ds=>shD n d :: shL n ds
end
theorem shL_eq (n:Nat):∀ ds:List D,shL n ds = ds.map (shD n)
 | []=>by simp [shL]
 | d :: ds=>by simp [shL,shL_eq n ds]
def shB (n:Nat):Blk->Blk
 | .dead=>.dead
 | .blk rw cells=>.blk rw (shL n cells)
 | .obj (.mp ks xs)=>.obj (.mp ks (shL n xs))
 | .obj o=>.obj o
@[go_sem] theorem shB_mp (n:Nat) (ks:List Data) (xs:List D):shB n (.obj (.mp ks xs)) = .obj (.mp ks (shL n xs)):=rfl
@[go_sem] theorem shB_it (n:Nat) (ks xs:List Data) (l:List Nat) (c:Option Nat):shB n (.obj (.it ks xs l c)) = .obj (.it ks xs l c):=rfl
@[go_sem] theorem shB_si (n:Nat) (s:ByteArray) (p:Nat):shB n (.obj (.si s p)) = .obj (.si s p):=rfl
@[go_sem] theorem shD_ref (n g off len es:Nat):shD n (.ref g off len es) = .ref (g + n) off len es:=by simp [shD]
@[go_sem] theorem shD_ptr (n g off:Nat):shD n (.ptr g off) = .ptr (g + n) off:=by simp [shD]
@[go_sem] theorem shD_agg (n:Nat) (cs:List D):shD n (.agg cs) = .agg (shL n cs):=by simp [shD]
@[go_sem] theorem shD_data (n:Nat) (x:Data):shD n (.data x) = .data x:=by simp [shD]
@[go_sem] theorem shD_emp (n es:Nat):shD n (.emp es) = .emp es:=by simp [shD]
@[go_sem] theorem shL_data (n:Nat) (l:List Data):shL n (l.map D.data) = l.map D.data:=by rw [shL_eq];simp [shD_data]
@[go_sem] theorem shB_blk (n:Nat) (rw:Bool) (cells:List D):shB n (.blk rw cells) = .blk rw (shL n cells):=rfl
@[go_sem] theorem shB_dead (n:Nat):shB n .dead = .dead:=rfl
/-- The caller's rows,and above them those handed back. -/
def ownH (nx:Nat) (H:Nat->Blk) (M:List (Nat × Blk)):Nat->Blk:=fun g=>if g < nx then H g else shB nx (hpL M (g - nx))
@[go_sem] theorem ownH_eq (nx:Nat) (H:Nat->Blk) (M:List (Nat × Blk)) (g:Nat):ownH nx H M g = if g < nx then H g else shB nx (hpL M (g - nx)):=rfl
/-- What a call comes to that hands back rows of its own: d,over k rows M. -/
def OC (P:Program) (Γ:Nat->Option (List Data)) (f:FuncId) (xs:List Data) (d:D) (M:List (Nat × Blk)) (k:Nat):Prop:=CallOk P f ∧
 ∀ (L:Nat->Prop) (w:World) (vs:Array Value),Glob Γ L w->(∀ b,L b->b < w.heap.size)->xs.length = vs.size->(∀ (i:Nat) (x:Data) (v:Value),xs[i]? = some x->vs[i]? = some v->VD L w x v) →
  Calls P f vs w fun e w'=>∃ v m,e = .returned v∧WR Γ L (W0.of w) m (hpL M) w'∧VV (Live L m (hpL M)) w' m d v∧(∀ g,k≤g->m g = .res)∧∀ g,k≤g->hpL M g = .dead
section
variable {P:Program} {Γ:Nat->Option (List Data)} {L0:Nat->Prop} {w0:W0}
/-- The caller's rows,and in a window those handed back. -/
def ownW (fr k:Nat) (H:Nat->Blk) (M:List (Nat × Blk)):Nat->Blk:=fun g=>if fr≤g∧g < fr + k then shB fr (hpL M (g - fr)) else H g
theorem WR.joinedW {m:Nat->MB} {H H2:Nat->Blk} {w:World} {fr k:Nat} (h:WR Γ L0 w0 m H w) (hold:∀ g,H2 g = H g ∨ ∃ rw cells,H g = .blk rw cells∧H2 g = .blk false cells) (hres:∀ q,q < k->m (fr + q) = .res)
 {mc:Nat->MB} {M:List (Nat × Blk)} {w':World} (hc:WR Γ (Live L0 m H2) (W0.of w) mc (hpL M) w') (hk:∀ g,k≤g->mc g = .res) :
 let m':=fun g=>if fr≤g∧g < fr + k then mc (g - fr) else m g
 WR Γ L0 w0 m' (ownW fr k H2 M) w'∧Grow (Live L0 m H) w (Live L0 m' (ownW fr k H2 M)) w'∧∀ d v,VV (Live (Live L0 m H2) mc (hpL M)) w' mc d v->VV (Live L0 m' (ownW fr k H2 M)) w' m' (shD fr d) v:=by
 intro m'
 have hlo:∀ g,¬ (fr≤g∧g < fr + k)->m' g = m g:=fun g hg=>if_neg hg
 have hin:∀ g,g < k->m' (g + fr) = mc g:=fun g hg=>by simp only [m'];rw [if_pos (by omega)];congr 1;omega
 have hhi:∀ g,mc g≠.res->m' (g + fr) = mc g:=fun g hg=>hin g (Nat.lt_of_not_le fun e=>hg (hk g e))
 have Hlo:∀ g,¬ (fr≤g∧g < fr + k)->ownW fr k H2 M g = H2 g:=fun g hg=>if_neg hg
 have Hhi:∀ g,g < k->ownW fr k H2 M (g + fr) = shB fr (hpL M g):=fun g hg=>by simp only [ownW];rw [if_pos (by omega)];congr 2;omega
 have out_of:∀ g,m g≠.res->¬ (fr≤g∧g < fr + k):=fun g hg e=>hg (by have:=hres (g - fr) (by omega);rwa [show fr + (g - fr) = g by omega] at this)
 have part:∀ g,¬ (fr≤g∧g < fr + k) ∨ ∃ q,q < k∧g = q + fr:=fun g=>by
  by_cases e:fr≤g∧g < fr + k
  · exact .inr ⟨g - fr,by omega,by omega⟩
  · exact .inl e
 have unsh:∀ {b:Blk} {rw:Bool} {cs:List D},shB fr b = .blk rw cs->∃ c0,b = .blk rw c0∧cs = c0.map (shD fr):=by
  intro b rw cs e
  cases b with
  | dead=>cases e
  | obj o=>cases o <;> cases e
  | blk r c=>simp only [shB,Blk.blk.injEq] at e;exact ⟨c,by rw [e.1],by rw [<- e.2,shL_eq]⟩
 have src:∀ g rw cs,H2 g = .blk rw cs->∃ rw0,H g = .blk rw0 cs∧(rw = true->rw0 = true):=by
  intro g rw cs hg
  rcases hold g with e | ⟨rw0,cells,e1,e⟩
  · rw [e] at hg;exact ⟨rw,hg,id⟩
  · rw [e] at hg;cases hg;exact ⟨rw0,e1,fun e=>by cases e⟩
 have osrc:∀ g o,H2 g = .obj o->H g = .obj o:=by
  intro g o hg
  rcases hold g with e | ⟨rw0,cells,e1,e⟩
  · rw [<- e];exact hg
  · rw [e] at hg;cases hg
 have rsrc:∀ g,(H2 g).rw = true->H2 g = H g:=by
  intro g hg
  rcases hold g with e | ⟨rw0,cells,e1,e⟩
  · exact e
  · rw [e] at hg;cases hg
 have rwsh:∀ b:Blk,(shB fr b).rw = b.rw:=fun b=>by
  cases b with
  | dead=>rfl
  | blk=>rfl
  | obj o=>cases o <;> rfl
 have hsub:∀ b,Live L0 m H2 b->Live L0 m H b:=by
  rintro b (hb | ⟨g,sz,hg,hm⟩)
  · exact .inl hb
  · exact .inr ⟨g,sz,by rw [<- rsrc g hg];exact hg,hm⟩
 have live1:∀ b,Live L0 m' (ownW fr k H2 M) b->Live (Live L0 m H2) mc (hpL M) b:=by
  rintro b (hb | ⟨g,sz,hg,hm⟩)
  · exact .inl (.inl hb)
  · rcases part g with e | ⟨q,hq,rfl⟩
    · rw [Hlo g e] at hg;rw [hlo g e] at hm
      exact .inl (.inr ⟨g,sz,hg,hm⟩)
    · rw [Hhi q hq,rwsh] at hg;rw [hin q hq] at hm
      exact .inr ⟨q,sz,hg,hm⟩
 have newb:∀ q b sz,hpL M q≠.dead->mc q = .at b sz->w.heap.size≤b:=by
  intro q b sz hg hm
  cases hb:hpL M q with
  | dead=>exact absurd hb hg
  | blk rw cs =>
    rcases hc.heap.blk q rw cs hb with ⟨k1,_⟩ | ⟨b',sz',vs,ty,k1,k2,_⟩
    · rw [k1] at hm;cases hm
    · rw [k1] at hm;cases hm;exact k2.1
  | obj o =>
    obtain ⟨b',v,k1,k2,_⟩:=hc.heap.obj q o hb
    rw [k1] at hm;cases hm;exact k2.1
 have old_live:∀ b,b < w.heap.size->Live (Live L0 m H2) mc (hpL M) b->Live L0 m H2 b:=by
  rintro b hb (hl | ⟨q,sz,hg,hm⟩)
  · exact hl
  · have:=newb q b sz (fun e=>by rw [e] at hg;cases hg) hm;omega
 have hgrow:Grow (Live L0 m H) w (Live L0 m' (ownW fr k H2 M)) w' :=
  ⟨hc.below.size,fun b hb hL=>⟨hc.below.block b hb,fun hl=>hL (hsub b (old_live b hb (live1 b hl)))⟩⟩
 have hgrow2:Grow (Live (Live L0 m H2) mc (hpL M)) w' (Live L0 m' (ownW fr k H2 M)) w':=Grow.less w' live1
 have ne:∀ {g b sz},mc g = .at b sz->mc g≠.res:=fun e q=>by rw [e] at q;cases q
 have hVV:∀ d v,VV (Live (Live L0 m H2) mc (hpL M)) w' mc d v->VV (Live L0 m' (ownW fr k H2 M)) w' m' (shD fr d) v:=by
  intro d v hv
  induction hv with
  | data x v h=>rw [shD_data];exact .data x v (h.mono hgrow2)
  | emp es a=>rw [shD_emp];exact .emp es a
  | ref g off len es b sz cap o h1 h2 h3 h4 h5=>rw [shD_ref];exact .ref _ off len es b sz cap o (by rw [hhi g (ne h1)];exact h1) h2 h3 h4 h5
  | ref0 g es a h1=>rw [shD_ref];exact .ref0 _ es a (by rw [hhi g (fun q=>by rw [h1] at q;cases q)];exact h1)
  | ptr g off b sz h1=>rw [shD_ptr];exact .ptr _ off b sz (by rw [hhi g (ne h1)];exact h1)
  | cut g off len cp es b sz cap o h1 h2 h3 h4 h5 h6=>simp only [shD];exact .cut _ off len cp es b sz cap o (by rw [hhi g (ne h1)];exact h1) h2 h3 h4 h5 h6
  | mref g b h1=>simp only [shD];exact .mref _ b (by rw [hhi g (ne h1)];exact h1)
  | iref g b h1=>simp only [shD];exact .iref _ b (by rw [hhi g (ne h1)];exact h1)
  | cptr cells b off vs hb hL hc hv=>simp only [shD];exact .cptr cells b off vs hb (fun hl=>hL (live1 b hl)) hc (fun i x hx=>(hv i x hx).mono hgrow2)
  | agg cs vs hl _ ih =>
    rw [shD_agg,shL_eq]
    refine .agg _ vs (by simpa using hl) fun i x v hx hv=>?_
    rw [List.getElem?_map,Option.map_eq_some_iff] at hx
    obtain ⟨y,hy,rfl⟩:=hx
    exact ih i y v hy hv
  | fn f caps vs hl _ ih =>
    simp only [shD,shL_eq]
    refine .fn f _ vs (by simpa using hl) fun i x v hx hv=>?_
    rw [List.getElem?_map,Option.map_eq_some_iff] at hx
    obtain ⟨y,hy,rfl⟩:=hx
    exact ih i y v hy hv
  | bnd f r v _ ih=>simp only [shD];exact .bnd f _ v ih
  | tp cs vs hl _ ih =>
    simp only [shD,shL_eq]
    refine .tp _ vs (by simpa using hl) fun i x v hx hv=>?_
    rw [List.getElem?_map,Option.map_eq_some_iff] at hx
    obtain ⟨y,hy,rfl⟩:=hx
    exact ih i y v hy hv
  | yld l=>simp only [shD];exact .yld l
  | ful es l a n h=>simp only [shD];exact .ful es l a n (h.mono hgrow2)
  | junk v=>simp only [shD];exact .junk v
 have hkeep:∀ g,m g≠.res->m' g = m g:=fun g hg=>hlo g (out_of g hg)
 have big:∀ q,hpL M q≠.dead->q < k:=fun q hq=>Nat.lt_of_not_le fun e=>hq (hc.none (hk q e))
 refine ⟨⟨⟨?_,?_,?_,?_⟩,?_,(fun k hk=>⟨Nat.lt_of_lt_of_le (h.l0 k hk).1 hgrow.size,(hc.below.block k (h.l0 k hk).1).trans (h.l0 k hk).2⟩),h.glob.mono hgrow⟩,hgrow,hVV⟩
 · intro g rw cs hg
   rcases part g with e | ⟨q,hq,rfl⟩
   · rw [Hlo g e] at hg
     obtain ⟨rw0,hg0,hrw⟩:=src g rw cs hg
     rcases h.heap.blk g rw0 cs hg0 with ⟨k1,k2⟩ | ⟨b,sz,vs,ty,k1,k2,k3,k4,k5,k6,k7⟩
     · exact .inl ⟨by rw [hlo g e];exact k1,k2⟩
     · have hlt:=h.lt hg0 k1
       refine .inr ⟨b,sz,vs,ty,by rw [hlo g e];exact k1,k2,fun e2 hl=>?_,by rw [hc.below.block b hlt];exact k4,k5,k6,fun i d hd=>?_⟩
       · rcases old_live b hlt (live1 b hl) with hl | ⟨q,szq,hq,hmq⟩
         · exact absurd hl k2.2
         · have hqg:=h.inj (by rw [<- rsrc q hq];exact hq) (fun q2=>by rw [q2] at hg0;cases hg0) hmq k1
           subst hqg
           rw [hg,e2] at hq;cases hq
       · obtain ⟨v,hv,h1c,hvv⟩:=k7 i d hd
         exact ⟨v,hv,h1c,hvv.mono hgrow hkeep⟩
   · rw [Hhi q hq] at hg
     obtain ⟨c0,e1,rfl⟩:=unsh hg
     rcases hc.heap.blk q rw c0 e1 with ⟨k1,k2⟩ | ⟨b,sz,vs,ty,k1,k2,k3,k4,k5,k6,k7⟩
     · exact .inl ⟨by rw [hin q hq];exact k1,by rw [k2];rfl⟩
     · refine .inr ⟨b,sz,vs,ty,by rw [hin q hq];exact k1,⟨Nat.le_trans h.base k2.1,fun hl=>by have:=(h.l0 _ hl).1;have:w.heap.size≤b:=k2.1;omega⟩,fun e2 hl=>k3 e2 (live1 b hl),k4,k5,by simpa using k6,fun i d hd=>?_⟩
       rw [List.getElem?_map,Option.map_eq_some_iff] at hd
       obtain ⟨y,hy,rfl⟩:=hd
       obtain ⟨v,hv,h1c,hvv⟩:=k7 i y hy
       exact ⟨v,hv,h1c,hVV y v hvv⟩
 · intro g g' cs rw' cs' b sz sz' hg hg' hm1 hm2
   rcases part g with e | ⟨q,hq,rfl⟩ <;> rcases part g' with e' | ⟨q',hq',rfl⟩
   · rw [Hlo g e] at hg;rw [Hlo g' e'] at hg';rw [hlo g e] at hm1;rw [hlo g' e'] at hm2
     obtain ⟨rw0,hg0,hrw⟩:=src g true cs hg
     obtain ⟨rw0',hg0',hrw'⟩:=src g' rw' cs' hg'
     have:=hrw rfl
     subst this
     exact h.heap.inj g g' cs rw0' cs' b sz sz' hg0 hg0' hm1 hm2
   · rw [Hlo g e] at hg;rw [hlo g e] at hm1;rw [Hhi q' hq'] at hg';rw [hin q' hq'] at hm2
     obtain ⟨c0,e1,_⟩:=unsh hg'
     obtain ⟨rw0,hg0,_⟩:=src g true cs hg
     have h1:=h.lt hg0 hm1
     have h2:=newb q' b sz' (by rw [e1];intro q;cases q) hm2
     omega
   · rw [Hlo g' e'] at hg';rw [hlo g' e'] at hm2;rw [Hhi q hq] at hg;rw [hin q hq] at hm1
     obtain ⟨c0,e1,_⟩:=unsh hg
     obtain ⟨rw0,hg0,_⟩:=src g' rw' cs' hg'
     have h1:=h.lt hg0 hm2
     have h2:=newb q b sz (by rw [e1];intro q;cases q) hm1
     omega
   · rw [Hhi q hq] at hg;rw [Hhi q' hq'] at hg';rw [hin q hq] at hm1;rw [hin q' hq'] at hm2
     obtain ⟨c0,e1,_⟩:=unsh hg
     obtain ⟨c1,e2,_⟩:=unsh hg'
     rw [hc.heap.inj q q' c0 rw' c1 b sz sz' e1 e2 hm1 hm2]
 · intro g o hg
   rcases part g with e | ⟨q,hq,rfl⟩
   · rw [Hlo g e] at hg
     obtain ⟨b,v,k1,k2,k3,k4⟩:=h.heap.obj g o (osrc g o hg)
     have hlt:=h.ltO (osrc g o hg) k1
     exact ⟨b,v,by rw [hlo g e];exact k1,k2,by rw [hc.below.block b hlt];exact k3,k4.mono hgrow hkeep⟩
   · rw [Hhi q hq] at hg
     cases hb:hpL M q with
     | dead=>rw [hb] at hg;cases hg
     | blk=>rw [hb] at hg;cases hg
     | obj o1 =>
       obtain ⟨b,v,k1,k2,k3,k4⟩:=hc.heap.obj q o1 hb
       rw [hb] at hg
       refine ⟨b,v,by rw [hin q hq];exact k1,⟨Nat.le_trans h.base k2.1,fun hl=>by have:=(h.l0 _ hl).1;have:w.heap.size≤b:=k2.1;omega⟩,k3,?_⟩
       cases k4 with
       | mp ks xs es clock a1 a2 a3 a4 a5 a6 =>
         cases hg
         rw [shL_eq]
         refine .mp ks _ es clock a1 (by simpa using a2) (fun i x e p q=>(a3 i x e p q).mono hgrow2) (fun i x e p q=>?_) a5 a6
         rw [List.getElem?_map,Option.map_eq_some_iff] at p
         obtain ⟨y,hy,rfl⟩:=p
         exact hVV y _ (a4 i y e hy q)
       | it ks xs left cur bm seen hv a1 a2 =>
         cases hg
         exact .it ks xs left cur bm seen (hv.mono hgrow2) a1 a2
       | si s pos =>
         cases hg
         exact .si s pos
 · intro g g' o o' b sz sz' hg hg' hm1 hm2
   have osh:∀ {b:Blk} {o:Ob},shB fr b = .obj o->∃ o0,b = .obj o0:=by
    intro b o e
    cases b with
    | dead=>cases e
    | blk=>cases e
    | obj o0=>exact ⟨o0,rfl⟩
   rcases part g with e | ⟨q,hq,rfl⟩ <;> rcases part g' with e' | ⟨q',hq',rfl⟩
   · rw [Hlo g e] at hg;rw [Hlo g' e'] at hg';rw [hlo g e] at hm1;rw [hlo g' e'] at hm2
     exact h.heap.injO g g' o o' b sz sz' (osrc g o hg) (osrc g' o' hg') hm1 hm2
   · rw [Hlo g e] at hg;rw [hlo g e] at hm1;rw [Hhi q' hq'] at hg';rw [hin q' hq'] at hm2
     obtain ⟨c0,e1⟩:=osh hg'
     have h1:=h.ltO (osrc g o hg) hm1
     have h2:=newb q' b sz' (by rw [e1];intro q;cases q) hm2
     omega
   · rw [Hlo g' e'] at hg';rw [hlo g' e'] at hm2;rw [Hhi q hq] at hg;rw [hin q hq] at hm1
     obtain ⟨c0,e1⟩:=osh hg
     have h1:=h.ltO (osrc g' o' hg') hm2
     have h2:=newb q b sz (by rw [e1];intro q;cases q) hm1
     omega
   · rw [Hhi q hq] at hg;rw [Hhi q' hq'] at hg';rw [hin q hq] at hm1;rw [hin q' hq'] at hm2
     obtain ⟨c0,e1⟩:=osh hg
     obtain ⟨c1,e2⟩:=osh hg'
     rw [hc.heap.injO q q' c0 c1 b sz sz' e1 e2 hm1 hm2]
 · exact h.below.trans (hc.below.mono h.base)
/-- What a function hands back of its own. -/
def retOQ (P:Program) (fn:Func) (d:D) (M:List (Nat × Blk)) (k:Nat):Exit->St->Prop
 | .normal,s | .ret,s=>resK P fn.results.toList s fun ds=>∃ d0 F R,tupDD ds = some d0∧WeakR F (rhoL R) ⟨envL [(0,d0)],s.hp,s.nx,0,1⟩ ⟨envL [(0,d)],hpL M,k,0,1⟩
 | _,_=>False
@[congr] theorem retOQ_congr {n0:Nat} (tk:tick = n0) (P:Program) (fn:Func) (d:D) (M:List (Nat × Blk)) (k:Nat) (e:Exit) (s:St):retOQ P fn d M k e s = retOQ P fn d M k e s:=rfl
/-- The result,and the rows that it takes with it. -/
def ownK (H:Nat->Blk) (nx:Nat) (d:D) (M:List (Nat × Blk)) (k:Nat) (ds:List D):Prop:=∃ d0 F R,tupDD ds = some d0∧WeakR F (rhoL R) ⟨envL [(0,d0)],H,nx,0,1⟩ ⟨envL [(0,d)],hpL M,k,0,1⟩
@[congr] theorem ownK_congr {n0:Nat} (tk:tick = n0) (H:Nat->Blk) (nx:Nat) (d:D) (M:List (Nat × Blk)) (k:Nat) {ds ds':List D} (h:ds = ds'):ownK H nx d M k ds = ownK H nx d M k ds':=by rw [h]
@[go_sem] theorem retOQ_ret (fn:Func) (d:D) (M:List (Nat × Blk)) (k:Nat) (s:St):retOQ P fn d M k .ret s = resK P fn.results.toList s fun ds=>ownK s.hp s.nx d M k ds:=rfl
@[go_sem] theorem retOQ_normal (fn:Func) (d:D) (M:List (Nat × Blk)) (k:Nat) (s:St):retOQ P fn d M k .normal s = resK P fn.results.toList s fun ds=>ownK s.hp s.nx d M k ds:=rfl
def resV (us:List Value):Value:=match us with
 | [v]=>v
 | vs=>.tuple vs.toArray
theorem results_runV {P:Program} {fn:Func} {a:Act} {w:World} {vs:List Value} (h:(fn.results.toList.mapM (resOne a.tmps)).run P w = .ok vs w):(results fn a.tmps).run P w = .ok (resV vs) w:=by
 rw [results_run h]
 match vs with
 | []=>rfl
 | [v]=>rfl
 | v :: u :: vs=>rfl
theorem tup_vv {L:Nat->Prop} {w:World} {m:Nat->MB} {es:List D} {us:List Value} {d:D} (hd:tupDD es = some d) (k1:es.length = us.length) (k2:∀ (i:Nat) (e:D) (v:Value),es[i]? = some e->us[i]? = some v->VV L w m e v):VV L w m d (resV us):=by
 match es,us,k1,k2,hd with
 | [e],[u],_,k2,hd =>
   simp only [tupDD,Option.some.injEq] at hd
   subst hd
   exact k2 0 e u rfl rfl
 | [],[],_,_,hd =>
   simp only [tupDD,allData,Option.some.injEq] at hd
   subst hd
   exact .data _ _ (.tup [] #[] rfl (fun i x v hx=>by simp at hx))
 | e :: e2 :: es,u :: u2 :: us,k1,k2,hd =>
   simp only [tupDD,Option.some.injEq] at hd
   cases hxs:allData (e :: e2 :: es) with
   | some xs =>
     rw [hxs] at hd
     simp only at hd
     subst hd
     have hx:=allData_eq hxs
     refine .data _ _ (.tup xs _ (by have:=congrArg List.length hx;simp at this k1 ⊢;omega) fun i x v hxi hvi=>?_)
     exact (k2 i (.data x) v (by rw [hx,List.getElem?_map,hxi];rfl) (by simpa using hvi)).data_inv
   | none =>
     rw [hxs] at hd
     simp only at hd
     subst hd
     exact .tp _ _ (by simp at k1 ⊢;omega) fun i x v hxi hvi=>k2 i x v hxi (by simpa using hvi)
 | [],u :: us,k1,_,_=>simp at k1
 | [e],[],k1,_,_=>simp at k1
 | [e],u :: u2 :: us,k1,_,_=>simp at k1
 | e :: e2 :: es,[],k1,_,_=>simp at k1
 | e :: e2 :: es,[u],k1,_,_=>simp at k1
theorem oc_of (hm:P.follows .mixedOrders = true) {f:FuncId} {fn:Func} {c:Code} {xs:List Data} {d:D} {M:List (Nat × Blk)} {k:Nat} (hf:P.funcs[f]? = some fn) (hb:fn.body = some c) (hc:CallOk P f)
 (h:wpF P Γ c (retOQ P fn d M k) ⟨envArgs (xs.map toD),fun _=>.dead,0,0,xs.length + (fn.ntmps - xs.length)⟩):OC P Γ f xs d M k:=by
 refine ⟨hc,fun L w vs hg hL hl hv=>calls_of_wp hf hb ?_⟩
 have hlive:∀ b,Live L (fun _=>.res) (fun _=>Blk.dead) b ↔ L b:=fun b=>⟨(fun h=>by
  rcases h with h | ⟨g,sz,hg,_⟩
  · exact h
  · cases hg),.inl⟩
 have hrel:Rel Γ L (W0.of w) (fun _=>.res) ⟨envArgs (xs.map toD),fun _=>.dead,0,0,xs.length + (fn.ntmps - xs.length)⟩ { tmps:=vs++Array.replicate (fn.ntmps - vs.size) undef,defers:=[] } w:=by
  refine ⟨rfl,fun t=>?_,⟨(fun g rw cells hg=>by cases hg),(fun g g' cells rw' cells' b sz sz' hg=>by cases hg),(fun g o hg=>by cases hg),(fun g g' o o' b sz sz' hg=>by cases hg)⟩,fun _ _=>rfl,fun _ _=>rfl,Below.refl _ _,(fun b hb=>⟨hL b hb,rfl⟩),hg.mono (Grow.less w fun b hb=>(hlive b).1 hb),Nat.le_refl _,by simp [hl]⟩
  refine args_env (by simpa using hl) (fun i d v hd hvi=>?_) t
  rw [List.getElem?_map,Option.map_eq_some_iff] at hd
  obtain ⟨x,hx,rfl⟩:=hd
  exact toD_ok ((hv i x v hx hvi).mono (Grow.less w fun b hb=>(hlive b).1 hb))
 refine wp_mono (wp_sound hm c _ _ _ _ _ hrel h) fun e a' w' ⟨m',s',h1,h2,h3⟩=>?_
 have hlo:s'.lo = 0:=h2.lo
 have key:(resK P fn.results.toList s' fun ds=>∃ d0 F R,tupDD ds = some d0∧WeakR F (rhoL R) ⟨envL [(0,d0)],s'.hp,s'.nx,0,1⟩ ⟨envL [(0,d)],hpL M,k,0,1⟩)->a'.defers = []∧∃ v,(results fn a'.tmps).run P w' = .ok v w'∧∃ v' m,Ending.returned v = .returned v'∧WR Γ L (W0.of w) m (hpL M) w'∧VV (Live L m (hpL M)) w' m d v'∧(∀ g,k≤g->m g = .res)∧∀ g,k≤g->hpL M g = .dead:=by
  intro hk
  obtain ⟨ds,us,⟨d0,F,R,hd0,hw⟩,k1,k2,k3⟩:=res_ok h1 _ _ hk
  have hv0:=tup_vv hd0 k1 k2
  have hrun:=results_runV k3
  generalize resV us = u at hv0 hrun
  have hr2:Rel Γ L (W0.of w) m' ⟨envL [(0,d0)],s'.hp,s'.nx,0,1⟩ { tmps:=#[u],defers:=[] } w':=by
   refine ⟨rfl,fun t=>?_,h1.heap,h1.res,h1.dead,h1.below,h1.l0,h1.glob,Nat.zero_le _,rfl⟩
   by_cases ht:t = 0
   · subst ht;exact hv0
   · simp only [envL,ht,if_false];exact .junk _
  obtain ⟨m2,r1,r2⟩:=renW_rel hr2 hw
  exact ⟨h1.defers,_,hrun,_,m2,rfl,r1.wr,r1.vals 0,r1.res,r1.dead⟩
 cases e with
 | normal=>exact key h3
 | ret=>exact key h3
 | _=>exact h3.elim
theorem oc_by (hm:P.follows .mixedOrders = true) {f:FuncId} {fn:Func} {c:Code} {xs:List Data} {d:D} {M:List (Nat × Blk)} {k:Nat} (hf:P.funcs[f]? = some fn) (hb:fn.body = some c) (hc:CallOk P f)
 (h:startK (xs.map toD) (xs.length + (fn.ntmps - xs.length)) fun ds n=>wpF P Γ c (retOQ P fn d M k) ⟨envArgs ds,fun _=>.dead,0,0,n⟩):OC P Γ f xs d M k:=oc_of hm hf hb hc h
theorem own_of {H:Nat->Blk} {nx:Nat} {d d0:D} {M:List (Nat × Blk)} {k:Nat} (F:List Nat) (R:List (Nat × Option Nat)) (h:WeakR F (rhoL R) ⟨envL [(0,d0)],H,nx,0,1⟩ ⟨envL [(0,d)],hpL M,k,0,1⟩):ownK H nx d M k [d0]:=⟨d0,F,R,rfl,h⟩
end
theorem toD_inv {L:Nat->Prop} {w:World} {m:Nat->MB} {x:Data} {v:Value} (h:VV L w m (toD x) v):VD L w x v:=by
 cases x with
 | pc cells=>cases h with | cptr _ b off vs hb hL hc hv=>exact .pc cells b off vs hb hL hc hv
 | _=>exact h.data_inv
@[go_sem] theorem coe_tp (P:Program) (t:TypeId) (cs:List D):coe P t (.tp cs) = .tp cs:=rfl
@[go_sem] theorem coe_yld (P:Program) (t:TypeId) (l:Nat):coe P t (.yld l) = .yld l:=rfl
section
variable {P:Program} {Γ:Nat->Option (List Data)} {L0:Nat->Prop} {w0:W0}
/-- A call that hands back rows of its own. -/
theorem eff_own {f:FuncId} {ds:List D} {H:Nat->Blk} {fr:Nat} {K:D->List Nat->List (Nat × Blk)->Nat->Prop} {xs:List Data} {d:D} {M:List (Nat × Blk)} {k:Nat} (u:List (Nat × Blk)) (hk0:0 < k) (h:OC P Γ f xs d M k) (hd:ds = xs.map toD)
 (hu:∀ H',Hp.upd H' u = ownW fr k H' M) (hk:K (shD fr d) [] u k):effC P Γ f ds H fr K:=by
 subst hd
 obtain ⟨hcall,hoc⟩:=h
 refine ⟨_,_,_,k,hk0,fun H' _ _=>⟨hcall,fun L0 w0 m w vs hwr hres hbey hl hv=>?_⟩,hk⟩
 refine (hoc (Live L0 m H') w vs hwr.glob (fun b hb=>hwr.live_lt hb) (by simpa using hl) (fun i x v hx hvi=>toD_inv (hv i (toD x) v (by rw [List.getElem?_map,hx];rfl) hvi))).mono fun e w' ⟨v,mc,he,hc,hd,hr,_⟩=>?_
 obtain ⟨j1,j2,j3⟩:=hwr.joinedW (fun g=>.inl rfl) hres hc hr
 rw [<- hu] at j1 j2 j3
 exact ⟨v,he,_,j1,j3 _ _ hd,j2,fun g hg=>if_neg (by omega)⟩
theorem eff_own1 {f:FuncId} {ds:List D} {H:Nat->Blk} {fr:Nat} {K:D->List Nat->List (Nat × Blk)->Nat->Prop} {xs:List Data} {d:D} {B:Blk} (h:OC P Γ f xs d [(0,B)] 1) (hd:ds = xs.map toD)
 (hk:K (shD fr d) [] [(fr,shB fr B)] 1):effC P Γ f ds H fr K:=by
 refine eff_own _ (by omega) h hd (fun H'=>?_) hk
 funext g
 simp only [Hp.upd,Hp.set,ownW]
 by_cases e:g = fr
 · subst e;rw [if_pos rfl,if_pos (by omega),Nat.sub_self];rfl
 · rw [if_neg e,if_neg (by omega)]
end
/-- An element of a type,out of its cells. -/
def mkE (P:Program) (t:TypeId) (ds:List Data):Data:=match P.underlying t with
 | some (.struct _) | some (.array _ _)=>.agg ds
 | _=>ds.headD .nilp
/-- Types that are read as plain data. -/
def suppF (P:Program) (s:TypeId->Bool):Nat->List Field->Option Nat
 | o,[]=>some o
 | o,f :: fs=>if f.offset = o∧s f.type = true then suppF P s (o + P.cellsOf f.type) fs else none
def supp (P:Program):Nat->TypeId->Bool
 | 0,_=>false
 | n + 1,t=>match P.underlying t with
   | some .bool | some .string=>true
   | some (.int _)=>true
   | some (.slice e)=>supp P n e && decide (0 < P.cellsOf e) && decide (0 < P.bytesOf e)
   | some (.struct fs)=>suppF P (supp P n) 0 fs.toList == some (P.cellsOf t)
   | some (.array m e)=>supp P n e && decide (P.cellsOf t = m * P.cellsOf e)
   | _=>false
/-- The cells that a reading tells. -/
def dDF {H:Type} (r:TypeId->DataW H->List Data):List Field->List (DataW H)->List Data
 | f :: fs,d :: ds=>r f.type d++dDF r fs ds
 | _,_=>[]
def dD {H:Type} (P:Program):Nat->TypeId->DataW H->List Data
 | 0,_,_=>[]
 | n + 1,t,d=>match P.underlying t with
   | some (.slice e)=>(match d with
     | .slice elems _=>[.sl (P.cellsOf e) (elems.map fun x=>mkE P e (dD P n e x))]
     | _=>[.sl (P.cellsOf e) []])
   | some (.struct fs)=>(match d with
     | .agg parts=>dDF (dD P n) fs.toList parts
     | _=>[])
   | some (.array _ e)=>(match d with
     | .agg parts=>parts.flatMap (dD P n e)
     | _=>[])
   | _=>(match d with
     | .lit (.bool b)=>[.bool b]
     | .lit (.int k i)=>[.int k i]
     | .lit (.string s)=>[.str ⟨s.toArray⟩]
     | _=>[])
/-- The form of a type's cells. -/
def okF (o:TypeId->List Data->Prop):List Field->List Data->Prop
 | [],ds=>ds = []
 | f :: fs,ds=>∃ a b,ds = a++b∧o f.type a∧okF o fs b
def okA (o:List Data->Prop):Nat->List Data->Prop
 | 0,ds=>ds = []
 | n + 1,ds=>∃ a b,ds = a++b∧o a∧okA o n b
def okD (P:Program):Nat->TypeId->List Data->Prop
 | 0,_,_=>False
 | n + 1,t,ds=>match P.underlying t with
   | some .bool=>∃ b,ds = [.bool b]
   | some (.int k)=>∃ i,ds = [.int k i]∧(Lit.int k i).wf = true
   | some .string=>∃ s,ds = [.str s]∧s.size≤reachBytes
   | some (.slice e)=>∃ l,ds = [.sl (P.cellsOf e) l]∧l.length≤reachBytes∧∀ x∈l,∃ es,x = mkE P e es∧okD P n e es
   | some (.struct fs)=>okF (okD P n) fs.toList ds
   | some (.array m e)=>okA (okD P n e) m ds
   | _=>False
/-- Cells,one by one. -/
def VDs (w:World) (cs:List Value) (ds:List Data):Prop:=ds.length = cs.length∧∀ (i:Nat) (x:Data) (v:Value),ds[i]? = some x->cs[i]? = some v->VD (fun _=>False) w x v
theorem VDs.nil (w:World):VDs w [] []:=⟨rfl,fun i x v h=>by simp at h⟩
theorem VDs.one {w:World} {v:Value} {x:Data} (h:VD (fun _=>False) w x v):VDs w [v] [x]:=⟨rfl,fun i y u hy hu=>by
 match i with
 | 0=>simp at hy hu;subst hy;subst hu;exact h
 | i + 1=>simp at hy⟩
theorem VDs.append {w:World} {a b:List Value} {x y:List Data} (h:VDs w a x) (k:VDs w b y):VDs w (a++b) (x++y):=by
 refine ⟨by simp [h.1,k.1],fun i d v hd hv=>?_⟩
 rw [List.getElem?_append] at hd hv
 rw [h.1] at hd
 split at hd
 · rename_i hi;rw [if_pos hi] at hv;exact h.2 i d v hd hv
 · rename_i hi;rw [if_neg hi] at hv;exact k.2 _ d v hd hv
section
variable {H:Type} {enc:TypeId × Value->H} {P:Program} {w:World} {held:Bool} {spare:Nat->Bool}
theorem weights_each {ts:List TypeId} {ds:List (DataW H)} (hz:∀ x∈DataW.weightsEach P ts ds,x≤reachBytes):∀ (i:Nat) t d,ts[i]? = some t->ds[i]? = some d->∀ x∈DataW.weights P t d,x≤reachBytes:=by
 induction ts generalizing ds with
 | nil=>intro i t d h;simp at h
 | cons t ts ih =>
   cases ds with
   | nil=>intro i t d _ h;simp at h
   | cons d ds =>
     simp only [DataW.weightsEach,List.mem_append] at hz
     intro i t' d' ht hd x hx
     match i with
     | 0=>simp at ht hd;subst ht;subst hd;exact hz x (.inl hx)
     | i + 1=>exact ih (fun y hy=>hz y (.inr hy)) i t' d' (by simpa using ht) (by simpa using hd) x hx
theorem weights_all {e:TypeId} {ds:List (DataW H)} (hz:∀ x∈DataW.weightsAll P e ds,x≤reachBytes):∀ d∈ds,∀ x∈DataW.weights P e d,x≤reachBytes:=by
 induction ds with
 | nil=>intro d h;simp at h
 | cons d ds ih =>
   simp only [DataW.weightsAll,List.mem_append] at hz
   intro d' hd x hx
   rcases List.mem_cons.1 hd with rfl | hd
   · exact hz x (.inl hx)
   · exact ih (fun y hy=>hz y (.inr hy)) d' hd x hx
/-- The cells of a memory row. -/
theorem cells_get {b0:Nat} {a:Addr} {n:Nat} {cs:List Value} (h:w.cells? b0 a n = some cs):cs.length = n∧∀ i,i < n->w.cell? (a.add i) = cs[i]?:=by
 unfold World.cells? at h
 split at h
 · exact ⟨by simpa using mapM_some_length h,fun i hi=>mapM_some_get h i i (by simp [hi])⟩
 · cases h
theorem cell_lt {a:Addr} {v:Value} (h:w.cell? a = some v):a.block < w.heap.size∧a.spot = none:=by
 unfold World.cell? at h
 split at h
 · rename_i hb
   exact ⟨(Array.getElem?_eq_some_iff.1 hb).1,by cases hs:a.spot with
    | none=>rfl
    | some s=>rw [hs] at h;simp at h⟩
 · cases h
theorem mkE_cells {n:Nat} {t:TypeId} {es:List Data} (h:okD P n t es):(mkE P t es).cells = es:=by
 cases n with
 | zero=>exact h.elim
 | succ n =>
   unfold okD at h
   unfold mkE
   split at h
   all_goals rename_i hu;simp only [hu]
   · obtain ⟨b,rfl⟩:=h;rfl
   · obtain ⟨i,rfl,_⟩:=h;rfl
   · obtain ⟨s,rfl,_⟩:=h;rfl
   · obtain ⟨l,rfl,_⟩:=h;rfl
   · rfl
   · rfl
   · exact h.elim
/-- The reading of cells: plain data,of the type's form. -/
theorem read_ok:∀ (n:Nat) (fuel:Nat) (t:TypeId) (cs:List Value) (d:DataW H) (ps:List MemPlace),supp P n t = true->DataW.trod enc P w 0 spare held fuel t cs = some (d,ps)->(∀ x∈DataW.weights P t d,x≤reachBytes) →
 VDs w cs (dD P n t d)∧okD P n t (dD P n t d):=by
 intro n
 induction n with
 | zero=>intro fuel t cs d ps hs;simp [supp] at hs
 | succ n ih =>
   intro fuel t cs d ps hs h hz
   unfold supp at hs
   split at hs
   · rename_i hu
     obtain ⟨b,rfl,e⟩:=DataW.trod_bool hu h
     cases e
     simp only [dD,okD,hu]
     exact ⟨.one (.bool b),b,rfl⟩
   · rename_i hu
     obtain ⟨s,rfl,e,_⟩:=DataW.trod_string hu h
     cases e
     simp only [dD,okD,hu]
     refine ⟨.one (.str s),s,rfl,?_⟩
     have:=hz s.data.toList.length (by simp [DataW.weights])
     simpa using this
   · rename_i k hu
     obtain ⟨i,rfl,e,hw⟩:=DataW.trod_int hu h
     cases e
     simp only [dD,okD,hu]
     exact ⟨.one (.int k i),i,rfl,hw⟩
   · rename_i e hu
     simp only [Bool.and_eq_true,decide_eq_true_eq] at hs
     obtain ⟨⟨hse,hc⟩,hb⟩:=hs
     rcases DataW.trod_slice hu h with ⟨rfl,hx⟩ | ⟨a,len,cap,elems,rest,m,rfl,rfl,hx,_,hlc,hcm,hlen,hel,_,_⟩
     · cases hx
       simp only [dD,okD,hu]
       exact ⟨.one (.sl _ [] none 0 0 0 0 (fun _=>.nilIface) rfl (Nat.le_refl _) (by simp [maxLen]) (by simp) (.inr rfl) (fun i x hx=>by simp [flat] at hx) (fun i x hx=>by simp [flat] at hx)),[],rfl,by simp,by simp⟩
     · cases hx
       simp only [DataW.weights,hu,List.mem_cons,List.mem_append,List.length_map] at hz
       have hw1:=hz _ (.inl rfl)
       have hw2:=weights_all (P:=P) (e:=e) (ds:=elems.map (·.1)) (fun x hx=>hz x (.inr (.inl hx)))
       have hlen2:elems.length≤reachBytes:=by
        have:elems.length * 1≤(elems.length + rest.length) * P.bytesOf e:=Nat.mul_le_mul (by omega) hb
        omega
       have each:∀ (i:Nat) (y:DataW H × List MemPlace),elems[i]? = some y->∃ ec,w.cells? 0 (a.add (i * P.cellsOf e)) (P.cellsOf e) = some ec∧VDs w ec (dD P n e y.1)∧okD P n e (dD P n e y.1):=by
        intro i y hy
        have hi:i < len:=by rw [<- hlen];exact (List.getElem?_eq_some_iff.1 hy).1
        have h1:=hel i hi
        rw [hy,Option.bind_eq_some_iff] at h1
        obtain ⟨ec,h2,h3⟩:=h1
        exact ⟨ec,h2,ih m e ec y.1 y.2 hse h3 (hw2 y.1 (List.mem_map.2 ⟨y,List.mem_of_getElem? hy,rfl⟩))⟩
       have hcl:∀ (i:Nat) (y:DataW H × List MemPlace),elems[i]? = some y->(mkE P e (dD P n e y.1)).cells = dD P n e y.1∧(dD P n e y.1).length = P.cellsOf e:=by
        intro i y hy
        obtain ⟨ec,h2,h3,h4⟩:=each i y hy
        exact ⟨mkE_cells h4,by rw [h3.1];exact (cells_get h2).1⟩
       have hflat:∀ (l:List Data) (c:Nat),0 < c->(∀ x∈l,x.cells.length = c)->∀ (i:Nat) (x:Data),(flat l)[i]? = some x->∃ y,l[i / c]? = some y∧y.cells[i % c]? = some x:=by
        intro l c hc0
        induction l with
        | nil=>intro _ i x hx;simp [flat] at hx
        | cons y l ihl =>
          intro hall i x hx
          have hy:y.cells.length = c:=hall y (by simp)
          simp only [flat,List.flatMap_cons,List.getElem?_append] at hx
          rw [hy] at hx
          split at hx
          · rename_i hi
            rw [Nat.div_eq_of_lt hi,Nat.mod_eq_of_lt hi]
            exact ⟨y,rfl,hx⟩
          · rename_i hi
            obtain ⟨z,h1,h2⟩:=ihl (fun x hx=>hall x (by simp [hx])) (i - c) x hx
            obtain ⟨q,rfl⟩:∃ q,i = q + c:=⟨i - c,by omega⟩
            rw [Nat.add_div_right _ hc0,Nat.add_mod_right]
            rw [Nat.add_sub_cancel] at h1 h2
            exact ⟨z,by simpa using h1,h2⟩
       have hall:∀ x∈(elems.map fun y=>mkE P e (dD P n e y.1)),x.cells.length = P.cellsOf e:=by
        intro x hx
        obtain ⟨y,hy,rfl⟩:=List.mem_map.1 hx
        obtain ⟨i,hi⟩:=List.getElem?_of_mem hy
        rw [(hcl i y hi).1,(hcl i y hi).2]
       have key:∀ (i:Nat) (x:Data),(flat (elems.map fun y=>mkE P e (dD P n e y.1)))[i]? = some x->∃ v,w.cell? (a.add i) = some v∧VD (fun _=>False) w x v:=by
        intro i x hx
        obtain ⟨y,h1,h2⟩:=hflat _ _ hc hall i x hx
        rw [List.getElem?_map,Option.map_eq_some_iff] at h1
        obtain ⟨z,h3,rfl⟩:=h1
        rw [(hcl _ z h3).1] at h2
        obtain ⟨ec,h4,h5,_⟩:=each _ z h3
        obtain ⟨h6,h7⟩:=cells_get h4
        have hlt:i % P.cellsOf e < P.cellsOf e:=Nat.mod_lt _ hc
        have hv:ec[i % P.cellsOf e]? = some ec[i % P.cellsOf e]:=List.getElem?_eq_getElem (by omega)
        refine ⟨ec[i % P.cellsOf e],?_,h5.2 _ x _ h2 hv⟩
        have h8:=h7 _ hlt
        rw [hv] at h8
        rw [<- h8]
        congr 1
        have hi:=Nat.div_add_mod i (P.cellsOf e)
        rw [Nat.mul_comm] at hi
        generalize i / P.cellsOf e * P.cellsOf e = q at hi
        generalize i % P.cellsOf e = r at hi
        subst hi
        unfold Addr.add
        by_cases hq:q = 0
        · subst hq;simp
        · by_cases hr:r = 0
          · subst hr;simp
          · simp [hq,hr,Nat.add_assoc]
       have hdd:dD P (n + 1) t (DataW.slice (elems.map (·.1)) (rest.map (·.1))) = [.sl (P.cellsOf e) (elems.map fun y=>mkE P e (dD P n e y.1))]:=by
        simp [dD,hu,Function.comp_def]
       rw [hdd]
       refine ⟨.one ?_,?_⟩
       · have spot:∀ (i:Nat) (x:Data),(flat (elems.map fun y=>mkE P e (dD P n e y.1)))[i]? = some x->a.spot = none:=by
          intro i x hx
          have h0:0 < (flat (elems.map fun y=>mkE P e (dD P n e y.1))).length:=by
           have:=(List.getElem?_eq_some_iff.1 hx).1;omega
          obtain ⟨v,hv,_⟩:=key 0 _ (List.getElem?_eq_getElem h0)
          simpa [Addr.add] using (cell_lt hv).2
         refine .sl _ _ (some a) len cap a.block a.off (fun i=>(w.cell? ⟨a.block,a.off + i,none⟩).getD .nilIface) (by simp [hlen]) hlc hcm hall ?_ ?_ ?_
         · by_cases he:elems = []
           · exact .inr (by simp [he])
           · refine .inl ?_
             have h0:0 < elems.length:=List.length_pos_iff.2 he
             obtain ⟨ec,h4,_,_⟩:=each 0 elems[0] (List.getElem?_eq_getElem h0)
             obtain ⟨h6,h7⟩:=cells_get h4
             have h8:=h7 0 hc
             rw [List.getElem?_eq_getElem (by omega)] at h8
             have h9:=cell_lt h8
             simp [Addr.add] at h9
             obtain ⟨ab,ao,az⟩:=a
             simp at h9
             exact ⟨by rw [h9.2],h9.1,fun h=>h⟩
         · intro i x hx
           obtain ⟨v,hv,_⟩:=key i x hx
           have hsp:=spot i x hx
           have:a.add i = ⟨a.block,a.off + i,none⟩:=by
            unfold Addr.add
            split
            · rename_i e0;subst e0;obtain ⟨ab,ao,az⟩:=a;simp at hsp ⊢;exact hsp
            · rfl
           rw [this] at hv
           simp only [hv,Option.getD_some]
         · intro i x hx
           obtain ⟨v,hv,hvd⟩:=key i x hx
           have hsp:=spot i x hx
           have:a.add i = ⟨a.block,a.off + i,none⟩:=by
            unfold Addr.add
            split
            · rename_i e0;subst e0;obtain ⟨ab,ao,az⟩:=a;simp at hsp ⊢;exact hsp
            · rfl
           rw [this] at hv
           simp only [hv,Option.getD_some]
           exact hvd
       · simp only [okD,hu]
         refine ⟨_,rfl,by simpa using hlen2,fun x hx=>?_⟩
         obtain ⟨y,hy,rfl⟩:=List.mem_map.1 hx
         obtain ⟨i,hi⟩:=List.getElem?_of_mem hy
         obtain ⟨ec,_,_,h4⟩:=each i y hi
         exact ⟨_,rfl,h4⟩
   · rename_i fs hu
     obtain ⟨xs,m,rfl,hx,hcl,hxl,hf⟩:=DataW.trod_struct hu h
     cases hx
     simp only [DataW.weights,hu] at hz
     have hw:=weights_each hz
     have hdd:dD P (n + 1) t (DataW.agg (xs.map (·.1))) = dDF (dD P n) fs.toList (xs.map (·.1)):=by simp [dD,hu]
     rw [hdd]
     have hs2:suppF P (supp P n) 0 fs.toList = some (P.cellsOf t):=by simpa using hs
     have go:∀ (l:List Field) (ys:List (DataW H × List MemPlace)) (o:Nat),l.length = ys.length->suppF P (supp P n) o l = some (P.cellsOf t) →
      (∀ (i:Nat) (f:Field),l[i]? = some f->DataW.trod enc P w 0 spare held m f.type ((cs.drop f.offset).take (P.cellsOf f.type)) = ys[i]?) →
      (∀ (i:Nat) (f:Field) (y:DataW H × List MemPlace),l[i]? = some f->ys[i]? = some y->∀ x∈DataW.weights P f.type y.1,x≤reachBytes)->o≤P.cellsOf t∧VDs w (cs.drop o) (dDF (dD P n) l (ys.map (·.1)))∧okF (okD P n) l (dDF (dD P n) l (ys.map (·.1))):=by
      intro l
      induction l with
      | nil =>
        intro ys o hl hs3 _ _
        simp only [suppF,Option.some.injEq] at hs3
        subst hs3
        rw [<- hcl]
        simp only [List.drop_length,dDF]
        exact ⟨Nat.le_refl _,.nil w,rfl⟩
      | cons f l ihl =>
        intro ys o hl hs3 hf3 hw3
        cases ys with
        | nil=>simp at hl
        | cons y ys =>
          simp only [suppF] at hs3
          split at hs3
          · rename_i ho
            obtain ⟨rfl,hsf⟩:=ho
            have h0:=hf3 0 f rfl
            simp only [List.getElem?_cons_zero] at h0
            obtain ⟨h1,h2⟩:=ih m f.type _ y.1 y.2 hsf h0 (hw3 0 f y rfl rfl)
            obtain ⟨h3,h4,h5⟩:=ihl ys (f.offset + P.cellsOf f.type) (by simpa using hl) hs3 (fun i g hg=>by simpa using hf3 (i + 1) g (by simpa using hg)) (fun i g z hg hz'=>hw3 (i + 1) g z (by simpa using hg) (by simpa using hz'))
            refine ⟨by omega,?_,_,_,rfl,h2,h5⟩
            have:cs.drop f.offset = (cs.drop f.offset).take (P.cellsOf f.type)++cs.drop (f.offset + P.cellsOf f.type):=by
             rw [<- List.drop_drop,List.take_append_drop]
            rw [this]
            exact h1.append h4
          · cases hs3
     obtain ⟨_,h1,h2⟩:=go fs.toList xs 0 (by simp [hxl]) hs2 (fun i f hg=>hf i f (by simpa using hg)) (fun i f y hg hy=>hw i f.type y.1 (by simp at hg ⊢;exact ⟨f,hg,rfl⟩) (by simp [hy]))
     refine ⟨by simpa using h1,?_⟩
     simp only [okD,hu]
     exact h2
   · rename_i m e hu
     simp only [Bool.and_eq_true,decide_eq_true_eq] at hs
     obtain ⟨hse,hsz⟩:=hs
     obtain ⟨xs,k,rfl,hx,hcl,hxl,hf⟩:=DataW.trod_array hu h
     cases hx
     simp only [DataW.weights,hu] at hz
     have hw:=weights_all hz
     have hdd:dD P (n + 1) t (DataW.agg (xs.map (·.1))) = (xs.map (·.1)).flatMap (dD P n e):=by simp [dD,hu]
     rw [hdd]
     have go:∀ (j:Nat),j≤m->VDs w (cs.drop ((m - j) * P.cellsOf e)) (((xs.drop (m - j)).map (·.1)).flatMap (dD P n e))∧okA (okD P n e) j (((xs.drop (m - j)).map (·.1)).flatMap (dD P n e)):=by
      intro j
      induction j with
      | zero =>
        intro _
        rw [Nat.sub_zero,<- hsz,<- hcl,<- hxl]
        simp only [List.drop_length,List.map_nil,List.flatMap_nil]
        exact ⟨.nil w,rfl⟩
      | succ j ihj =>
        intro hj
        obtain ⟨h1,h2⟩:=ihj (by omega)
        have hi:m - (j + 1) < m:=by omega
        have hxi:m - (j + 1) < xs.length:=by omega
        have h0:=hf (m - (j + 1)) hi
        rw [List.getElem?_eq_getElem hxi] at h0
        obtain ⟨h3,h4⟩:=ih k e _ xs[m - (j + 1)].1 xs[m - (j + 1)].2 hse h0 (hw _ (List.mem_map.2 ⟨_,List.getElem_mem hxi,rfl⟩))
        have e1:m - (j + 1) + 1 = m - j:=by omega
        rw [List.drop_eq_getElem_cons hxi,e1]
        simp only [List.map_cons,List.flatMap_cons]
        refine ⟨?_,_,_,rfl,h4,h2⟩
        have e2:cs.drop ((m - (j + 1)) * P.cellsOf e) = (cs.drop ((m - (j + 1)) * P.cellsOf e)).take (P.cellsOf e)++cs.drop ((m - j) * P.cellsOf e):=by
         have:(m - j) * P.cellsOf e = (m - (j + 1)) * P.cellsOf e + P.cellsOf e:=by rw [<- e1,Nat.add_mul,Nat.one_mul]
         rw [this,<- List.drop_drop,List.take_append_drop]
        rw [e2]
        exact h3.append h1
     have:=go m (Nat.le_refl _)
     simp only [Nat.sub_self,Nat.zero_mul,List.drop_zero] at this
     refine ⟨this.1,?_⟩
     simp only [okD,hu]
     exact this.2
   · cases hs
/-- An argument. -/
def argD (P:Program) (n:Nat) (t:TypeId) (x:Data):Prop:=∃ ds,x = mkE P t ds∧okD P n t ds
theorem read_arg {n:Nat} {base:Nat} {t:TypeId} {v:Value} {d:DataW H} {ps:List MemPlace} (hs:supp P n t = true) (hv:Value.okWide P w .any base t v) (k:DataW.Trod enc P w 0 spare held t v d ps) (hz:(DataW.weights P t d).all (fun x=>decide (x≤reachBytes)) = true) :
 ∃ x,VD (fun _=>False) w x v∧argD P n t x:=by
 obtain ⟨fuel,hf⟩:=k
 obtain ⟨h1,h2⟩:=read_ok n fuel t _ d ps hs hf (fun x hx=>by simpa using List.all_eq_true.1 hz x hx)
 refine ⟨mkE P t (dD P n t d),?_,_,rfl,h2⟩
 generalize dD P n t d = ds at h1 h2
 cases n with
 | zero=>exact h2.elim
 | succ n =>
   have one:∀ x,(∀ cs,v≠.agg cs)->ds = [x]->VD (fun _=>False) w x v:=by
    intro x hna hds
    subst hds
    have:v.cells.toList = [v]:=by
     cases v with
     | agg cs=>exact absurd rfl (hna cs)
     | _=>rfl
    rw [this] at h1
    exact h1.2 0 x v rfl rfl
   unfold Value.okWide at hv
   unfold okD at h2
   unfold mkE
   split at h2
   all_goals rename_i hu;simp only [hu] at hv ⊢
   · obtain ⟨b,rfl⟩:=h2
     exact one _ (fun cs e=>by subst e;simp [Cell.okWide,Cell.ok,hu] at hv) rfl
   · obtain ⟨i,rfl,_⟩:=h2
     exact one _ (fun cs e=>by subst e;simp [Cell.okWide,Cell.ok,hu] at hv) rfl
   · obtain ⟨s,rfl,_⟩:=h2
     exact one _ (fun cs e=>by subst e;simp [Cell.okWide,Cell.ok,hu] at hv) rfl
   · obtain ⟨l,rfl,_⟩:=h2
     exact one _ (fun cs e=>by subst e;simp [Cell.okWide,Cell.ok,hu] at hv) rfl
   · obtain ⟨cs,rfl,_⟩:=hv
     exact .agg _ _ (by simpa [Value.cells] using h1.1) (fun i x u hx hu=>h1.2 i x u hx (by simpa [Value.cells] using hu))
   · obtain ⟨cs,rfl,_⟩:=hv
     exact .agg _ _ (by simpa [Value.cells] using h1.1) (fun i x u hx hu=>h1.2 i x u hx (by simpa [Value.cells] using hu))
   · exact h2.elim
/-- A law by its contract on plain data. -/
theorem calls_of_pc {Γ:Nat->Option (List Data)} {f:FuncId} {xs:List Data} {vs:Array Value} (hg:Glob Γ (fun _=>False) w) (h:PC P Γ f xs (.bool true)) (hl:xs.length = vs.size)
 (hv:∀ (i:Nat) (x:Data) (v:Value),xs[i]? = some x->vs[i]? = some v->VD (fun _=>False) w x v) :
 Calls P f vs w fun e w'=>e = .returned (.bool true)∧Below w.heap.size w w':=by
 refine (h.2 (fun _=>False) w vs hg (fun b hb=>hb.elim) hl hv).mono fun e w' ⟨v,he,hvd,hb⟩=>?_
 cases hvd
 exact ⟨he,hb⟩
theorem vdl {x0:Data} {v0:Value} {xs:List Data} {vs:List Value} (h0:VD (fun _=>False) w x0 v0) (h:∀ (i:Nat) (x:Data) (v:Value),xs[i]? = some x->vs[i]? = some v->VD (fun _=>False) w x v) :
 ∀ (i:Nat) (x:Data) (v:Value),(x0 :: xs)[i]? = some x->(v0 :: vs)[i]? = some v->VD (fun _=>False) w x v:=fun i x v hx hv=>by
 match i with
 | 0=>simp at hx hv;subst hx;subst hv;exact h0
 | i + 1=>exact h i x v (by simpa using hx) (by simpa using hv)
/-- A listed variable. -/
theorem glob_of {n:Nat} {nm:String} {g:Nat} {t:TypeId} {cs:Array Value} {fuel:Nat} {d:DataW H} {ps:List MemPlace} (hs:supp P n t = true) (hg:P.globalNamed nm = some g) (hv:w.var? P nm = some cs)
 (hd:DataW.trod enc P w 0 spare held fuel t cs.toList = some (d,ps)) (hz:(DataW.weights P t d).all (fun x=>decide (x≤reachBytes)) = true) (hne:dD P n t d≠[]) :
 VV (fun _=>False) w (fun _=>.res) (.cptr (dD P n t d)) (.pointer (some ⟨g,0,none⟩)):=by
 obtain ⟨h1,h2⟩:=read_ok n fuel t _ d ps hs hd (fun x hx=>by simpa using List.all_eq_true.1 hz x hx)
 have hc:∀ (i:Nat) (x:Data),(dD P n t d)[i]? = some x->∃ v,w.cell? ⟨g,0 + i,none⟩ = some v∧VD (fun _=>False) w x v:=by
  intro i x hx
  have hi:i < cs.size:=by
   have:=(List.getElem?_eq_some_iff.1 hx).1
   rw [h1.1] at this;simpa using this
  have hcell:=World.var?_cell hg hv i
  rw [Array.getElem?_eq_getElem hi] at hcell
  refine ⟨cs[i],by simpa using hcell,h1.2 i x _ hx (by simp [hi])⟩
 have h0:0 < (dD P n t d).length:=List.length_pos_iff.2 hne
 obtain ⟨v,hv0,_⟩:=hc 0 _ (List.getElem?_eq_getElem h0)
 refine .cptr _ g 0 (fun i=>(w.cell? ⟨g,0 + i,none⟩).getD .nilIface) (cell_lt hv0).1 (fun h=>h) (fun i x hx=>?_) (fun i x hx=>?_)
 · obtain ⟨v,hv,_⟩:=hc i x hx
   simp only [hv,Option.getD_some]
 · obtain ⟨v,hv,hvd⟩:=hc i x hx
   simp only [hv,Option.getD_some]
   exact hvd
end
def u8 (n:Nat):Data:=.int .u8 n
/-- A row of bytes. -/
def bys (l:List Nat):List Data:=l.map u8
@[go_sem] theorem flat_bys (l:List Nat):flat (bys l) = bys l:=by
 induction l with
 | nil=>rfl
 | cons x l ih=>simp [bys,flat,u8,Data.cells] at ih ⊢;simpa [u8] using ih
@[go_sem] theorem bys_nil:bys [] = []:=rfl
@[go_sem] theorem bys_length (l:List Nat):(bys l).length = l.length:=by simp [bys]
theorem bys_cell' (l:List Nat):∀ x∈bys l,x.cell = true:=fun x hx=>by
 obtain ⟨n,_,rfl⟩:=List.mem_map.1 hx
 rfl
@[go_sem] theorem bys_cell (l:List Nat):(∀ x∈bys l,x.cell = true) ↔ True:=iff_true_intro (bys_cell' l)
theorem bys_cells (l:List Nat):∀ x∈bys l,x.cells.length = 1:=fun x hx=>by
 obtain ⟨n,_,rfl⟩:=List.mem_map.1 hx
 rfl
@[go_sem] theorem bys_get (l:List Nat) (i:Nat):(bys l)[i]? = (l[i]?).map u8:=by simp [bys]
@[go_sem] theorem data_u8 (n:Nat):D.data (u8 n) = .data (.int .u8 n):=rfl
@[go_sem] theorem u8_cell (n:Nat):(u8 n).cell = true:=rfl
@[go_sem] theorem u8_cells (n:Nat):(u8 n).cells = [u8 n]:=rfl
theorem frz_bys {ok:Bool} {H:Nat->Blk} {g n:Nat} {l:List Nat} {rw:Bool} (hg:H g = .blk rw ((bys l).map D.data)) (hrw:ok = true ∨ rw = false) (hn:l.length = n):Frz ok H (.ref g 0 n 1) (.sl 1 (bys l)) :=
 frz_ref hg hrw (by rw [bys_length,hn]) (bys_cells l) (by rw [flat_bys])
def plainD:D->Bool
 | .data _ | .emp _=>true
 | _=>false
theorem renCells_plain {n:Nat} {ρ:Nat->Option Nat} {H:Nat->Blk} {cs ds:List D} (e:cs = ds) (h:cs.all plainD = true):RenCells n ρ H cs ds:=by
 subst e
 refine ⟨Nat.le_refl _,fun i c d hc hd=>?_⟩
 rw [hc] at hd;cases hd
 have:=List.all_eq_true.1 h c (List.mem_of_getElem? hc)
 cases c with
 | data x=>exact .data x
 | emp es=>exact .emp es es
 | _=>cases this
theorem frz_aggL {ok:Bool} {H:Nat->Blk} {cs:List D} {xs:List Data} (h:FrzL ok H cs xs):Frz ok H (.agg cs) (.agg xs):=.agg cs xs h.1 h.2
theorem wf_nat {k:IntKind} {i:Int} (h:(Lit.int k i).wf = true):k.min≤i∧i≤k.max:=by simpa [Lit.wf] using h
section
variable {P:Program} {n:Nat} {t e:TypeId} {x:Data}
theorem arg_int {k:IntKind} (hu:P.underlying t = some (.int k)) (a:argD P (n + 1) t x):∃ i:Int,k.min≤i∧i≤k.max∧x = .int k i:=by
 obtain ⟨ds,rfl,h⟩:=a
 simp only [okD,hu] at h
 obtain ⟨i,rfl,hw⟩:=h
 have:=wf_nat hw
 exact ⟨i,this.1,this.2,by simp [mkE,hu]⟩
theorem arg_i64 (hu:P.underlying t = some (.int .i64)) (a:argD P (n + 1) t x):∃ i:Int,-9223372036854775808≤i∧i≤9223372036854775807∧x = .int .i64 i:=by
 obtain ⟨i,h1,h2,rfl⟩:=arg_int hu a
 simp [IntKind.min,IntKind.max,IntKind.signed,IntKind.bits] at h1 h2
 exact ⟨i,h1,h2,rfl⟩
theorem arg_nat {k:IntKind} (hk:k.signed = false) (hu:P.underlying t = some (.int k)) (a:argD P (n + 1) t x):∃ i:Nat,i < 2 ^ k.bits∧x = .int k i:=by
 obtain ⟨i,h1,h2,rfl⟩:=arg_int hu a
 simp [IntKind.min,IntKind.max,hk] at h1 h2
 obtain ⟨j,rfl⟩:=Int.eq_ofNat_of_zero_le h1
 have:((2 ^ k.bits:Nat):Int) = 2 ^ k.bits:=by simp
 exact ⟨j,by omega,rfl⟩
theorem nums_of {k:IntKind} (hk:k.signed = false) (hu:P.underlying e = some (.int k)):∀ l:List Data,(∀ x∈l,∃ es,x = mkE P e es∧okD P (n + 1) e es)->∃ m:List Nat,l = m.map (fun i:Nat=>Data.int k i)∧∀ b∈m,b < 2 ^ k.bits
 | [],_=>⟨[],rfl,by simp⟩
 | y :: l,h=>by
   obtain ⟨m,rfl,hm⟩:=nums_of hk hu l fun x hx=>h x (by simp [hx])
   obtain ⟨i,hi,rfl⟩:=arg_nat hk hu (h y (by simp))
   exact ⟨i :: m,rfl,by simpa using ⟨hi,hm⟩⟩
theorem arg_struct {fs:Array Field} (hu:P.underlying t = some (.struct fs)) (a:argD P (n + 1) t x):∃ ds,x = .agg ds∧okF (okD P n) fs.toList ds:=by
 obtain ⟨ds,rfl,h⟩:=a
 simp only [okD,hu] at h
 exact ⟨ds,by simp [mkE,hu],h⟩
theorem okF_cons {o:TypeId->List Data->Prop} {f:Field} {fs:List Field} {ds:List Data} (h:okF o (f :: fs) ds):∃ a b,ds = a++b∧o f.type a∧okF o fs b:=h
theorem okF_nil {o:TypeId->List Data->Prop} {ds:List Data} (h:okF o [] ds):ds = []:=h
theorem ok_bytes {ds:List Data} (hu:P.underlying t = some (.slice e)) (he:P.underlying e = some (.int .u8)) (hc:P.cellsOf e = 1) (h:okD P (n + 2) t ds):∃ l:List Nat,(∀ b∈l,b < 256)∧l.length≤140737488351232∧ds = [.sl 1 (bys l)]:=by
 unfold okD at h
 simp only [hu,hc] at h
 obtain ⟨l,rfl,hl,hx⟩:=h
 obtain ⟨m,rfl,hm⟩:=nums_of (n:=n) (k:=.u8) rfl he l hx
 exact ⟨m,hm,by simpa [reachBytes] using hl,by simp [bys];intro a _;rfl⟩
theorem ok_int {k:IntKind} {ds:List Data} (hu:P.underlying t = some (.int k)) (h:okD P (n + 1) t ds):∃ i:Int,k.min≤i∧i≤k.max∧ds = [.int k i]:=by
 unfold okD at h
 simp only [hu] at h
 obtain ⟨i,rfl,hw⟩:=h
 have:=wf_nat hw
 exact ⟨i,this.1,this.2,rfl⟩
/-- A slice,element by element. -/
theorem ok_slice {ds:List Data} (hu:P.underlying t = some (.slice e)) (h:okD P (n + 1) t ds):∃ l,ds = [.sl (P.cellsOf e) l]∧l.length≤140737488351232∧∀ x∈l,argD P n e x:=by
 unfold okD at h
 simp only [hu] at h
 obtain ⟨l,h1,h2,h3⟩:=h
 exact ⟨l,h1,by simpa [reachBytes] using h2,h3⟩
theorem arg_slice (hu:P.underlying t = some (.slice e)) (a:argD P (n + 1) t x):∃ l,x = .sl (P.cellsOf e) l∧l.length≤140737488351232∧∀ x∈l,argD P n e x:=by
 obtain ⟨ds,rfl,h⟩:=a
 obtain ⟨l,rfl,h1,h2⟩:=ok_slice hu h
 exact ⟨l,by simp [mkE,hu],h1,h2⟩
end
@[go_sem] theorem dec_yes {p:Prop} [Decidable p] (h:p):decide p = true:=decide_eq_true h
@[go_sem] theorem dec_no {p:Prop} [Decidable p] (h:¬ p):decide p = false:=decide_eq_false h
section
variable (P:Program) (Γ:Nat->Option (List Data))
/- Regions of more than 64 operations: their list is put together of two. -/
@[go_sem] theorem opsW_app (ops:Array Oper) (o:Oper) (l r:List Oper) (s:St) (K:St->Prop):opsW P Γ ops (List.append (o :: l) r) s K = opsW P Γ ops (o :: List.append l r) s K:=rfl
@[go_sem] theorem opsW_app_nil (ops:Array Oper) (r:List Oper) (s:St) (K:St->Prop):opsW P Γ ops (List.append [] r) s K = opsW P Γ ops r s K:=rfl
@[go_sem] theorem drawW_app (ops:Array Oper) (o:Oper) (l r:List Oper) (s:St) (tr:List Tr) (K:St->List Tr->Prop):drawW P Γ ops (List.append (o :: l) r) s tr K = drawW P Γ ops (o :: List.append l r) s tr K:=rfl
@[go_sem] theorem drawW_app_nil (ops:Array Oper) (r:List Oper) (s:St) (tr:List Tr) (K:St->List Tr->Prop):drawW P Γ ops (List.append [] r) s tr K = drawW P Γ ops r s tr K:=rfl
end
/-- What a panic brings. -/
def pan (x:Value):List PanicEntry:=[{ v:=x,recovered:=false }]
/-- A value that hangs on no memory. -/
def litV:Data->Option Value
 | .bool b=>some (.bool b)
 | .int k n=>some (.int k n)
 | .str s=>some (.string s)
 | .ifc t d=>(litV d).map (.iface t)
 | _=>none
/-- A call on the caller's own numbered rows: it hands back,or it panics. -/
def DX (P:Program) (Γ:Nat->Option (List Data)) (f:FuncId) (ds:List D) (H:Nat->Blk) (nx:Nat) (K:D->(Nat->Blk)->Nat->Prop) (X:Value->(Nat->Blk)->Nat->Prop):Prop :=
 CallOk P f∧∀ (L0:Nat->Prop) (w0:W0) (m:Nat->MB) (w:World) (vs:Array Value),WR Γ L0 w0 m H w->(∀ g,nx≤g->m g = .res)->(∀ g,nx≤g->H g = .dead)->ds.length = vs.size->(∀ (i:Nat) (d:D) (v:Value),ds[i]? = some d->vs[i]? = some v->VV (Live L0 m H) w m d v) →
  Calls P f vs w fun e w'=>∃ H' nx' m',WR Γ L0 w0 m' H' w'∧Grow (Live L0 m H) w (Live L0 m' H') w'∧(∀ g,g < nx->m' g = m g)∧(∀ g,nx'≤g->m' g = .res)∧nx≤nx' ∧
   ((∃ v d,e = .returned v∧VV (Live L0 m' H') w' m' d v∧K d H' nx') ∨ ∃ x,e = .panicked (pan x)∧X x H' nx')
theorem DX.mono {P:Program} {Γ:Nat->Option (List Data)} {f:FuncId} {ds:List D} {H:Nat->Blk} {nx:Nat} {K K':D->(Nat->Blk)->Nat->Prop} {X X':Value->(Nat->Blk)->Nat->Prop} (h:DX P Γ f ds H nx K X) (hk:∀ d H' nx',K d H' nx'->K' d H' nx') (hx:∀ v H' nx',X v H' nx'->X' v H' nx'):DX P Γ f ds H nx K' X' :=
 ⟨h.1,fun L0 w0 m w vs a b c d e=>(h.2 L0 w0 m w vs a b c d e).mono fun e w' ⟨H',nx',m',k1,k2,k3,k4,k5,k6⟩=>⟨H',nx',m',k1,k2,k3,k4,k5,k6.imp (fun ⟨v,d,a,b,c⟩=>⟨v,d,a,b,hk _ _ _ c⟩) (fun ⟨x,a,b⟩=>⟨x,a,hx _ _ _ b⟩)⟩⟩
def dxK (P:Program) (Γ:Nat->Option (List Data)) (o:Oper) (e:Nat->D) (H:Nat->Blk) (nx:Nat) (K:D->(Nat->Blk)->Nat->Prop) (X:Value->(Nat->Blk)->Nat->Prop):Prop:=match o.op with
 | .call c=>(match c.callee with
   | .value x=>(match fnD (evalD Γ e x) with
     | some (f,pre,caps)=>DX P Γ f (pre++(c.args.toList.map (evalD Γ e)++caps)) H nx K X
     | none=>False)
   | _=>False)
 | _=>False
def isPan (o:Oper):Bool:=match o.op with
 | .panic _=>true
 | _=>false
def panD (Γ:Nat->Option (List Data)) (o:Oper) (e:Nat->D):D:=match o.op with
 | .panic x=>evalD Γ e x
 | _=>.junk
def panK (x:D) (X:Value->Prop):Prop:=match x with
 | .data (.ifc t d)=>∃ v,litV d = some v∧X (.iface t v)
 | _=>False
section
variable (P:Program) (Γ:Nat->Option (List Data))
def opsX (ops:Array Oper):List Oper->St->(Exit->St->Prop)->Prop
 | [],s,Q=>Q .normal s
 | o :: rest,s,Q=>dstOk o s.nt = true∧(match wantedD ops s.env o with
   | some b=>ifW b (ifW (isPan o) (panK (panD Γ o s.env) fun v=>Q (.panic (pan v)) s) (ifW (isCall o)
      ((opK P Γ o s.env s.hp s.nx fun d _ u=>opsX ops rest (stepSt s o d u) Q) ∨ (dcK P Γ o s.env s.hp s.nx fun d H' nx'=>opsX ops rest ⟨Env.dst s.env o.dst d,H',nx',s.lo,s.nt⟩ Q) ∨
        dxK P Γ o s.env s.hp s.nx (fun d H' nx'=>opsX ops rest ⟨Env.dst s.env o.dst d,H',nx',s.lo,s.nt⟩ Q) fun v H' nx'=>Q (.panic (pan v)) ⟨s.env,H',nx',s.lo,s.nt⟩)
      (opK P Γ o s.env s.hp s.nx fun d _ u=>opsX ops rest (stepSt s o d u) Q))) (opsX ops rest (stepSt s o undefD []) Q)
   | none=>False)
def wpX:Code->(Exit->St->Prop)->St->Prop
 | .skip,Q,s=>Q .normal s
 | .region _ ops draw,Q,s=>ifW draw (drawW P Γ ops ops.toList s [] (fun s' tr=>drawOk2 ops tr s.nx s'.nx = true∧Q .normal s')) (opsX P Γ ops ops.toList s Q)
 | .seq x y,Q,s=>wpX x (thenW (wpX y Q) Q) s
 | .cond c x y,Q,s=>(match evalD Γ s.env c with
   | .data (.bool b)=>ifW b (wpX x Q s) (wpX y Q s)
   | _=>False)
 | .block id b,Q,s=>wpX b (blockW id Q) s
 | .loop b,Q,s=>LoopW (wpX b) Q s
 | .exit id,Q,s=>Q (.exit id) s
 | .ret,Q,s=>Q .ret s
 | .label _,Q,s=>Q .normal s
 | _,_,_=>False
def retXQ (fn:Func) (K:D->(Nat->Blk)->Nat->Prop) (X:Value->(Nat->Blk)->Nat->Prop):Exit->St->Prop
 | .normal,s | .ret,s=>resK P fn.results.toList s fun ds=>∃ d,tupDD ds = some d∧K d s.hp s.nx
 | .panic ch,s=>∃ v,ch = pan v∧X v s.hp s.nx
 | _,_=>False
end
end Go.Proofs.Ytmappnpigpcimaa
namespace Go.Proofs.Ytmappnpigpcimaa
@[go_sem] theorem ty_sz3:szT Try.prog 3 = some 1:=by kernel_rfl
@[go_sem] theorem ty_ag3:aggT Try.prog 3 = some false:=by kernel_rfl
@[go_sem] theorem ty_in3:intT Try.prog 3 = some .i64:=by kernel_rfl
@[go_sem] theorem ty_zv3:zvT Try.prog 3 = some (.data (.int .i64 0)):=by kernel_rfl
@[go_sem] theorem ty_sz4:szT Try.prog 4 = some 1:=by kernel_rfl
@[go_sem] theorem ty_ag4:aggT Try.prog 4 = some false:=by kernel_rfl
@[go_sem] theorem ty_bo4:boolT Try.prog 4 = true:=by kernel_rfl
@[go_sem] theorem ty_sz5:szT Try.prog 5 = some 1:=by kernel_rfl
@[go_sem] theorem ty_by5:byT Try.prog 5 = some 1:=by kernel_rfl
@[go_sem] theorem ty_ag5:aggT Try.prog 5 = some false:=by kernel_rfl
@[go_sem] theorem ty_ze5:zeT Try.prog 5 = some [.data (.int .u8 0)]:=by kernel_rfl
@[go_sem] theorem ty_zl5:zlT Try.prog 5 = some 1:=by kernel_rfl
@[go_sem] theorem ty_in5:intT Try.prog 5 = some .u8:=by kernel_rfl
@[go_sem] theorem ty_ki5  (n:Int):keyT Try.prog 5 (.int .u8 n) = true:=by kernel_rfl
@[go_sem] theorem ty_sz22:szT Try.prog 22 = some 1:=by kernel_rfl
@[go_sem] theorem ty_ag22:aggT Try.prog 22 = some false:=by kernel_rfl
@[go_sem] theorem ty_in22:intT Try.prog 22 = some .u32:=by kernel_rfl
@[go_sem] theorem ty_sz24:szT Try.prog 24 = some 5:=by kernel_rfl
@[go_sem] theorem ty_ag24:aggT Try.prog 24 = some true:=by kernel_rfl
@[go_sem] theorem ty_ze24:zeT Try.prog 24 = some [.data (.bool false),.data (.int .u32 0),.data (.int .u32 0),.data (.int .u32 0),.data (.int .u32 0)]:=by kernel_rfl
@[go_sem] theorem ty_ar24:arrT Try.prog 24 = none:=by kernel_rfl
@[go_sem] theorem ty_fl24_0:fldT Try.prog 24 0 = some (0,4):=by kernel_rfl
@[go_sem] theorem ty_fl24_1:fldT Try.prog 24 1 = some (1,22):=by kernel_rfl
@[go_sem] theorem ty_fl24_2:fldT Try.prog 24 2 = some (2,22):=by kernel_rfl
@[go_sem] theorem ty_fl24_3:fldT Try.prog 24 3 = some (3,22):=by kernel_rfl
@[go_sem] theorem ty_fl24_4:fldT Try.prog 24 4 = some (4,22):=by kernel_rfl
@[go_sem] theorem ty_pl24:plT Try.prog 24 = some [(0,1),(1,1),(2,1),(3,1),(4,1)]:=by kernel_rfl
@[go_sem] theorem ty_sl25:sliceT Try.prog 25 = some 40:=by kernel_rfl
@[go_sem] theorem ty_in25:intT Try.prog 25 = none:=by kernel_rfl
@[go_sem] theorem ty_st25:strT Try.prog 25 = false:=by kernel_rfl
@[go_sem] theorem ty_sz35:szT Try.prog 35 = some 5:=by kernel_rfl
@[go_sem] theorem ty_ag35:aggT Try.prog 35 = some true:=by kernel_rfl
@[go_sem] theorem ty_ze35:zeT Try.prog 35 = some [.data (.int .i64 0),.data (.int .u32 0),.data (.int .u32 0),.data (.bool false),.data (.bool false)]:=by kernel_rfl
@[go_sem] theorem ty_ar35:arrT Try.prog 35 = none:=by kernel_rfl
@[go_sem] theorem ty_fl35_0:fldT Try.prog 35 0 = some (0,3):=by kernel_rfl
@[go_sem] theorem ty_fl35_1:fldT Try.prog 35 1 = some (1,22):=by kernel_rfl
@[go_sem] theorem ty_fl35_2:fldT Try.prog 35 2 = some (2,22):=by kernel_rfl
@[go_sem] theorem ty_fl35_3:fldT Try.prog 35 3 = some (3,4):=by kernel_rfl
@[go_sem] theorem ty_fl35_4:fldT Try.prog 35 4 = some (4,4):=by kernel_rfl
@[go_sem] theorem ty_pl35:plT Try.prog 35 = some [(0,1),(1,1),(2,1),(3,1),(4,1)]:=by kernel_rfl
@[go_sem] theorem ty_sz38:szT Try.prog 38 = some 1:=by kernel_rfl
@[go_sem] theorem ty_ag38:aggT Try.prog 38 = some false:=by kernel_rfl
@[go_sem] theorem ty_sl38:sliceT Try.prog 38 = some 5:=by kernel_rfl
@[go_sem] theorem ty_in38:intT Try.prog 38 = none:=by kernel_rfl
@[go_sem] theorem ty_st38:strT Try.prog 38 = false:=by kernel_rfl
@[go_sem] theorem ty_sz40:szT Try.prog 40 = some 2:=by kernel_rfl
@[go_sem] theorem ty_by40:byT Try.prog 40 = some 32:=by kernel_rfl
@[go_sem] theorem ty_ag40:aggT Try.prog 40 = some true:=by kernel_rfl
@[go_sem] theorem ty_ze40:zeT Try.prog 40 = some [.data (.int .u8 0),.emp 0]:=by kernel_rfl
@[go_sem] theorem ty_zl40:zlT Try.prog 40 = some 2:=by kernel_rfl
@[go_sem] theorem ty_ar40:arrT Try.prog 40 = none:=by kernel_rfl
@[go_sem] theorem ty_fl40_0:fldT Try.prog 40 0 = some (0,5):=by kernel_rfl
@[go_sem] theorem ty_fl40_1:fldT Try.prog 40 1 = some (1,38):=by kernel_rfl
@[go_sem] theorem ty_pl40:plT Try.prog 40 = some [(0,1),(1,1)]:=by kernel_rfl
@[go_sem] theorem ty_sz51:szT Try.prog 51 = some 1:=by kernel_rfl
@[go_sem] theorem ty_ag51:aggT Try.prog 51 = some false:=by kernel_rfl
@[go_sem] theorem ty_mp51:mapT Try.prog 51 = some (5,3):=by kernel_rfl
@[go_sem] theorem ty_sz52:szT Try.prog 52 = some 1:=by kernel_rfl
@[go_sem] theorem ty_ag52:aggT Try.prog 52 = some false:=by kernel_rfl
@[go_sem] theorem ty_sz53:szT Try.prog 53 = some 1:=by kernel_rfl
@[go_sem] theorem ty_ag53:aggT Try.prog 53 = some false:=by kernel_rfl
@[go_sem] theorem ty_sz55:szT Try.prog 55 = some 3:=by kernel_rfl
@[go_sem] theorem ty_ag55:aggT Try.prog 55 = some true:=by kernel_rfl
@[go_sem] theorem ty_ze55:zeT Try.prog 55 = some [.data .nilm,.data .nilf,.data .nilf]:=by kernel_rfl
@[go_sem] theorem ty_ar55:arrT Try.prog 55 = none:=by kernel_rfl
@[go_sem] theorem ty_fl55_0:fldT Try.prog 55 0 = some (0,51):=by kernel_rfl
@[go_sem] theorem ty_fl55_1:fldT Try.prog 55 1 = some (1,52):=by kernel_rfl
@[go_sem] theorem ty_fl55_2:fldT Try.prog 55 2 = some (2,53):=by kernel_rfl
@[go_sem] theorem ty_pl55:plT Try.prog 55 = some [(0,1),(1,1),(2,1)]:=by kernel_rfl
@[go_sem] theorem ty_ar70:arrT Try.prog 70 = some (256,4):=by kernel_rfl
@[go_sem] theorem ty_sz74:szT Try.prog 74 = some 1:=by kernel_rfl
@[go_sem] theorem ty_ag74:aggT Try.prog 74 = some false:=by kernel_rfl
@[go_sem] theorem ty_ze74:zeT Try.prog 74 = some [.data .nilf]:=by kernel_rfl
theorem mixed:Try.prog.follows .mixedOrders = true:=by kernel_rfl
end Go.Proofs.Ytmappnpigpcimaa
namespace Go.Proofs.Ytmappnpigpcimaa
open Go.RowKit
set_option linter.unusedSimpArgs false
set_option linter.unusedVariables false
set_option maxRecDepth 100000
set_option maxRecDepth 100000 in
theorem row_pc (Γ:Nat->Option (List Data)) (a b:List Nat) (ha:a.length≤100000000000) (hb:b.length≤100000000000):PC Try.prog Γ 48 [.sl 1 (bys a),.sl 1 (bys b)] (.bool (decide (a = b))):=by
 refine pc_by mixed Try.func48 rfl (fun args w=>Try.call48 args w) ?_
 simp -implicitDefEqProofs (disch:=omega) [go_sem,Try.f48]
 refine ifW_ndec (fun h=>?_) (fun h=>?_)
 · have hne:a≠b:=fun e=>h (by rw [e])
   simp -implicitDefEqProofs (disch:=omega) [go_sem,Try.f48,hne]
 · have hl:a.length = b.length:=by omega
   simp -implicitDefEqProofs (disch:=omega) [go_sem]
   refine loop_of (σ:={ i:Nat // i≤a.length∧∀ j,j < i->a[j]? = b[j]? }) (fun i=>⟨envL [(0,.data (.sl 1 (bys a))),(1,.data (.sl 1 (bys b))),(5,.data (.int .i64 i.1))],hpL [],0,0,26⟩) (fun i=>a.length - i.1) ⟨0,by omega,by omega⟩ ?_ ?_
   · apply weak_lists <;> simp -implicitDefEqProofs [go_sem]
   · rintro ⟨i,hi,heq⟩
     simp -implicitDefEqProofs (disch:=omega) [go_sem]
     refine ifW_dec (fun h=>?_) (fun h=>?_)
     · have hia:i < a.length:=by omega
       simp -implicitDefEqProofs (disch:=omega) [go_sem]
       refine side (by kernel_rfl) ?_
       simp -implicitDefEqProofs (disch:=omega) [go_sem]
       refine ifW_ndec (fun h2=>?_) (fun h2=>?_)
       · have hne:a≠b:=fun e=>h2 (by subst e;rfl)
         simp -implicitDefEqProofs (disch:=omega) [go_sem,Try.f48,hne]
       · simp -implicitDefEqProofs (disch:=omega) [go_sem]
         refine next_of ⟨i + 1,by omega,fun j hj=>?_⟩ ?_ (by simp only;omega)
         · by_cases e:j = i
           · subst e
             rw [List.getElem?_eq_getElem hia,List.getElem?_eq_getElem (by omega)]
             congr 1
             omega
           · exact heq j (by omega)
         apply weak_lists <;> simp -implicitDefEqProofs [go_sem]
     · have hab:a = b:=List.ext_getElem? fun j=>by
        by_cases hj:j < a.length
        · exact heq j (by omega)
        · rw [List.getElem?_eq_none (by omega),List.getElem?_eq_none (by omega)]
       simp -implicitDefEqProofs (disch:=omega) [go_sem,Try.f48,hab]
namespace Sf
/-- A byte that is escaped. -/
def escd (accm c:Nat):Prop:=c = 126 ∨ c = 125 ∨ (c < 32∧accm / 2 ^ c % 2 = 1)
instance (accm c:Nat):Decidable (escd accm c):=by unfold escd;infer_instance
/-- What is plain,of bytes of which the first is turned by t. -/
def plT:Nat->List Nat->Option (List Nat)
 | t,[]=>if t = 0 then some [] else none
 | t,c :: l=>if c = 126 then none else if c = 125∧t = 0 then plT 32 l else (plT 0 l).map ((c ^^^ t) :: ·)
def plain (b:List Nat):Option (List Nat):=plT 0 b
end Sf
namespace Sf
end Sf
namespace Sf
end Sf
theorem frz_rows {ok:Bool} {H:Nat->Blk} {g len es:Nat} {rw:Bool} {cells:List D} {l:List Data} (hg:H g = .blk rw cells) (hrw:ok = true ∨ rw = false) (hl:l.length = len) (hes:∀ x∈l,x.cells.length = es) (h:FrzL ok H cells (flat l)):Frz ok H (.ref g 0 len es) (.sl es l):=by
 obtain ⟨h1,h2⟩:=h
 have hfl:(flat l).length = l.length * es:=flat_length hes
 refine .ref g 0 len es rw cells l (fun i=>cells.getD i .junk) hg hrw hl hes (by rw [<- hl];omega) (fun i x hx=>?_) (fun i x hx=>?_)
 · have hi:=(List.getElem?_eq_some_iff.1 hx).1
   have hi2:i < cells.length:=by omega
   simp [List.getD_eq_getElem?_getD,hi2]
 · have hi:=(List.getElem?_eq_some_iff.1 hx).1
   have hi2:i < cells.length:=by omega
   refine h2 i _ x ?_ hx
   simp [List.getD_eq_getElem?_getD,hi2]
namespace Sf
end Sf
namespace Fc
end Fc
namespace Op9
structure Ot where
 t:Nat
 d:List Nat
deriving DecidableEq
structure Ot.Ty (o:Ot):Prop where
 t:o.t < 256
 d:∀ x∈o.d,x < 256
def ot (o:Ot):Data:=.agg [.int .u8 o.t,.sl 1 (bys o.d)]
def ots (l:List Ot):List Data:=l.map ot
@[go_sem] theorem ots_length (l:List Ot):(ots l).length = l.length:=by simp [ots]
@[go_sem] theorem ots_get (l:List Ot) (i:Nat):(ots l)[i]? = (l[i]?).map ot:=by simp [ots]
theorem ots_cells (l:List Ot):∀ x∈ots l,x.cells.length = 2:=fun x hx=>by obtain ⟨p,_,rfl⟩:=List.mem_map.1 hx;rfl
theorem ots_snoc (l:List Ot) (o:Ot):(flat (ots (l++[o]))).map D.data = (flat (ots l)).map D.data++[.data (.int .u8 o.t),.data (.sl 1 (bys o.d))]:=by
 simp [ots,flat,ot,Data.cells]
def noO:Ot:=⟨0,[]⟩
def otB (o:Ot):List Nat:=o.t :: (2 + o.d.length) :: o.d
def otsB (l:List Ot):List Nat:=l.flatMap otB
/-- Options that may be. -/
def OkO (l:List Ot):Prop:=(∀ o∈l,o.d.length≤253)∧(otsB l).length≤1496
instance (l:List Ot):Decidable (OkO l):=by unfold OkO;infer_instance
/-- Found,put,dropped. -/
def findO (l:List Ot) (t:Nat):Option Ot:=l.find? fun o=>o.t = t
def putG (o:Ot):Bool->List Ot->List Ot
 | lg,[]=>if lg then [] else [o]
 | lg,x :: l=>if lg = false∧x.t = o.t then o :: putG o true l else x :: putG o lg l
def putO (l:List Ot) (o:Ot):List Ot:=putG o false l
def dropO (l:List Ot) (t:Nat):List Ot:=l.filter fun o=>o.t≠t
def FewO (l:List Ot):Prop:=l.length≤30∧∀ o∈l,o.d.length≤253
instance (l:List Ot):Decidable (FewO l):=by unfold FewO;infer_instance
/-- Numbers. -/
def numF (l:List Nat):Nat:=l.foldl (fun n x=>n * 256 + x) 0
def numO (b:List Nat):Nat:=numF (b.drop (b.length - 4))
def fourO (n:Nat):List Nat:=[n / 16777216,n / 65536 % 256,n / 256 % 256,n % 256]
theorem numF_snoc (l:List Nat) (x:Nat):numF (l++[x]) = numF l * 256 + x:=by simp [numF,List.foldl_append]
theorem numF_lt:∀ (n:Nat) (l:List Nat),l.length = n->(∀ x∈l,x < 256)->numF l < 256 ^ n:=by
 intro n
 induction n with
 | zero=>intro l hl _;rw [List.eq_nil_of_length_eq_zero hl];decide
 | succ n ih =>
   intro l hl hb
   have hne:l≠[]:=fun e=>by rw [e] at hl;simp at hl
   have e:=List.dropLast_concat_getLast hne
   have h1:=ih l.dropLast (by rw [List.length_dropLast];omega) fun x hx=>hb x (List.dropLast_subset _ hx)
   have h2:=hb _ (List.getLast_mem hne)
   rw [<- e,numF_snoc,Nat.pow_succ]
   omega
theorem four_num {n:Nat} (h:n < 4294967296):numO (fourO n) = n:=by
 show numF [n / 16777216,n / 65536 % 256,n / 256 % 256,n % 256] = n
 simp only [numF,List.foldl_cons,List.foldl_nil]
 omega
end Op9
namespace Op9
section
variable (Γ:Nat->Option (List Data))
theorem rone_pc (a b:Ot) (ha:a.d.length≤1000000000) (hb:b.d.length≤1000000000):PC Try.prog Γ 37 [ot a,ot b] (.bool (decide (a = b))):=by
 refine pc_by mixed Try.func37 rfl (fun args w=>Try.call37 args w) ?_
 have c1:=row_pc Γ a.d b.d (by omega) (by omega)
 have e:decide (a = b) = (decide (a.d = b.d) && decide (a.t = b.t)):=by
  obtain ⟨p,i⟩:=a;obtain ⟨q,j⟩:=b
  simp only [Ot.mk.injEq,Bool.decide_and,Bool.and_comm]
 rw [e]
 simp -implicitDefEqProofs (disch:=omega) [go_sem,ot]
 refine .inl (call_data c1 (by simp [go_sem]) ?_)
 by_cases hi:a.d = b.d
 · by_cases hp:a.t = b.t
   · simp -implicitDefEqProofs (disch:=omega) [go_sem,hi,hp,Try.f37]
   · have hp2:¬ ((a.t:Int) = b.t):=by omega
     simp -implicitDefEqProofs (disch:=omega) [go_sem,hi,hp,hp2,Try.f37]
 · simp -implicitDefEqProofs (disch:=omega) [go_sem,hi,Try.f37]
theorem rosame_pc (a b:List Ot) (ha:a.length≤1000000000) (hb:b.length≤1000000000) (hla:∀ x∈a,x.d.length≤1000000000) (hlb:∀ x∈b,x.d.length≤1000000000):PC Try.prog Γ 15 [.sl 2 (ots a),.sl 2 (ots b)] (.bool (decide (a = b))):=by
 refine pc_by mixed Try.func15 rfl (fun args w=>Try.call15 args w) ?_
 by_cases hn:a.length = b.length
 rotate_left
 · rw [decide_eq_false fun e=>hn (by rw [e])]
   simp -implicitDefEqProofs (disch:=omega) [go_sem,hn,Try.f15]
 simp -implicitDefEqProofs (disch:=omega) [go_sem,hn]
 refine loop_ren (σ:={ i:Nat // i≤b.length∧a.take i = b.take i }) (fun i=>⟨envL [(0,.data (.sl 2 (ots a))),(1,.data (.sl 2 (ots b))),(5,.data (.int .i64 i.1))],hpL [],0,0,29⟩) (fun i=>b.length - i.1) ⟨0,by omega,rfl⟩ [] (rhoL []) ?_ ?_
 · apply ren_lists <;> simp -implicitDefEqProofs [go_sem]
 rintro ⟨i,hi,hall⟩
 by_cases h:i < b.length
 · have h2:i < a.length:=by omega
   have c1:=rone_pc Γ a[i] b[i] (hla _ (List.getElem_mem h2)) (hlb _ (List.getElem_mem h))
   unfold ot at c1
   by_cases he:a[i] = b[i]
   · rw [decide_eq_true he] at c1
     simp -implicitDefEqProofs (disch:=omega) [go_sem,ot]
     refine .inl (call_data c1 (by simp [go_sem]) ?_)
     simp -implicitDefEqProofs (disch:=omega) [go_sem]
     refine side (by kernel_rfl) ?_
     simp -implicitDefEqProofs (disch:=omega) [go_sem]
     refine next_ren ⟨i + 1,by omega,by rw [List.take_add_one,List.take_add_one,hall,List.getElem?_eq_getElem h,List.getElem?_eq_getElem h2,he]⟩ (by simp only;omega) [] (rhoL []) ?_
     apply ren_lists <;> simp -implicitDefEqProofs [go_sem]
   · rw [decide_eq_false he] at c1
     rw [decide_eq_false fun e=>he (by simp [e])]
     simp -implicitDefEqProofs (disch:=omega) [go_sem,ot]
     refine .inl (call_data c1 (by simp [go_sem]) ?_)
     simp -implicitDefEqProofs (disch:=omega) [go_sem]
     refine side (by kernel_rfl) ?_
     simp -implicitDefEqProofs (disch:=omega) [go_sem,Try.f15]
 · have:i = b.length:=by omega
   subst this
   rw [List.take_length,List.take_of_length_le (by omega)] at hall
   rw [decide_eq_true hall]
   simp -implicitDefEqProofs (disch:=omega) [go_sem,hn,Try.f15]
theorem rfew_pc (l:List Ot) (hl:l.length≤140737488351232) (hd:∀ o∈l,o.d.length≤140737488351232) {q:Bool} (hq:q = true ↔ FewO l):PC Try.prog Γ 10 [.sl 2 (ots l)] (.bool q):=by
 refine pc_by mixed Try.func10 rfl (fun args w=>Try.call10 args w) ?_
 have no:¬ FewO l->q = false:=fun h=>by
  cases q
  · rfl
  · exact absurd (hq.1 rfl) h
 simp -implicitDefEqProofs (disch:=omega) [go_sem]
 refine loop_ren (σ:={ i:Nat // i≤l.length∧i≤30∧∀ (j:Nat) (h:j < l.length),j < i->l[j].d.length≤253 }) (fun i=>⟨envL [(0,.data (.sl 2 (ots l))),(3,.data (.int .i64 i.1))],hpL [],0,0,21⟩) (fun i=>l.length - i.1) ⟨0,by omega,by omega,fun j _ h=>absurd h (Nat.not_lt_zero _)⟩ [] (rhoL []) ?_ ?_
 · apply ren_lists <;> simp -implicitDefEqProofs [go_sem]
 rintro ⟨i,hi,h30,hall⟩
 by_cases hlt:i < l.length
 · by_cases c1:i < 30
   · have hdi:=hd l[i] (List.getElem_mem hlt)
     by_cases c2:l[i].d.length≤253
     · simp -implicitDefEqProofs (disch:=omega) [go_sem,ot]
       refine next_ren ⟨i + 1,by omega,by omega,fun j h hj=>?_⟩ (by simp only;omega) [] (rhoL []) ?_
       · by_cases e:j = i
         · subst e;exact c2
         · exact hall j h (by omega)
       apply ren_lists <;> simp -implicitDefEqProofs [go_sem]
     · rw [no fun h=>c2 (h.2 _ (List.getElem_mem hlt))]
       simp -implicitDefEqProofs (disch:=omega) [go_sem,ot,Try.f10]
   · rw [no fun h=>by have:=h.1;omega]
     simp -implicitDefEqProofs (disch:=omega) [go_sem,Try.f10]
 · have yes:q = true:=hq.2 ⟨by omega,fun o ho=>by
    obtain ⟨j,hj,rfl⟩:=List.getElem_of_mem ho
    exact hall j hj (by omega)⟩
   rw [yes]
   simp -implicitDefEqProofs (disch:=omega) [go_sem,Try.f10]
theorem rfour_pc (n:Nat) (hn:n < 4294967296):PC Try.prog Γ 33 [.int .u32 n] (.sl 1 (bys (fourO n))):=by
 refine pc_by mixed Try.func33 rfl (fun args w=>Try.call33 args w) ?_
 simp -implicitDefEqProofs (disch:=omega) [go_sem,Try.f33]
 refine ⟨_,⟨_,rfl,frz_bys (rw:=true) (l:=fourO n) ?_ (.inl rfl) (by simp [fourO])⟩,rfl⟩
 simp [go_sem,bys,u8,fourO]
 omega
theorem rnumber_pc (b:List Nat) (hb:b.length≤1000000000) (hl:∀ x∈b,x < 256):PC Try.prog Γ 24 [.sl 1 (bys b)] (.int .u32 (numO b)):=by
 refine pc_by mixed Try.func24 rfl (fun args w=>Try.call24 args w) ?_
 unfold numO
 have hs:∀ k,k≤4->k≤(b.drop (b.length - 4)).length->numF ((b.drop (b.length - 4)).take k) < 256 ^ k:=fun k h1 h2=>numF_lt k _ (by rw [List.length_take];omega) fun x hx=>hl x (List.mem_of_mem_drop (List.mem_of_mem_take hx))
 have hlen:(b.drop (b.length - 4)).length = b.length - (b.length - 4):=List.length_drop
 have hget:∀ k (h:k < (b.drop (b.length - 4)).length),∃ h2:b.length - 4 + k < b.length,(b.drop (b.length - 4))[k] = b[b.length - 4 + k]:=fun k h=>⟨by omega,List.getElem_drop⟩
 generalize hS:b.length - 4 = S at *
 generalize b.drop S = c at *
 have hcl:c.length≤4:=by omega
 have hm:(if (0:Int) < (b.length:Int) - 4 then (b.length:Int) - 4 else 0) = (S:Int):=by split <;> omega
 simp -implicitDefEqProofs (disch:=omega) [go_sem]
 refine loop_ren (σ:={ i:Nat // i≤c.length }) (fun i=>⟨envL [(0,.data (.sl 1 (bys b))),(3,.data (.int .u32 (numF (c.take i.1)))),(4,.data (.int .i64 ((S + i.1:Nat):Int)))],hpL [],0,0,24⟩) (fun i=>c.length - i.1) ⟨0,by omega⟩ [] (rhoL []) ?_ ?_
 · apply ren_lists <;> simp -implicitDefEqProofs [go_sem,numF]
   split <;> omega
 rintro ⟨i,hi⟩
 by_cases h:i < c.length
 · obtain ⟨h2,e⟩:=hget i h
   have h3:=hl _ (List.getElem_mem h2)
   have h4:=hs i (by omega) (by omega)
   have h5:(256:Nat) ^ i≤256 ^ 3:=Nat.pow_le_pow_right (by decide) (by omega)
   have h6:numF (c.take (i + 1)) = numF (c.take i) * 256 + b[S + i]:=by rw [List.take_add_one,List.getElem?_eq_getElem h,Option.toList_some,numF_snoc,e]
   have h7:(256:Nat) ^ 3 = 16777216:=by decide
   simp -implicitDefEqProofs (disch:=omega) [go_sem]
   refine next_ren ⟨i + 1,by omega⟩ (by simp only;omega) [] (rhoL []) ?_
   apply ren_lists <;> simp -implicitDefEqProofs [go_sem]
   rw [h6]
   have e8:((S:Int) + i).toNat = S + i:=by omega
   simp only [e8]
   constructor <;> omega
 · have:i = c.length:=by omega
   subst this
   simp -implicitDefEqProofs (disch:=omega) [go_sem,List.take_length,Try.f24]
def foundO:Option Ot->Data
 | some o=>.tup [ot o,.bool true]
 | none=>.tup [ot noO,.bool false]
theorem findO_take (l:List Ot) (t i:Nat) (h:∀ (j:Nat) (hj:j < l.length),j < i->l[j].t≠t) (hi:i < l.length) (ht:l[i].t = t):findO l t = some l[i]:=by
 unfold findO
 rw [List.find?_eq_some_iff_getElem]
 exact ⟨by simpa using ht,i,hi,rfl,fun j hj=>by simpa using h j (by omega) hj⟩
theorem findO_none (l:List Ot) (t:Nat) (h:∀ (j:Nat) (hj:j < l.length),l[j].t≠t):findO l t = none:=by
 unfold findO
 rw [List.find?_eq_none]
 intro x hx
 obtain ⟨j,hj,rfl⟩:=List.getElem_of_mem hx
 simpa using h j hj
theorem rfind_pc (l:List Ot) (t:Nat) (hl:l.length≤1000000000):PC Try.prog Γ 20 [.sl 2 (ots l),.int .u8 t] (foundO (findO l t)):=by
 refine pc_by mixed Try.func20 rfl (fun args w=>Try.call20 args w) ?_
 simp -implicitDefEqProofs (disch:=omega) [go_sem]
 refine loop_ren (σ:={ i:Nat // i≤l.length∧∀ (j:Nat) (hj:j < l.length),j < i->l[j].t≠t }) (fun i=>⟨envL [(0,.data (.sl 2 (ots l))),(1,.data (.int .u8 t)),(4,.ptr 0 0),(6,.data (.int .i64 i.1))],hpL [(0,.blk true [.data (.int .u8 0),.emp 0])],1,0,25⟩) (fun i=>l.length - i.1) ⟨0,by omega,fun j _ h=>absurd h (Nat.not_lt_zero _)⟩ [] (rhoL [(0,some 0)]) ?_ ?_
 · apply ren_lists <;> simp -implicitDefEqProofs [go_sem]
 rintro ⟨i,hi,hall⟩
 by_cases h:i < l.length
 · by_cases ht:l[i].t = t
   · rw [findO_take l t i hall h ht]
     have ht2:(l[i].t:Int) = t:=by omega
     simp -implicitDefEqProofs (disch:=omega) [go_sem,ot,foundO,ht2,ht,Try.f20]
   · have ht2:¬ ((l[i].t:Int) = t):=by omega
     simp -implicitDefEqProofs (disch:=omega) [go_sem,ot,ht2]
     refine next_ren ⟨i + 1,by omega,fun j hj hji=>by
      by_cases e:j = i
      · subst e;exact ht
      · exact hall j hj (by omega)⟩ (by simp only;omega) [] (rhoL [(0,some 0)]) ?_
     apply ren_lists <;> simp -implicitDefEqProofs [go_sem]
 · rw [findO_none l t fun j hj=>hall j hj (by omega)]
   simp -implicitDefEqProofs (disch:=omega) [go_sem,ot,foundO,Try.f20]
   exact ⟨_,⟨_,rfl,frz_aggL (frzL_c (.data _) (frzL_c (.emp 0 1) frzL_n))⟩,rfl⟩
theorem drop_step (l:List Ot) (t i:Nat) (h:i < l.length):dropO (l.take (i + 1)) t = dropO (l.take i) t++(if l[i].t = t then [] else [l[i]]):=by
 unfold dropO
 rw [List.take_add_one,List.getElem?_eq_getElem h,Option.toList_some,List.filter_append]
 congr 1
 by_cases e:l[i].t = t <;> simp [e]
theorem rdrop_pc (l:List Ot) (t:Nat) (hl:l.length≤1000000000):PC Try.prog Γ 22 [.sl 2 (ots l),.int .u8 t] (.sl 2 (ots (dropO l t))):=by
 refine pc_by mixed Try.func22 rfl (fun args w=>Try.call22 args w) ?_
 simp -implicitDefEqProofs (disch:=omega) [go_sem]
 refine loop_ren (σ:={ i:Nat // i≤l.length }) (fun i=>⟨envL [(0,.data (.sl 2 (ots l))),(1,.data (.int .u8 t)),(5,.ref 0 0 (dropO (l.take i.1) t).length 2),(6,.data (.int .i64 i.1))],hpL [(0,.blk true ((flat (ots (dropO (l.take i.1) t))).map D.data))],1,0,28⟩) (fun i=>l.length - i.1) ⟨0,by omega⟩ [] (rhoL [(0,none)]) ?_ ?_
 · apply ren_lists <;> simp -implicitDefEqProofs [go_sem]
   · rfl
   · rfl
 rintro ⟨i,hi⟩
 have hle:(dropO (l.take i) t).length≤1000000000:=by
  have:=List.length_filter_le (fun o:Ot=>decide (o.t≠t)) (l.take i)
  rw [List.length_take] at this
  show (List.filter _ _).length≤_
  omega
 have hfl:(flat (ots (dropO (l.take i) t))).length = (dropO (l.take i) t).length * 2:=by rw [flat_length (ots_cells _),ots_length]
 by_cases h:i < l.length
 · have hst:=drop_step l t i h
   by_cases ht:l[i].t = t
   · have ht2:(l[i].t:Int) = t:=by omega
     rw [if_pos ht,List.append_nil] at hst
     simp -implicitDefEqProofs (disch:=omega) [go_sem,ot,ht2,ht]
     refine next_ren ⟨i + 1,by omega⟩ (by simp only;omega) [] (rhoL [(0,some 0)]) ?_
     simp only [hst]
     apply ren_lists <;> simp -implicitDefEqProofs [go_sem]
   · have ht2:¬ ((l[i].t:Int) = t):=by omega
     rw [if_neg ht] at hst
     simp -implicitDefEqProofs (disch:=omega) [go_sem,ot,ht2,hfl]
     refine next_ren ⟨i + 1,by omega⟩ (by simp only;omega) [] (rhoL [(0,some 18)]) ?_
     simp only [hst]
     apply ren_lists <;> simp -implicitDefEqProofs [go_sem]
     exact renCells_plain (by rw [ots_snoc]) (by simp [plainD])
 · have:i = l.length:=by omega
   subst this
   simp -implicitDefEqProofs (disch:=omega) [go_sem,List.take_length,Try.f22]
   exact ⟨_,⟨_,rfl,frz_ref (rw:=true) (by simp [go_sem]) (.inl rfl) (ots_length _) (ots_cells _) rfl⟩,rfl⟩
theorem putG_len (o:Ot):∀ (l:List Ot) (lg:Bool),(putG o lg l).length≤l.length + 1
 | [],lg=>by cases lg <;> simp [putG]
 | x :: l,lg=>by
   unfold putG
   split
   · have:=putG_len o l true;simp only [List.length_cons];omega
   · have:=putG_len o l lg;simp only [List.length_cons];omega
/-- Where what is put stands. -/
structure Pst (l:List Ot) (o:Ot) where
 i:Nat
 lg:Bool
 acc:List Ot
 h:i≤l.length
 n:acc.length = i
 e:putO l o = acc++putG o lg (l.drop i)
set_option maxHeartbeats 1000000 in
theorem roput_pc (l:List Ot) (o:Ot) (hl:l.length≤1000000000):PC Try.prog Γ 21 [.sl 2 (ots l),ot o] (.sl 2 (ots (putO l o))):=by
 refine pc_by mixed Try.func21 rfl (fun args w=>Try.call21 args w) ?_
 unfold ot
 simp -implicitDefEqProofs (disch:=omega) [go_sem]
 refine loop_ren (σ:=Pst l o) (fun s=>⟨envL [(0,.data (.sl 2 (ots l))),(3,.ptr 1 0),(5,.ref 0 0 s.acc.length 2),(6,.data (.bool s.lg)),(7,.data (.int .i64 s.i))],hpL [(0,.blk true ((flat (ots s.acc)).map .data)),(1,.blk true [.data (.int .u8 o.t),.data (.sl 1 (bys o.d))])],2,0,44⟩) (fun s=>l.length - s.i) ⟨0,false,[],by omega,rfl,by simp [putO]⟩ [] (rhoL [(0,none),(1,some 0)]) ?_ ?_
 · apply ren_lists <;> simp -implicitDefEqProofs [go_sem]
   · rfl
 rintro ⟨i,lg,acc,h,hn,e⟩
 have hfl:(flat (ots acc)).length = acc.length * 2:=by rw [flat_length (ots_cells _),ots_length]
 by_cases hlt:i < l.length
 · have hd:l.drop i = l[i] :: l.drop (i + 1):=List.drop_eq_getElem_cons hlt
   rw [hd] at e
   by_cases hc:lg = false∧l[i].t = o.t
   · have hp:putG o lg (l[i] :: l.drop (i + 1)) = o :: putG o true (l.drop (i + 1)):=if_pos hc
     have ht2:(l[i].t:Int) = o.t:=by omega
     have e2:putO l o = (acc++[o])++putG o true (l.drop (i + 1)):=by rw [e,hp];simp
     obtain ⟨rfl,ht⟩:=hc
     simp -implicitDefEqProofs (disch:=omega) [go_sem,ot,ht2]
     refine side (by kernel_rfl) ?_
     simp -implicitDefEqProofs (disch:=omega) [go_sem,ot,hfl]
     refine next_ren (Pst.mk (l:=l) (o:=o) (i + 1) true (acc++[o]) (by omega) (by simp [hn]) e2) (by show l.length - (i + 1) < l.length - i;omega) [] (rhoL [(0,some 21),(1,some 1)]) ?_
     apply ren_lists <;> simp -implicitDefEqProofs [go_sem]
     exact renCells_plain (by rw [ots_snoc]) (by simp [plainD])
   · have hp:putG o lg (l[i] :: l.drop (i + 1)) = l[i] :: putG o lg (l.drop (i + 1)):=if_neg hc
     have e2:putO l o = (acc++[l[i]])++putG o lg (l.drop (i + 1)):=by rw [e,hp];simp
     cases lg
     · have ht2:¬ ((l[i].t:Int) = o.t):=fun k=>hc ⟨rfl,by omega⟩
       simp -implicitDefEqProofs (disch:=omega) [go_sem,ot,ht2]
       refine side (by kernel_rfl) ?_
       simp -implicitDefEqProofs (disch:=omega) [go_sem,ot,hfl]
       refine next_ren (Pst.mk (l:=l) (o:=o) (i + 1) false (acc++[l[i]]) (by omega) (by simp [hn]) e2) (by show l.length - (i + 1) < l.length - i;omega) [] (rhoL [(0,some 24),(1,some 1)]) ?_
       apply ren_lists <;> simp -implicitDefEqProofs [go_sem]
       exact renCells_plain (by rw [ots_snoc]) (by simp [plainD])
     · simp -implicitDefEqProofs (disch:=omega) [go_sem,ot]
       refine side (by kernel_rfl) ?_
       simp -implicitDefEqProofs (disch:=omega) [go_sem,ot,hfl]
       refine next_ren (Pst.mk (l:=l) (o:=o) (i + 1) true (acc++[l[i]]) (by omega) (by simp [hn]) e2) (by show l.length - (i + 1) < l.length - i;omega) [] (rhoL [(0,some 24),(1,some 1)]) ?_
       apply ren_lists <;> simp -implicitDefEqProofs [go_sem]
       exact renCells_plain (by rw [ots_snoc]) (by simp [plainD])
 · have ei:i = l.length:=by omega
   subst ei
   rw [List.drop_length] at e
   cases lg
   · have e3:putO l o = acc++[o]:=e
     rw [e3]
     simp -implicitDefEqProofs (disch:=omega) [go_sem,hfl,Try.f21]
     exact ⟨_,⟨_,rfl,frz_ref (rw:=true) (by simp [go_sem]) (.inl rfl) (by rw [ots_length,List.length_append];rfl) (ots_cells _) (ots_snoc acc o).symm⟩,rfl⟩
   · have e3:putO l o = acc:=by rw [e];simp [putG]
     rw [e3]
     simp -implicitDefEqProofs (disch:=omega) [go_sem,Try.f21]
     exact ⟨_,⟨_,rfl,frz_ref (rw:=true) (by simp [go_sem]) (.inl rfl) (ots_length _) (ots_cells _) rfl⟩,rfl⟩
end
end Op9
namespace Op9
theorem four_lt {n:Nat} (h:n < 4294967296):∀ x∈fourO n,x < 256:=by
 intro x hx
 simp only [fourO,List.mem_cons,List.not_mem_nil,or_false] at hx
 omega
end Op9
namespace Ru
open Op9
structure Rule where
 ip:Bool
 magic:Nat
 other:Nat
 addr:Nat
 ours:Nat
deriving DecidableEq
structure Rule.Ty (r:Rule):Prop where
 magic:r.magic < 4294967296
 other:r.other < 4294967296
 addr:r.addr < 4294967296
 ours:r.ours < 4294967296
def rul (r:Rule):Data:=.agg [.bool r.ip,.int .u32 r.magic,.int .u32 r.other,.int .u32 r.addr,.int .u32 r.ours]
structure Peer where
 mru:Nat
 accm:Nat
 magic:Nat
 pfc:Bool
 acfc:Bool
deriving DecidableEq
def pee (p:Peer):Data:=.agg [.int .i64 p.mru,.int .u32 p.accm,.int .u32 p.magic,.bool p.pfc,.bool p.acfc]
def knownR (ip:Bool) (o:Ot):Bool:=match ip with
 | true=>decide (o.t = 3) && decide (o.d.length = 4)
 | false=>if o.t = 1 then decide (o.d.length = 2) else if o.t = 2 ∨ o.t = 5 then decide (o.d.length = 4) else if o.t = 7 ∨ o.t = 8 then decide (o.d.length = 0) else false
def shouldR (r:Rule) (o:Ot):Ot × Bool:=match r.ip with
 | true=>(⟨3,fourO r.addr⟩,decide (numO o.d≠r.addr))
 | false=>if o.t = 1∧numO o.d < 64 then (⟨1,[0,64]⟩,true) else if o.t = 5∧(numO o.d = 0 ∨ numO o.d = r.magic) then (⟨5,fourO r.other⟩,true) else (o,false)
def askR (r:Rule):List Ot:=match r.ip with
 | true=>[⟨3,fourO r.ours⟩]
 | false=>[⟨3,[194,35,5]⟩,⟨5,fourO r.magic⟩]
def addrR (l:List Ot):Option Nat:=(l.find? fun o=>decide (o.t = 3∧o.d.length = 4)).map fun o=>numO o.d
def oddR (ip:Bool) (l:List Ot):List Ot:=l.filter fun o=>!knownR ip o
def asR (r:Rule) (l:List Ot):List Ot:=l.filter fun o=>knownR r.ip o && (shouldR r o).2
def toR (r:Rule) (l:List Ot):List Ot:=(asR r l).map fun o=>(shouldR r o).1
def toA (r:Rule) (l:List Ot):List Ot:=toR r l++if r.ip = true∧addrR l = none then [⟨3,fourO r.addr⟩] else []
def answerR (r:Rule) (l:List Ot) (n:Int):Nat × List Ot :=
 if oddR r.ip l≠[] then (4,oddR r.ip l) else if 3≤n∧asR r l≠[] then (4,asR r l) else if n < 3∧toA r l≠[] then (3,toA r l) else (2,l)
def dropAll (ours l:List Ot):List Ot:=l.foldl (fun a o=>dropO a o.t) ours
def turnR (r:Rule) (ours:List Ot) (c:Nat) (l:List Ot):List Ot × Bool :=
 if ((findO l 3).isSome = true∧r.ip = false) ∨ (c≠3∧c≠4) then (ours,false) else if c = 4 then (dropAll ours l,true)
 else if r.ip = true ∨ (findO l 5).isSome = false ∨ (findO ours 5).isSome = false then (ours,true) else (putO ours ⟨5,fourO r.other⟩,true)
def firstR (l:List Ot) (t:Nat):Option Nat:=(l.find? fun o=>knownR false o && decide (o.t = t)).map fun o=>numO o.d
def learnR (l:List Ot):Peer:=⟨(firstR l 1).getD 1500,(firstR l 2).getD 4294967295,(firstR l 5).getD 0,(firstR l 7).isSome,(firstR l 8).isSome⟩
theorem filter_take {p:Ot->Bool} (l:List Ot) (i:Nat) (h:i < l.length):(l.take (i + 1)).filter p = (l.take i).filter p++if p l[i] = true then [l[i]] else []:=by
 rw [List.take_add_one,List.getElem?_eq_getElem h,Option.toList_some,List.filter_append]
 congr 1
 cases hp:p l[i] <;> simp [hp]
theorem find_take {p:Ot->Bool} (l:List Ot) (i:Nat) (h:∀ (j:Nat) (hj:j < l.length),j < i->p l[j] = false) (hi:i < l.length) (ht:p l[i] = true):l.find? p = some l[i]:=by
 rw [List.find?_eq_some_iff_getElem]
 exact ⟨ht,i,hi,rfl,fun j hj=>by simpa using h j (by omega) hj⟩
theorem find_no {p:Ot->Bool} (l:List Ot) (h:∀ (j:Nat) (hj:j < l.length),p l[j] = false):l.find? p = none:=by
 rw [List.find?_eq_none]
 intro x hx
 obtain ⟨j,hj,rfl⟩:=List.getElem_of_mem hx
 simpa using h j hj
section
variable (Γ:Nat->Option (List Data))
theorem rknown_pc (ip:Bool) (o:Ot):PC Try.prog Γ 23 [.bool ip,ot o] (.bool (knownR ip o)):=by
 refine pc_by mixed Try.func23 rfl (fun args w=>Try.call23 args w) ?_
 unfold ot knownR
 cases ip
 · by_cases h1:o.t = 1
   · have e1:(o.t:Int) = 1:=by omega
     by_cases h2:o.d.length = 2
     · simp -implicitDefEqProofs (disch:=omega) [go_sem,e1,h1,h2,Try.f23]
     · simp -implicitDefEqProofs (disch:=omega) [go_sem,e1,h1,h2,Try.f23]
   have e1:¬ (o.t:Int) = 1:=by omega
   by_cases h2:o.t = 2
   · have e2:(o.t:Int) = 2:=by omega
     by_cases h4:o.d.length = 4
     · simp -implicitDefEqProofs (disch:=omega) [go_sem,e2,h2,h4,Try.f23]
     · simp -implicitDefEqProofs (disch:=omega) [go_sem,e2,h2,h4,Try.f23]
   have e2:¬ (o.t:Int) = 2:=by omega
   by_cases h5:o.t = 5
   · have e5:(o.t:Int) = 5:=by omega
     by_cases h4:o.d.length = 4
     · simp -implicitDefEqProofs (disch:=omega) [go_sem,e5,h5,h4,Try.f23]
     · simp -implicitDefEqProofs (disch:=omega) [go_sem,e5,h5,h4,Try.f23]
   have e5:¬ (o.t:Int) = 5:=by omega
   by_cases h7:o.t = 7
   · have e7:(o.t:Int) = 7:=by omega
     by_cases h4:o.d.length = 0
     · simp -implicitDefEqProofs (disch:=omega) [go_sem,e7,h7,h4,Try.f23]
     · simp -implicitDefEqProofs (disch:=omega) [go_sem,e7,h7,h4,Try.f23]
   have e7:¬ (o.t:Int) = 7:=by omega
   by_cases h8:o.t = 8
   · have e8:(o.t:Int) = 8:=by omega
     by_cases h4:o.d.length = 0
     · simp -implicitDefEqProofs (disch:=omega) [go_sem,e8,h8,h4,Try.f23]
     · simp -implicitDefEqProofs (disch:=omega) [go_sem,e8,h8,h4,Try.f23]
   have e8:¬ (o.t:Int) = 8:=by omega
   simp -implicitDefEqProofs (disch:=omega) [go_sem,e1,e2,e5,e7,e8,h1,h2,h5,h7,h8,Try.f23]
 · by_cases h3:o.t = 3
   · have e3:(o.t:Int) = 3:=by omega
     by_cases h4:o.d.length = 4
     · simp -implicitDefEqProofs (disch:=omega) [go_sem,e3,h3,h4,Try.f23]
     · simp -implicitDefEqProofs (disch:=omega) [go_sem,e3,h3,h4,Try.f23]
   · have e3:¬ (o.t:Int) = 3:=by omega
     simp -implicitDefEqProofs (disch:=omega) [go_sem,e3,h3,Try.f23]
theorem rshould_pc (r:Rule) (o:Ot) (hr:r.Ty) (hl:∀ x∈o.d,x < 256) (hn:o.d.length≤1000000000):PC Try.prog Γ 32 [rul r,ot o] (.tup [ot (shouldR r o).1,.bool (shouldR r o).2]):=by
 refine pc_by mixed Try.func32 rfl (fun args w=>Try.call32 args w) ?_
 have c1:=rnumber_pc Γ o.d hn hl
 have c2:=rfour_pc Γ r.addr hr.addr
 have c3:=rfour_pc Γ r.other hr.other
 unfold shouldR
 obtain ⟨ip,magic,other,addr,ours⟩:=r
 simp only at c2 c3 ⊢
 generalize numO o.d = n at *
 simp -implicitDefEqProofs (disch:=omega) [go_sem,ot,rul]
 refine .inl (call_data c1 (by simp [go_sem]) ?_)
 cases ip
 · by_cases h1:o.t = 1∧n < 64
   · rw [if_pos h1]
     obtain ⟨h1,h2⟩:=h1
     have e1:(o.t:Int) = 1:=by omega
     simp -implicitDefEqProofs (disch:=omega) [go_sem,e1,ot,Try.f32]
     exact ⟨_,⟨_,rfl,frz_aggL (frzL_c (.data _) (frzL_c (frz_bys (rw:=true) (l:=[0,64]) (by simp [Hp.set,bys,u8]) (.inl rfl) rfl) frzL_n))⟩,rfl⟩
   rw [if_neg h1]
   by_cases h5:o.t = 5
   · have e5:(o.t:Int) = 5:=by omega
     by_cases h6:n = 0 ∨ n = magic
     · rw [if_pos ⟨h5,h6⟩]
       by_cases h7:n = 0
       · have e7:(n:Int) = 0:=by omega
         simp -implicitDefEqProofs (disch:=omega) [go_sem,e5,e7]
         refine .inl (call_data c3 (by simp [go_sem]) ?_)
         simp -implicitDefEqProofs (disch:=omega) [go_sem,ot,Try.f32]
       · have e7:¬ (n:Int) = 0:=by omega
         have e8:(n:Int) = magic:=by omega
         simp -implicitDefEqProofs (disch:=omega) [go_sem,e5,e7,e8]
         refine .inl (call_data c3 (by simp [go_sem]) ?_)
         simp -implicitDefEqProofs (disch:=omega) [go_sem,ot,Try.f32]
     · rw [if_neg fun h=>h6 h.2]
       have e7:¬ (n:Int) = 0:=by omega
       have e8:¬ (n:Int) = magic:=by omega
       simp -implicitDefEqProofs (disch:=omega) [go_sem,e5,e7,e8,ot,Try.f32]
   · rw [if_neg fun h=>h5 h.1]
     have e5:¬ (o.t:Int) = 5:=by omega
     by_cases h2:o.t = 1
     · have e1:(o.t:Int) = 1:=by omega
       have e2:¬ (n:Int) < 64:=by omega
       simp -implicitDefEqProofs (disch:=omega) [go_sem,e1,e2,ot,Try.f32]
     · have e1:¬ (o.t:Int) = 1:=by omega
       simp -implicitDefEqProofs (disch:=omega) [go_sem,e1,e5,ot,Try.f32]
 · have e:decide (n≠addr) = !decide ((n:Int) = addr):=by
    by_cases h:n = addr
    · simp [h]
    · have h2:¬ (n:Int) = addr:=by omega
      simp [h,h2]
   rw [e]
   simp -implicitDefEqProofs (disch:=omega) [go_sem]
   refine .inl (call_data c2 (by simp [go_sem]) ?_)
   simp -implicitDefEqProofs (disch:=omega) [go_sem]
   refine side (by kernel_rfl) ?_
   simp -implicitDefEqProofs (disch:=omega) [go_sem,ot,Try.f32]
theorem rask_pc (r:Rule) (hr:r.Ty):PC Try.prog Γ 17 [rul r] (.sl 2 (ots (askR r))):=by
 refine pc_by mixed Try.func17 rfl (fun args w=>Try.call17 args w) ?_
 have c2:=rfour_pc Γ r.ours hr.ours
 have c3:=rfour_pc Γ r.magic hr.magic
 unfold askR
 obtain ⟨ip,magic,other,addr,ours⟩:=r
 simp only at c2 c3 ⊢
 cases ip
 · simp -implicitDefEqProofs (disch:=omega) [go_sem,rul]
   refine .inl (call_data c3 (by simp [go_sem]) ?_)
   simp -implicitDefEqProofs (disch:=omega) [go_sem,Try.f17]
   refine ⟨_,⟨_,rfl,frz_rows (rw:=true) (by simp [Hp.set];rfl) (.inl rfl) rfl (ots_cells _) ?_⟩,rfl⟩
   exact frzL_c (.data _) (frzL_c (frz_bys (rw:=true) (l:=[194,35,5]) (by simp [Hp.set,bys,u8]) (.inl rfl) rfl) (frzL_c (.data _) (frzL_c (.data _) frzL_n)))
 · simp -implicitDefEqProofs (disch:=omega) [go_sem,rul]
   refine .inl (call_data c2 (by simp [go_sem]) ?_)
   simp -implicitDefEqProofs (disch:=omega) [go_sem,Try.f17]
   exact ⟨_,⟨_,rfl,frz_ref (rw:=true) (by simp [Hp.set];rfl) (.inl rfl) rfl (ots_cells _) rfl⟩,rfl⟩
end
end Ru
end Go.Proofs.Ytmappnpigpcimaa
