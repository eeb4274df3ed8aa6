/- What the walk's simp goes by, second part: code, calls, loops. Functions that hand back rows of their own, which the caller may write: a contract of its own (OC), and its use in a call. Calls in operations whose order is open that hand back rows of their own, or that write rows of the caller's. Arrays of numbers, held against each other. What came in, read as plain data: the arguments of a law, the listed variables. Rows of bytes; what arguments are. Choices that the numbers at hand decide: by omega, in the walk's simp. (Import it where the walk should decide by itself.) Functions that may panic, on plain data; functions that are lent a row of the caller's. A row of the caller's, lent to a call: the call is looked at with this row alone. The closed facts on the types. The document's own comparison of rows. Frames on a line: bytes escaped, plain, fed: the mathematics. Frames on a line: how a byte is escaped. Frames on a line: what is plain, as the program tells it and as the document does. Frames on a line: rows joined, what is sent. Check sequences: the program's and the document's own functions, on plain data. Options: the mathematics. Options: the document's own functions. Options: joined, dropped, put; numbers. Frames on a line: a line that is fed. Frames on a line: all frames of bytes, as the program tells them. Frames on a line: all frames of bytes, as the document tells them; the document's example. Frames on a line: the document's example. Frames on a line: StuffTells, StuffFeeds, StuffRight, StuffAnew. Frames on a line: StuffRight, StuffAnew, StuffLong. Frames on a line: StuffBack, StuffRow. Frames: the mathematics, the document's own functions. Packets: the mathematics, the document's own functions. Packets: what is cut, what stands behind, packets apart. Packets: the program's own functions. Options: the program's own functions, all but reading. Functions that may panic: what the walk needs. A function with a deferred call that recovers, on plain data. What a walk through a deferred call needs. A row of the caller's, lent to a call: by any of its arguments. A call that is handed a nil row, looked at as one that is handed a row of nothing. -/
import Derived.Test.YtalgafdokeoijaaPk3
import Derived.Laws.Bits64
import Derived.Laws.BitsAllLaws
import Derived.DeepKeys
import Derived.Laws.StructEq
import Derived.OpenShut
import Derived.SizedLaws
import Derived.LaidMore
import Derived.KernelRfl
import Derived.Test.YtalgafdokeoijaaChecked
import Derived.Recover
namespace Go.Proofs.Ytalgafdokeoijaa
open Go.RowKit
set_option linter.unusedSimpArgs false
set_option linter.unusedVariables false
set_option maxRecDepth 100000
theorem side {p q:Prop} (h:p) (k:q):sideK p q:=⟨h,k⟩
/-- Both sides of a choice that hangs on something open. -/
theorem ifW_of {b:Bool} {x y:Prop} (h:b = true->x) (k:b = false->y):ifW b x y:=by
 cases b
 · exact k rfl
 · exact h rfl
theorem ifW_dec {p:Prop} [Decidable p] {x y:Prop} (h:p->x) (k:¬ p->y):ifW (decide p) x y:=ifW_of (fun e=>h (of_decide_eq_true e)) (fun e=>k (of_decide_eq_false e))
theorem ifW_ndec {p:Prop} [Decidable p] {x y:Prop} (h:¬ p->x) (k:p->y):ifW (!decide p) x y:=ifW_of (fun e=>h (by simpa using e)) (fun e=>k (by simpa using e))
/- Numbers. -/
@[go_sem] theorem wrap64 {x:Int} (h:-9223372036854775808≤x∧x≤9223372036854775807):IntKind.i64.wrap x = x:=by rw [IntKind.wrap_i64];omega
@[go_sem] theorem wrapU8 (x:Int):IntKind.u8.wrap x = x % 256:=IntKind.wrap_u8 x
@[go_sem] theorem wrapU32 (x:Int):IntKind.u32.wrap x = x % 4294967296:=IntKind.wrap_u32 x
@[go_sem] theorem tmod_pos {a b:Int} (h:0≤a):a.tmod b = a % b:=Int.tmod_eq_emod_of_nonneg h
@[go_sem] theorem get_zero {α:Type} (x:α) (l:List α):(x :: l)[0]? = some x:=rfl
@[go_sem] theorem get_succ {α:Type} (x:α) (l:List α) (i:Nat):(x :: l)[i + 1]? = l[i]?:=rfl
def condK (d:D) (x y:Prop):Prop:=match d with
 | .data (.bool b)=>ifW b x y
 | _=>False
@[go_sem] theorem condK_bool (b:Bool) (x y:Prop):condK (.data (.bool b)) x y = ifW b x y:=rfl
@[congr] theorem condK_congr {n0:Nat} (tk:tick = n0) {d d':D} (h:d = d') (x y:Prop):condK d x y = condK d' x y:=by rw [h]
section
variable (P:Program) (Γ:Nat->Option (List Data))
@[go_sem] theorem wpF_skip (Q:Exit->St->Prop) (s:St):wpF P Γ .skip Q s = Q .normal s:=rfl
@[go_sem] theorem wpF_draw (i:Nat) (ops:List Oper) (Q:Exit->St->Prop) (s:St):wpF P Γ (.region i ops.toArray true) Q s = drawW P Γ ops.toArray ops s [] (fun s' tr=>sideK (drawOk2 ops.toArray tr s.nx s'.nx = true) (Q .normal s')):=rfl
@[go_sem] theorem wpF_row (i:Nat) (ops:List Oper) (Q:Exit->St->Prop) (s:St):wpF P Γ (.region i ops.toArray false) Q s = opsW P Γ ops.toArray ops s (Q .normal):=rfl
@[go_sem] theorem wpF_seq (x y:Code) (Q:Exit->St->Prop) (s:St):wpF P Γ (.seq x y) Q s = wpF P Γ x (thenW (wpF P Γ y Q) Q) s:=rfl
@[go_sem] theorem wpF_cond (c:Operand) (x y:Code) (Q:Exit->St->Prop) (s:St):wpF P Γ (.cond c x y) Q s = condK (evalD Γ s.env c) (wpF P Γ x Q s) (wpF P Γ y Q s):=rfl
@[go_sem] theorem wpF_block (id:Nat) (b:Code) (Q:Exit->St->Prop) (s:St):wpF P Γ (.block id b) Q s = wpF P Γ b (blockW id Q) s:=rfl
@[go_sem] theorem wpF_loop (b:Code) (Q:Exit->St->Prop) (s:St):wpF P Γ (.loop b) Q s = LoopW (wpF P Γ b) Q s:=rfl
@[go_sem] theorem wpF_exit (id:Nat) (Q:Exit->St->Prop) (s:St):wpF P Γ (.exit id) Q s = Q (.exit id) s:=rfl
@[go_sem] theorem wpF_ret (Q:Exit->St->Prop) (s:St):wpF P Γ .ret Q s = Q .ret s:=rfl
@[go_sem] theorem thenW_normal (n:St->Prop) (Q:Exit->St->Prop) (s:St):thenW n Q .normal s = n s:=rfl
@[go_sem] theorem thenW_exit (n:St->Prop) (Q:Exit->St->Prop) (s:St) (id:Nat):thenW n Q (.exit id) s = Q (.exit id) s:=rfl
@[go_sem] theorem thenW_ret (n:St->Prop) (Q:Exit->St->Prop) (s:St):thenW n Q .ret s = Q .ret s:=rfl
@[go_sem] theorem blockW_normal (id:Nat) (Q:Exit->St->Prop) (s:St):blockW id Q .normal s = Q .normal s:=rfl
@[go_sem] theorem blockW_exit (id i:Nat) (Q:Exit->St->Prop) (s:St):blockW id Q (.exit i) s = ifW (decide (i = id)) (Q .normal s) (Q (.exit i) s):=by
 by_cases h:i = id <;> simp [blockW,ifW,h]
@[go_sem] theorem blockW_ret (id:Nat) (Q:Exit->St->Prop) (s:St):blockW id Q .ret s = Q .ret s:=rfl
@[congr] theorem thenW_congr {n0:Nat} (tk:tick = n0) (n:St->Prop) (Q:Exit->St->Prop) (x:Exit) (s:St):thenW n Q x s = thenW n Q x s:=rfl
@[congr] theorem blockW_congr {n0:Nat} (tk:tick = n0) (id:Nat) (Q:Exit->St->Prop) (x:Exit) (s:St):blockW id Q x s = blockW id Q x s:=rfl
@[congr] theorem resK_congr {n0:Nat} (tk:tick = n0) {l l':List ResultVar} (h:l = l') (s:St) (K:List D->Prop):resK P l s K = resK P l' s K:=by rw [h]
@[congr] theorem retQ_congr {n0:Nat} (tk:tick = n0) (fn:Func) (r:Data) (x:Exit) (s:St):retQ P fn r x s = retQ P fn r x s:=rfl
@[congr] theorem retDQ_congr {n0:Nat} (tk:tick = n0) (fn:Func) (K:D->(Nat->Blk)->Nat->Prop) (x:Exit) (s:St):retDQ P fn K x s = retDQ P fn K x s:=rfl
@[go_sem] theorem retQ_ret (fn:Func) (r:Data) (s:St):retQ P fn r .ret s = resK P fn.results.toList s fun ds=>∃ xs,FrzL true s.hp ds xs∧r = tupD xs:=rfl
@[go_sem] theorem retQ_normal (fn:Func) (r:Data) (s:St):retQ P fn r .normal s = resK P fn.results.toList s fun ds=>∃ xs,FrzL true s.hp ds xs∧r = tupD xs:=rfl
@[go_sem] theorem retDQ_ret (fn:Func) (K:D->(Nat->Blk)->Nat->Prop) (s:St):retDQ P fn K .ret s = resK P fn.results.toList s fun ds=>∃ d,tupDD ds = some d∧K d s.hp s.nx:=rfl
@[go_sem] theorem retDQ_normal (fn:Func) (K:D->(Nat->Blk)->Nat->Prop) (s:St):retDQ P fn K .normal s = resK P fn.results.toList s fun ds=>∃ d,tupDD ds = some d∧K d s.hp s.nx:=rfl
@[go_sem] theorem tupDD_one (d:D):tupDD [d] = some d:=rfl
def mkTup (ds:List D):D:=match allData ds with
 | some xs=>.data (.tup xs)
 | none=>.tp ds
@[go_sem] theorem tupDD_two (a b:D) (l:List D):tupDD (a :: b :: l) = some (mkTup (a :: b :: l)):=rfl
@[go_sem] theorem mkTup_eq (ds:List D):mkTup ds = match allData ds with
 | some xs=>.data (.tup xs)
 | none=>.tp ds:=rfl
@[go_sem] theorem resK_nil (s:St) (K:List D->Prop):resK P [] s K = K []:=rfl
@[go_sem] theorem resK_tmp (t:Nat) (rest:List ResultVar) (s:St) (K:List D->Prop):resK P (.tmp t :: rest) s K = putK (s.env t) fun d=>resK P rest s fun ds=>K (d :: ds):=rfl
@[go_sem] theorem resK_cell (a:Nat) (t:TypeId) (rest:List ResultVar) (s:St) (K:List D->Prop):resK P (.cell a t :: rest) s K = loadK P t (s.env a) s.hp fun d _=>resK P rest s fun ds=>K (d :: ds):=rfl
@[go_sem] theorem extract_tup (vs:List Data) (i:Nat) (K:D->Prop):extractK (.data (.tup vs)) i K = someK (vs[i]?) fun v=>putK (.data v) K:=by
 unfold extractK someK putK
 apply propext
 constructor
 · rintro ⟨v,hv,hk⟩;rw [hv];exact hk
 · intro hk
   cases h:vs[i]? with
   | none=>rw [h] at hk;exact hk.elim
   | some v=>rw [h] at hk;exact ⟨v,h,hk⟩
@[congr] theorem extractK_congr {n0:Nat} (tk:tick = n0) {x x':D} (h:x = x') (i:Nat) (K:D->Prop):extractK x i K = extractK x' i K:=by rw [h]
@[congr] theorem partK_congr {n0:Nat} (tk:tick = n0) (t:TypeId) {cs cs':List D} (h:cs = cs') {off off':Nat} (h2:off = off') (K:D->Prop):partK P t cs off K = partK P t cs' off' K:=by rw [h,h2]
@[congr] theorem fieldK_congr {n0:Nat} (tk:tick = n0) (t:TypeId) {x x':D} (h:x = x') (f:Nat) (K:D->Prop):fieldK P t x f K = fieldK P t x' f K:=by rw [h]
/-- A slice expression. -/
def slcK (t:TypeId) (x:D) (lo hi:Option D) (H:Nat->Blk) (K:D->List Nat->List (Nat × Blk)->Prop):Prop:=match x with
 | .ptr _ _ | .cptr _=>sliceArrK P t x lo hi none H fun d rd=>K d rd []
 | .cut g off len cp es=>cutK P t g off len cp es lo hi none fun d=>K d [] []
 | _=>sliceK P t x lo hi none fun d=>K d [] []
/-- A slice expression with three bounds. -/
def slc3K (t:TypeId) (x:D) (lo hi mx:Option D) (K:D->List Nat->List (Nat × Blk)->Prop):Prop:=match x with
 | .cut g off len cp es=>cutK P t g off len cp es lo hi mx fun d=>K d [] []
 | _=>False
@[congr] theorem slc3K_congr {n0:Nat} (tk:tick = n0) (t:TypeId) {x x':D} (h:x = x') {lo lo' hi hi' mx mx':Option D} (h2:lo = lo') (h3:hi = hi') (h4:mx = mx') (K:D->List Nat->List (Nat × Blk)->Prop):slc3K P t x lo hi mx K = slc3K P t x' lo' hi' mx' K:=by rw [h,h2,h3,h4]
@[congr] theorem boundsC_congr {n0:Nat} (tk:tick = n0) (n c:Nat) {lo lo' hi hi' mx mx':Option D} (h2:lo = lo') (h3:hi = hi') (h4:mx = mx') (K:Nat->Nat->Nat->Prop):boundsC n c lo hi mx K = boundsC n c lo' hi' mx' K:=by rw [h2,h3,h4]
@[go_sem] theorem slc_cut (t:TypeId) (g off len cp es:Nat) (lo hi:Option D) (H:Nat->Blk) (K:D->List Nat->List (Nat × Blk)->Prop):slcK P t (.cut g off len cp es) lo hi H K = cutK P t g off len cp es lo hi none fun d=>K d [] []:=rfl
@[congr] theorem sliceK_congr {n0:Nat} (tk:tick = n0) (t:TypeId) {x x':D} (h:x = x') {lo lo' hi hi' mx mx':Option D} (h2:lo = lo') (h3:hi = hi') (h4:mx = mx') (K:D->Prop):sliceK P t x lo hi mx K = sliceK P t x' lo' hi' mx' K:=by rw [h,h2,h3,h4]
@[go_sem] theorem slc3_cut (t:TypeId) (g off len cp es:Nat) (lo hi mx:Option D) (K:D->List Nat->List (Nat × Blk)->Prop):slc3K P t (.cut g off len cp es) lo hi mx K = cutK P t g off len cp es lo hi mx fun d=>K d [] []:=rfl
@[congr] theorem slcK_congr {n0:Nat} (tk:tick = n0) (t:TypeId) {x x':D} (h:x = x') {lo lo' hi hi':Option D} (h2:lo = lo') (h3:hi = hi') (H:Nat->Blk) (K:D->List Nat->List (Nat × Blk)->Prop):slcK P t x lo hi H K = slcK P t x' lo' hi' H K:=by rw [h,h2,h3]
@[congr] theorem boundsK_congr {n0:Nat} (tk:tick = n0) (n:Nat) {lo lo' hi hi':Option D} (h2:lo = lo') (h3:hi = hi') (K:Nat->Nat->Prop):boundsK n lo hi K = boundsK n lo' hi' K:=by rw [h2,h3]
@[go_sem] theorem slc_sl (t:TypeId) (es:Nat) (l:List Data) (lo hi:Option D) (H:Nat->Blk) (K:D->List Nat->List (Nat × Blk)->Prop):slcK P t (.data (.sl es l)) lo hi H K = someK (sliceT P t) fun e=>sideK (szT P e = some es) (boundsK l.length lo hi fun a b=>putK (.data (.sl es ((l.take b).drop a))) fun d=>K d [] []):=by
 unfold slcK sliceK someK sideK putK
 cases sliceT P t <;> rfl
@[go_sem] theorem slc_str (t:TypeId) (s:ByteArray) (lo hi:Option D) (H:Nat->Blk) (K:D->List Nat->List (Nat × Blk)->Prop):slcK P t (.data (.str s)) lo hi H K = sideK (strT P t = true) (boundsK s.size lo hi fun a b=>putK (.data (.str (s.extract a b))) fun d=>K d [] []):=rfl
@[go_sem] theorem bounds_lo (n:Nat) (k:IntKind) (l:Int) (K:Nat->Nat->Prop):boundsK n (some (.data (.int k l))) none K = sideK (0≤l) (sideK (l≤n) (natK l.toNat fun a=>K a n)):=by simp [boundsK,natD,sideK,natK]
@[go_sem] theorem bounds_both (n:Nat) (k k':IntKind) (l h:Int) (K:Nat->Nat->Prop):boundsK n (some (.data (.int k l))) (some (.data (.int k' h))) K = sideK (0≤l) (sideK (l≤h) (sideK (h≤n) (natK l.toNat fun a=>natK h.toNat fun b=>K a b))):=by simp [boundsK,natD,sideK,natK]
/-- Plain data. -/
def datK (x:D) (K:Data->Prop):Prop:=match x with
 | .data d=>K d
 | _=>False
@[congr] theorem datK_congr {n0:Nat} (tk:tick = n0) {x x':D} (h:x = x') (K:Data->Prop):datK x K = datK x' K:=by rw [h]
@[go_sem] theorem datK_data (d:Data) (K:Data->Prop):datK (.data d) K = K d:=rfl
/-- What an interface holds. -/
def ifcK (x:D) (K:TypeId->Data->Prop):Prop:=match x with
 | .data (.ifc t d)=>K t d
 | _=>False
@[congr] theorem ifcK_congr {n0:Nat} (tk:tick = n0) {x x':D} (h:x = x') (K:TypeId->Data->Prop):ifcK x K = ifcK x' K:=by rw [h]
@[go_sem] theorem ifcK_ifc (t:TypeId) (d:Data) (K:TypeId->Data->Prop):ifcK (.data (.ifc t d)) K = K t d:=rfl
def invK (P:Program) (name:String) (t:TypeId) (K:FuncId->Prop):Prop:=∃ f,MethOk P name t f∧K f
@[congr] theorem invK_congr {n0:Nat} (tk:tick = n0) (name:String) (t:TypeId) (K:FuncId->Prop):invK P name t K = invK P name t K:=rfl
section
variable (dst:Option Nat) (ty:TypeId) (pos:String) (af:Array Edge) (gd:Option (Nat × Bool)) (e:Nat->D) (H:Nat->Blk) (fr:Nat) (K:D->List Nat->List (Nat × Blk)->Prop)
@[go_sem] theorem opK_slice (t:TypeId) (x:Operand) (lo hi:Option Operand):opK P Γ ⟨dst,.slice t x lo hi none,ty,pos,af,gd⟩ e H fr K = slcK P t (evalD Γ e x) (lo.map (evalD Γ e)) (hi.map (evalD Γ e)) H K:=by
 simp only [opK,slcK,Option.map_none]
 cases evalD Γ e x <;> rfl
@[go_sem] theorem opK_slice3 (t:TypeId) (x m:Operand) (lo hi:Option Operand):opK P Γ ⟨dst,.slice t x lo hi (some m),ty,pos,af,gd⟩ e H fr K = (match evalD Γ e x with
 | .ptr _ _ | .cptr _=>sliceArrK P t (evalD Γ e x) (lo.map (evalD Γ e)) (hi.map (evalD Γ e)) (some (evalD Γ e m)) H fun d rd=>K d rd []
 | .cut g off len cp es=>cutK P t g off len cp es (lo.map (evalD Γ e)) (hi.map (evalD Γ e)) (some (evalD Γ e m)) fun d=>K d [] []
 | _=>sliceK P t (evalD Γ e x) (lo.map (evalD Γ e)) (hi.map (evalD Γ e)) (some (evalD Γ e m)) fun d=>K d [] []):=rfl
@[go_sem] theorem opK_makeFunc (f:FuncId) (caps:Array Operand):opK P Γ ⟨dst,.makeFunc (.func f) #[] caps,ty,pos,af,gd⟩ e H fr K = putK (.fn f (caps.toList.map (evalD Γ e))) fun d=>K d [] []:=rfl
@[go_sem] theorem opK_call (x:Operand) (args:Array Operand) (ts:Array TypeId):opK P Γ ⟨dst,.call ⟨.value x,args,ts⟩,ty,pos,af,gd⟩ e H fr K = someK (fnD (evalD Γ e x)) fun fc=>callK P Γ fc.1 (fc.2.1++(args.toList.map (evalD Γ e)++fc.2.2)) H K:=by
 simp only [opK]
 cases fnD (evalD Γ e x)
 · rw [someK_none]
 · rw [someK_some]
@[go_sem] theorem effK_call (x:Operand) (args:Array Operand) (ts:Array TypeId) (K:D->List Nat->List (Nat × Blk)->Nat->Prop):effK P Γ ⟨dst,.call ⟨.value x,args,ts⟩,ty,pos,af,gd⟩ e H fr K = someK (fnD (evalD Γ e x)) fun fc=>effC P Γ fc.1 (fc.2.1++(args.toList.map (evalD Γ e)++fc.2.2)) H fr K:=by
 simp only [effK]
 cases fnD (evalD Γ e x)
 · rw [someK_none]
 · rw [someK_some]
@[congr] theorem clearK_congr {n0:Nat} (tk:tick = n0) (t:TypeId) {x x':D} (h:x = x') (H:Nat->Blk) (K:D->List Nat->List (Nat × Blk)->Prop):clearK P t x H K = clearK P t x' H K:=by rw [h]
@[go_sem] theorem opK_clear (x:Operand) (t:TypeId):opK P Γ ⟨dst,.call ⟨.builtin .clear,#[x],#[t]⟩,ty,pos,af,gd⟩ e H fr K = clearK P t (evalD Γ e x) H K:=rfl
@[congr] theorem capK_congr {n0:Nat} (tk:tick = n0) (t:TypeId) {x x':D} (h:x = x') (K:D->Prop):capK P t x K = capK P t x' K:=by rw [h]
@[congr] theorem lenK_congr {n0:Nat} (tk:tick = n0) (t:TypeId) {x x':D} (h:x = x') (K:D->Prop):lenK P t x K = lenK P t x' K:=by rw [h]
@[go_sem] theorem opK_len (x:Operand) (t:TypeId):opK P Γ ⟨dst,.call ⟨.builtin .len,#[x],#[t]⟩,ty,pos,af,gd⟩ e H fr K = lenK P t (evalD Γ e x) fun d=>K d [] []:=rfl
@[go_sem] theorem opK_cap (x:Operand) (t:TypeId):opK P Γ ⟨dst,.call ⟨.builtin .cap,#[x],#[t]⟩,ty,pos,af,gd⟩ e H fr K = capK P t (evalD Γ e x) fun d=>K d [] []:=rfl
@[go_sem] theorem opK_copy (x y:Operand) (t u:TypeId):opK P Γ ⟨dst,.call ⟨.builtin .copy,#[x,y],#[t,u]⟩,ty,pos,af,gd⟩ e H fr K = copyK P t (evalD Γ e x) (evalD Γ e y) H K:=rfl
@[go_sem] theorem opK_append (x y:Operand) (t u:TypeId):opK P Γ ⟨dst,.call ⟨.builtin .append,#[x,y],#[t,u]⟩,ty,pos,af,gd⟩ e H fr K = appendK P t u (evalD Γ e x) (evalD Γ e y) H fr K:=rfl
@[go_sem] theorem opK_min (x y:Operand) (ts:Array TypeId):opK P Γ ⟨dst,.call ⟨.builtin .min,#[x,y],ts⟩,ty,pos,af,gd⟩ e H fr K = minmaxK false [evalD Γ e x,evalD Γ e y] fun d=>K d [] []:=rfl
@[go_sem] theorem opK_max (x y:Operand) (ts:Array TypeId):opK P Γ ⟨dst,.call ⟨.builtin .max,#[x,y],ts⟩,ty,pos,af,gd⟩ e H fr K = minmaxK true [evalD Γ e x,evalD Γ e y] fun d=>K d [] []:=rfl
@[congr] theorem minmaxK_congr {n0:Nat} (tk:tick = n0) (b:Bool) {ds ds':List D} (h:ds = ds') (K:D->Prop):minmaxK b ds K = minmaxK b ds' K:=by rw [h]
@[congr] theorem copyK_congr {n0:Nat} (tk:tick = n0) (t:TypeId) {x x' y y':D} (h:x = x') (h2:y = y') (H:Nat->Blk) (K:D->List Nat->List (Nat × Blk)->Prop):copyK P t x y H K = copyK P t x' y' H K:=by rw [h,h2]
@[congr] theorem appendK_congr {n0:Nat} (tk:tick = n0) (t u:TypeId) {x x' y y':D} (h:x = x') (h2:y = y') (H:Nat->Blk) (fr:Nat) (K:D->List Nat->List (Nat × Blk)->Prop):appendK P t u x y H fr K = appendK P t u x' y' H fr K:=by rw [h,h2]
@[congr] theorem srcK_congr {n0:Nat} (tk:tick = n0) {x x':D} (h:x = x') (es:Nat) (H:Nat->Blk) (K:Nat->List D->List Nat->Prop):srcK x es H K = srcK x' es H K:=by rw [h]
@[go_sem] theorem len_str (t:TypeId) (s:ByteArray) (K:D->Prop):lenK P t (.data (.str s)) K = sideK (strT P t = true) (putK (.data (.int .i64 s.size)) K):=rfl
@[go_sem] theorem len_sl (t:TypeId) (es:Nat) (l:List Data) (K:D->Prop):lenK P t (.data (.sl es l)) K = sideK ((sliceT P t).isSome = true) (putK (.data (.int .i64 l.length)) K):=rfl
@[go_sem] theorem len_ref (t:TypeId) (g o n es:Nat) (K:D->Prop):lenK P t (.ref g o n es) K = sideK ((sliceT P t).isSome = true) (putK (.data (.int .i64 n)) K):=rfl
@[go_sem] theorem len_cut (t:TypeId) (g o n c es:Nat) (K:D->Prop):lenK P t (.cut g o n c es) K = sideK ((sliceT P t).isSome = true) (putK (.data (.int .i64 n)) K):=rfl
@[go_sem] theorem len_ful (t:TypeId) (es:Nat) (l:List Data) (K:D->Prop):lenK P t (.ful es l) K = sideK ((sliceT P t).isSome = true) (putK (.data (.int .i64 l.length)) K):=rfl
@[go_sem] theorem cap_emp (t:TypeId) (es:Nat) (K:D->Prop):capK P t (.emp es) K = sideK ((sliceT P t).isSome = true) (putK (.data (.int .i64 0)) K):=rfl
@[go_sem] theorem len_emp (t:TypeId) (es:Nat) (K:D->Prop):lenK P t (.emp es) K = sideK ((sliceT P t).isSome = true) (putK (.data (.int .i64 0)) K):=rfl
@[go_sem] theorem min_int (k k':IntKind) (a b:Int) (K:D->Prop):minmaxK false [.data (.int k a),.data (.int k' b)] K = sideK (k = k') (putK (.data (.int k (if b < a then b else a))) K):=rfl
@[go_sem] theorem max_int (k k':IntKind) (a b:Int) (K:D->Prop):minmaxK true [.data (.int k a),.data (.int k' b)] K = sideK (k = k') (putK (.data (.int k (if b > a then b else a))) K):=rfl
@[go_sem] theorem src_sl (es es':Nat) (l:List Data) (K:Nat->List D->List Nat->Prop):srcK (.data (.sl es' l)) es H K = sideK (es' = es) (natK l.length fun n=>cellsK ((flat l).map .data) fun cs=>K n cs []):=rfl
@[go_sem] theorem src_emp (es es':Nat) (K:Nat->List D->List Nat->Prop):srcK (.emp es') es H K = K 0 [] []:=rfl
@[go_sem] theorem src_ref (g off len es es':Nat) (K:Nat->List D->List Nat->Prop):srcK (.ref g off len es') es H K = sideK (es' = es) (blkK (H g) fun _ cells=>sideK (off + len * es≤cells.length) (cellsK ((cells.drop off).take (len * es)) fun cs=>K len cs [g])):=by
 unfold srcK sideK blkK cellsK
 simp only
 cases H g <;> rfl
@[go_sem] theorem src_str (s:ByteArray) (es:Nat) (K:Nat->List D->List Nat->Prop):srcK (.data (.str s)) es H K = sideK (es = 1) (natK s.size fun n=>cellsK (s.toList.map fun b=>.data (.int .u8 b.toNat)) fun cs=>K n cs []):=rfl
/-- What is put behind a row. -/
def appK (e xt:TypeId) (es by_ len:Nat) (y:D) (H:Nat->Blk) (K:Nat->List D->List Nat->Prop):Prop :=
 if (intT P xt).isSome then (match y with
  | .data (.int _ n)=>0≤n∧(len + n) * by_≤140737488355328∧len + n≤140737488355328∧zerosK P e n.toNat fun z=>K n.toNat z []
  | _=>False)
  else ((sliceT P xt).isSome || strT P xt) = true∧srcK y es H fun n cs rd=>cs.all D.cell = true∧(len + n) * by_≤140737488355328∧len + n≤140737488355328∧K n cs rd
@[congr] theorem appK_congr {n0:Nat} (tk:tick = n0) (el xt:TypeId) (es by_ len:Nat) {y y':D} (h:y = y') (H:Nat->Blk) (K:Nat->List D->List Nat->Prop):appK P el xt es by_ len y H K = appK P el xt es by_ len y' H K:=by rw [h]
@[go_sem] def appS (el xt:TypeId) (es by_ len:Nat) (y:D) (H:Nat->Blk) (K:Nat->List D->List Nat->Prop):Prop:=sideK ((intT P xt).isSome = false) (sideK (((sliceT P xt).isSome || strT P xt) = true) (srcK y es H fun n cs rd=>sideK (cs.all D.cell = true) (sideK ((len + n) * by_≤140737488355328) (sideK (len + n≤140737488355328) (K n cs rd)))))
theorem appK_src (el xt:TypeId) (es by_ len:Nat) (y:D) (hy:∀ k n,y≠.data (.int k n)) (H:Nat->Blk) (K:Nat->List D->List Nat->Prop):appK P el xt es by_ len y H K = appS P el xt es by_ len y H K:=by
 unfold appK appS sideK
 by_cases h:(intT P xt).isSome
 · simp only [h,if_true]
   cases y with
   | data x=>cases x <;> simp_all
   | _=>simp
 · simp [h]
@[go_sem] theorem appK_sl (el xt:TypeId) (es by_ len:Nat) (es':Nat) (l:List Data) (H:Nat->Blk) (K:Nat->List D->List Nat->Prop):appK P el xt es by_ len (.data (.sl es' l)) H K = appS P el xt es by_ len (.data (.sl es' l)) H K:=appK_src P el xt es by_ len _ (by simp) H K
@[go_sem] theorem appK_ref (el xt:TypeId) (es by_ len:Nat) (g o n s:Nat) (H:Nat->Blk) (K:Nat->List D->List Nat->Prop):appK P el xt es by_ len (.ref g o n s) H K = appS P el xt es by_ len (.ref g o n s) H K:=appK_src P el xt es by_ len _ (by simp) H K
theorem append_empS (t u:TypeId) (es:Nat) (y:D) (hy:∀ k n,y≠.data (.int k n)):appendK P t u (.emp es) y H fr K = someK (sliceT P t) fun el=>someK (szT P el) fun n=>someK (byT P el) fun by_=>sideK (0 < n) (sideK (zlT P el = some n) (appS P el u n by_ 0 y H fun m cs rd=>K (.ref fr 0 m n) rd [(fr,.blk true cs)])):=by
 unfold appendK someK sideK appS sideK
 simp only
 cases sliceT P t <;> simp only
 rename_i el
 cases szT P el <;> simp only
 cases byT P el <;> simp only
 by_cases h:(intT P u).isSome
 · simp only [h,if_true]
   cases y with
   | data x=>cases x <;> simp_all
   | _=>simp
 · simp [h]
@[go_sem] theorem append_emp_sl (t u:TypeId) (es es':Nat) (l:List Data):appendK P t u (.emp es) (.data (.sl es' l)) H fr K = someK (sliceT P t) fun el=>someK (szT P el) fun n=>someK (byT P el) fun by_=>sideK (0 < n) (sideK (zlT P el = some n) (appS P el u n by_ 0 (.data (.sl es' l)) H fun m cs rd=>K (.ref fr 0 m n) rd [(fr,.blk true cs)])):=append_empS P H fr K t u es _ (by simp)
@[go_sem] theorem append_ref (t u:TypeId) (g len es:Nat) (y:D):appendK P t u (.ref g 0 len es) y H fr K = someK (sliceT P t) fun el=>someK (szT P el) fun n=>someK (byT P el) fun by_=>sideK (0 < n) (sideK (zlT P el = some n) (sideK (es = n) (blkK (H g) fun rw cells=>ifW rw (sideK (cells.length = len * n) (appK P el u n by_ len y H fun m cs rd=>cellsK (cells++cs) fun nc=>K (.ref fr 0 (len + m) n) (g :: rd) [(g,.dead),(fr,.blk true nc)])) False))):=by
 unfold appendK someK sideK appK blkK ifW cellsK
 simp only
 cases sliceT P t <;> simp only
 rename_i el
 cases szT P el <;> simp only
 cases byT P el <;> simp only
 cases H g with
 | dead=>rfl
 | obj o=>rfl
 | blk rw cells =>
   cases rw
   · rfl
   · simp only
     by_cases h:(intT P u).isSome
     · simp only [h,if_true]
       cases y with
       | data x=>cases x <;> rfl
       | _=>rfl
     · simp [h]
end
@[go_sem] theorem dcK_eq (dst:Option Nat) (ty:TypeId) (pos:String) (af:Array Edge) (gd:Option (Nat × Bool)) (e:Nat->D) (H:Nat->Blk) (nx:Nat) (K:D->(Nat->Blk)->Nat->Prop) (x:Operand) (args:Array Operand) (ts:Array TypeId) :
 dcK P Γ ⟨dst,.call ⟨.value x,args,ts⟩,ty,pos,af,gd⟩ e H nx K = someK (fnD (evalD Γ e x)) fun fc=>DC P Γ fc.1 (fc.2.1++(args.toList.map (evalD Γ e)++fc.2.2)) H nx K:=by
 unfold dcK someK
 simp only
 cases fnD (evalD Γ e x) <;> rfl
@[go_sem] theorem fnD_data (f:FuncId) (c:List Data):fnD (.data (.fn f c)) = some (f,[],c.map toD):=rfl
@[go_sem] theorem fnD_bnd (f:FuncId) (r:D):fnD (.bnd f r) = some (f,[r],[]):=rfl
@[go_sem] theorem fnD_fn (f:FuncId) (c:List D):fnD (.fn f c) = some (f,[],c):=rfl
variable {P Γ}
/-- A call whose arguments are plain data. -/
theorem call_data {f:FuncId} {ds:List D} {xs:List Data} {r:Data} {H:Nat->Blk} {K:D->List Nat->List (Nat × Blk)->Prop} (h:PC P Γ f xs r) (hd:ds = xs.map toD) (k:K (.data r) [] []):callK P Γ f ds H K:=by
 subst hd
 refine ⟨[],xs,r,[],(fun g hg=>by cases hg),h,.inr fun H' _=>?_,k⟩
 refine ⟨by simp,fun i d x hd hx=>?_⟩
 rw [List.getElem?_map,hx] at hd
 cases hd
 cases x with
 | pc c=>exact .cptr c
 | _=>exact .data _
/-- A call that keeps rows of the caller's: nobody writes them from there on. -/
theorem call_frz {f:FuncId} {ds:List D} {H:Nat->Blk} {K:D->List Nat->List (Nat × Blk)->Prop} (F rd:List Nat) {xs:List Data} {r:Data} (hF:∀ g∈F,∃ rw cells,H g = .blk rw cells) (h:PC P Γ f xs r) (hf:∀ H',(∀ g∈rd,H' g = H g)->FrzL false (Hp.upd H' (F.map fun g=>(g,fz (H g)))) ds xs) (k:K (.data r) rd (F.map fun g=>(g,fz (H g)))):callK P Γ f ds H K :=
 ⟨F,xs,r,rd,hF,h,.inr hf,k⟩
end
/-- Behind a loop's round: a state of the family,nearer to the end. -/
def NextW {σ:Type} (st:σ->St) (μ:σ->Nat) (x:σ) (s:St):Prop:=∃ y,WeakX s (st y)∧μ y < μ x
@[congr] theorem NextW_congr {n0:Nat} (tk:tick = n0) {σ:Type} (st:σ->St) (μ:σ->Nat) (x:σ) (s:St):NextW st μ x s = NextW st μ x s:=rfl
theorem next_of {σ:Type} {st:σ->St} {μ:σ->Nat} {x:σ} {s:St} (y:σ) (h:Weak s (st y)) (hm:μ y < μ x):NextW st μ x s:=⟨y,.inl h,hm⟩
theorem next_ren {σ:Type} {st:σ->St} {μ:σ->Nat} {x:σ} {s:St} (y:σ) (hm:μ y < μ x) (F:List Nat) (ρ:Nat->Option Nat) (h:WeakR F ρ s (st y)):NextW st μ x s:=⟨y,.inr ⟨F,ρ,h⟩,hm⟩
theorem loop_of {body:(Exit->St->Prop)->St->Prop} {Q:Exit->St->Prop} {s:St} {σ:Type} (st:σ->St) (μ:σ->Nat) (x0:σ) (h0:Weak s (st x0)) (h:∀ x,body (thenW (NextW st μ x) Q) (st x)):LoopW body Q s:=⟨σ,st,μ,x0,.inl h0,h⟩
theorem loop_ren {body:(Exit->St->Prop)->St->Prop} {Q:Exit->St->Prop} {s:St} {σ:Type} (st:σ->St) (μ:σ->Nat) (x0:σ) (F:List Nat) (ρ:Nat->Option Nat) (h0:WeakR F ρ s (st x0)) (h:∀ x,body (thenW (NextW st μ x) Q) (st x)):LoopW body Q s:=⟨σ,st,μ,x0,.inr ⟨F,ρ,h0⟩,h⟩
def startK (ds:List D) (n:Nat) (K:List D->Nat->Prop):Prop:=K ds n
@[congr] theorem startK_congr {n0:Nat} (tk:tick = n0) {ds ds':List D} (h:ds = ds') {n n':Nat} (h2:n = n') (K:List D->Nat->Prop):startK ds n K = startK ds' n' K:=by rw [h,h2]
@[go_sem] theorem startK_eq (ds:List D) (n:Nat) (K:List D->Nat->Prop):startK ds n K = K ds n:=rfl
section
variable {P:Program} {Γ:Nat->Option (List Data)}
theorem pc_by (hm:P.follows .mixedOrders = true) {f:FuncId} {fn:Func} {c:Code} {xs:List Data} {r:Data} (hf:P.funcs[f]? = some fn) (hb:fn.body = some c) (hc:CallOk P f)
 (h:startK (xs.map toD) (xs.length + (fn.ntmps - xs.length)) fun ds n=>wpF P Γ c (retQ P fn r) ⟨envArgs ds,fun _=>.dead,0,0,n⟩):PC P Γ f xs r:=pc_of hm hf hb hc h
end
/-- A pointer to a row of the call's own,for as long as nobody writes it. -/
theorem frz_ptr {ok:Bool} {H:Nat->Blk} {g:Nat} {l:List Data} {rw:Bool} (hg:H g = .blk rw (l.map .data)) (hrw:ok = true ∨ rw = false):Frz ok H (.ptr g 0) (.pc l) :=
 .ptr g 0 rw _ l (fun i=>.data (l.getD i .nilp)) hg hrw (fun i x hx=>by simp [hx]) fun i x hx=>by
  have:l.getD i .nilp = x:=by simp [hx]
  rw [this];exact .data x
theorem frzL_c {ok:Bool} {H:Nat->Blk} {d:D} {x:Data} {ds:List D} {xs:List Data} (h:Frz ok H d x) (t:FrzL ok H ds xs):FrzL ok H (d :: ds) (x :: xs):=(frzL_cons ok H d ds (x :: xs)).2 ⟨x,xs,rfl,h,t⟩
theorem frzL_n {ok:Bool} {H:Nat->Blk}:FrzL ok H [] []:=(frzL_nil ok H []).2 rfl
/-- Slots by a list. -/
def envL:List (Nat × D)->Nat->D
 | [],_=>.junk
 | (k,d) :: l,t=>if t = k then d else envL l t
def hpL:List (Nat × Blk)->Nat->Blk
 | [],_=>.dead
 | (k,d) :: l,t=>if t = k then d else hpL l t
@[go_sem] theorem envL_nil (t:Nat):envL [] t = .junk:=rfl
@[go_sem] theorem envL_cons (k:Nat) (d:D) (l:List (Nat × D)) (t:Nat):envL ((k,d) :: l) t = if t = k then d else envL l t:=rfl
@[go_sem] theorem hpL_nil (t:Nat):hpL [] t = .dead:=rfl
@[go_sem] theorem hpL_cons (k:Nat) (d:Blk) (l:List (Nat × Blk)) (t:Nat):hpL ((k,d) :: l) t = if t = k then d else hpL l t:=rfl
/-- All that it holds lies below a number. -/
def below (k:Nat):D->Bool
 | .ref g _ _ _=>decide (g < k)
 | .ptr g _=>decide (g < k)
 | .cut g _ _ _ _=>decide (g < k)
 | .mref g=>decide (g < k)
 | .iref g=>decide (g < k)
 | .agg cs=>allBelow k cs
 | .fn _ cs=>allBelow k cs
 | .bnd _ r=>below k r
 | .tp cs=>allBelow k cs
 | _=>true
where allBelow (k:Nat):List D->Bool
 | []=>true
 | d :: l=>below k d && allBelow k l
mutual
theorem scoped_of {k:Nat}:∀ {d:D},below k d = true->Scoped k d
 | .ref g o n s,h=>.ref g o n s (by simpa [below] using h)
 | .ptr g o,h=>.ptr g o (by simpa [below] using h)
 | .cut g o n c s,h=>.cut g o n c s (by simpa [below] using h)
 | .mref g,h=>.mref g (by simpa [below] using h)
 | .iref g,h=>.iref g (by simpa [below] using h)
 | .agg cs,h=>.agg cs (scoped_all (by simpa [below] using h))
 | .fn f cs,h=>.fn f cs (scoped_all (by simpa [below] using h))
 | .bnd f r,h=>.bnd f r (scoped_of (by simpa [below] using h))
 | .tp cs,h=>.tp cs (scoped_all (by simpa [below] using h))
 | .data x,_=>.data x
 | .emp n,_=>.emp n
 | .cptr c,_=>.cptr c
 | .yld l,_=>.yld l
 | .ful n l,_=>.ful n l
 | .junk,_=>.junk
theorem scoped_all {k:Nat}:∀ {l:List D},below.allBelow k l = true->∀ (i:Nat) (x:D),l[i]? = some x->Scoped k x
 | d :: l,h,0,x,hx=>by
   simp only [below.allBelow,Bool.and_eq_true] at h
   simp only [List.getElem?_cons_zero,Option.some.injEq] at hx
   subst hx
   exact scoped_of h.1
 | d :: l,h,i + 1,x,hx=>by
   simp only [below.allBelow,Bool.and_eq_true] at h
   exact scoped_all h.2 i x (by simpa using hx)
end
@[go_sem] theorem below_data (k:Nat) (x:Data):below k (.data x) = true:=rfl
@[go_sem] theorem below_ref (k g o n s:Nat):below k (.ref g o n s) = decide (g < k):=rfl
@[go_sem] theorem below_ptr (k g o:Nat):below k (.ptr g o) = decide (g < k):=rfl
@[go_sem] theorem below_cut (k g o n c s:Nat):below k (.cut g o n c s) = decide (g < k):=rfl
@[go_sem] theorem below_mref (k g:Nat):below k (.mref g) = decide (g < k):=rfl
@[go_sem] theorem below_iref (k g:Nat):below k (.iref g) = decide (g < k):=rfl
@[go_sem] theorem below_emp (k n:Nat):below k (.emp n) = true:=rfl
@[go_sem] theorem below_cptr (k:Nat) (c:List Data):below k (.cptr c) = true:=rfl
@[go_sem] theorem below_fn (k:Nat) (f:FuncId) (c:List D):below k (.fn f c) = below.allBelow k c:=rfl
@[go_sem] theorem below_bnd (k:Nat) (f:FuncId) (r:D):below k (.bnd f r) = below k r:=rfl
@[go_sem] theorem below_yld (k l:Nat):below k (.yld l) = true:=rfl
@[go_sem] theorem below_ful (k n:Nat) (l:List Data):below k (.ful n l) = true:=rfl
@[go_sem] theorem below_tp (k:Nat) (c:List D):below k (.tp c) = below.allBelow k c:=rfl
@[go_sem] theorem below_agg (k:Nat) (c:List D):below k (.agg c) = below.allBelow k c:=rfl
@[go_sem] theorem allBelow_nil (k:Nat):below.allBelow k [] = true:=rfl
@[go_sem] theorem allBelow_cons (k:Nat) (d:D) (l:List D):below.allBelow k (d :: l) = (below k d && below.allBelow k l):=rfl
@[go_sem] def blkBelow (k:Nat):Blk->Bool
 | .blk _ cells=>below.allBelow k cells
 | .obj (.mp _ xs)=>below.allBelow k xs
 | .obj (.it _ _ _ _)=>true
 | .obj (.si _ _)=>true
 | .dead=>true
theorem weak_lists {e:Nat->D} {H:Nat->Blk} {nx lo nt:Nat} (L:List (Nat × D)) (M:List (Nat × Blk)) (n:Nat) (hL:∀ p∈L,e p.1 = p.2) (hM:∀ p∈M,H p.1 = p.2) (hn:n≤nx) (hlo:lo≤n) (hs:∀ p∈L,below n p.2 = true) (hb:∀ p∈M,p.1 < n∧blkBelow n p.2 = true) :
 Weak ⟨e,H,nx,lo,nt⟩ ⟨envL L,hpL M,n,lo,nt⟩:=by
 have env:∀ (L:List (Nat × D)),(∀ p∈L,e p.1 = p.2)->∀ t,envL L t = .junk ∨ (envL L t = e t∧(t,e t)∈L):=by
  intro L
  induction L with
  | nil=>exact fun _ t=>.inl rfl
  | cons p L ih =>
    intro h t
    obtain ⟨k,d⟩:=p
    by_cases ht:t = k
    · subst ht
      have:=h (t,d) (by simp)
      simp only at this
      exact .inr ⟨by simp [envL,this],by simp [this]⟩
    · rcases ih (fun p hp=>h p (by simp [hp])) t with q | q
      · exact .inl (by simp [envL,ht,q])
      · exact .inr ⟨by simp [envL,ht,q.1],by simp [q.2]⟩
 have hps:∀ (M:List (Nat × Blk)),(∀ p∈M,H p.1 = p.2)->∀ t,hpL M t = .dead ∨ (hpL M t = H t∧(t,H t)∈M):=by
  intro M
  induction M with
  | nil=>exact fun _ t=>.inl rfl
  | cons p M ih =>
    intro h t
    obtain ⟨k,d⟩:=p
    by_cases ht:t = k
    · subst ht
      have:=h (t,d) (by simp)
      simp only at this
      exact .inr ⟨by simp [hpL,this],by simp [this]⟩
    · rcases ih (fun p hp=>h p (by simp [hp])) t with q | q
      · exact .inl (by simp [hpL,ht,q])
      · exact .inr ⟨by simp [hpL,ht,q.1],by simp [q.2]⟩
 refine ⟨fun t=>?_,fun g=>?_,hn,rfl,hlo,rfl,fun g hg=>?_,.inr ⟨fun t=>?_,fun g rw cells hg d hd=>?_,fun g o hg=>?_⟩⟩
 · rcases env L hL t with q | q
   · exact .inr q
   · exact .inl q.1
 · rcases hps M hM g with q | q
   · exact .inr q
   · exact .inl q.1
 · rcases hps M hM g with q | q
   · exact q
   · have:=(hb _ q.2).1
     simp only at this hg
     omega
 · rcases env L hL t with q | q
   · simp only [q];exact .junk
   · simp only [q.1];exact scoped_of (hs _ q.2)
 · rcases hps M hM g with q | q
   · simp only [q] at hg;cases hg
   · have h2:=(hb _ q.2).2
     simp only [q.1] at hg
     simp only [hg,blkBelow] at h2
     obtain ⟨i,hi⟩:=List.getElem?_of_mem hd
     exact scoped_all h2 i d hi
 · rcases hps M hM g with q | q
   · simp only [q] at hg;cases hg
   · have h2:=(hb _ q.2).2
     simp only [q.1] at hg
     simp only [hg] at h2
     cases o with
     | it=>trivial
     | si=>trivial
     | mp ks xs =>
       intro d hd
       obtain ⟨i,hi⟩:=List.getElem?_of_mem hd
       exact scoped_all h2 i d hi
/-- New numbers by a list. -/
def rhoL:List (Nat × Option Nat)->Nat->Option Nat
 | [],g=>some g
 | (k,o) :: l,g=>if g = k then o else rhoL l g
@[go_sem] theorem rhoL_nil (g:Nat):rhoL [] g = some g:=rfl
@[go_sem] theorem rhoL_cons (k:Nat) (o:Option Nat) (l:List (Nat × Option Nat)) (g:Nat):rhoL ((k,o) :: l) g = if g = k then o else rhoL l g:=rfl
@[go_sem] theorem fzH_eq (H:Nat->Blk) (F:List Nat) (g:Nat):fzH H F g = if g∈F then fz (H g) else H g:=rfl
section
variable {n:Nat} {ρ:Nat->Option Nat} {H:Nat->Blk}
def RenCells (n:Nat) (ρ:Nat->Option Nat) (H:Nat->Blk) (cs ds:List D):Prop:=cs.length≤ds.length∧∀ (i:Nat) (c d:D),cs[i]? = some c->ds[i]? = some d->Ren n ρ H c d
@[go_sem] theorem renCells_nil (ds:List D):RenCells n ρ H [] ds ↔ True:=iff_true_intro ⟨by simp,fun i c d h=>by simp at h⟩
@[go_sem] theorem renCells_cons (c d:D) (cs ds:List D):RenCells n ρ H (c :: cs) (d :: ds) ↔ Ren n ρ H c d∧RenCells n ρ H cs ds:=by
 constructor
 · rintro ⟨h1,h2⟩
   exact ⟨h2 0 c d rfl rfl,by simpa using h1,fun i c' d' hc hd=>h2 (i + 1) c' d' (by simpa using hc) (by simpa using hd)⟩
 · rintro ⟨h1,h2,h3⟩
   refine ⟨by simpa using h2,fun i c' d' hc hd=>?_⟩
   match i with
   | 0=>simp at hc hd;subst hc;subst hd;exact h1
   | i + 1=>exact h3 i c' d' (by simpa using hc) (by simpa using hd)
theorem renCells_datas {cs:List D} (h:∀ c∈cs,∃ x,c = .data x):RenCells n ρ H cs cs:=⟨Nat.le_refl _,fun i c d hc hd=>by
 rw [hc] at hd;cases hd
 obtain ⟨x,rfl⟩:=h c (List.mem_of_getElem? hc)
 exact .data x⟩
theorem renCells_eq {l m:List Data} (h:l = m):RenCells n ρ H (l.map D.data) (m.map D.data):=by
 subst h
 exact renCells_datas fun c hc=>by obtain ⟨x,_,rfl⟩:=List.mem_map.1 hc;exact ⟨x,rfl⟩
@[go_sem] theorem renCells_map (l:List Data):RenCells n ρ H (l.map D.data) (l.map D.data) ↔ True:=iff_true_intro (renCells_eq rfl)
@[go_sem] theorem ren_data (x y:Data):Ren n ρ H (.data x) (.data y) ↔ x = y:=by
 constructor
 · intro h
   cases h with
   | data=>rfl
   | frz _ _ h=>cases h;rfl
 · rintro rfl;exact .data x
@[go_sem] theorem ren_ref (g off len es o off' len' es':Nat):Ren n ρ H (.ref g off len es) (.ref o off' len' es') ↔ g < n∧ρ g = some o∧off = off'∧len = len'∧es = es':=by
 constructor
 · intro h
   cases h with
   | ref _ _ _ _ _ h1 h2=>exact ⟨h1,h2,rfl,rfl,rfl⟩
 · rintro ⟨h1,h2,rfl,rfl,rfl⟩;exact .ref _ _ _ _ _ h1 h2
@[go_sem] theorem ren_refnil (g off len es es':Nat):Ren n ρ H (.ref g off len es) (.emp es') ↔ g < n∧ρ g = none∧off = 0∧len = 0:=by
 constructor
 · intro h
   cases h with
   | nil _ _ _ h1 h2=>exact ⟨h1,h2,rfl,rfl⟩
 · rintro ⟨h1,h2,rfl,rfl⟩;exact .nil _ _ _ h1 h2
@[go_sem] theorem ren_ptr (g off o off':Nat):Ren n ρ H (.ptr g off) (.ptr o off') ↔ g < n∧ρ g = some o∧off = off':=by
 constructor
 · intro h
   cases h with
   | ptr _ _ _ h1 h2=>exact ⟨h1,h2,rfl⟩
 · rintro ⟨h1,h2,rfl⟩;exact .ptr _ _ _ h1 h2
@[go_sem] theorem ren_emp (a b:Nat):Ren n ρ H (.emp a) (.emp b) ↔ True:=iff_true_intro (.emp a b)
end
/-- A row under its new number. -/
def RenK (n:Nat) (R:List (Nat × Option Nat)) (H:Nat->Blk) (rw:Bool) (cells:List D):Blk->Prop
 | .dead=>False
 | .obj _=>False
 | .blk rw' cells'=>rw = rw'∧RenCells n (rhoL R) H cells cells'
def RenO (n:Nat) (R:List (Nat × Option Nat)) (H:Nat->Blk) (rw:Bool) (cells:List D):Option Nat->Prop
 | some o=>RenK n R H rw cells (H o)
 | none=>cells = []
def RenS (n:Nat) (R:List (Nat × Option Nat)) (H:Nat->Blk) (o2:Ob):Blk->Prop
 | .obj o1=>RenOb n (rhoL R) H o2 o1
 | _=>False
def RenP (n:Nat) (R:List (Nat × Option Nat)) (H:Nat->Blk) (o2:Ob):Option Nat->Prop
 | some o=>RenS n R H o2 (H o)
 | none=>False
def RenB (n:Nat) (R:List (Nat × Option Nat)) (H:Nat->Blk) (g:Nat):Blk->Prop
 | .dead=>True
 | .blk rw cells=>g < n∧RenO n R H rw cells (rhoL R g)
 | .obj o=>g < n∧RenP n R H o (rhoL R g)
@[go_sem] theorem renB_obj (n:Nat) (R:List (Nat × Option Nat)) (H:Nat->Blk) (g:Nat) (o:Ob):RenB n R H g (.obj o) ↔ g < n∧RenP n R H o (rhoL R g):=Iff.rfl
@[go_sem] theorem renP_some (n:Nat) (R:List (Nat × Option Nat)) (H:Nat->Blk) (o2:Ob) (o:Nat):RenP n R H o2 (some o) ↔ RenS n R H o2 (H o):=Iff.rfl
@[go_sem] theorem renK_blk (n:Nat) (R:List (Nat × Option Nat)) (H:Nat->Blk) (rw:Bool) (cells:List D) (rw':Bool) (cells':List D):RenK n R H rw cells (.blk rw' cells') ↔ rw = rw'∧RenCells n (rhoL R) H cells cells':=Iff.rfl
@[go_sem] theorem renO_some (n:Nat) (R:List (Nat × Option Nat)) (H:Nat->Blk) (rw:Bool) (cells:List D) (o:Nat):RenO n R H rw cells (some o) ↔ RenK n R H rw cells (H o):=Iff.rfl
@[go_sem] theorem renO_none (n:Nat) (R:List (Nat × Option Nat)) (H:Nat->Blk) (rw:Bool) (cells:List D):RenO n R H rw cells none ↔ cells = []:=Iff.rfl
@[go_sem] theorem renB_dead (n:Nat) (R:List (Nat × Option Nat)) (H:Nat->Blk) (g:Nat):RenB n R H g .dead ↔ True:=Iff.rfl
@[go_sem] theorem renB_blk (n:Nat) (R:List (Nat × Option Nat)) (H:Nat->Blk) (g:Nat) (rw:Bool) (cells:List D):RenB n R H g (.blk rw cells) ↔ g < n∧RenO n R H rw cells (rhoL R g):=Iff.rfl
theorem nodup_inj {α:Type} (f:α->Option Nat) (k:α->Nat):∀ l:List α,(l.filterMap f).Nodup->∀ p∈l,∀ q∈l,∀ o,f p = some o->f q = some o->k p = k q
 | [],_,p,hp,_,_,_,_,_=>by simp at hp
 | a :: l,h,p,hp,q,hq,o,e1,e2=>by
   have ht:(l.filterMap f).Nodup:=by
    rw [List.filterMap_cons] at h
    split at h
    · exact h
    · exact (List.nodup_cons.1 h).2
   have hn:∀ x∈l,f a = some o->f x = some o->False:=fun x hx ea ex=>by
    rw [List.filterMap_cons_some ea] at h
    exact (List.nodup_cons.1 h).1 (List.mem_filterMap.2 ⟨x,hx,ex⟩)
   rcases List.mem_cons.1 hp with ep | hp <;> rcases List.mem_cons.1 hq with eq | hq
   · rw [ep,eq]
   · rw [ep] at e1;exact (hn q hq e1 e2).elim
   · rw [eq] at e2;exact (hn p hp e2 e1).elim
   · exact nodup_inj f k l ht p hp q hq o e1 e2
theorem ren_lists {e:Nat->D} {H:Nat->Blk} {nx lo nt:Nat} {F:List Nat} (R:List (Nat × Option Nat)) (L:List (Nat × D)) (M:List (Nat × Blk)) (n:Nat) (hL:∀ p∈L,Ren n (rhoL R) (fzH H F) p.2 (e p.1)) (hM:∀ p∈M,RenB n R (fzH H F) p.1 p.2)
 (hi:(M.filterMap fun p=>rhoL R p.1).Nodup) (hlo:lo≤n) (hf:∀ p∈R,lo≤p.1) :
 WeakR F (rhoL R) ⟨e,H,nx,lo,nt⟩ ⟨envL L,hpL M,n,lo,nt⟩:=by
 have env:∀ (L:List (Nat × D)),(∀ p∈L,Ren n (rhoL R) (fzH H F) p.2 (e p.1))->∀ t,Ren n (rhoL R) (fzH H F) (envL L t) (e t):=by
  intro L
  induction L with
  | nil=>exact fun _ t=>.junk _
  | cons p L ih =>
    intro h t
    obtain ⟨k,d⟩:=p
    by_cases ht:t = k
    · subst ht
      have:=h (t,d) (by simp)
      simpa [envL] using this
    · simp only [envL,ht,if_false]
      exact ih (fun p hp=>h p (by simp [hp])) t
 have blk:∀ (M:List (Nat × Blk)) (g:Nat) (b:Blk),hpL M g = b->b = .dead ∨ (g,b)∈M:=by
  intro M
  induction M with
  | nil=>intro g b h;exact .inl h.symm
  | cons p M ih =>
    intro g b h
    obtain ⟨k,d⟩:=p
    by_cases hg:g = k
    · subst hg
      simp only [hpL,if_true] at h
      subst h
      exact .inr (by simp)
    · simp only [hpL,hg,if_false] at h
      rcases ih g b h with h | h
      · exact .inl h
      · exact .inr (by simp [h])
 have fix:∀ (R:List (Nat × Option Nat)),(∀ p∈R,lo≤p.1)->∀ g,g < lo->rhoL R g = some g:=by
  intro R
  induction R with
  | nil=>exact fun _ g _=>rfl
  | cons p R ih =>
    intro h g hg
    obtain ⟨k,o⟩:=p
    have:=h (k,o) (by simp)
    simp only [rhoL,show ¬ g = k by simp only at this;omega,if_false]
    exact ih (fun p hp=>h p (by simp [hp])) g hg
 refine ⟨env L hL,fun g rw cells hg=>?_,fun g g' o cells rw cells' hg hg' ho ho'=>?_,fun g o2 hg=>?_,fun g g' o p p' hg hg' ho ho'=>?_,rfl,hlo,fun g hg=>fix R hf g hg,rfl⟩
 rotate_left 2
 · rcases blk M g _ hg with h | h
   · cases h
   · obtain ⟨h1,h2⟩:=hM _ h
     refine ⟨h1,?_⟩
     simp only at h2
     cases ho:rhoL R g with
     | some o =>
       rw [ho] at h2
       have h3:RenS n R (fzH H F) o2 (fzH H F o):=h2
       cases hb:fzH H F o with
       | dead=>rw [hb] at h3;exact h3.elim
       | blk=>rw [hb] at h3;exact h3.elim
       | obj o1 =>
         rw [hb] at h3
         refine ⟨o,o1,rfl,?_,h3⟩
         show H o = .obj o1
         unfold fzH at hb
         split at hb
         · cases hH:H o with
           | dead=>rw [hH] at hb;cases hb
           | blk=>rw [hH] at hb;cases hb
           | obj o3=>rw [hH] at hb;exact hb
         · exact hb
     | none=>rw [ho] at h2;exact h2.elim
 · rcases blk M g _ hg with h | h
   · cases h
   · rcases blk M g' _ hg' with h' | h'
     · cases h'
     · exact nodup_inj (fun p:Nat × Blk=>rhoL R p.1) (fun p=>p.1) M hi _ h _ h' o ho ho'
 · rcases blk M g _ hg with h | h
   · cases h
   · obtain ⟨h1,h2⟩:=hM _ h
     refine ⟨h1,?_⟩
     simp only at h2
     cases ho:rhoL R g with
     | some o =>
       rw [ho] at h2
       have h3:RenK n R (fzH H F) rw cells (fzH H F o):=h2
       cases hb:fzH H F o with
       | dead=>rw [hb] at h3;exact h3.elim
       | obj o=>rw [hb] at h3;exact h3.elim
       | blk rw' cells' =>
         rw [hb] at h3
         obtain ⟨rfl,h4,h5⟩:=h3
         exact .inl ⟨o,cells',rfl,hb,h4,h5⟩
     | none=>rw [ho] at h2;exact .inr ⟨rfl,h2⟩
 · rcases blk M g _ hg with h | h
   · cases h
   · rcases blk M g' _ hg' with h' | h'
     · cases h'
     · exact nodup_inj (fun p:Nat × Blk=>rhoL R p.1) (fun p=>p.1) M hi _ h _ h' o ho ho'
mutual
/-- Numbers moved up. -/
def shD (n:Nat):D->D
 | .ref g off len es=>.ref (g + n) off len es
 | .ptr g off=>.ptr (g + n) off
 | .cut g off len cp es=>.cut (g + n) off len cp es
 | .mref g=>.mref (g + n)
 | .iref g=>.iref (g + n)
 | .agg cs=>.agg (shL n cs)
 | .fn f caps=>.fn f (shL n caps)
 | .bnd f r=>.bnd f (shD n r)
 | .tp cs=>.tp (shL n cs)
 | .data x=>.data x
 | .emp es=>.emp es
 | .cptr cells=>.cptr cells
 | .yld l=>.yld l
 | .ful n l=>.ful n l
 | .junk=>.junk
def shL (n:Nat):List D->List D
 | []=>[]
 | d :: ds=>shD n d :: shL n ds
end
def shB (n:Nat):Blk->Blk
 | .dead=>.dead
 | .blk rw cells=>.blk rw (shL n cells)
 | .obj (.mp ks xs)=>.obj (.mp ks (shL n xs))
 | .obj o=>.obj o
@[go_sem] theorem shB_mp (n:Nat) (ks:List Data) (xs:List D):shB n (.obj (.mp ks xs)) = .obj (.mp ks (shL n xs)):=rfl
@[go_sem] theorem shB_it (n:Nat) (ks xs:List Data) (l:List Nat) (c:Option Nat):shB n (.obj (.it ks xs l c)) = .obj (.it ks xs l c):=rfl
@[go_sem] theorem shB_si (n:Nat) (s:ByteArray) (p:Nat):shB n (.obj (.si s p)) = .obj (.si s p):=rfl
@[go_sem] theorem shB_blk (n:Nat) (rw:Bool) (cells:List D):shB n (.blk rw cells) = .blk rw (shL n cells):=rfl
@[go_sem] theorem shB_dead (n:Nat):shB n .dead = .dead:=rfl
/-- The caller's rows,and above them those handed back. -/
def ownH (nx:Nat) (H:Nat->Blk) (M:List (Nat × Blk)):Nat->Blk:=fun g=>if g < nx then H g else shB nx (hpL M (g - nx))
@[go_sem] theorem ownH_eq (nx:Nat) (H:Nat->Blk) (M:List (Nat × Blk)) (g:Nat):ownH nx H M g = if g < nx then H g else shB nx (hpL M (g - nx)):=rfl
section
variable {P:Program} {Γ:Nat->Option (List Data)} {L0:Nat->Prop} {w0:W0}
/-- What a function hands back of its own. -/
def retOQ (P:Program) (fn:Func) (d:D) (M:List (Nat × Blk)) (k:Nat):Exit->St->Prop
 | .normal,s | .ret,s=>resK P fn.results.toList s fun ds=>∃ d0 F R,tupDD ds = some d0∧WeakR F (rhoL R) ⟨envL [(0,d0)],s.hp,s.nx,0,1⟩ ⟨envL [(0,d)],hpL M,k,0,1⟩
 | _,_=>False
@[congr] theorem retOQ_congr {n0:Nat} (tk:tick = n0) (P:Program) (fn:Func) (d:D) (M:List (Nat × Blk)) (k:Nat) (e:Exit) (s:St):retOQ P fn d M k e s = retOQ P fn d M k e s:=rfl
/-- The result,and the rows that it takes with it. -/
def ownK (H:Nat->Blk) (nx:Nat) (d:D) (M:List (Nat × Blk)) (k:Nat) (ds:List D):Prop:=∃ d0 F R,tupDD ds = some d0∧WeakR F (rhoL R) ⟨envL [(0,d0)],H,nx,0,1⟩ ⟨envL [(0,d)],hpL M,k,0,1⟩
@[congr] theorem ownK_congr {n0:Nat} (tk:tick = n0) (H:Nat->Blk) (nx:Nat) (d:D) (M:List (Nat × Blk)) (k:Nat) {ds ds':List D} (h:ds = ds'):ownK H nx d M k ds = ownK H nx d M k ds':=by rw [h]
@[go_sem] theorem retOQ_ret (fn:Func) (d:D) (M:List (Nat × Blk)) (k:Nat) (s:St):retOQ P fn d M k .ret s = resK P fn.results.toList s fun ds=>ownK s.hp s.nx d M k ds:=rfl
@[go_sem] theorem retOQ_normal (fn:Func) (d:D) (M:List (Nat × Blk)) (k:Nat) (s:St):retOQ P fn d M k .normal s = resK P fn.results.toList s fun ds=>ownK s.hp s.nx d M k ds:=rfl
end
@[go_sem] theorem ren_yld {n:Nat} {ρ:Nat->Option Nat} {H:Nat->Blk} (l l':Nat):Ren n ρ H (.yld l) (.yld l') ↔ l = l':=by
 constructor
 · intro h;cases h;rfl
 · rintro rfl;exact .yld l
@[go_sem] theorem coe_tp (P:Program) (t:TypeId) (cs:List D):coe P t (.tp cs) = .tp cs:=rfl
@[go_sem] theorem coe_yld (P:Program) (t:TypeId) (l:Nat):coe P t (.yld l) = .yld l:=rfl
/-- An element of a type,out of its cells. -/
def mkE (P:Program) (t:TypeId) (ds:List Data):Data:=match P.underlying t with
 | some (.struct _) | some (.array _ _)=>.agg ds
 | _=>ds.headD .nilp
/-- Types that are read as plain data. -/
def suppF (P:Program) (s:TypeId->Bool):Nat->List Field->Option Nat
 | o,[]=>some o
 | o,f :: fs=>if f.offset = o∧s f.type = true then suppF P s (o + P.cellsOf f.type) fs else none
def supp (P:Program):Nat->TypeId->Bool
 | 0,_=>false
 | n + 1,t=>match P.underlying t with
   | some .bool | some .string=>true
   | some (.int _)=>true
   | some (.slice e)=>supp P n e && decide (0 < P.cellsOf e) && decide (0 < P.bytesOf e)
   | some (.struct fs)=>suppF P (supp P n) 0 fs.toList == some (P.cellsOf t)
   | some (.array m e)=>supp P n e && decide (P.cellsOf t = m * P.cellsOf e)
   | _=>false
/-- The cells that a reading tells. -/
def dDF {H:Type} (r:TypeId->DataW H->List Data):List Field->List (DataW H)->List Data
 | f :: fs,d :: ds=>r f.type d++dDF r fs ds
 | _,_=>[]
def dD {H:Type} (P:Program):Nat->TypeId->DataW H->List Data
 | 0,_,_=>[]
 | n + 1,t,d=>match P.underlying t with
   | some (.slice e)=>(match d with
     | .slice elems _=>[.sl (P.cellsOf e) (elems.map fun x=>mkE P e (dD P n e x))]
     | _=>[.sl (P.cellsOf e) []])
   | some (.struct fs)=>(match d with
     | .agg parts=>dDF (dD P n) fs.toList parts
     | _=>[])
   | some (.array _ e)=>(match d with
     | .agg parts=>parts.flatMap (dD P n e)
     | _=>[])
   | _=>(match d with
     | .lit (.bool b)=>[.bool b]
     | .lit (.int k i)=>[.int k i]
     | .lit (.string s)=>[.str ⟨s.toArray⟩]
     | _=>[])
/-- The form of a type's cells. -/
def okF (o:TypeId->List Data->Prop):List Field->List Data->Prop
 | [],ds=>ds = []
 | f :: fs,ds=>∃ a b,ds = a++b∧o f.type a∧okF o fs b
def okA (o:List Data->Prop):Nat->List Data->Prop
 | 0,ds=>ds = []
 | n + 1,ds=>∃ a b,ds = a++b∧o a∧okA o n b
def okD (P:Program):Nat->TypeId->List Data->Prop
 | 0,_,_=>False
 | n + 1,t,ds=>match P.underlying t with
   | some .bool=>∃ b,ds = [.bool b]
   | some (.int k)=>∃ i,ds = [.int k i]∧(Lit.int k i).wf = true
   | some .string=>∃ s,ds = [.str s]∧s.size≤reachBytes
   | some (.slice e)=>∃ l,ds = [.sl (P.cellsOf e) l]∧l.length≤reachBytes∧∀ x∈l,∃ es,x = mkE P e es∧okD P n e es
   | some (.struct fs)=>okF (okD P n) fs.toList ds
   | some (.array m e)=>okA (okD P n e) m ds
   | _=>False
/-- Cells,one by one. -/
def VDs (w:World) (cs:List Value) (ds:List Data):Prop:=ds.length = cs.length∧∀ (i:Nat) (x:Data) (v:Value),ds[i]? = some x->cs[i]? = some v->VD (fun _=>False) w x v
theorem VDs.nil (w:World):VDs w [] []:=⟨rfl,fun i x v h=>by simp at h⟩
theorem VDs.one {w:World} {v:Value} {x:Data} (h:VD (fun _=>False) w x v):VDs w [v] [x]:=⟨rfl,fun i y u hy hu=>by
 match i with
 | 0=>simp at hy hu;subst hy;subst hu;exact h
 | i + 1=>simp at hy⟩
theorem VDs.append {w:World} {a b:List Value} {x y:List Data} (h:VDs w a x) (k:VDs w b y):VDs w (a++b) (x++y):=by
 refine ⟨by simp [h.1,k.1],fun i d v hd hv=>?_⟩
 rw [List.getElem?_append] at hd hv
 rw [h.1] at hd
 split at hd
 · rename_i hi;rw [if_pos hi] at hv;exact h.2 i d v hd hv
 · rename_i hi;rw [if_neg hi] at hv;exact k.2 _ d v hd hv
section
variable {H:Type} {enc:TypeId × Value->H} {P:Program} {w:World} {held:Bool} {spare:Nat->Bool}
theorem weights_each {ts:List TypeId} {ds:List (DataW H)} (hz:∀ x∈DataW.weightsEach P ts ds,x≤reachBytes):∀ (i:Nat) t d,ts[i]? = some t->ds[i]? = some d->∀ x∈DataW.weights P t d,x≤reachBytes:=by
 induction ts generalizing ds with
 | nil=>intro i t d h;simp at h
 | cons t ts ih =>
   cases ds with
   | nil=>intro i t d _ h;simp at h
   | cons d ds =>
     simp only [DataW.weightsEach,List.mem_append] at hz
     intro i t' d' ht hd x hx
     match i with
     | 0=>simp at ht hd;subst ht;subst hd;exact hz x (.inl hx)
     | i + 1=>exact ih (fun y hy=>hz y (.inr hy)) i t' d' (by simpa using ht) (by simpa using hd) x hx
theorem weights_all {e:TypeId} {ds:List (DataW H)} (hz:∀ x∈DataW.weightsAll P e ds,x≤reachBytes):∀ d∈ds,∀ x∈DataW.weights P e d,x≤reachBytes:=by
 induction ds with
 | nil=>intro d h;simp at h
 | cons d ds ih =>
   simp only [DataW.weightsAll,List.mem_append] at hz
   intro d' hd x hx
   rcases List.mem_cons.1 hd with rfl | hd
   · exact hz x (.inl hx)
   · exact ih (fun y hy=>hz y (.inr hy)) d' hd x hx
/-- The cells of a memory row. -/
theorem cells_get {b0:Nat} {a:Addr} {n:Nat} {cs:List Value} (h:w.cells? b0 a n = some cs):cs.length = n∧∀ i,i < n->w.cell? (a.add i) = cs[i]?:=by
 unfold World.cells? at h
 split at h
 · exact ⟨by simpa using mapM_some_length h,fun i hi=>mapM_some_get h i i (by simp [hi])⟩
 · cases h
theorem cell_lt {a:Addr} {v:Value} (h:w.cell? a = some v):a.block < w.heap.size∧a.spot = none:=by
 unfold World.cell? at h
 split at h
 · rename_i hb
   exact ⟨(Array.getElem?_eq_some_iff.1 hb).1,by cases hs:a.spot with
    | none=>rfl
    | some s=>rw [hs] at h;simp at h⟩
 · cases h
theorem mkE_cells {n:Nat} {t:TypeId} {es:List Data} (h:okD P n t es):(mkE P t es).cells = es:=by
 cases n with
 | zero=>exact h.elim
 | succ n =>
   unfold okD at h
   unfold mkE
   split at h
   all_goals rename_i hu;simp only [hu]
   · obtain ⟨b,rfl⟩:=h;rfl
   · obtain ⟨i,rfl,_⟩:=h;rfl
   · obtain ⟨s,rfl,_⟩:=h;rfl
   · obtain ⟨l,rfl,_⟩:=h;rfl
   · rfl
   · rfl
   · exact h.elim
/-- The reading of cells: plain data,of the type's form. -/
theorem read_ok:∀ (n:Nat) (fuel:Nat) (t:TypeId) (cs:List Value) (d:DataW H) (ps:List MemPlace),supp P n t = true->DataW.trod enc P w 0 spare held fuel t cs = some (d,ps)->(∀ x∈DataW.weights P t d,x≤reachBytes) →
 VDs w cs (dD P n t d)∧okD P n t (dD P n t d):=by
 intro n
 induction n with
 | zero=>intro fuel t cs d ps hs;simp [supp] at hs
 | succ n ih =>
   intro fuel t cs d ps hs h hz
   unfold supp at hs
   split at hs
   · rename_i hu
     obtain ⟨b,rfl,e⟩:=DataW.trod_bool hu h
     cases e
     simp only [dD,okD,hu]
     exact ⟨.one (.bool b),b,rfl⟩
   · rename_i hu
     obtain ⟨s,rfl,e,_⟩:=DataW.trod_string hu h
     cases e
     simp only [dD,okD,hu]
     refine ⟨.one (.str s),s,rfl,?_⟩
     have:=hz s.data.toList.length (by simp [DataW.weights])
     simpa using this
   · rename_i k hu
     obtain ⟨i,rfl,e,hw⟩:=DataW.trod_int hu h
     cases e
     simp only [dD,okD,hu]
     exact ⟨.one (.int k i),i,rfl,hw⟩
   · rename_i e hu
     simp only [Bool.and_eq_true,decide_eq_true_eq] at hs
     obtain ⟨⟨hse,hc⟩,hb⟩:=hs
     rcases DataW.trod_slice hu h with ⟨rfl,hx⟩ | ⟨a,len,cap,elems,rest,m,rfl,rfl,hx,_,hlc,hcm,hlen,hel,_,_⟩
     · cases hx
       simp only [dD,okD,hu]
       exact ⟨.one (.sl _ [] none 0 0 0 0 (fun _=>.nilIface) rfl (Nat.le_refl _) (by simp [maxLen]) (by simp) (.inr rfl) (fun i x hx=>by simp [flat] at hx) (fun i x hx=>by simp [flat] at hx)),[],rfl,by simp,by simp⟩
     · cases hx
       simp only [DataW.weights,hu,List.mem_cons,List.mem_append,List.length_map] at hz
       have hw1:=hz _ (.inl rfl)
       have hw2:=weights_all (P:=P) (e:=e) (ds:=elems.map (·.1)) (fun x hx=>hz x (.inr (.inl hx)))
       have hlen2:elems.length≤reachBytes:=by
        have:elems.length * 1≤(elems.length + rest.length) * P.bytesOf e:=Nat.mul_le_mul (by omega) hb
        omega
       have each:∀ (i:Nat) (y:DataW H × List MemPlace),elems[i]? = some y->∃ ec,w.cells? 0 (a.add (i * P.cellsOf e)) (P.cellsOf e) = some ec∧VDs w ec (dD P n e y.1)∧okD P n e (dD P n e y.1):=by
        intro i y hy
        have hi:i < len:=by rw [<- hlen];exact (List.getElem?_eq_some_iff.1 hy).1
        have h1:=hel i hi
        rw [hy,Option.bind_eq_some_iff] at h1
        obtain ⟨ec,h2,h3⟩:=h1
        exact ⟨ec,h2,ih m e ec y.1 y.2 hse h3 (hw2 y.1 (List.mem_map.2 ⟨y,List.mem_of_getElem? hy,rfl⟩))⟩
       have hcl:∀ (i:Nat) (y:DataW H × List MemPlace),elems[i]? = some y->(mkE P e (dD P n e y.1)).cells = dD P n e y.1∧(dD P n e y.1).length = P.cellsOf e:=by
        intro i y hy
        obtain ⟨ec,h2,h3,h4⟩:=each i y hy
        exact ⟨mkE_cells h4,by rw [h3.1];exact (cells_get h2).1⟩
       have hflat:∀ (l:List Data) (c:Nat),0 < c->(∀ x∈l,x.cells.length = c)->∀ (i:Nat) (x:Data),(flat l)[i]? = some x->∃ y,l[i / c]? = some y∧y.cells[i % c]? = some x:=by
        intro l c hc0
        induction l with
        | nil=>intro _ i x hx;simp [flat] at hx
        | cons y l ihl =>
          intro hall i x hx
          have hy:y.cells.length = c:=hall y (by simp)
          simp only [flat,List.flatMap_cons,List.getElem?_append] at hx
          rw [hy] at hx
          split at hx
          · rename_i hi
            rw [Nat.div_eq_of_lt hi,Nat.mod_eq_of_lt hi]
            exact ⟨y,rfl,hx⟩
          · rename_i hi
            obtain ⟨z,h1,h2⟩:=ihl (fun x hx=>hall x (by simp [hx])) (i - c) x hx
            obtain ⟨q,rfl⟩:∃ q,i = q + c:=⟨i - c,by omega⟩
            rw [Nat.add_div_right _ hc0,Nat.add_mod_right]
            rw [Nat.add_sub_cancel] at h1 h2
            exact ⟨z,by simpa using h1,h2⟩
       have hall:∀ x∈(elems.map fun y=>mkE P e (dD P n e y.1)),x.cells.length = P.cellsOf e:=by
        intro x hx
        obtain ⟨y,hy,rfl⟩:=List.mem_map.1 hx
        obtain ⟨i,hi⟩:=List.getElem?_of_mem hy
        rw [(hcl i y hi).1,(hcl i y hi).2]
       have key:∀ (i:Nat) (x:Data),(flat (elems.map fun y=>mkE P e (dD P n e y.1)))[i]? = some x->∃ v,w.cell? (a.add i) = some v∧VD (fun _=>False) w x v:=by
        intro i x hx
        obtain ⟨y,h1,h2⟩:=hflat _ _ hc hall i x hx
        rw [List.getElem?_map,Option.map_eq_some_iff] at h1
        obtain ⟨z,h3,rfl⟩:=h1
        rw [(hcl _ z h3).1] at h2
        obtain ⟨ec,h4,h5,_⟩:=each _ z h3
        obtain ⟨h6,h7⟩:=cells_get h4
        have hlt:i % P.cellsOf e < P.cellsOf e:=Nat.mod_lt _ hc
        have hv:ec[i % P.cellsOf e]? = some ec[i % P.cellsOf e]:=List.getElem?_eq_getElem (by omega)
        refine ⟨ec[i % P.cellsOf e],?_,h5.2 _ x _ h2 hv⟩
        have h8:=h7 _ hlt
        rw [hv] at h8
        rw [<- h8]
        congr 1
        have hi:=Nat.div_add_mod i (P.cellsOf e)
        rw [Nat.mul_comm] at hi
        generalize i / P.cellsOf e * P.cellsOf e = q at hi
        generalize i % P.cellsOf e = r at hi
        subst hi
        unfold Addr.add
        by_cases hq:q = 0
        · subst hq;simp
        · by_cases hr:r = 0
          · subst hr;simp
          · simp [hq,hr,Nat.add_assoc]
       have hdd:dD P (n + 1) t (DataW.slice (elems.map (·.1)) (rest.map (·.1))) = [.sl (P.cellsOf e) (elems.map fun y=>mkE P e (dD P n e y.1))]:=by
        simp [dD,hu,Function.comp_def]
       rw [hdd]
       refine ⟨.one ?_,?_⟩
       · have spot:∀ (i:Nat) (x:Data),(flat (elems.map fun y=>mkE P e (dD P n e y.1)))[i]? = some x->a.spot = none:=by
          intro i x hx
          have h0:0 < (flat (elems.map fun y=>mkE P e (dD P n e y.1))).length:=by
           have:=(List.getElem?_eq_some_iff.1 hx).1;omega
          obtain ⟨v,hv,_⟩:=key 0 _ (List.getElem?_eq_getElem h0)
          simpa [Addr.add] using (cell_lt hv).2
         refine .sl _ _ (some a) len cap a.block a.off (fun i=>(w.cell? ⟨a.block,a.off + i,none⟩).getD .nilIface) (by simp [hlen]) hlc hcm hall ?_ ?_ ?_
         · by_cases he:elems = []
           · exact .inr (by simp [he])
           · refine .inl ?_
             have h0:0 < elems.length:=List.length_pos_iff.2 he
             obtain ⟨ec,h4,_,_⟩:=each 0 elems[0] (List.getElem?_eq_getElem h0)
             obtain ⟨h6,h7⟩:=cells_get h4
             have h8:=h7 0 hc
             rw [List.getElem?_eq_getElem (by omega)] at h8
             have h9:=cell_lt h8
             simp [Addr.add] at h9
             obtain ⟨ab,ao,az⟩:=a
             simp at h9
             exact ⟨by rw [h9.2],h9.1,fun h=>h⟩
         · intro i x hx
           obtain ⟨v,hv,_⟩:=key i x hx
           have hsp:=spot i x hx
           have:a.add i = ⟨a.block,a.off + i,none⟩:=by
            unfold Addr.add
            split
            · rename_i e0;subst e0;obtain ⟨ab,ao,az⟩:=a;simp at hsp ⊢;exact hsp
            · rfl
           rw [this] at hv
           simp only [hv,Option.getD_some]
         · intro i x hx
           obtain ⟨v,hv,hvd⟩:=key i x hx
           have hsp:=spot i x hx
           have:a.add i = ⟨a.block,a.off + i,none⟩:=by
            unfold Addr.add
            split
            · rename_i e0;subst e0;obtain ⟨ab,ao,az⟩:=a;simp at hsp ⊢;exact hsp
            · rfl
           rw [this] at hv
           simp only [hv,Option.getD_some]
           exact hvd
       · simp only [okD,hu]
         refine ⟨_,rfl,by simpa using hlen2,fun x hx=>?_⟩
         obtain ⟨y,hy,rfl⟩:=List.mem_map.1 hx
         obtain ⟨i,hi⟩:=List.getElem?_of_mem hy
         obtain ⟨ec,_,_,h4⟩:=each i y hi
         exact ⟨_,rfl,h4⟩
   · rename_i fs hu
     obtain ⟨xs,m,rfl,hx,hcl,hxl,hf⟩:=DataW.trod_struct hu h
     cases hx
     simp only [DataW.weights,hu] at hz
     have hw:=weights_each hz
     have hdd:dD P (n + 1) t (DataW.agg (xs.map (·.1))) = dDF (dD P n) fs.toList (xs.map (·.1)):=by simp [dD,hu]
     rw [hdd]
     have hs2:suppF P (supp P n) 0 fs.toList = some (P.cellsOf t):=by simpa using hs
     have go:∀ (l:List Field) (ys:List (DataW H × List MemPlace)) (o:Nat),l.length = ys.length->suppF P (supp P n) o l = some (P.cellsOf t) →
      (∀ (i:Nat) (f:Field),l[i]? = some f->DataW.trod enc P w 0 spare held m f.type ((cs.drop f.offset).take (P.cellsOf f.type)) = ys[i]?) →
      (∀ (i:Nat) (f:Field) (y:DataW H × List MemPlace),l[i]? = some f->ys[i]? = some y->∀ x∈DataW.weights P f.type y.1,x≤reachBytes)->o≤P.cellsOf t∧VDs w (cs.drop o) (dDF (dD P n) l (ys.map (·.1)))∧okF (okD P n) l (dDF (dD P n) l (ys.map (·.1))):=by
      intro l
      induction l with
      | nil =>
        intro ys o hl hs3 _ _
        simp only [suppF,Option.some.injEq] at hs3
        subst hs3
        rw [<- hcl]
        simp only [List.drop_length,dDF]
        exact ⟨Nat.le_refl _,.nil w,rfl⟩
      | cons f l ihl =>
        intro ys o hl hs3 hf3 hw3
        cases ys with
        | nil=>simp at hl
        | cons y ys =>
          simp only [suppF] at hs3
          split at hs3
          · rename_i ho
            obtain ⟨rfl,hsf⟩:=ho
            have h0:=hf3 0 f rfl
            simp only [List.getElem?_cons_zero] at h0
            obtain ⟨h1,h2⟩:=ih m f.type _ y.1 y.2 hsf h0 (hw3 0 f y rfl rfl)
            obtain ⟨h3,h4,h5⟩:=ihl ys (f.offset + P.cellsOf f.type) (by simpa using hl) hs3 (fun i g hg=>by simpa using hf3 (i + 1) g (by simpa using hg)) (fun i g z hg hz'=>hw3 (i + 1) g z (by simpa using hg) (by simpa using hz'))
            refine ⟨by omega,?_,_,_,rfl,h2,h5⟩
            have:cs.drop f.offset = (cs.drop f.offset).take (P.cellsOf f.type)++cs.drop (f.offset + P.cellsOf f.type):=by
             rw [<- List.drop_drop,List.take_append_drop]
            rw [this]
            exact h1.append h4
          · cases hs3
     obtain ⟨_,h1,h2⟩:=go fs.toList xs 0 (by simp [hxl]) hs2 (fun i f hg=>hf i f (by simpa using hg)) (fun i f y hg hy=>hw i f.type y.1 (by simp at hg ⊢;exact ⟨f,hg,rfl⟩) (by simp [hy]))
     refine ⟨by simpa using h1,?_⟩
     simp only [okD,hu]
     exact h2
   · rename_i m e hu
     simp only [Bool.and_eq_true,decide_eq_true_eq] at hs
     obtain ⟨hse,hsz⟩:=hs
     obtain ⟨xs,k,rfl,hx,hcl,hxl,hf⟩:=DataW.trod_array hu h
     cases hx
     simp only [DataW.weights,hu] at hz
     have hw:=weights_all hz
     have hdd:dD P (n + 1) t (DataW.agg (xs.map (·.1))) = (xs.map (·.1)).flatMap (dD P n e):=by simp [dD,hu]
     rw [hdd]
     have go:∀ (j:Nat),j≤m->VDs w (cs.drop ((m - j) * P.cellsOf e)) (((xs.drop (m - j)).map (·.1)).flatMap (dD P n e))∧okA (okD P n e) j (((xs.drop (m - j)).map (·.1)).flatMap (dD P n e)):=by
      intro j
      induction j with
      | zero =>
        intro _
        rw [Nat.sub_zero,<- hsz,<- hcl,<- hxl]
        simp only [List.drop_length,List.map_nil,List.flatMap_nil]
        exact ⟨.nil w,rfl⟩
      | succ j ihj =>
        intro hj
        obtain ⟨h1,h2⟩:=ihj (by omega)
        have hi:m - (j + 1) < m:=by omega
        have hxi:m - (j + 1) < xs.length:=by omega
        have h0:=hf (m - (j + 1)) hi
        rw [List.getElem?_eq_getElem hxi] at h0
        obtain ⟨h3,h4⟩:=ih k e _ xs[m - (j + 1)].1 xs[m - (j + 1)].2 hse h0 (hw _ (List.mem_map.2 ⟨_,List.getElem_mem hxi,rfl⟩))
        have e1:m - (j + 1) + 1 = m - j:=by omega
        rw [List.drop_eq_getElem_cons hxi,e1]
        simp only [List.map_cons,List.flatMap_cons]
        refine ⟨?_,_,_,rfl,h4,h2⟩
        have e2:cs.drop ((m - (j + 1)) * P.cellsOf e) = (cs.drop ((m - (j + 1)) * P.cellsOf e)).take (P.cellsOf e)++cs.drop ((m - j) * P.cellsOf e):=by
         have:(m - j) * P.cellsOf e = (m - (j + 1)) * P.cellsOf e + P.cellsOf e:=by rw [<- e1,Nat.add_mul,Nat.one_mul]
         rw [this,<- List.drop_drop,List.take_append_drop]
        rw [e2]
        exact h3.append h1
     have:=go m (Nat.le_refl _)
     simp only [Nat.sub_self,Nat.zero_mul,List.drop_zero] at this
     refine ⟨this.1,?_⟩
     simp only [okD,hu]
     exact this.2
   · cases hs
/-- An argument. -/
def argD (P:Program) (n:Nat) (t:TypeId) (x:Data):Prop:=∃ ds,x = mkE P t ds∧okD P n t ds
theorem read_arg {n:Nat} {base:Nat} {t:TypeId} {v:Value} {d:DataW H} {ps:List MemPlace} (hs:supp P n t = true) (hv:Value.okWide P w .any base t v) (k:DataW.Trod enc P w 0 spare held t v d ps) (hz:(DataW.weights P t d).all (fun x=>decide (x≤reachBytes)) = true) :
 ∃ x,VD (fun _=>False) w x v∧argD P n t x:=by
 obtain ⟨fuel,hf⟩:=k
 obtain ⟨h1,h2⟩:=read_ok n fuel t _ d ps hs hf (fun x hx=>by simpa using List.all_eq_true.1 hz x hx)
 refine ⟨mkE P t (dD P n t d),?_,_,rfl,h2⟩
 generalize dD P n t d = ds at h1 h2
 cases n with
 | zero=>exact h2.elim
 | succ n =>
   have one:∀ x,(∀ cs,v≠.agg cs)->ds = [x]->VD (fun _=>False) w x v:=by
    intro x hna hds
    subst hds
    have:v.cells.toList = [v]:=by
     cases v with
     | agg cs=>exact absurd rfl (hna cs)
     | _=>rfl
    rw [this] at h1
    exact h1.2 0 x v rfl rfl
   unfold Value.okWide at hv
   unfold okD at h2
   unfold mkE
   split at h2
   all_goals rename_i hu;simp only [hu] at hv ⊢
   · obtain ⟨b,rfl⟩:=h2
     exact one _ (fun cs e=>by subst e;simp [Cell.okWide,Cell.ok,hu] at hv) rfl
   · obtain ⟨i,rfl,_⟩:=h2
     exact one _ (fun cs e=>by subst e;simp [Cell.okWide,Cell.ok,hu] at hv) rfl
   · obtain ⟨s,rfl,_⟩:=h2
     exact one _ (fun cs e=>by subst e;simp [Cell.okWide,Cell.ok,hu] at hv) rfl
   · obtain ⟨l,rfl,_⟩:=h2
     exact one _ (fun cs e=>by subst e;simp [Cell.okWide,Cell.ok,hu] at hv) rfl
   · obtain ⟨cs,rfl,_⟩:=hv
     exact .agg _ _ (by simpa [Value.cells] using h1.1) (fun i x u hx hu=>h1.2 i x u hx (by simpa [Value.cells] using hu))
   · obtain ⟨cs,rfl,_⟩:=hv
     exact .agg _ _ (by simpa [Value.cells] using h1.1) (fun i x u hx hu=>h1.2 i x u hx (by simpa [Value.cells] using hu))
   · exact h2.elim
/-- A law by its contract on plain data. -/
theorem calls_of_pc {Γ:Nat->Option (List Data)} {f:FuncId} {xs:List Data} {vs:Array Value} (hg:Glob Γ (fun _=>False) w) (h:PC P Γ f xs (.bool true)) (hl:xs.length = vs.size)
 (hv:∀ (i:Nat) (x:Data) (v:Value),xs[i]? = some x->vs[i]? = some v->VD (fun _=>False) w x v) :
 Calls P f vs w fun e w'=>e = .returned (.bool true)∧Below w.heap.size w w':=by
 refine (h.2 (fun _=>False) w vs hg (fun b hb=>hb.elim) hl hv).mono fun e w' ⟨v,he,hvd,hb⟩=>?_
 cases hvd
 exact ⟨he,hb⟩
theorem vdl {x0:Data} {v0:Value} {xs:List Data} {vs:List Value} (h0:VD (fun _=>False) w x0 v0) (h:∀ (i:Nat) (x:Data) (v:Value),xs[i]? = some x->vs[i]? = some v->VD (fun _=>False) w x v) :
 ∀ (i:Nat) (x:Data) (v:Value),(x0 :: xs)[i]? = some x->(v0 :: vs)[i]? = some v->VD (fun _=>False) w x v:=fun i x v hx hv=>by
 match i with
 | 0=>simp at hx hv;subst hx;subst hv;exact h0
 | i + 1=>exact h i x v (by simpa using hx) (by simpa using hv)
end
def u8 (n:Nat):Data:=.int .u8 n
/-- A row of bytes. -/
def bys (l:List Nat):List Data:=l.map u8
@[go_sem] theorem flat_bys (l:List Nat):flat (bys l) = bys l:=by
 induction l with
 | nil=>rfl
 | cons x l ih=>simp [bys,flat,u8,Data.cells] at ih ⊢;simpa [u8] using ih
@[go_sem] theorem bys_nil:bys [] = []:=rfl
@[go_sem] theorem bys_length (l:List Nat):(bys l).length = l.length:=by simp [bys]
theorem bys_cell' (l:List Nat):∀ x∈bys l,x.cell = true:=fun x hx=>by
 obtain ⟨n,_,rfl⟩:=List.mem_map.1 hx
 rfl
@[go_sem] theorem bys_cell (l:List Nat):(∀ x∈bys l,x.cell = true) ↔ True:=iff_true_intro (bys_cell' l)
theorem bys_cells (l:List Nat):∀ x∈bys l,x.cells.length = 1:=fun x hx=>by
 obtain ⟨n,_,rfl⟩:=List.mem_map.1 hx
 rfl
@[go_sem] theorem bys_take (l:List Nat) (n:Nat):(bys l).take n = bys (l.take n):=by simp [bys,List.map_take]
@[go_sem] theorem bys_drop (l:List Nat) (n:Nat):(bys l).drop n = bys (l.drop n):=by simp [bys,List.map_drop]
@[go_sem] theorem bys_get (l:List Nat) (i:Nat):(bys l)[i]? = (l[i]?).map u8:=by simp [bys]
@[go_sem] theorem bysd_append (a b:List Nat):(bys a).map D.data++(bys b).map D.data = (bys (a++b)).map D.data:=by simp [bys]
@[go_sem] theorem data_u8 (n:Nat):D.data (u8 n) = .data (.int .u8 n):=rfl
@[go_sem] theorem u8_cell (n:Nat):(u8 n).cell = true:=rfl
@[go_sem] theorem u8_cells (n:Nat):(u8 n).cells = [u8 n]:=rfl
/-- A row of bytes of the call's own,handed to a callee that keeps it. -/
theorem call_kept {P:Program} {Γ:Nat->Option (List Data)} {f:FuncId} {H:Nat->Blk} {K:D->List Nat->List (Nat × Blk)->Prop} (g n:Nat) (l:List Nat) {r:Data} (h:PC P Γ f [.sl 1 (bys l)] r) (hg:H g = .blk true ((bys l).map D.data)) (hn:l.length = n)
 (k:K (.data r) [g] [(g,.blk false ((bys l).map D.data))]):callK P Γ f [.ref g 0 n 1] H K:=by
 refine call_frz [g] [g] (fun q hq=>⟨true,_,by simp at hq;subst hq;exact hg⟩) h (fun H' hH'=>?_) ?_
 · refine frzL_c (frz_ref (rw:=false) (cells:=(bys l).map D.data) ?_ (.inr rfl) (by rw [bys_length,hn]) (bys_cells _) (by rw [flat_bys])) frzL_n
   simp [Hp.upd,Hp.set,hg,fz]
 · simp only [List.map_cons,List.map_nil,hg,fz]
   exact k
theorem frz_bys {ok:Bool} {H:Nat->Blk} {g n:Nat} {l:List Nat} {rw:Bool} (hg:H g = .blk rw ((bys l).map D.data)) (hrw:ok = true ∨ rw = false) (hn:l.length = n):Frz ok H (.ref g 0 n 1) (.sl 1 (bys l)) :=
 frz_ref hg hrw (by rw [bys_length,hn]) (bys_cells l) (by rw [flat_bys])
def plainD:D->Bool
 | .data _ | .emp _=>true
 | _=>false
theorem renCells_plain {n:Nat} {ρ:Nat->Option Nat} {H:Nat->Blk} {cs ds:List D} (e:cs = ds) (h:cs.all plainD = true):RenCells n ρ H cs ds:=by
 subst e
 refine ⟨Nat.le_refl _,fun i c d hc hd=>?_⟩
 rw [hc] at hd;cases hd
 have:=List.all_eq_true.1 h c (List.mem_of_getElem? hc)
 cases c with
 | data x=>exact .data x
 | emp es=>exact .emp es es
 | _=>cases this
theorem frz_aggL {ok:Bool} {H:Nat->Blk} {cs:List D} {xs:List Data} (h:FrzL ok H cs xs):Frz ok H (.agg cs) (.agg xs):=.agg cs xs h.1 h.2
/-- A row of the call's own,handed to a callee that keeps it. -/
theorem call_keep {P:Program} {Γ:Nat->Option (List Data)} {f:FuncId} {ds:List D} {H:Nat->Blk} {K:D->List Nat->List (Nat × Blk)->Prop} (g:Nat) {rw:Bool} {cells:List D} {xs:List Data} {r:Data} (h:PC P Γ f xs r) (hg:H g = .blk rw cells)
 (hx:∀ H':Nat->Blk,H' g = .blk false cells->FrzL false H' ds xs) (k:K (.data r) [g] [(g,.blk false cells)]):callK P Γ f ds H K:=by
 refine call_frz [g] [g] (fun q hq=>⟨rw,cells,by simp at hq;subst hq;exact hg⟩) h (fun H' hH'=>?_) ?_
 · exact hx _ (by simp [Hp.upd,Hp.set,hg,fz])
 · simp only [List.map_cons,List.map_nil,hg,fz]
   exact k
/-- Bytes as a string. -/
def toStr (l:List Nat):ByteArray:=⟨(l.map UInt8.ofNat).toArray⟩
theorem bys_u8 {l:List Nat} (h:∀ x∈l,x < 256):bys l = (l.map UInt8.ofNat).map (fun b=>Data.int .u8 (b.toNat:Int)):=by
 unfold bys u8
 rw [List.map_map]
 refine List.map_congr_left fun x hx=>?_
 have:=h x hx
 simp only [Function.comp,UInt8.toNat_ofNat']
 congr 1
 omega
theorem toStr_inj {l m:List Nat} (hl:∀ x∈l,x < 256) (hm:∀ x∈m,x < 256):toStr l = toStr m ↔ l = m:=by
 constructor
 · intro e
   have e2:l.map UInt8.ofNat = m.map UInt8.ofNat:=by simpa [toStr] using e
   have e3:=congrArg (List.map fun b:UInt8=>b.toNat) e2
   rw [List.map_map,List.map_map] at e3
   have k:∀ q:List Nat,(∀ x∈q,x < 256)->q.map ((fun b:UInt8=>b.toNat) ∘ UInt8.ofNat) = q:=fun q hq=>by
    have:q.map ((fun b:UInt8=>b.toNat) ∘ UInt8.ofNat) = q.map id:=List.map_congr_left fun x hx=>by
     have:=hq x hx
     simp only [Function.comp,UInt8.toNat_ofNat',id]
     omega
    rw [this,List.map_id]
   rwa [k l hl,k m hm] at e3
 · rintro rfl;rfl
theorem conv_bys {P:Program} {s d e:TypeId} {l:List Nat} {K:D->Prop} (hb:∀ x∈l,x < 256) (ht:strT P d = true) (hs:sliceT P s = some e) (he:intT P e = some .u8) (k:K (.data (.str (toStr l)))):convK P s d (.data (.sl 1 (bys l))) K :=
 ⟨rfl,ht,by simp only [hs];exact he,_,bys_u8 hb,k⟩
theorem wf_nat {k:IntKind} {i:Int} (h:(Lit.int k i).wf = true):k.min≤i∧i≤k.max:=by simpa [Lit.wf] using h
section
variable {P:Program} {n:Nat} {t e:TypeId} {x:Data}
theorem arg_int {k:IntKind} (hu:P.underlying t = some (.int k)) (a:argD P (n + 1) t x):∃ i:Int,k.min≤i∧i≤k.max∧x = .int k i:=by
 obtain ⟨ds,rfl,h⟩:=a
 simp only [okD,hu] at h
 obtain ⟨i,rfl,hw⟩:=h
 have:=wf_nat hw
 exact ⟨i,this.1,this.2,by simp [mkE,hu]⟩
theorem arg_nat {k:IntKind} (hk:k.signed = false) (hu:P.underlying t = some (.int k)) (a:argD P (n + 1) t x):∃ i:Nat,i < 2 ^ k.bits∧x = .int k i:=by
 obtain ⟨i,h1,h2,rfl⟩:=arg_int hu a
 simp [IntKind.min,IntKind.max,hk] at h1 h2
 obtain ⟨j,rfl⟩:=Int.eq_ofNat_of_zero_le h1
 have:((2 ^ k.bits:Nat):Int) = 2 ^ k.bits:=by simp
 exact ⟨j,by omega,rfl⟩
theorem arg_u32 (hu:P.underlying t = some (.int .u32)) (a:argD P (n + 1) t x):∃ i:Nat,i < 4294967296∧x = .int .u32 i:=arg_nat rfl hu a
theorem nums_of {k:IntKind} (hk:k.signed = false) (hu:P.underlying e = some (.int k)):∀ l:List Data,(∀ x∈l,∃ es,x = mkE P e es∧okD P (n + 1) e es)->∃ m:List Nat,l = m.map (fun i:Nat=>Data.int k i)∧∀ b∈m,b < 2 ^ k.bits
 | [],_=>⟨[],rfl,by simp⟩
 | y :: l,h=>by
   obtain ⟨m,rfl,hm⟩:=nums_of hk hu l fun x hx=>h x (by simp [hx])
   obtain ⟨i,hi,rfl⟩:=arg_nat hk hu (h y (by simp))
   exact ⟨i :: m,rfl,by simpa using ⟨hi,hm⟩⟩
theorem arg_bytes (hu:P.underlying t = some (.slice e)) (he:P.underlying e = some (.int .u8)) (hc:P.cellsOf e = 1) (a:argD P (n + 2) t x):∃ l:List Nat,(∀ b∈l,b < 256)∧l.length≤140737488351232∧x = .sl 1 (bys l):=by
 obtain ⟨ds,rfl,h⟩:=a
 simp only [okD,hu,hc] at h
 obtain ⟨l,rfl,hl,hx⟩:=h
 obtain ⟨m,rfl,hm⟩:=nums_of (n:=n) (k:=.u8) rfl he l hx
 exact ⟨m,hm,by simpa [reachBytes] using hl,by simp [mkE,hu,bys];intro a _;rfl⟩
theorem arg_struct {fs:Array Field} (hu:P.underlying t = some (.struct fs)) (a:argD P (n + 1) t x):∃ ds,x = .agg ds∧okF (okD P n) fs.toList ds:=by
 obtain ⟨ds,rfl,h⟩:=a
 simp only [okD,hu] at h
 exact ⟨ds,by simp [mkE,hu],h⟩
theorem okF_cons {o:TypeId->List Data->Prop} {f:Field} {fs:List Field} {ds:List Data} (h:okF o (f :: fs) ds):∃ a b,ds = a++b∧o f.type a∧okF o fs b:=h
theorem okF_nil {o:TypeId->List Data->Prop} {ds:List Data} (h:okF o [] ds):ds = []:=h
theorem ok_bytes {ds:List Data} (hu:P.underlying t = some (.slice e)) (he:P.underlying e = some (.int .u8)) (hc:P.cellsOf e = 1) (h:okD P (n + 2) t ds):∃ l:List Nat,(∀ b∈l,b < 256)∧l.length≤140737488351232∧ds = [.sl 1 (bys l)]:=by
 unfold okD at h
 simp only [hu,hc] at h
 obtain ⟨l,rfl,hl,hx⟩:=h
 obtain ⟨m,rfl,hm⟩:=nums_of (n:=n) (k:=.u8) rfl he l hx
 exact ⟨m,hm,by simpa [reachBytes] using hl,by simp [bys];intro a _;rfl⟩
theorem ok_int {k:IntKind} {ds:List Data} (hu:P.underlying t = some (.int k)) (h:okD P (n + 1) t ds):∃ i:Int,k.min≤i∧i≤k.max∧ds = [.int k i]:=by
 unfold okD at h
 simp only [hu] at h
 obtain ⟨i,rfl,hw⟩:=h
 have:=wf_nat hw
 exact ⟨i,this.1,this.2,rfl⟩
/-- A slice,element by element. -/
theorem ok_slice {ds:List Data} (hu:P.underlying t = some (.slice e)) (h:okD P (n + 1) t ds):∃ l,ds = [.sl (P.cellsOf e) l]∧l.length≤140737488351232∧∀ x∈l,argD P n e x:=by
 unfold okD at h
 simp only [hu] at h
 obtain ⟨l,h1,h2,h3⟩:=h
 exact ⟨l,h1,by simpa [reachBytes] using h2,h3⟩
theorem arg_slice (hu:P.underlying t = some (.slice e)) (a:argD P (n + 1) t x):∃ l,x = .sl (P.cellsOf e) l∧l.length≤140737488351232∧∀ x∈l,argD P n e x:=by
 obtain ⟨ds,rfl,h⟩:=a
 obtain ⟨l,rfl,h1,h2⟩:=ok_slice hu h
 exact ⟨l,by simp [mkE,hu],h1,h2⟩
end
@[go_sem] theorem dec_yes {p:Prop} [Decidable p] (h:p):decide p = true:=decide_eq_true h
@[go_sem] theorem dec_no {p:Prop} [Decidable p] (h:¬ p):decide p = false:=decide_eq_false h
section
variable (P:Program) (Γ:Nat->Option (List Data))
/- Regions of more than 64 operations: their list is put together of two. -/
@[go_sem] theorem opsW_app (ops:Array Oper) (o:Oper) (l r:List Oper) (s:St) (K:St->Prop):opsW P Γ ops (List.append (o :: l) r) s K = opsW P Γ ops (o :: List.append l r) s K:=rfl
@[go_sem] theorem opsW_app_nil (ops:Array Oper) (r:List Oper) (s:St) (K:St->Prop):opsW P Γ ops (List.append [] r) s K = opsW P Γ ops r s K:=rfl
@[go_sem] theorem drawW_app (ops:Array Oper) (o:Oper) (l r:List Oper) (s:St) (tr:List Tr) (K:St->List Tr->Prop):drawW P Γ ops (List.append (o :: l) r) s tr K = drawW P Γ ops (o :: List.append l r) s tr K:=rfl
@[go_sem] theorem drawW_app_nil (ops:Array Oper) (r:List Oper) (s:St) (tr:List Tr) (K:St->List Tr->Prop):drawW P Γ ops (List.append [] r) s tr K = drawW P Γ ops r s tr K:=rfl
end
/-- What a panic brings. -/
def pan (x:Value):List PanicEntry:=[{ v:=x,recovered:=false }]
/-- A value that hangs on no memory. -/
def litV:Data->Option Value
 | .bool b=>some (.bool b)
 | .int k n=>some (.int k n)
 | .str s=>some (.string s)
 | .ifc t d=>(litV d).map (.iface t)
 | _=>none
/-- A call on the caller's own numbered rows: it hands back,or it panics. -/
def DX (P:Program) (Γ:Nat->Option (List Data)) (f:FuncId) (ds:List D) (H:Nat->Blk) (nx:Nat) (K:D->(Nat->Blk)->Nat->Prop) (X:Value->(Nat->Blk)->Nat->Prop):Prop :=
 CallOk P f∧∀ (L0:Nat->Prop) (w0:W0) (m:Nat->MB) (w:World) (vs:Array Value),WR Γ L0 w0 m H w->(∀ g,nx≤g->m g = .res)->(∀ g,nx≤g->H g = .dead)->ds.length = vs.size->(∀ (i:Nat) (d:D) (v:Value),ds[i]? = some d->vs[i]? = some v->VV (Live L0 m H) w m d v) →
  Calls P f vs w fun e w'=>∃ H' nx' m',WR Γ L0 w0 m' H' w'∧Grow (Live L0 m H) w (Live L0 m' H') w'∧(∀ g,g < nx->m' g = m g)∧(∀ g,nx'≤g->m' g = .res)∧nx≤nx' ∧
   ((∃ v d,e = .returned v∧VV (Live L0 m' H') w' m' d v∧K d H' nx') ∨ ∃ x,e = .panicked (pan x)∧X x H' nx')
theorem DX.mono {P:Program} {Γ:Nat->Option (List Data)} {f:FuncId} {ds:List D} {H:Nat->Blk} {nx:Nat} {K K':D->(Nat->Blk)->Nat->Prop} {X X':Value->(Nat->Blk)->Nat->Prop} (h:DX P Γ f ds H nx K X) (hk:∀ d H' nx',K d H' nx'->K' d H' nx') (hx:∀ v H' nx',X v H' nx'->X' v H' nx'):DX P Γ f ds H nx K' X' :=
 ⟨h.1,fun L0 w0 m w vs a b c d e=>(h.2 L0 w0 m w vs a b c d e).mono fun e w' ⟨H',nx',m',k1,k2,k3,k4,k5,k6⟩=>⟨H',nx',m',k1,k2,k3,k4,k5,k6.imp (fun ⟨v,d,a,b,c⟩=>⟨v,d,a,b,hk _ _ _ c⟩) (fun ⟨x,a,b⟩=>⟨x,a,hx _ _ _ b⟩)⟩⟩
def dxK (P:Program) (Γ:Nat->Option (List Data)) (o:Oper) (e:Nat->D) (H:Nat->Blk) (nx:Nat) (K:D->(Nat->Blk)->Nat->Prop) (X:Value->(Nat->Blk)->Nat->Prop):Prop:=match o.op with
 | .call c=>(match c.callee with
   | .value x=>(match fnD (evalD Γ e x) with
     | some (f,pre,caps)=>DX P Γ f (pre++(c.args.toList.map (evalD Γ e)++caps)) H nx K X
     | none=>False)
   | _=>False)
 | _=>False
def isPan (o:Oper):Bool:=match o.op with
 | .panic _=>true
 | _=>false
def panD (Γ:Nat->Option (List Data)) (o:Oper) (e:Nat->D):D:=match o.op with
 | .panic x=>evalD Γ e x
 | _=>.junk
def panK (x:D) (X:Value->Prop):Prop:=match x with
 | .data (.ifc t d)=>∃ v,litV d = some v∧X (.iface t v)
 | _=>False
section
variable (P:Program) (Γ:Nat->Option (List Data))
def opsX (ops:Array Oper):List Oper->St->(Exit->St->Prop)->Prop
 | [],s,Q=>Q .normal s
 | o :: rest,s,Q=>dstOk o s.nt = true∧(match wantedD ops s.env o with
   | some b=>ifW b (ifW (isPan o) (panK (panD Γ o s.env) fun v=>Q (.panic (pan v)) s) (ifW (isCall o)
      ((opK P Γ o s.env s.hp s.nx fun d _ u=>opsX ops rest (stepSt s o d u) Q) ∨ (dcK P Γ o s.env s.hp s.nx fun d H' nx'=>opsX ops rest ⟨Env.dst s.env o.dst d,H',nx',s.lo,s.nt⟩ Q) ∨
        dxK P Γ o s.env s.hp s.nx (fun d H' nx'=>opsX ops rest ⟨Env.dst s.env o.dst d,H',nx',s.lo,s.nt⟩ Q) fun v H' nx'=>Q (.panic (pan v)) ⟨s.env,H',nx',s.lo,s.nt⟩)
      (opK P Γ o s.env s.hp s.nx fun d _ u=>opsX ops rest (stepSt s o d u) Q))) (opsX ops rest (stepSt s o undefD []) Q)
   | none=>False)
def wpX:Code->(Exit->St->Prop)->St->Prop
 | .skip,Q,s=>Q .normal s
 | .region _ ops draw,Q,s=>ifW draw (drawW P Γ ops ops.toList s [] (fun s' tr=>drawOk2 ops tr s.nx s'.nx = true∧Q .normal s')) (opsX P Γ ops ops.toList s Q)
 | .seq x y,Q,s=>wpX x (thenW (wpX y Q) Q) s
 | .cond c x y,Q,s=>(match evalD Γ s.env c with
   | .data (.bool b)=>ifW b (wpX x Q s) (wpX y Q s)
   | _=>False)
 | .block id b,Q,s=>wpX b (blockW id Q) s
 | .loop b,Q,s=>LoopW (wpX b) Q s
 | .exit id,Q,s=>Q (.exit id) s
 | .ret,Q,s=>Q .ret s
 | .label _,Q,s=>Q .normal s
 | _,_,_=>False
def retXQ (fn:Func) (K:D->(Nat->Blk)->Nat->Prop) (X:Value->(Nat->Blk)->Nat->Prop):Exit->St->Prop
 | .normal,s | .ret,s=>resK P fn.results.toList s fun ds=>∃ d,tupDD ds = some d∧K d s.hp s.nx
 | .panic ch,s=>∃ v,ch = pan v∧X v s.hp s.nx
 | _,_=>False
end
end Go.Proofs.Ytalgafdokeoijaa
namespace Go.Proofs.Ytalgafdokeoijaa
@[go_sem] theorem ty_in3:intT Try.prog 3 = some .i64:=by kernel_rfl
@[go_sem] theorem ty_bo4:boolT Try.prog 4 = true:=by kernel_rfl
@[go_sem] theorem ty_sz5:szT Try.prog 5 = some 1:=by kernel_rfl
@[go_sem] theorem ty_by5:byT Try.prog 5 = some 1:=by kernel_rfl
@[go_sem] theorem ty_ag5:aggT Try.prog 5 = some false:=by kernel_rfl
@[go_sem] theorem ty_ze5:zeT Try.prog 5 = some [.data (.int .u8 0)]:=by kernel_rfl
@[go_sem] theorem ty_zl5:zlT Try.prog 5 = some 1:=by kernel_rfl
@[go_sem] theorem ty_in5:intT Try.prog 5 = some .u8:=by kernel_rfl
@[go_sem] theorem ty_st9:strT Try.prog 9 = true:=by kernel_rfl
@[go_sem] theorem ty_sz22:szT Try.prog 22 = some 1:=by kernel_rfl
@[go_sem] theorem ty_ag22:aggT Try.prog 22 = some false:=by kernel_rfl
@[go_sem] theorem ty_ze22:zeT Try.prog 22 = some [.emp 0]:=by kernel_rfl
@[go_sem] theorem ty_sl22:sliceT Try.prog 22 = some 45:=by kernel_rfl
@[go_sem] theorem ty_in22:intT Try.prog 22 = none:=by kernel_rfl
@[go_sem] theorem ty_st22:strT Try.prog 22 = false:=by kernel_rfl
@[go_sem] theorem ty_sz23:szT Try.prog 23 = some 1:=by kernel_rfl
@[go_sem] theorem ty_ag23:aggT Try.prog 23 = some false:=by kernel_rfl
@[go_sem] theorem ty_sl23:sliceT Try.prog 23 = some 5:=by kernel_rfl
@[go_sem] theorem ty_in23:intT Try.prog 23 = none:=by kernel_rfl
@[go_sem] theorem ty_st23:strT Try.prog 23 = false:=by kernel_rfl
@[go_sem] theorem ty_sz24:szT Try.prog 24 = some 1:=by kernel_rfl
@[go_sem] theorem ty_ag24:aggT Try.prog 24 = some false:=by kernel_rfl
@[go_sem] theorem ty_in24:intT Try.prog 24 = some .u32:=by kernel_rfl
@[go_sem] theorem ty_fl26_0:fldT Try.prog 26 0 = some (0,22):=by kernel_rfl
@[go_sem] theorem ty_fl26_1:fldT Try.prog 26 1 = some (1,22):=by kernel_rfl
@[go_sem] theorem ty_fl26_2:fldT Try.prog 26 2 = some (2,23):=by kernel_rfl
@[go_sem] theorem ty_fl26_3:fldT Try.prog 26 3 = some (3,24):=by kernel_rfl
@[go_sem] theorem ty_sz29:szT Try.prog 29 = some 1:=by kernel_rfl
@[go_sem] theorem ty_ag29:aggT Try.prog 29 = some false:=by kernel_rfl
@[go_sem] theorem ty_ze29:zeT Try.prog 29 = some [.data (.int .i64 0)]:=by kernel_rfl
@[go_sem] theorem ty_sz45:szT Try.prog 45 = some 2:=by kernel_rfl
@[go_sem] theorem ty_by45:byT Try.prog 45 = some 32:=by kernel_rfl
@[go_sem] theorem ty_ag45:aggT Try.prog 45 = some true:=by kernel_rfl
@[go_sem] theorem ty_ze45:zeT Try.prog 45 = some [.data (.int .u8 0),.emp 0]:=by kernel_rfl
@[go_sem] theorem ty_zl45:zlT Try.prog 45 = some 2:=by kernel_rfl
@[go_sem] theorem ty_ar45:arrT Try.prog 45 = none:=by kernel_rfl
@[go_sem] theorem ty_fl45_0:fldT Try.prog 45 0 = some (0,5):=by kernel_rfl
@[go_sem] theorem ty_fl45_1:fldT Try.prog 45 1 = some (1,23):=by kernel_rfl
@[go_sem] theorem ty_pl45:plT Try.prog 45 = some [(0,1),(1,1)]:=by kernel_rfl
@[go_sem] theorem ty_fl47_0:fldT Try.prog 47 0 = some (0,22):=by kernel_rfl
@[go_sem] theorem ty_fl47_1:fldT Try.prog 47 1 = some (1,5):=by kernel_rfl
@[go_sem] theorem ty_fl47_2:fldT Try.prog 47 2 = some (2,5):=by kernel_rfl
@[go_sem] theorem ty_fl47_3:fldT Try.prog 47 3 = some (3,45):=by kernel_rfl
theorem mixed:Try.prog.follows .mixedOrders = true:=by kernel_rfl
end Go.Proofs.Ytalgafdokeoijaa
namespace Go.Proofs.Ytalgafdokeoijaa
open Go.RowKit
set_option linter.unusedSimpArgs false
set_option linter.unusedVariables false
set_option maxRecDepth 100000
set_option maxRecDepth 100000 in
theorem row_pc (Γ:Nat->Option (List Data)) (a b:List Nat) (ha:a.length≤100000000000) (hb:b.length≤100000000000):PC Try.prog Γ 14 [.sl 1 (bys a),.sl 1 (bys b)] (.bool (decide (a = b))):=by
 refine pc_by mixed Try.func14 rfl (fun args w=>Try.call14 args w) ?_
 simp -implicitDefEqProofs (disch:=omega) [go_sem,Try.f14]
 refine ifW_ndec (fun h=>?_) (fun h=>?_)
 · have hne:a≠b:=fun e=>h (by rw [e])
   simp -implicitDefEqProofs (disch:=omega) [go_sem,Try.f14,hne]
 · have hl:a.length = b.length:=by omega
   simp -implicitDefEqProofs (disch:=omega) [go_sem]
   refine loop_of (σ:={ i:Nat // i≤a.length∧∀ j,j < i->a[j]? = b[j]? }) (fun i=>⟨envL [(0,.data (.sl 1 (bys a))),(1,.data (.sl 1 (bys b))),(5,.data (.int .i64 i.1))],hpL [],0,0,26⟩) (fun i=>a.length - i.1) ⟨0,by omega,by omega⟩ ?_ ?_
   · apply weak_lists <;> simp -implicitDefEqProofs [go_sem]
   · rintro ⟨i,hi,heq⟩
     simp -implicitDefEqProofs (disch:=omega) [go_sem]
     refine ifW_dec (fun h=>?_) (fun h=>?_)
     · have hia:i < a.length:=by omega
       simp -implicitDefEqProofs (disch:=omega) [go_sem]
       refine side (by kernel_rfl) ?_
       simp -implicitDefEqProofs (disch:=omega) [go_sem]
       refine ifW_ndec (fun h2=>?_) (fun h2=>?_)
       · have hne:a≠b:=fun e=>h2 (by subst e;rfl)
         simp -implicitDefEqProofs (disch:=omega) [go_sem,Try.f14,hne]
       · simp -implicitDefEqProofs (disch:=omega) [go_sem]
         refine next_of ⟨i + 1,by omega,fun j hj=>?_⟩ ?_ (by simp only;omega)
         · by_cases e:j = i
           · subst e
             rw [List.getElem?_eq_getElem hia,List.getElem?_eq_getElem (by omega)]
             congr 1
             omega
           · exact heq j (by omega)
         apply weak_lists <;> simp -implicitDefEqProofs [go_sem]
     · have hab:a = b:=List.ext_getElem? fun j=>by
        by_cases hj:j < a.length
        · exact heq j (by omega)
        · rw [List.getElem?_eq_none (by omega),List.getElem?_eq_none (by omega)]
       simp -implicitDefEqProofs (disch:=omega) [go_sem,Try.f14,hab]
namespace Sf
/-- A byte that is escaped. -/
def escd (accm c:Nat):Prop:=c = 126 ∨ c = 125 ∨ (c < 32∧accm / 2 ^ c % 2 = 1)
instance (accm c:Nat):Decidable (escd accm c):=by unfold escd;infer_instance
/-- What is plain,of bytes of which the first is turned by t. -/
def plT:Nat->List Nat->Option (List Nat)
 | t,[]=>if t = 0 then some [] else none
 | t,c :: l=>if c = 126 then none else if c = 125∧t = 0 then plT 32 l else (plT 0 l).map ((c ^^^ t) :: ·)
def plain (b:List Nat):Option (List Nat):=plT 0 b
end Sf
namespace Sf
end Sf
namespace Sf
end Sf
theorem frz_rows {ok:Bool} {H:Nat->Blk} {g len es:Nat} {rw:Bool} {cells:List D} {l:List Data} (hg:H g = .blk rw cells) (hrw:ok = true ∨ rw = false) (hl:l.length = len) (hes:∀ x∈l,x.cells.length = es) (h:FrzL ok H cells (flat l)):Frz ok H (.ref g 0 len es) (.sl es l):=by
 obtain ⟨h1,h2⟩:=h
 have hfl:(flat l).length = l.length * es:=flat_length hes
 refine .ref g 0 len es rw cells l (fun i=>cells.getD i .junk) hg hrw hl hes (by rw [<- hl];omega) (fun i x hx=>?_) (fun i x hx=>?_)
 · have hi:=(List.getElem?_eq_some_iff.1 hx).1
   have hi2:i < cells.length:=by omega
   simp [List.getD_eq_getElem?_getD,hi2]
 · have hi:=(List.getElem?_eq_some_iff.1 hx).1
   have hi2:i < cells.length:=by omega
   refine h2 i _ x ?_ hx
   simp [List.getD_eq_getElem?_getD,hi2]
namespace Sf
end Sf
namespace Fc
end Fc
namespace Op9
structure Ot where
 t:Nat
 d:List Nat
deriving DecidableEq
structure Ot.Ty (o:Ot):Prop where
 t:o.t < 256
 d:∀ x∈o.d,x < 256
def ot (o:Ot):Data:=.agg [.int .u8 o.t,.sl 1 (bys o.d)]
def ots (l:List Ot):List Data:=l.map ot
@[go_sem] theorem ots_length (l:List Ot):(ots l).length = l.length:=by simp [ots]
@[go_sem] theorem ots_get (l:List Ot) (i:Nat):(ots l)[i]? = (l[i]?).map ot:=by simp [ots]
theorem ots_cells (l:List Ot):∀ x∈ots l,x.cells.length = 2:=fun x hx=>by obtain ⟨p,_,rfl⟩:=List.mem_map.1 hx;rfl
theorem ots_snoc (l:List Ot) (o:Ot):(flat (ots (l++[o]))).map D.data = (flat (ots l)).map D.data++[.data (.int .u8 o.t),.data (.sl 1 (bys o.d))]:=by
 simp [ots,flat,ot,Data.cells]
def noO:Ot:=⟨0,[]⟩
def otB (o:Ot):List Nat:=o.t :: (2 + o.d.length) :: o.d
def otsB (l:List Ot):List Nat:=l.flatMap otB
theorem otsB_append (a b:List Ot):otsB (a++b) = otsB a++otsB b:=by simp [otsB]
theorem otsB_take (l:List Ot) (i:Nat) (h:i < l.length):otsB (l.take (i + 1)) = otsB (l.take i)++otB l[i]:=by
 rw [List.take_add_one,List.getElem?_eq_getElem h,Option.toList_some,otsB_append]
 simp [otsB]
/-- Options that may be. -/
def OkO (l:List Ot):Prop:=(∀ o∈l,o.d.length≤253)∧(otsB l).length≤1496
instance (l:List Ot):Decidable (OkO l):=by unfold OkO;infer_instance
def optB (l:List Ot):List Nat:=if OkO l then otsB l else []
def optE (l:List Ot):Int:=if OkO l then 0 else 1
def readO:Nat->List Nat->Option (List Ot)
 | _,[]=>some []
 | 0,_ :: _=>none
 | _ + 1,[_]=>none
 | k + 1,t :: n :: r=>if 2≤n∧n≤r.length + 2 then (readO k (r.drop (n - 2))).map (⟨t,r.take (n - 2)⟩ :: ·) else none
def readL (b:List Nat):Option (List Ot):=readO b.length b
def gotO (b:List Nat):List Ot:=(readL b).getD []
def errO (b:List Nat):Int:=if (readL b).isSome then 0 else 2
theorem readO_two (k t n:Nat) (r:List Nat):readO (k + 1) (t :: n :: r) = if 2≤n∧n≤r.length + 2 then (readO k (r.drop (n - 2))).map (⟨t,r.take (n - 2)⟩ :: ·) else none:=rfl
theorem readO_nil (k:Nat):readO k [] = some []:=by cases k <;> rfl
theorem readO_one {k:Nat} {x:Nat}:readO k [x] = none:=by cases k <;> rfl
theorem readO_fuel:∀ (j k:Nat) (b:List Nat),b.length≤j->b.length≤k->readO j b = readO k b
 | j,k,[],_,_=>by rw [readO_nil,readO_nil]
 | j,k,[x],_,_=>by rw [readO_one,readO_one]
 | j + 1,k + 1,t :: n :: r,hj,hk=>by
   simp only [List.length_cons] at hj hk
   rw [readO_two,readO_two,readO_fuel j k (r.drop (n - 2)) (by rw [List.length_drop];omega) (by rw [List.length_drop];omega)]
 | 0,_,t :: n :: r,hj,_=>by simp at hj
 | _ + 1,0,t :: n :: r,_,hk=>by simp at hk
/-- What is told as bytes is told back,whatever row of bytes of options stands behind. -/
theorem readO_app:∀ (l:List Ot) (r:List Nat) (k:Nat),(otsB l++r).length≤k->readO k (otsB l++r) = (readO k r).map (l++·)
 | [],r,k,_=>by cases h:readO k r <;> simp [otsB,h]
 | o :: l,r,k,hk=>by
   have e:otsB (o :: l)++r = o.t :: (2 + o.d.length) :: (o.d++(otsB l++r)):=by simp [otsB,otB]
   rw [e] at hk ⊢
   simp only [List.length_cons,List.length_append] at hk
   obtain ⟨j,rfl⟩:∃ j,k = j + 1:=⟨k - 1,by omega⟩
   have ih:=readO_app l r j (by rw [List.length_append];omega)
   rw [readO_two,if_pos ⟨by omega,by rw [List.length_append];omega⟩,show 2 + o.d.length - 2 = o.d.length by omega,List.drop_left,List.take_left,ih]
   rw [readO_fuel j (j + 1) r (by omega) (by omega)]
   cases readO (j + 1) r <;> simp
theorem readL_back (l:List Ot):readL (otsB l) = some l:=by
 have:=readO_app l [] (otsB l).length (by simp)
 rw [List.append_nil,readO_nil] at this
 unfold readL
 rw [this];simp
/-- What is read has these bytes. -/
theorem readO_forth:∀ (k:Nat) (b:List Nat) (l:List Ot),(∀ x∈b,x < 256)->readO k b = some l->b = otsB l∧(∀ o∈l,o.Ty∧o.d.length≤253)
 | k,[],l,_,h=>by
   rw [readO_nil] at h
   cases h
   exact ⟨rfl,fun o ho=>by cases ho⟩
 | k,[x],l,_,h=>by rw [readO_one] at h;cases h
 | 0,t :: n :: r,l,_,h=>by cases h
 | k + 1,t :: n :: r,l,hb,h=>by
   rw [readO_two] at h
   split at h
   · rename_i hn
     obtain ⟨m,hm,rfl⟩:=Option.map_eq_some_iff.1 h
     have hn1:=hb n (by simp)
     obtain ⟨h1,h2⟩:=readO_forth k (r.drop (n - 2)) m (fun x hx=>hb x (by simp [List.mem_of_mem_drop hx])) hm
     have hl:(r.take (n - 2)).length = n - 2:=by rw [List.length_take];omega
     refine ⟨?_,fun o ho=>?_⟩
     · have e:otsB (⟨t,r.take (n - 2)⟩ :: m) = t :: (2 + (r.take (n - 2)).length) :: (r.take (n - 2)++otsB m):=by simp [otsB,otB]
       rw [e,hl,<- h1,List.take_append_drop,show 2 + (n - 2) = n by omega]
     · rcases List.mem_cons.1 ho with rfl | ho
       · exact ⟨⟨hb _ (by simp),fun x hx=>hb x (by simp [List.mem_of_mem_take hx])⟩,by rw [hl];omega⟩
       · exact h2 o ho
   · cases h
theorem readL_forth {b:List Nat} {l:List Ot} (hb:∀ x∈b,x < 256) (h:readL b = some l):b = otsB l∧(∀ o∈l,o.Ty∧o.d.length≤253):=readO_forth _ b l hb h
theorem otB_len (o:Ot):(otB o).length = 2 + o.d.length:=by simp [otB];omega
theorem otsB_le (l:List Ot) (h:∀ o∈l,o.d.length≤253):(otsB l).length≤255 * l.length:=by
 induction l with
 | nil=>simp [otsB]
 | cons o l ih =>
   have:=ih fun x hx=>h x (by simp [hx])
   have h1:=h o (by simp)
   have h2:=otB_len o
   have e:otsB (o :: l) = otB o++otsB l:=rfl
   rw [e,List.length_append,List.length_cons]
   omega
theorem otsB_take_le (l:List Ot) (i:Nat):(otsB (l.take i)).length≤(otsB l).length:=by
 have e:otsB l = otsB (l.take i)++otsB (l.drop i):=by rw [<- otsB_append,List.take_append_drop]
 rw [e,List.length_append];omega
theorem otsB_lt {l:List Ot} (h:∀ o∈l,o.Ty∧o.d.length≤253):∀ x∈otsB l,x < 256:=by
 intro x hx
 obtain ⟨o,ho,hx⟩:=List.mem_flatMap.1 hx
 obtain ⟨ht,hd⟩:=h o ho
 unfold otB at hx
 simp only [List.mem_cons] at hx
 rcases hx with rfl | rfl | hx
 · exact ht.t
 · omega
 · exact ht.d x hx
theorem otsB_get (l:List Ot):l.length≤(otsB l).length:=by
 induction l with
 | nil=>simp
 | cons o l ih =>
   have e:otsB (o :: l) = otB o++otsB l:=rfl
   have:=otB_len o
   rw [e,List.length_append,List.length_cons];omega
/-- Found,put,dropped. -/
def findO (l:List Ot) (t:Nat):Option Ot:=l.find? fun o=>o.t = t
def putG (o:Ot):Bool->List Ot->List Ot
 | lg,[]=>if lg then [] else [o]
 | lg,x :: l=>if lg = false∧x.t = o.t then o :: putG o true l else x :: putG o lg l
def putO (l:List Ot) (o:Ot):List Ot:=putG o false l
def dropO (l:List Ot) (t:Nat):List Ot:=l.filter fun o=>o.t≠t
def FewO (l:List Ot):Prop:=l.length≤30∧∀ o∈l,o.d.length≤253
instance (l:List Ot):Decidable (FewO l):=by unfold FewO;infer_instance
/-- Numbers. -/
def numF (l:List Nat):Nat:=l.foldl (fun n x=>n * 256 + x) 0
def numO (b:List Nat):Nat:=numF (b.drop (b.length - 4))
def fourO (n:Nat):List Nat:=[n / 16777216,n / 65536 % 256,n / 256 % 256,n % 256]
theorem numF_snoc (l:List Nat) (x:Nat):numF (l++[x]) = numF l * 256 + x:=by simp [numF,List.foldl_append]
theorem numF_lt:∀ (n:Nat) (l:List Nat),l.length = n->(∀ x∈l,x < 256)->numF l < 256 ^ n:=by
 intro n
 induction n with
 | zero=>intro l hl _;rw [List.eq_nil_of_length_eq_zero hl];decide
 | succ n ih =>
   intro l hl hb
   have hne:l≠[]:=fun e=>by rw [e] at hl;simp at hl
   have e:=List.dropLast_concat_getLast hne
   have h1:=ih l.dropLast (by rw [List.length_dropLast];omega) fun x hx=>hb x (List.dropLast_subset _ hx)
   have h2:=hb _ (List.getLast_mem hne)
   rw [<- e,numF_snoc,Nat.pow_succ]
   omega
theorem four_num {n:Nat} (h:n < 4294967296):numO (fourO n) = n:=by
 show numF [n / 16777216,n / 65536 % 256,n / 256 % 256,n % 256] = n
 simp only [numF,List.foldl_cons,List.foldl_nil]
 omega
end Op9
namespace Op9
section
variable (Γ:Nat->Option (List Data))
theorem rone_pc (a b:Ot) (ha:a.d.length≤1000000000) (hb:b.d.length≤1000000000):PC Try.prog Γ 23 [ot a,ot b] (.bool (decide (a = b))):=by
 refine pc_by mixed Try.func23 rfl (fun args w=>Try.call23 args w) ?_
 have c1:=row_pc Γ a.d b.d (by omega) (by omega)
 have e:decide (a = b) = (decide (a.d = b.d) && decide (a.t = b.t)):=by
  obtain ⟨p,i⟩:=a;obtain ⟨q,j⟩:=b
  simp only [Ot.mk.injEq,Bool.decide_and,Bool.and_comm]
 rw [e]
 simp -implicitDefEqProofs (disch:=omega) [go_sem,ot]
 refine .inl (call_data c1 (by simp [go_sem]) ?_)
 by_cases hi:a.d = b.d
 · by_cases hp:a.t = b.t
   · simp -implicitDefEqProofs (disch:=omega) [go_sem,hi,hp,Try.f23]
   · have hp2:¬ ((a.t:Int) = b.t):=by omega
     simp -implicitDefEqProofs (disch:=omega) [go_sem,hi,hp,hp2,Try.f23]
 · simp -implicitDefEqProofs (disch:=omega) [go_sem,hi,Try.f23]
theorem rosame_pc (a b:List Ot) (ha:a.length≤1000000000) (hb:b.length≤1000000000) (hla:∀ x∈a,x.d.length≤1000000000) (hlb:∀ x∈b,x.d.length≤1000000000):PC Try.prog Γ 15 [.sl 2 (ots a),.sl 2 (ots b)] (.bool (decide (a = b))):=by
 refine pc_by mixed Try.func15 rfl (fun args w=>Try.call15 args w) ?_
 by_cases hn:a.length = b.length
 rotate_left
 · rw [decide_eq_false fun e=>hn (by rw [e])]
   simp -implicitDefEqProofs (disch:=omega) [go_sem,hn,Try.f15]
 simp -implicitDefEqProofs (disch:=omega) [go_sem,hn]
 refine loop_ren (σ:={ i:Nat // i≤b.length∧a.take i = b.take i }) (fun i=>⟨envL [(0,.data (.sl 2 (ots a))),(1,.data (.sl 2 (ots b))),(5,.data (.int .i64 i.1))],hpL [],0,0,29⟩) (fun i=>b.length - i.1) ⟨0,by omega,rfl⟩ [] (rhoL []) ?_ ?_
 · apply ren_lists <;> simp -implicitDefEqProofs [go_sem]
 rintro ⟨i,hi,hall⟩
 by_cases h:i < b.length
 · have h2:i < a.length:=by omega
   have c1:=rone_pc Γ a[i] b[i] (hla _ (List.getElem_mem h2)) (hlb _ (List.getElem_mem h))
   unfold ot at c1
   by_cases he:a[i] = b[i]
   · rw [decide_eq_true he] at c1
     simp -implicitDefEqProofs (disch:=omega) [go_sem,ot]
     refine .inl (call_data c1 (by simp [go_sem]) ?_)
     simp -implicitDefEqProofs (disch:=omega) [go_sem]
     refine side (by kernel_rfl) ?_
     simp -implicitDefEqProofs (disch:=omega) [go_sem]
     refine next_ren ⟨i + 1,by omega,by rw [List.take_add_one,List.take_add_one,hall,List.getElem?_eq_getElem h,List.getElem?_eq_getElem h2,he]⟩ (by simp only;omega) [] (rhoL []) ?_
     apply ren_lists <;> simp -implicitDefEqProofs [go_sem]
   · rw [decide_eq_false he] at c1
     rw [decide_eq_false fun e=>he (by simp [e])]
     simp -implicitDefEqProofs (disch:=omega) [go_sem,ot]
     refine .inl (call_data c1 (by simp [go_sem]) ?_)
     simp -implicitDefEqProofs (disch:=omega) [go_sem]
     refine side (by kernel_rfl) ?_
     simp -implicitDefEqProofs (disch:=omega) [go_sem,Try.f15]
 · have:i = b.length:=by omega
   subst this
   rw [List.take_length,List.take_of_length_le (by omega)] at hall
   rw [decide_eq_true hall]
   simp -implicitDefEqProofs (disch:=omega) [go_sem,hn,Try.f15]
theorem rfew_pc (l:List Ot) (hl:l.length≤140737488351232) (hd:∀ o∈l,o.d.length≤140737488351232) {q:Bool} (hq:q = true ↔ FewO l):PC Try.prog Γ 9 [.sl 2 (ots l)] (.bool q):=by
 refine pc_by mixed Try.func9 rfl (fun args w=>Try.call9 args w) ?_
 have no:¬ FewO l->q = false:=fun h=>by
  cases q
  · rfl
  · exact absurd (hq.1 rfl) h
 simp -implicitDefEqProofs (disch:=omega) [go_sem]
 refine loop_ren (σ:={ i:Nat // i≤l.length∧i≤30∧∀ (j:Nat) (h:j < l.length),j < i->l[j].d.length≤253 }) (fun i=>⟨envL [(0,.data (.sl 2 (ots l))),(3,.data (.int .i64 i.1))],hpL [],0,0,21⟩) (fun i=>l.length - i.1) ⟨0,by omega,by omega,fun j _ h=>absurd h (Nat.not_lt_zero _)⟩ [] (rhoL []) ?_ ?_
 · apply ren_lists <;> simp -implicitDefEqProofs [go_sem]
 rintro ⟨i,hi,h30,hall⟩
 by_cases hlt:i < l.length
 · by_cases c1:i < 30
   · have hdi:=hd l[i] (List.getElem_mem hlt)
     by_cases c2:l[i].d.length≤253
     · simp -implicitDefEqProofs (disch:=omega) [go_sem,ot]
       refine next_ren ⟨i + 1,by omega,by omega,fun j h hj=>?_⟩ (by simp only;omega) [] (rhoL []) ?_
       · by_cases e:j = i
         · subst e;exact c2
         · exact hall j h (by omega)
       apply ren_lists <;> simp -implicitDefEqProofs [go_sem]
     · rw [no fun h=>c2 (h.2 _ (List.getElem_mem hlt))]
       simp -implicitDefEqProofs (disch:=omega) [go_sem,ot,Try.f9]
   · rw [no fun h=>by have:=h.1;omega]
     simp -implicitDefEqProofs (disch:=omega) [go_sem,Try.f9]
 · have yes:q = true:=hq.2 ⟨by omega,fun o ho=>by
    obtain ⟨j,hj,rfl⟩:=List.getElem_of_mem ho
    exact hall j hj (by omega)⟩
   rw [yes]
   simp -implicitDefEqProofs (disch:=omega) [go_sem,Try.f9]
theorem rfour_pc (n:Nat) (hn:n < 4294967296):PC Try.prog Γ 20 [.int .u32 n] (.sl 1 (bys (fourO n))):=by
 refine pc_by mixed Try.func20 rfl (fun args w=>Try.call20 args w) ?_
 simp -implicitDefEqProofs (disch:=omega) [go_sem,Try.f20]
 refine ⟨_,⟨_,rfl,frz_bys (rw:=true) (l:=fourO n) ?_ (.inl rfl) (by simp [fourO])⟩,rfl⟩
 simp [go_sem,bys,u8,fourO]
 omega
theorem rnumber_pc (b:List Nat) (hb:b.length≤1000000000) (hl:∀ x∈b,x < 256):PC Try.prog Γ 18 [.sl 1 (bys b)] (.int .u32 (numO b)):=by
 refine pc_by mixed Try.func18 rfl (fun args w=>Try.call18 args w) ?_
 unfold numO
 have hs:∀ k,k≤4->k≤(b.drop (b.length - 4)).length->numF ((b.drop (b.length - 4)).take k) < 256 ^ k:=fun k h1 h2=>numF_lt k _ (by rw [List.length_take];omega) fun x hx=>hl x (List.mem_of_mem_drop (List.mem_of_mem_take hx))
 have hlen:(b.drop (b.length - 4)).length = b.length - (b.length - 4):=List.length_drop
 have hget:∀ k (h:k < (b.drop (b.length - 4)).length),∃ h2:b.length - 4 + k < b.length,(b.drop (b.length - 4))[k] = b[b.length - 4 + k]:=fun k h=>⟨by omega,List.getElem_drop⟩
 generalize hS:b.length - 4 = S at *
 generalize b.drop S = c at *
 have hcl:c.length≤4:=by omega
 have hm:(if (0:Int) < (b.length:Int) - 4 then (b.length:Int) - 4 else 0) = (S:Int):=by split <;> omega
 simp -implicitDefEqProofs (disch:=omega) [go_sem]
 refine loop_ren (σ:={ i:Nat // i≤c.length }) (fun i=>⟨envL [(0,.data (.sl 1 (bys b))),(3,.data (.int .u32 (numF (c.take i.1)))),(4,.data (.int .i64 ((S + i.1:Nat):Int)))],hpL [],0,0,24⟩) (fun i=>c.length - i.1) ⟨0,by omega⟩ [] (rhoL []) ?_ ?_
 · apply ren_lists <;> simp -implicitDefEqProofs [go_sem,numF]
   split <;> omega
 rintro ⟨i,hi⟩
 by_cases h:i < c.length
 · obtain ⟨h2,e⟩:=hget i h
   have h3:=hl _ (List.getElem_mem h2)
   have h4:=hs i (by omega) (by omega)
   have h5:(256:Nat) ^ i≤256 ^ 3:=Nat.pow_le_pow_right (by decide) (by omega)
   have h6:numF (c.take (i + 1)) = numF (c.take i) * 256 + b[S + i]:=by rw [List.take_add_one,List.getElem?_eq_getElem h,Option.toList_some,numF_snoc,e]
   have h7:(256:Nat) ^ 3 = 16777216:=by decide
   simp -implicitDefEqProofs (disch:=omega) [go_sem]
   refine next_ren ⟨i + 1,by omega⟩ (by simp only;omega) [] (rhoL []) ?_
   apply ren_lists <;> simp -implicitDefEqProofs [go_sem]
   rw [h6]
   have e8:((S:Int) + i).toNat = S + i:=by omega
   simp only [e8]
   constructor <;> omega
 · have:i = c.length:=by omega
   subst this
   simp -implicitDefEqProofs (disch:=omega) [go_sem,List.take_length,Try.f18]
def foundO:Option Ot->Data
 | some o=>.tup [ot o,.bool true]
 | none=>.tup [ot noO,.bool false]
theorem findO_take (l:List Ot) (t i:Nat) (h:∀ (j:Nat) (hj:j < l.length),j < i->l[j].t≠t) (hi:i < l.length) (ht:l[i].t = t):findO l t = some l[i]:=by
 unfold findO
 rw [List.find?_eq_some_iff_getElem]
 exact ⟨by simpa using ht,i,hi,rfl,fun j hj=>by simpa using h j (by omega) hj⟩
theorem findO_none (l:List Ot) (t:Nat) (h:∀ (j:Nat) (hj:j < l.length),l[j].t≠t):findO l t = none:=by
 unfold findO
 rw [List.find?_eq_none]
 intro x hx
 obtain ⟨j,hj,rfl⟩:=List.getElem_of_mem hx
 simpa using h j hj
theorem drop_step (l:List Ot) (t i:Nat) (h:i < l.length):dropO (l.take (i + 1)) t = dropO (l.take i) t++(if l[i].t = t then [] else [l[i]]):=by
 unfold dropO
 rw [List.take_add_one,List.getElem?_eq_getElem h,Option.toList_some,List.filter_append]
 congr 1
 by_cases e:l[i].t = t <;> simp [e]
set_option maxHeartbeats 1000000 in
theorem robytes_pc (l:List Ot) (hl:l.length≤1000000) (hd:∀ o∈l,o.d.length≤140737488351232):PC Try.prog Γ 11 [.sl 2 (ots l)] (.tup [.sl 1 (bys (optB l)),.int .i64 (optE l)]):=by
 refine pc_by mixed Try.func11 rfl (fun args w=>Try.call11 args w) ?_
 unfold optB optE
 simp -implicitDefEqProofs (disch:=omega) [go_sem]
 refine loop_ren (σ:={ i:Nat // i≤l.length∧∀ (j:Nat) (h:j < l.length),j < i->l[j].d.length≤253 }) (fun i=>⟨envL [(0,.data (.sl 2 (ots l))),(4,.ref 0 0 (otsB (l.take i.1)).length 1),(5,.data (.int .i64 i.1))],hpL [(0,.blk true ((bys (otsB (l.take i.1))).map .data))],1,0,46⟩) (fun i=>l.length - i.1) ⟨0,by omega,fun j _ h=>absurd h (Nat.not_lt_zero _)⟩ [] (rhoL [(0,none)]) ?_ ?_
 · apply ren_lists <;> simp -implicitDefEqProofs [go_sem]
   · rfl
   · rfl
 rintro ⟨i,hi,hall⟩
 have hle:(otsB (l.take i)).length≤255 * i:=by
  have:=otsB_le (l.take i) fun o ho=>by
   obtain ⟨j,hj,rfl⟩:=List.getElem_of_mem ho
   rw [List.length_take] at hj
   rw [List.getElem_take]
   exact hall j (by omega) (by omega)
  rw [List.length_take] at this
  omega
 by_cases h:i < l.length
 · have hdi:=hd l[i] (List.getElem_mem h)
   by_cases c2:l[i].d.length≤253
   · have hst:=otsB_take l i h
     have hn:((2:Int) + l[i].d.length) % 256 = ((2 + l[i].d.length:Nat):Int):=by omega
     simp -implicitDefEqProofs (disch:=omega) [go_sem,ot]
     refine side (by kernel_rfl) ?_
     simp -implicitDefEqProofs (disch:=omega) [go_sem,ot]
     refine next_ren ⟨i + 1,by omega,fun j hj hji=>by
      by_cases e:j = i
      · subst e;exact c2
      · exact hall j hj (by omega)⟩ (by simp only;omega) [] (rhoL [(0,some 35)]) ?_
     simp only [hst]
     apply ren_lists <;> simp -implicitDefEqProofs [go_sem]
     · rw [otB_len];omega
     · exact renCells_plain (by simp [otB,bys,u8];omega) (by simp [plainD,bys])
   · rw [if_neg fun k=>c2 (k.1 _ (List.getElem_mem h)),if_neg fun k=>c2 (k.1 _ (List.getElem_mem h))]
     simp -implicitDefEqProofs (disch:=omega) [go_sem,ot,Try.f11]
     exact ⟨_,⟨_,rfl,.emp _ _⟩,rfl⟩
 · have:i = l.length:=by omega
   subst this
   rw [List.take_length] at hle
   by_cases c:(otsB l).length≤1496
   · have ok:OkO l:=⟨fun o ho=>by
      obtain ⟨j,hj,rfl⟩:=List.getElem_of_mem ho
      exact hall j hj hj,c⟩
     rw [if_pos ok,if_pos ok]
     simp -implicitDefEqProofs (disch:=omega) [go_sem,List.take_length,Try.f11]
     exact ⟨_,⟨_,rfl,frz_bys (rw:=true) (by simp [go_sem]) (.inl rfl) rfl⟩,rfl⟩
   · rw [if_neg fun k=>c k.2,if_neg fun k=>c k.2]
     simp -implicitDefEqProofs (disch:=omega) [go_sem,List.take_length,Try.f11]
     exact ⟨_,⟨_,rfl,.emp _ _⟩,rfl⟩
/-- Where the reader stands. -/
structure Rst (b:List Nat) where
 at_:Nat
 acc:List Ot
 h:at_≤b.length
 n:acc.length≤at_
 e:readL b = (readO (b.length - at_) (b.drop at_)).map (acc++·)
theorem read_step {b:List Nat} {a:Nat} {acc:List Ot} (e:readL b = (readO (b.length - a) (b.drop a)).map (acc++·)) (h1:a + 1 < b.length) (h2:2≤b[a + 1]) (h3:a + b[a + 1]≤b.length) :
 readL b = (readO (b.length - (a + b[a + 1])) (b.drop (a + b[a + 1]))).map ((acc++[⟨b[a],(b.take (a + b[a + 1])).drop (a + 2)⟩])++·):=by
 have hd:b.drop a = b[a] :: b[a + 1] :: b.drop (a + 2):=by
  rw [List.drop_eq_getElem_cons (by omega),List.drop_eq_getElem_cons h1]
 obtain ⟨k,hk⟩:∃ k,b.length - a = k + 1:=⟨b.length - a - 1,by omega⟩
 rw [e,hd,hk,readO_two,if_pos ⟨h2,by rw [List.length_drop];omega⟩,List.drop_drop,show a + 2 + (b[a + 1] - 2) = a + b[a + 1] by omega]
 rw [readO_fuel k (b.length - (a + b[a + 1])) (b.drop (a + b[a + 1])) (by rw [List.length_drop];omega) (by rw [List.length_drop];omega)]
 rw [List.drop_take,show a + b[a + 1] - (a + 2) = b[a + 1] - 2 by omega]
 cases readO (b.length - (a + b[a + 1])) (b.drop (a + b[a + 1])) <;> simp
theorem read_bad {b:List Nat} {a:Nat} {acc:List Ot} (e:readL b = (readO (b.length - a) (b.drop a)).map (acc++·)) (h:a < b.length) (h2:a + 1 = b.length ∨ ∃ h1:a + 1 < b.length,b[a + 1] < 2 ∨ b.length < a + b[a + 1]):readL b = none:=by
 rcases h2 with h2 | ⟨h1,h2⟩
 · have hd:b.drop a = [b[a]]:=by rw [List.drop_eq_getElem_cons h,List.drop_eq_nil_of_le (by omega)]
   rw [e,hd,readO_one];rfl
 · have hd:b.drop a = b[a] :: b[a + 1] :: b.drop (a + 2):=by
    rw [List.drop_eq_getElem_cons (by omega),List.drop_eq_getElem_cons h1]
   obtain ⟨k,hk⟩:∃ k,b.length - a = k + 1:=⟨b.length - a - 1,by omega⟩
   rw [e,hd,hk,readO_two,if_neg (by rw [List.length_drop];omega)];rfl
set_option maxHeartbeats 1000000 in
theorem roread_pc (b:List Nat) (hb:b.length≤1000000000) (hl:∀ x∈b,x < 256):PC Try.prog Γ 13 [.sl 1 (bys b)] (.tup [.sl 2 (ots (gotO b)),.int .i64 (errO b)]):=by
 refine pc_by mixed Try.func13 rfl (fun args w=>Try.call13 args w) ?_
 have bad:readL b = none->gotO b = []∧errO b = 2:=fun h=>by unfold gotO errO;rw [h];exact ⟨rfl,rfl⟩
 simp -implicitDefEqProofs (disch:=omega) [go_sem]
 refine loop_ren (σ:=Rst b) (fun i=>⟨envL [(0,.data (.sl 1 (bys b))),(4,.ref 0 0 i.acc.length 2),(5,.data (.int .i64 i.at_))],hpL [(0,.blk true ((flat (ots i.acc)).map .data))],1,0,51⟩) (fun i=>b.length - i.at_) ⟨0,[],by omega,by simp,by simp [readL]⟩ [] (rhoL [(0,none)]) ?_ ?_
 · apply ren_lists <;> simp -implicitDefEqProofs [go_sem]
   rfl
 rintro ⟨a,acc,h,hn,e⟩
 have hfl:(flat (ots acc)).length = acc.length * 2:=by rw [flat_length (ots_cells _),ots_length]
 by_cases hlt:a < b.length
 · by_cases h1:a + 1 = b.length
   · obtain ⟨e1,e2⟩:=bad (read_bad e hlt (.inl h1))
     rw [e1,e2]
     simp -implicitDefEqProofs (disch:=omega) [go_sem,Try.f13]
     exact ⟨_,⟨_,rfl,.emp _ _⟩,rfl⟩
   have h2:a + 1 < b.length:=by omega
   have hbn:=hl _ (List.getElem_mem h2)
   have ei:((a:Int) + 1).toNat = a + 1:=by omega
   by_cases h3:b[a + 1] < 2
   · obtain ⟨e1,e2⟩:=bad (read_bad e hlt (.inr ⟨h2,.inl h3⟩))
     rw [e1,e2]
     simp -implicitDefEqProofs (disch:=omega) [go_sem,ei,Try.f13]
     exact ⟨_,⟨_,rfl,.emp _ _⟩,rfl⟩
   by_cases h4:b.length < a + b[a + 1]
   · obtain ⟨e1,e2⟩:=bad (read_bad e hlt (.inr ⟨h2,.inr h4⟩))
     rw [e1,e2]
     simp -implicitDefEqProofs (disch:=omega) [go_sem,ei,Try.f13]
     exact ⟨_,⟨_,rfl,.emp _ _⟩,rfl⟩
   have ei2:((a:Int) + 2).toNat = a + 2:=by omega
   have ei3:((a:Int) + b[a + 1]).toNat = a + b[a + 1]:=by omega
   have st:=read_step e h2 (by omega) (by omega)
   simp -implicitDefEqProofs (disch:=omega) [go_sem,ei,hfl]
   refine side (by kernel_rfl) ?_
   simp -implicitDefEqProofs (disch:=omega) [go_sem,ei,hfl]
   refine next_ren (Rst.mk (a + b[a + 1]) (acc++[⟨b[a],(b.take (a + b[a + 1])).drop (a + 2)⟩]) (by omega) (by rw [List.length_append];simp;omega) st) (by show b.length - (a + b[a + 1]) < b.length - a;omega) [] (rhoL [(0,some 41)]) ?_
   apply ren_lists <;> simp -implicitDefEqProofs [go_sem]
   exact renCells_plain (by rw [ots_snoc,ei2,ei3]) (by simp [plainD])
 · have ea:a = b.length:=by omega
   subst ea
   have e3:readL b = some acc:=by rw [e,List.drop_length,readO_nil];simp
   have e1:gotO b = acc:=by unfold gotO;rw [e3];rfl
   have e2:errO b = 0:=by unfold errO;rw [e3];rfl
   rw [e1,e2]
   simp -implicitDefEqProofs (disch:=omega) [go_sem,Try.f13]
   exact ⟨_,⟨_,rfl,frz_ref (rw:=true) (by simp [go_sem]) (.inl rfl) (ots_length _) (ots_cells _) rfl⟩,rfl⟩
end
end Op9
namespace Op9
theorem drop_drop (l:List Ot) (s t:Nat):dropO (dropO l s) t = dropO (dropO l t) s:=by
 unfold dropO
 rw [List.filter_filter,List.filter_filter]
 congr 1
 funext x
 exact Bool.and_comm _ _
theorem drop_mem {l:List Ot} {t:Nat}:∀ x∈dropO l t,x.t≠t:=fun x hx=>by
 have:=(List.mem_filter.1 hx).2
 simpa using this
theorem drop_sub {l:List Ot} {t:Nat}:∀ x∈dropO l t,x∈l:=fun x hx=>(List.mem_filter.1 hx).1
theorem drop_len (l:List Ot) (t:Nat):(dropO l t).length≤l.length:=List.length_filter_le _ _
theorem drop_no {l:List Ot} {t:Nat} (h:∀ x∈l,x.t≠t):dropO l t = l:=by
 unfold dropO
 rw [List.filter_eq_self]
 intro x hx
 simpa using h x hx
theorem put_no {o:Ot}:∀ {l:List Ot},(∀ x∈l,x.t≠o.t)->putO l o = l++[o]
 | [],_=>rfl
 | x :: l,h=>by
   have hx:=h x (by simp)
   have ih:putG o false l = l++[o]:=put_no fun y hy=>h y (by simp [hy])
   show putG o false (x :: l) = _
   unfold putG
   rw [if_neg (fun k=>hx k.2),ih]
   rfl
theorem put_dropped (l:List Ot) (o:Ot):putO (dropO l o.t) o = dropO l o.t++[o]:=put_no drop_mem
theorem drop_put (l:List Ot) (o:Ot):dropO (dropO l o.t++[o]) o.t = dropO l o.t:=by
 have h1:dropO (dropO l o.t) o.t = dropO l o.t:=drop_no drop_mem
 unfold dropO at *
 rw [List.filter_append,h1]
 simp
theorem okO_app {a b:List Ot}:OkO (a++b) ↔ (∀ o∈a,o.d.length≤253)∧(∀ o∈b,o.d.length≤253)∧(otsB a).length + (otsB b).length≤1496:=by
 unfold OkO
 rw [otsB_append,List.length_append]
 constructor
 · rintro ⟨h1,h2⟩
   exact ⟨fun o ho=>h1 o (by simp [ho]),fun o ho=>h1 o (by simp [ho]),h2⟩
 · rintro ⟨h1,h2,h3⟩
   refine ⟨fun o ho=>?_,h3⟩
   rcases List.mem_append.1 ho with ho | ho
   · exact h1 o ho
   · exact h2 o ho
theorem num_behind (ahead:List Nat) {n:Nat} (h:n < 4294967296):numO (ahead++fourO n) = n:=by
 have hl:(fourO n).length = 4:=rfl
 unfold numO
 rw [List.length_append,hl,Nat.add_sub_cancel,List.drop_left]
 exact four_num h
theorem four_lt {n:Nat} (h:n < 4294967296):∀ x∈fourO n,x < 256:=by
 intro x hx
 simp only [fourO,List.mem_cons,List.not_mem_nil,or_false] at hx
 omega
end Op9
namespace Sf
section
variable (Γ:Nat->Option (List Data))
/-- A line that is right. -/
def Rl (b:List Nat) (lg:Bool):Prop:=b.length≤1508∧(lg = true->b = [])∧126 ∉ b
instance (b:List Nat) (lg:Bool):Decidable (Rl b lg):=by unfold Rl;infer_instance
end
end Sf
namespace Sf
section
variable (Γ:Nat->Option (List Data))
theorem sequal_pc (a b:List Nat) (ha:∀ x∈a,x < 256) (hb:∀ x∈b,x < 256):PC Try.prog Γ 28 [.sl 1 (bys a),.sl 1 (bys b)] (.bool (decide (a = b))):=by
 refine pc_by mixed Try.func28 rfl (fun args w=>Try.call28 args w) ?_
 have hd:decide (toStr a = toStr b) = decide (a = b):=decide_eq_decide.2 (toStr_inj ha hb)
 simp -implicitDefEqProofs (disch:=omega) [go_sem,Try.f28]
 refine conv_bys (e:=5) ha (by simp [go_sem]) (by simp [go_sem]) (by simp [go_sem]) ?_
 simp -implicitDefEqProofs (disch:=omega) [go_sem]
 refine conv_bys (e:=5) hb (by simp [go_sem]) (by simp [go_sem]) (by simp [go_sem]) ?_
 simp -implicitDefEqProofs (disch:=omega) [go_sem,Try.f28,hd]
end
end Sf
namespace Sf
end Sf
namespace Sf
end Sf
namespace Sf
section
variable (Γ:Nat->Option (List Data))
theorem row_same (a:List Nat) (ha:a.length≤100000000000):PC Try.prog Γ 14 [.sl 1 (bys a),.sl 1 (bys a)] (.bool true):=by
 have:=row_pc Γ a a ha ha
 rwa [decide_eq_true rfl] at this
end
end Sf
namespace Sf
end Sf
namespace Sf
end Sf
namespace Fc
structure Fr where
 p:Nat
 i:List Nat
deriving DecidableEq
def fr (f:Fr):Data:=.agg [.int .u16 f.p,.sl 1 (bys f.i)]
def noF:Fr:=⟨0,[]⟩
def MayP (p:Nat):Prop:=p % 2 = 1∧p / 256 % 2 = 0∧p≠255
instance (p:Nat):Decidable (MayP p):=by unfold MayP;infer_instance
/-- A frame that may be. -/
def Ok (f:Fr):Prop:=MayP f.p∧f.i.length≤1500
instance (f:Fr):Decidable (Ok f):=by unfold Ok;infer_instance
def fin (p:Nat) (i:List Nat):Fr × Int:=if MayP p then if i.length≤1500 then (⟨p,i⟩,0) else (noF,4) else (noF,2)
def bodyR:List Nat->Fr × Int
 | []=>(noF,2)
 | x :: r=>if x % 2 = 1 then fin x r else match r with
   | []=>(noF,2)
   | y :: r=>fin (x * 256 + y) r
end Fc
namespace Pa
open Fc
def known (proto code:Nat):Bool:=if proto = 49185 then decide (1≤code∧code≤11) else if proto = 49699 then decide (1≤code∧code≤4) else if proto = 32801 then decide (1≤code∧code≤7) else false
end Pa
namespace Pa
end Pa
namespace Pa
open Fc
section
variable (Γ:Nat->Option (List Data))
theorem pclone_pc (b:List Nat) (hl:b.length≤1000000000):PC Try.prog Γ 34 [.sl 1 (bys b)] (.sl 1 (bys b)):=by
 refine pc_by mixed Try.func34 rfl (fun args w=>Try.call34 args w) ?_
 simp -implicitDefEqProofs (disch:=omega) [go_sem]
 refine fun q hq=>?_
 cases q
 · simp -implicitDefEqProofs (disch:=omega) [go_sem,Try.f34]
   exact ⟨_,⟨_,rfl,frz_bys (rw:=true) (by simp [go_sem]) (.inl rfl) (by simp [bys_length])⟩,rfl⟩
 · have h0:b = []:=by simpa [bys] using hq rfl
   subst h0
   simp -implicitDefEqProofs (disch:=omega) [go_sem,Try.f34]
   exact ⟨_,⟨_,rfl,.emp ..⟩,rfl⟩
end
end Pa
namespace Op9
section
variable (Γ:Nat->Option (List Data))
theorem copied_pc (o:Ot) (h:o.d.length≤1000000000):PC Try.prog Γ 29 [ot o] (ot o):=by
 refine pc_by mixed Try.func29 rfl (fun args w=>Try.call29 args w) ?_
 have c1:=Pa.pclone_pc Γ o.d h
 unfold ot
 simp -implicitDefEqProofs (disch:=omega) [go_sem]
 refine .inl (call_data c1 (by simp [go_sem]) ?_)
 simp -implicitDefEqProofs (disch:=omega) [go_sem]
 refine side (by kernel_rfl) ?_
 simp -implicitDefEqProofs (disch:=omega) [go_sem,Try.f29]
theorem typeOf_pc (o:Ot):PC Try.prog Γ 31 [ot o] (.int .u8 o.t):=by
 refine pc_by mixed Try.func31 rfl (fun args w=>Try.call31 args w) ?_
 unfold ot
 simp -implicitDefEqProofs (disch:=omega) [go_sem,Try.f31]
/-- Where the first one of a type stands. -/
def placeO (l:List Ot) (t:Nat):Option Nat:=l.findIdx? fun o=>o.t = t
def placeD:Option Nat->Data
 | some i=>.tup [.int .i64 i,.bool true]
 | none=>.tup [.int .i64 0,.bool false]
theorem placeO_some {l:List Ot} {t i:Nat} (h:i < l.length) (ht:l[i].t = t) (hall:∀ (j:Nat) (hj:j < l.length),j < i->l[j].t≠t):placeO l t = some i:=by
 unfold placeO
 rw [List.findIdx?_eq_some_iff_getElem]
 exact ⟨h,by simpa using ht,fun j hj=>by simpa using hall j (by omega) hj⟩
theorem placeO_none {l:List Ot} {t:Nat} (hall:∀ (j:Nat) (hj:j < l.length),l[j].t≠t):placeO l t = none:=by
 unfold placeO
 rw [List.findIdx?_eq_none_iff]
 intro x hx
 obtain ⟨j,hj,rfl⟩:=List.getElem_of_mem hx
 simpa using hall j hj
theorem placeO_is {l:List Ot} {t i:Nat} (h:placeO l t = some i):∃ hi:i < l.length,l[i].t = t∧∀ (j:Nat) (hj:j < l.length),j < i->l[j].t≠t:=by
 unfold placeO at h
 rw [List.findIdx?_eq_some_iff_getElem] at h
 obtain ⟨h1,h2,h3⟩:=h
 exact ⟨h1,by simpa using h2,fun j hj hji=>by simpa using h3 j hji⟩
theorem placeO_no {l:List Ot} {t:Nat} (h:placeO l t = none):∀ x∈l,x.t≠t:=by
 unfold placeO at h
 rw [List.findIdx?_eq_none_iff] at h
 intro x hx
 simpa using h x hx
theorem place_pc (l:List Ot) (t:Nat) (hl:l.length≤1000000000):PC Try.prog Γ 30 [.sl 2 (ots l),.int .u8 t,.fn 31 []] (placeD (placeO l t)):=by
 refine pc_by mixed Try.func30 rfl (fun args w=>Try.call30 args w) ?_
 simp -implicitDefEqProofs (disch:=omega) [go_sem]
 refine loop_ren (σ:={ i:Nat // i≤l.length∧∀ (j:Nat) (hj:j < l.length),j < i->l[j].t≠t }) (fun i=>⟨envL [(1,.data (.int .u8 t)),(2,.data (.fn 31 [])),(10,.data (.sl 2 (ots l))),(11,.data (.int .i64 l.length)),(12,.data (.int .i64 i.1))],hpL [],0,0,24⟩) (fun i=>l.length - i.1) ⟨0,by omega,fun j _ h=>absurd h (Nat.not_lt_zero _)⟩ [] (rhoL []) ?_ ?_
 · apply ren_lists <;> simp -implicitDefEqProofs [go_sem]
 rintro ⟨i,hi,hall⟩
 by_cases h:i < l.length
 · have c1:=typeOf_pc Γ l[i]
   unfold ot at c1
   by_cases ht:l[i].t = t
   · have ht2:(l[i].t:Int) = t:=by omega
     rw [placeO_some h ht hall]
     simp -implicitDefEqProofs (disch:=omega) [go_sem,ot]
     refine .inl (call_data c1 (by simp [go_sem]) ?_)
     simp -implicitDefEqProofs (disch:=omega) [go_sem,ht2,placeD,Try.f30]
   · have ht2:¬ ((l[i].t:Int) = t):=by omega
     simp -implicitDefEqProofs (disch:=omega) [go_sem,ot]
     refine .inl (call_data c1 (by simp [go_sem]) ?_)
     simp -implicitDefEqProofs (disch:=omega) [go_sem,ht2]
     refine next_ren ⟨i + 1,by omega,fun j hj hji=>by
      by_cases e:j = i
      · subst e;exact ht
      · exact hall j hj (by omega)⟩ (by simp only;omega) [] (rhoL []) ?_
     apply ren_lists <;> simp -implicitDefEqProofs [go_sem]
 · rw [placeO_none fun j hj=>hall j hj (by omega)]
   simp -implicitDefEqProofs (disch:=omega) [go_sem,placeD,Try.f30]
/-- How many bytes the next option has. -/
def lenO:List Nat->Data
 | t :: n :: r=>.tup [.int .i64 n,.bool (decide (2≤n∧n≤r.length + 2))]
 | _=>.tup [.int .i64 0,.bool false]
theorem length_pc (b:List Nat) (hl:b.length≤140737488351232) (hb:∀ x∈b,x < 256):PC Try.prog Γ 33 [.sl 1 (bys b)] (lenO b):=by
 refine pc_by mixed Try.func33 rfl (fun args w=>Try.call33 args w) ?_
 match b,hl,hb with
 | [],_,_=>simp -implicitDefEqProofs (disch:=omega) [go_sem,lenO,Try.f33]
 | [x],_,_=>simp -implicitDefEqProofs (disch:=omega) [go_sem,lenO,Try.f33]
 | t :: n :: r,hl,hb =>
   have hn:=hb n (by simp)
   simp only [List.length_cons] at hl
   by_cases h1:2≤n
   · have h1':(2:Int)≤n:=by omega
     by_cases h2:n≤r.length + 2
     · have h2':(n:Int)≤r.length + 1 + 1:=by omega
       simp -implicitDefEqProofs (disch:=omega) [go_sem,lenO,h1,h2,h1',h2',Try.f33]
     · have h2':¬ (n:Int)≤r.length + 1 + 1:=by omega
       simp -implicitDefEqProofs (disch:=omega) [go_sem,lenO,h1,h2,h1',h2',Try.f33]
   · have h1':¬ (2:Int)≤n:=by omega
     simp -implicitDefEqProofs (disch:=omega) [go_sem,lenO,h1,h1',Try.f33]
theorem ofour_pc (n:Nat) (hn:n < 4294967296):PC Try.prog Γ 19 [.int .u32 n] (.sl 1 (bys (fourO n))):=by
 refine pc_by mixed Try.func19 rfl (fun args w=>Try.call19 args w) ?_
 have e1:(n:Int).fdiv 16777216 = ((n / 16777216:Nat):Int):=by rw [Int.fdiv_eq_ediv_of_nonneg _ (by decide)];omega
 have e2:(n:Int).fdiv 65536 = ((n / 65536:Nat):Int):=by rw [Int.fdiv_eq_ediv_of_nonneg _ (by decide)];omega
 have e3:(n:Int).fdiv 256 = ((n / 256:Nat):Int):=by rw [Int.fdiv_eq_ediv_of_nonneg _ (by decide)];omega
 simp -implicitDefEqProofs (disch:=omega) [go_sem,e1,e2,e3,Try.f19]
 refine ⟨_,⟨_,rfl,frz_bys (rw:=true) (l:=fourO n) ?_ (.inl rfl) (by simp [fourO])⟩,rfl⟩
 simp [go_sem,bys,u8,fourO]
 omega
/-- A number,of which the first bytes are shifted out. -/
def numM (b:List Nat):Nat:=b.foldl (fun n x=>n * 256 % 4294967296 + x) 0
theorem numM_snoc (l:List Nat) (x:Nat):numM (l++[x]) = numM l * 256 % 4294967296 + x:=by simp [numM,List.foldl_append]
theorem numM_mod:∀ (n:Nat) (l:List Nat),l.length = n->(∀ x∈l,x < 256)->numM l = numF l % 4294967296:=by
 intro n
 induction n with
 | zero=>intro l hl _;rw [List.eq_nil_of_length_eq_zero hl];rfl
 | succ n ih =>
   intro l hl hb
   have hne:l≠[]:=fun e=>by rw [e] at hl;simp at hl
   have e:=List.dropLast_concat_getLast hne
   have h1:=ih l.dropLast (by rw [List.length_dropLast];omega) fun x hx=>hb x (List.dropLast_subset _ hx)
   have h2:=hb _ (List.getLast_mem hne)
   rw [<- e,numM_snoc,numF_snoc,h1]
   generalize numF l.dropLast = y
   generalize l.getLast hne = z at *
   omega
theorem numF_app:∀ (n:Nat) (a b:List Nat),b.length = n->numF (a++b) = numF a * 256 ^ n + numF b:=by
 intro n
 induction n with
 | zero=>intro a b hb;rw [List.eq_nil_of_length_eq_zero hb];simp [numF]
 | succ n ih =>
   intro a b hb
   have hne:b≠[]:=fun e=>by rw [e] at hb;simp at hb
   have e:=List.dropLast_concat_getLast hne
   rw [<- e,<- List.append_assoc,numF_snoc,numF_snoc,ih a b.dropLast (by rw [List.length_dropLast];omega),Nat.pow_succ]
   rw [Nat.add_mul,Nat.mul_assoc]
   omega
theorem numM_eq {b:List Nat} (hb:∀ x∈b,x < 256):numM b = numO b:=by
 rw [numM_mod _ b rfl hb]
 unfold numO
 have e:numF b = numF (b.take (b.length - 4)++b.drop (b.length - 4)):=by rw [List.take_append_drop]
 have hlt:=numF_lt _ (b.drop (b.length - 4)) rfl fun x hx=>hb x (List.mem_of_mem_drop hx)
 have hle:(b.drop (b.length - 4)).length≤4:=by rw [List.length_drop];omega
 have h4:256 ^ (b.drop (b.length - 4)).length≤256 ^ 4:=Nat.pow_le_pow_right (by decide) hle
 have e4:(256:Nat) ^ 4 = 4294967296:=by decide
 by_cases h:b.length≤4
 · rw [show b.length - 4 = 0 by omega,List.drop_zero] at *
   exact Nat.mod_eq_of_lt (by omega)
 · have hl4:(b.drop (b.length - 4)).length = 4:=by rw [List.length_drop];omega
   rw [e,numF_app 4 _ _ hl4,e4]
   omega
theorem or32 {a b:Nat} (hb:b < 256):orI .u32 (((a * 256 % 4294967296:Nat):Int)) (b:Int) = ((a * 256 % 4294967296 + b:Nat):Int):=by
 have e1:a * 256 % 4294967296 = (a % 16777216) * 256:=by omega
 rw [e1]
 have ha:a % 16777216 < 16777216:=Nat.mod_lt _ (by decide)
 generalize a % 16777216 = c at *
 have h:=Nat.two_pow_add_eq_or_of_lt (i:=8) (b:=b) (by omega) c
 have hw:c * 256 + b < 4294967296:=by omega
 unfold orI
 rw [BitVec.ofInt_natCast,BitVec.ofInt_natCast,BitVec.toNat_or,BitVec.toNat_ofNat,BitVec.toNat_ofNat,Nat.mod_eq_of_lt (show c * 256 < 2 ^ IntKind.u32.bits from by show c * 256 < 4294967296;omega),Nat.mod_eq_of_lt (show b < 2 ^ IntKind.u32.bits from by show b < 4294967296;omega)]
 rw [show c * 256 = 2 ^ 8 * c by omega,<- h,IntKind.wrap_u32]
 omega
theorem onumber_pc (b:List Nat) (hl:b.length≤140737488351232) (hb:∀ x∈b,x < 256):PC Try.prog Γ 17 [.sl 1 (bys b)] (.int .u32 (numO b)):=by
 refine pc_by mixed Try.func17 rfl (fun args w=>Try.call17 args w) ?_
 rw [<- numM_eq hb]
 simp -implicitDefEqProofs (disch:=omega) [go_sem]
 refine loop_ren (σ:={ i:Nat // i≤b.length }) (fun i=>⟨envL [(3,.data (.int .u32 (numM (b.take i.1)))),(6,.data (.sl 1 (bys b))),(7,.data (.int .i64 b.length)),(8,.data (.int .i64 i.1))],hpL [],0,0,19⟩) (fun i=>b.length - i.1) ⟨0,by omega⟩ [] (rhoL []) ?_ ?_
 · apply ren_lists <;> simp -implicitDefEqProofs [go_sem,numM]
 rintro ⟨i,hi⟩
 by_cases h:i < b.length
 · have h3:=hb _ (List.getElem_mem h)
   have h6:numM (b.take (i + 1)) = numM (b.take i) * 256 % 4294967296 + b[i]:=by rw [List.take_add_one,List.getElem?_eq_getElem h,Option.toList_some,numM_snoc]
   generalize numM (b.take i) = m at *
   have e2:=or32 (a:=m) h3
   obtain ⟨z,hz⟩:∃ z:Nat,m * 256 % 4294967296 = z:=⟨_,rfl⟩
   have e1:(m:Int) * 256 % 4294967296 = (z:Int):=by omega
   rw [hz] at e2 h6
   simp -implicitDefEqProofs (disch:=omega) [go_sem,e1,e2]
   refine next_ren ⟨i + 1,by omega⟩ (by simp only;omega) [] (rhoL []) ?_
   apply ren_lists <;> simp -implicitDefEqProofs [go_sem,h6]
   rw [show (b[i]:Int) % 4294967296 = b[i] by omega,e2]
   simp
 · have:i = b.length:=by omega
   subst this
   simp -implicitDefEqProofs (disch:=omega) [go_sem,List.take_length,Try.f17]
theorem sameClo_pc (a b:Ot) (ha:a.Ty) (hb:b.Ty):PC Try.prog Γ 27 [ot a,ot b] (.bool (decide (a = b))):=by
 refine pc_by mixed Try.func27 rfl (fun args w=>Try.call27 args w) ?_
 have c1:=Sf.sequal_pc Γ a.d b.d ha.d hb.d
 have e:decide (a = b) = (decide (a.t = b.t) && decide (a.d = b.d)):=by
  obtain ⟨p,i⟩:=a;obtain ⟨q,j⟩:=b
  simp only [Ot.mk.injEq,Bool.decide_and]
 rw [e]
 generalize decide (a.d = b.d) = v at *
 by_cases h:a.t = b.t
 · simp -implicitDefEqProofs (disch:=omega) [go_sem,ot,h]
   refine .inl (call_data c1 (by simp [go_sem]) ?_)
   simp -implicitDefEqProofs (disch:=omega) [go_sem,h,Try.f27]
 · have h2:¬ (a.t:Int) = b.t:=by omega
   simp -implicitDefEqProofs (disch:=omega) [go_sem,ot,h,h2,Try.f27]
theorem equalF_pc (a b:List Ot) (ha:∀ o∈a,o.Ty) (hb:∀ o∈b,o.Ty) (hla:a.length≤140737488351232) (hlb:b.length≤140737488351232) :
 PC Try.prog Γ 26 [.sl 2 (ots a),.sl 2 (ots b),.fn 27 []] (.bool (decide (a = b))):=by
 refine pc_by mixed Try.func26 rfl (fun args w=>Try.call26 args w) ?_
 by_cases hn:a.length = b.length
 rotate_left
 · rw [decide_eq_false fun e=>hn (by rw [e])]
   have hn2:¬ (a.length:Int) = b.length:=by omega
   simp -implicitDefEqProofs (disch:=omega) [go_sem,hn,hn2,Try.f26]
 simp -implicitDefEqProofs (disch:=omega) [go_sem,hn]
 refine loop_ren (σ:={ i:Nat // i≤b.length∧a.take i = b.take i }) (fun i=>⟨envL [(1,.data (.sl 2 (ots b))),(2,.data (.fn 27 [])),(15,.data (.sl 2 (ots a))),(16,.data (.int .i64 b.length)),(17,.data (.int .i64 i.1))],hpL [],0,0,32⟩) (fun i=>b.length - i.1) ⟨0,by omega,rfl⟩ [] (rhoL []) ?_ ?_
 · apply ren_lists <;> simp -implicitDefEqProofs [go_sem]
 rintro ⟨i,hi,hall⟩
 by_cases h:i < b.length
 · have h2:i < a.length:=by omega
   have c1:=sameClo_pc Γ a[i] b[i] (ha _ (List.getElem_mem h2)) (hb _ (List.getElem_mem h))
   unfold ot at c1
   by_cases he:a[i] = b[i]
   · rw [decide_eq_true he] at c1
     simp -implicitDefEqProofs (disch:=omega) [go_sem,ot]
     refine .inl (call_data c1 (by simp [go_sem]) ?_)
     simp -implicitDefEqProofs (disch:=omega) [go_sem]
     refine next_ren ⟨i + 1,by omega,by rw [List.take_add_one,List.take_add_one,hall,List.getElem?_eq_getElem h,List.getElem?_eq_getElem h2,he]⟩ (by simp only;omega) [] (rhoL []) ?_
     apply ren_lists <;> simp -implicitDefEqProofs [go_sem]
   · rw [decide_eq_false he] at c1
     rw [decide_eq_false fun e=>he (by simp [e])]
     simp -implicitDefEqProofs (disch:=omega) [go_sem,ot]
     refine .inl (call_data c1 (by simp [go_sem]) ?_)
     simp -implicitDefEqProofs (disch:=omega) [go_sem,Try.f26]
 · have:i = b.length:=by omega
   subst this
   rw [List.take_length,List.take_of_length_le (by omega)] at hall
   rw [decide_eq_true hall]
   simp -implicitDefEqProofs (disch:=omega) [go_sem,Try.f26]
theorem osame_pc (a b:List Ot) (ha:∀ o∈a,o.Ty) (hb:∀ o∈b,o.Ty) (hla:a.length≤140737488351232) (hlb:b.length≤140737488351232):PC Try.prog Γ 16 [.sl 2 (ots a),.sl 2 (ots b)] (.bool (decide (a = b))):=by
 refine pc_by mixed Try.func16 rfl (fun args w=>Try.call16 args w) ?_
 have c1:=equalF_pc Γ a b ha hb hla hlb
 simp -implicitDefEqProofs (disch:=omega) [go_sem]
 refine .inl (call_data c1 (by simp [go_sem]) ?_)
 simp -implicitDefEqProofs (disch:=omega) [go_sem,Try.f16]
theorem obytes_pc (l:List Ot) (hl:l.length≤1000000) (hd:∀ o∈l,o.d.length≤140737488351232):PC Try.prog Γ 10 [.sl 2 (ots l)] (.tup [.sl 1 (bys (optB l)),.int .i64 (optE l)]):=by
 refine pc_by mixed Try.func10 rfl (fun args w=>Try.call10 args w) ?_
 unfold optB optE
 simp -implicitDefEqProofs (disch:=omega) [go_sem]
 refine loop_ren (σ:={ i:Nat // i≤l.length∧(∀ (j:Nat) (h:j < l.length),j < i->l[j].d.length≤253)∧(otsB (l.take i)).length≤1496 }) (fun i=>⟨envL [(4,.ref 0 0 (otsB (l.take i.1)).length 1),(8,.data (.sl 2 (ots l))),(9,.data (.int .i64 l.length)),(10,.data (.int .i64 i.1))],hpL [(0,.blk true ((bys (otsB (l.take i.1))).map .data))],1,0,41⟩) (fun i=>l.length - i.1) ⟨0,by omega,(fun j _ h=>absurd h (Nat.not_lt_zero _)),by simp [otsB]⟩ [] (rhoL [(0,none)]) ?_ ?_
 · apply ren_lists <;> simp -implicitDefEqProofs [go_sem]
   · rfl
   · rfl
 rintro ⟨i,hi,hall,hle⟩
 by_cases h:i < l.length
 · have hdi:=hd l[i] (List.getElem_mem h)
   have hst:=otsB_take l i h
   have hbl:=otB_len l[i]
   have hall2:=otsB_take_le l (i + 1)
   rw [hst,List.length_append] at hall2
   by_cases c2:l[i].d.length≤253
   · have c2':¬ (253:Int) < l[i].d.length:=by omega
     by_cases c3:(otsB (l.take i)).length + (2 + l[i].d.length)≤1496
     · have c3':¬ (1496:Int) < (otsB (l.take i)).length + (2 + l[i].d.length):=by omega
       have hn:((2:Int) + l[i].d.length) % 256 = ((2 + l[i].d.length:Nat):Int):=by omega
       simp -implicitDefEqProofs (disch:=omega) [go_sem,ot,c2',c3']
       refine side (by kernel_rfl) ?_
       simp -implicitDefEqProofs (disch:=omega) [go_sem,ot]
       refine next_ren ⟨i + 1,by omega,fun j hj hji=>by
        by_cases e:j = i
        · subst e;exact c2
        · exact hall j hj (by omega),by rw [hst,List.length_append];omega⟩ (by simp only;omega) [] (rhoL [(0,some 31)]) ?_
       simp only [hst]
       apply ren_lists <;> simp -implicitDefEqProofs [go_sem]
       · rw [otB_len];omega
       · exact renCells_plain (by simp [otB,bys,u8];omega) (by simp [plainD,bys])
     · have c3':(1496:Int) < (otsB (l.take i)).length + (2 + l[i].d.length):=by omega
       have no:¬ OkO l:=fun k=>by have:=k.2;omega
       rw [if_neg no,if_neg no]
       simp -implicitDefEqProofs (disch:=omega) [go_sem,ot,c2',c3',Try.f10]
       exact ⟨_,⟨_,rfl,.emp _ _⟩,rfl⟩
   · have c2':(253:Int) < l[i].d.length:=by omega
     rw [if_neg fun k=>c2 (k.1 _ (List.getElem_mem h)),if_neg fun k=>c2 (k.1 _ (List.getElem_mem h))]
     simp -implicitDefEqProofs (disch:=omega) [go_sem,ot,c2',Try.f10]
     exact ⟨_,⟨_,rfl,.emp _ _⟩,rfl⟩
 · have:i = l.length:=by omega
   subst this
   rw [List.take_length] at hle
   have ok:OkO l:=⟨fun o ho=>by
    obtain ⟨j,hj,rfl⟩:=List.getElem_of_mem ho
    exact hall j hj hj,hle⟩
   rw [if_pos ok,if_pos ok]
   simp -implicitDefEqProofs (disch:=omega) [go_sem,List.take_length,Try.f10]
   exact ⟨_,⟨_,rfl,frz_bys (rw:=true) (by simp [go_sem]) (.inl rfl) rfl⟩,rfl⟩
theorem findP (l:List Ot) (t:Nat):findO l t = (placeO l t).bind fun i=>l[i]?:=by
 cases h:placeO l t with
 | none=>exact findO_none l t fun j hj=>placeO_no h _ (List.getElem_mem hj)
 | some i =>
   obtain ⟨h1,h2,h3⟩:=placeO_is h
   rw [findO_take l t i h3 h1 h2]
   simp [h1]
theorem ofind_pc (l:List Ot) (t:Nat) (hl:l.length≤1000000000) (hd:∀ o∈l,o.d.length≤1000000000):PC Try.prog Γ 24 [.sl 2 (ots l),.int .u8 t] (foundO (findO l t)):=by
 refine pc_by mixed Try.func24 rfl (fun args w=>Try.call24 args w) ?_
 have c1:=place_pc Γ l t hl
 rw [findP]
 cases h:placeO l t with
 | none =>
   rw [h] at c1
   unfold placeD at c1
   simp -implicitDefEqProofs (disch:=omega) [go_sem]
   refine .inl (call_data c1 (by simp [go_sem]) ?_)
   simp -implicitDefEqProofs (disch:=omega) [go_sem,foundO,ot,noO,Try.f24]
   exact ⟨_,⟨_,rfl,frz_aggL (frzL_c (.data _) (frzL_c (.emp 0 1) frzL_n))⟩,rfl⟩
 | some i =>
   obtain ⟨h1,h2,h3⟩:=placeO_is h
   rw [h] at c1
   unfold placeD at c1
   have c2:=copied_pc Γ l[i] (hd _ (List.getElem_mem h1))
   unfold ot at c2
   simp -implicitDefEqProofs (disch:=omega) [go_sem]
   refine .inl (call_data c1 (by simp [go_sem]) ?_)
   simp -implicitDefEqProofs (disch:=omega) [go_sem,ot]
   refine .inl (call_data c2 (by simp [go_sem]) ?_)
   simp -implicitDefEqProofs (disch:=omega) [go_sem,foundO,ot,h1,Try.f24]
theorem odrop_pc (l:List Ot) (t:Nat) (hl:l.length≤1000000000) (hd:∀ o∈l,o.d.length≤1000000000):PC Try.prog Γ 21 [.sl 2 (ots l),.int .u8 t] (.sl 2 (ots (dropO l t))):=by
 refine pc_by mixed Try.func21 rfl (fun args w=>Try.call21 args w) ?_
 simp -implicitDefEqProofs (disch:=omega) [go_sem]
 refine loop_ren (σ:={ i:Nat // i≤l.length }) (fun i=>⟨envL [(1,.data (.int .u8 t)),(5,.ref 0 0 (dropO (l.take i.1) t).length 2),(8,.data (.sl 2 (ots l))),(9,.data (.int .i64 l.length)),(10,.data (.int .i64 i.1))],hpL [(0,.blk true ((flat (ots (dropO (l.take i.1) t))).map D.data))],1,0,25⟩) (fun i=>l.length - i.1) ⟨0,by omega⟩ [] (rhoL [(0,none)]) ?_ ?_
 · apply ren_lists <;> simp -implicitDefEqProofs [go_sem]
   · rfl
   · rfl
 rintro ⟨i,hi⟩
 have hle:(dropO (l.take i) t).length≤1000000000:=by
  have:=List.length_filter_le (fun o:Ot=>decide (o.t≠t)) (l.take i)
  rw [List.length_take] at this
  show (List.filter _ _).length≤_
  omega
 have hfl:(flat (ots (dropO (l.take i) t))).length = (dropO (l.take i) t).length * 2:=by rw [flat_length (ots_cells _),ots_length]
 by_cases h:i < l.length
 · have hst:=drop_step l t i h
   by_cases ht:l[i].t = t
   · have ht2:(l[i].t:Int) = t:=by omega
     rw [if_pos ht,List.append_nil] at hst
     simp -implicitDefEqProofs (disch:=omega) [go_sem,ot,ht2,ht]
     refine next_ren ⟨i + 1,by omega⟩ (by simp only;omega) [] (rhoL [(0,some 0)]) ?_
     simp only [hst]
     apply ren_lists <;> simp -implicitDefEqProofs [go_sem]
   · have ht2:¬ ((l[i].t:Int) = t):=by omega
     have c2:=copied_pc Γ l[i] (hd _ (List.getElem_mem h))
     unfold ot at c2
     rw [if_neg ht] at hst
     simp -implicitDefEqProofs (disch:=omega) [go_sem,ot,ht2]
     refine .inl (call_data c2 (by simp [go_sem]) ?_)
     simp -implicitDefEqProofs (disch:=omega) [go_sem,ot,hfl]
     refine next_ren ⟨i + 1,by omega⟩ (by simp only;omega) [] (rhoL [(0,some 14)]) ?_
     simp only [hst]
     apply ren_lists <;> simp -implicitDefEqProofs [go_sem]
     exact renCells_plain (by rw [ots_snoc]) (by simp [plainD])
 · have:i = l.length:=by omega
   subst this
   simp -implicitDefEqProofs (disch:=omega) [go_sem,List.take_length,Try.f21]
   exact ⟨_,⟨_,rfl,frz_ref (rw:=true) (by simp [go_sem]) (.inl rfl) (ots_length _) (ots_cells _) rfl⟩,rfl⟩
theorem putP (o:Ot) (l:List Ot):putO l o = match placeO l o.t with
 | some i=>l.set i o
 | none=>l++[o]:=by
 have yes:∀ l:List Ot,putG o true l = l:=by
  intro l
  induction l with
  | nil=>rfl
  | cons x l ih =>
    unfold putG
    rw [if_neg (by simp),ih]
 induction l with
 | nil=>rfl
 | cons x l ih =>
   show putG o false (x :: l) = _
   unfold putG
   by_cases h:x.t = o.t
   · rw [if_pos ⟨rfl,h⟩,yes]
     have:placeO (x :: l) o.t = some 0:=placeO_some (by simp) h fun j _ hj=>absurd hj (Nat.not_lt_zero _)
     rw [this];rfl
   · rw [if_neg fun k=>h k.2]
     have e:putG o false l = putO l o:=rfl
     rw [e,ih]
     have hp:placeO (x :: l) o.t = (placeO l o.t).map (· + 1):=by
      unfold placeO
      rw [List.findIdx?_cons]
      simp [h]
     rw [hp]
     cases placeO l o.t <;> simp
end
end Op9
section
variable (P:Program) (Γ:Nat->Option (List Data))
@[go_sem] theorem wpX_skip (Q:Exit->St->Prop) (s:St):wpX P Γ .skip Q s = Q .normal s:=rfl
@[go_sem] theorem wpX_draw (i:Nat) (ops:List Oper) (Q:Exit->St->Prop) (s:St):wpX P Γ (.region i ops.toArray true) Q s = drawW P Γ ops.toArray ops s [] (fun s' tr=>sideK (drawOk2 ops.toArray tr s.nx s'.nx = true) (Q .normal s')):=rfl
@[go_sem] theorem wpX_row (i:Nat) (ops:List Oper) (Q:Exit->St->Prop) (s:St):wpX P Γ (.region i ops.toArray false) Q s = opsX P Γ ops.toArray ops s Q:=rfl
@[go_sem] theorem wpX_seq (x y:Code) (Q:Exit->St->Prop) (s:St):wpX P Γ (.seq x y) Q s = wpX P Γ x (thenW (wpX P Γ y Q) Q) s:=rfl
@[go_sem] theorem wpX_cond (c:Operand) (x y:Code) (Q:Exit->St->Prop) (s:St):wpX P Γ (.cond c x y) Q s = condK (evalD Γ s.env c) (wpX P Γ x Q s) (wpX P Γ y Q s):=rfl
@[go_sem] theorem wpX_block (id:Nat) (b:Code) (Q:Exit->St->Prop) (s:St):wpX P Γ (.block id b) Q s = wpX P Γ b (blockW id Q) s:=rfl
@[go_sem] theorem wpX_loop (b:Code) (Q:Exit->St->Prop) (s:St):wpX P Γ (.loop b) Q s = LoopW (wpX P Γ b) Q s:=rfl
@[go_sem] theorem wpX_exit (id:Nat) (Q:Exit->St->Prop) (s:St):wpX P Γ (.exit id) Q s = Q (.exit id) s:=rfl
@[go_sem] theorem wpX_ret (Q:Exit->St->Prop) (s:St):wpX P Γ .ret Q s = Q .ret s:=rfl
@[go_sem] theorem thenW_panic (n:St->Prop) (Q:Exit->St->Prop) (s:St) (ch:List PanicEntry):thenW n Q (.panic ch) s = Q (.panic ch) s:=rfl
@[go_sem] theorem blockW_panic (id:Nat) (Q:Exit->St->Prop) (s:St) (ch:List PanicEntry):blockW id Q (.panic ch) s = Q (.panic ch) s:=rfl
@[congr] theorem retXQ_congr {n0:Nat} (tk:tick = n0) (fn:Func) (K:D->(Nat->Blk)->Nat->Prop) (X:Value->(Nat->Blk)->Nat->Prop) (x:Exit) (s:St):retXQ P fn K X x s = retXQ P fn K X x s:=rfl
@[go_sem] theorem retXQ_ret (fn:Func) (K:D->(Nat->Blk)->Nat->Prop) (X:Value->(Nat->Blk)->Nat->Prop) (s:St):retXQ P fn K X .ret s = resK P fn.results.toList s fun ds=>∃ d,tupDD ds = some d∧K d s.hp s.nx:=rfl
@[go_sem] theorem retXQ_normal (fn:Func) (K:D->(Nat->Blk)->Nat->Prop) (X:Value->(Nat->Blk)->Nat->Prop) (s:St):retXQ P fn K X .normal s = resK P fn.results.toList s fun ds=>∃ d,tupDD ds = some d∧K d s.hp s.nx:=rfl
@[congr] theorem panK_congr {n0:Nat} (tk:tick = n0) {x x':D} (h:x = x') (X:Value->Prop):panK x X = panK x' X:=by rw [h]
@[go_sem] theorem panD_eq (dst:Option Nat) (x:Operand) (ty:TypeId) (pos:String) (af:Array Edge) (gd:Option (Nat × Bool)) (e:Nat->D):panD Γ ⟨dst,.panic x,ty,pos,af,gd⟩ e = evalD Γ e x:=rfl
attribute [go_sem] isPan
@[go_sem] theorem opsX_nil (ops:Array Oper) (s:St) (Q:Exit->St->Prop):opsX P Γ ops [] s Q = Q .normal s:=rfl
@[congr] theorem opsX_congr {n0:Nat} (tk:tick = n0) (ops:Array Oper) (l:List Oper) (s:St) (Q:Exit->St->Prop):opsX P Γ ops l s Q = opsX P Γ ops l s Q:=rfl
@[congr] theorem wpX_congr {n0:Nat} (tk:tick = n0) (c:Code) (Q:Exit->St->Prop) (s:St):wpX P Γ c Q s = wpX P Γ c Q s:=rfl
@[congr] theorem dxK_congr' {n0:Nat} (tk:tick = n0) (o:Oper) (e:Nat->D) (H:Nat->Blk) (fr:Nat) (K:D->(Nat->Blk)->Nat->Prop) (X:Value->(Nat->Blk)->Nat->Prop):dxK P Γ o e H fr K X = dxK P Γ o e H fr K X:=rfl
@[congr] theorem DX_congr {n0:Nat} (tk:tick = n0) (f:FuncId) {ds ds':List D} (h:ds = ds') (H:Nat->Blk) (nx:Nat) (K:D->(Nat->Blk)->Nat->Prop) (X:Value->(Nat->Blk)->Nat->Prop):DX P Γ f ds H nx K X = DX P Γ f ds' H nx K X:=by rw [h]
end
def shA (ds:List Deferred) (a:Act):Act:={ a with defers:=a.defers++ds }
theorem shA_eval (ds:List Deferred) (a:Act):(shA ds a).eval = a.eval:=by
 funext x
 cases x <;> rfl
theorem shA_put (ds:List Deferred) (a:Act) (dst:Option Tmp) (v:Value):(shA ds a).put dst v = shA ds (a.put dst v):=by cases dst <;> rfl
section
variable {P:Program} {Γ:Nat->Option (List Data)}
theorem upon_shift {ds:List Deferred} {o:Oper} {a:Act} {next:Act->World->Prop} {next':Act->World->Prop} {Q:Exit->Act->World->Prop} {r:Result Next} (hn:∀ a w,next a w->next' (shA ds a) w)
 (h:o.upon P a next (fun e a' w'=>Q e (shA ds a') w') r):o.upon P (shA ds a) next' Q r:=by
 unfold Oper.upon at h ⊢
 split at h
 · rw [shA_put];exact hn _ _ h
 · rw [shA_put];exact hn _ _ h
 · rename_i d w'
   show next' ((shA ds { a with defers:=d :: a.defers }).put o.dst undef) w'
   rw [shA_put];exact hn _ _ h
 · refine h.mono fun e w' he=>?_
   cases e with
   | returned v=>simp only at he ⊢;rw [shA_put];exact hn _ _ he
   | panicked chain=>exact he
   | outgrown =>
     obtain ⟨a0,w0,hq⟩:=he
     exact ⟨_,w0,hq⟩
 · intro fr cs
   obtain ⟨v,w',hR,hs⟩:=h fr cs
   refine ⟨v,w',?_,hs⟩
   show next' ((shA ds a).put o.dst v) w'
   rw [shA_put];exact hn _ _ hR
 · exact h
 · exact h.elim
theorem wpList_shift {ds:List Deferred} {ops:Array Oper} {Q:Exit->Act->World->Prop}:∀ (l:List Oper) (a:Act) (w:World),wpList P ops (fun e a' w'=>Q e (shA ds a') w') l a w->wpList P ops Q l (shA ds a) w
 | [],a,w,h=>h
 | o :: rest,a,w,h=>by
   unfold wpList at h ⊢
   have e1:(shA ds a).tmps = a.tmps:=rfl
   rw [e1]
   split at h
   · rename_i hw
     rw [if_pos hw]
     rcases h with h | ⟨h1,a0,w0,h2⟩
     · left
       unfold Oper.wp at h ⊢
       rw [shA_eval]
       exact upon_shift (fun a w h=>wpList_shift rest a w h) h
     · right
       refine ⟨?_,_,w0,h2⟩
       unfold Oper.asks at h1 ⊢
       rw [shA_eval]
       exact h1
   · rename_i hw
     rw [if_neg hw,shA_put]
     exact wpList_shift rest _ _ h
/-- What a deferred call recovers. -/
def Recd (u:FrameMode) (d:Data):Prop:=(u = .returning∧d = .nili) ∨ ∃ t x v,u = .panicking (pan (.iface t v))∧litV x = some v∧d = .ifc t x
/-- A deferred call that recovers,on the caller's numbered rows. -/
def DR (P:Program) (Γ:Nat->Option (List Data)) (g:FuncId) (ds:List D) (d:Data) (H:Nat->Blk) (nx:Nat) (K:(Nat->Blk)->Nat->Prop):Prop :=
 CallOk P g∧∀ (L0:Nat->Prop) (w0:W0) (m:Nat->MB) (w:World) (vs:Array Value) (u:FrameMode),WR Γ L0 w0 m H w->(∀ g,nx≤g->m g = .res)->(∀ g,nx≤g->H g = .dead)->ds.length = vs.size->(∀ (i:Nat) (d:D) (v:Value),ds[i]? = some d->vs[i]? = some v->VV (Live L0 m H) w m d v)->Recd u d →
  CallsD P g vs u w fun e u' w'=>∃ v0 H' nx' m',e = .returned v0∧settle u' = .returning∧WR Γ L0 w0 m' H' w'∧Grow (Live L0 m H) w (Live L0 m' H') w'∧(∀ g,g < nx->m' g = m g)∧(∀ g,nx'≤g->m' g = .res)∧nx≤nx'∧K H' nx'
def closQ (K:(Nat->Blk)->Nat->Prop):Exit->St->Prop
 | .normal,s | .ret,s=>K s.hp s.nx
 | _,_=>False
/-- Behind its body a function's deferred call,then what it hands back. -/
def endR (P:Program) (Γ:Nat->Option (List Data)) (fn:Func) (g:FuncId) (dte:D) (r:Data) (d:Data) (s:St):Prop :=
 DR P Γ g [dte] d s.hp s.nx fun H' nx'=>resK P fn.results.toList ⟨s.env,H',nx',s.lo,s.nt⟩ fun ds=>∃ xs,FrzL true H' ds xs∧r = tupD xs
def bodyR (P:Program) (Γ:Nat->Option (List Data)) (fn:Func) (g:FuncId) (dte:D) (r:Data):Exit->St->Prop
 | .normal,s=>endR P Γ fn g dte r .nili s
 | .panic ch,s=>∃ t v x,ch = pan (.iface t v)∧litV x = some v∧endR P Γ fn g dte r (.ifc t x) s
 | _,_=>False
end
section
variable {P:Program} {Γ:Nat->Option (List Data)}
@[go_sem] theorem cells_ifc (t:TypeId) (d:Data):Data.cells (.ifc t d) = [.ifc t d]:=rfl
variable (P)
@[go_sem] theorem closQ_ret (K:(Nat->Blk)->Nat->Prop) (s:St):closQ K .ret s = K s.hp s.nx:=rfl
@[go_sem] theorem closQ_normal (K:(Nat->Blk)->Nat->Prop) (s:St):closQ K .normal s = K s.hp s.nx:=rfl
@[congr] theorem closQ_congr {n0:Nat} (tk:tick = n0) (K:(Nat->Blk)->Nat->Prop) (e:Exit) (s:St):closQ K e s = closQ K e s:=rfl
variable {P}
@[congr] theorem bodyR_congr {n0:Nat} (tk:tick = n0) (fn:Func) (g:FuncId) (dte:D) (r:Data) (e:Exit) (s:St):bodyR P Γ fn g dte r e s = bodyR P Γ fn g dte r e s:=rfl
@[go_sem] theorem bodyR_normal (fn:Func) (g:FuncId) (dte:D) (r:Data) (s:St):bodyR P Γ fn g dte r .normal s = DR P Γ g [dte] .nili s.hp s.nx fun H' nx'=>resK P fn.results.toList ⟨s.env,H',nx',s.lo,s.nt⟩ fun ds=>∃ xs,FrzL true H' ds xs∧r = tupD xs:=rfl
@[congr] theorem DR_congr {n0:Nat} (tk:tick = n0) (g:FuncId) {ds ds':List D} (h:ds = ds') (d:Data) (H:Nat->Blk) (nx:Nat) (K:(Nat->Blk)->Nat->Prop):DR P Γ g ds d H nx K = DR P Γ g ds' d H nx K:=by rw [h]
end
/-- What leads to the row that is lent,as the caller has it,and as the call does;and what hangs on no row. -/
inductive Lent2 (g:Nat):D->D->Prop where
 | data (x:Data):Lent2 g (.data x) (.data x)
 | cptr (c:List Data):Lent2 g (.cptr c) (.cptr c)
 | ptr (off:Nat):Lent2 g (.ptr g off) (.ptr 0 off)
 | ref (off len es:Nat):Lent2 g (.ref g off len es) (.ref 0 off len es)
 | bnd (f:FuncId) {a b:D} (h:Lent2 g a b):Lent2 g (.bnd f a) (.bnd f b)
inductive LentL (g:Nat):List D->List D->Prop where
 | nil:LentL g [] []
 | cons {a b:D} {us0 bs:List D} (h:Lent2 g a b) (t:LentL g us0 bs):LentL g (a :: us0) (b :: bs)
theorem LentL.len {g:Nat}:∀ {us0 bs:List D},LentL g us0 bs->us0.length = bs.length
 | [],[],.nil=>rfl
 | _ :: _,_ :: _,.cons _ t=>by simp [t.len]
end Go.Proofs.Ytalgafdokeoijaa
