/- What the walk's simp goes by, second part: code, calls, loops. Arrays of numbers, held against each other. What came in, read as plain data: the arguments of a law, the listed variables. Rows of bytes; what arguments are. Choices that the numbers at hand decide: by omega, in the walk's simp. (Import it where the walk should decide by itself.) Functions that hand back rows of their own, which the caller may write: a contract of its own (OC), and its use in a call. Structs of numbers, truth values and strings, held against each other. The closed facts on the types. Books: the domain; the document's own small functions. Lockouts and verdicts: all of the document's functions. Books: sessions, lines and locks, held against each other; books that are the same. Books: sessions, lines, users who have failed, books and ops as they come in. Rows of operations, held against each other (the document's). Books: which are open rightly. (By genB.py.) Books: a line more. Books: which are right. (By genX.py.) -/
import Derived.Test.YtndnlfgchmjbjaaPk3
import Derived.Laws.Bits64
import Derived.Laws.BitsAllLaws
import Derived.DeepKeys
import Derived.Laws.StructEq
import Derived.OpenShut
import Derived.SizedLaws
import Derived.LaidMore
import Derived.KernelRfl
import Derived.Test.YtndnlfgchmjbjaaChecked
namespace Go.Proofs.Ytndnlfgchmjbjaa
open Go.RowKit
set_option linter.unusedSimpArgs false
set_option linter.unusedVariables false
set_option maxRecDepth 100000
theorem side {p q:Prop} (h:p) (k:q):sideK p q:=⟨h,k⟩
theorem ifW_of {b:Bool} {x y:Prop} (h:b=true->x) (k:b=false->y):ifW b x y:=by
 cases b
 . exact k rfl
 . exact h rfl
theorem ifW_dec {p:Prop} [Decidable p] {x y:Prop} (h:p->x) (k:¬ p->y):ifW (decide p) x y:=ifW_of (fun e=>h (of_decide_eq_true e)) (fun e=>k (of_decide_eq_false e))
theorem ifW_ndec {p:Prop} [Decidable p] {x y:Prop} (h:¬ p->x) (k:p->y):ifW (!decide p) x y:=ifW_of (fun e=>h (by simpa using e)) (fun e=>k (by simpa using e))
/- Numbers. -/
@[go_sem] theorem wrap64 {x:Int} (h:-9223372036854775808<=x/\x<=9223372036854775807):IntKind.i64.wrap x=x:=by rw[IntKind.wrap_i64];omega
@[go_sem] theorem get_zero {α:Type} (x:α) (l:List α):(x::l)[0]?=some x:=rfl
@[go_sem] theorem get_succ {α:Type} (x:α) (l:List α) (i:Nat):(x::l)[i+1]?=l[i]?:=rfl
def condK (d:D) (x y:Prop):Prop:=match d with
 | .data (.bool b)=>ifW b x y
 | _=>False
@[go_sem] theorem condK_bool (b:Bool) (x y:Prop):condK (.data (.bool b)) x y=ifW b x y:=rfl
@[congr] theorem condK_congr {n0:Nat} (tk:tick=n0) {d d':D} (h:d=d') (x y:Prop):condK d x y=condK d' x y:=by rw[h]
section
variable (P:Program) (Γ:Nat->Option (List Data))
@[go_sem] theorem wpF_skip (Q:Exit->St->Prop) (s:St):wpF P Γ .skip Q s=Q .normal s:=rfl
@[go_sem] theorem wpF_draw (i:Nat) (ops:List Oper) (Q:Exit->St->Prop) (s:St):wpF P Γ (.region i ops.toArray true) Q s=drawW P Γ ops.toArray ops s [] (fun s' tr=>sideK (drawOk2 ops.toArray tr s.nx s'.nx=true) (Q .normal s')):=rfl
@[go_sem] theorem wpF_row (i:Nat) (ops:List Oper) (Q:Exit->St->Prop) (s:St):wpF P Γ (.region i ops.toArray false) Q s=opsW P Γ ops.toArray ops s (Q .normal):=rfl
@[go_sem] theorem wpF_seq (x y:Code) (Q:Exit->St->Prop) (s:St):wpF P Γ (.seq x y) Q s=wpF P Γ x (thenW (wpF P Γ y Q) Q) s:=rfl
@[go_sem] theorem wpF_cond (c:Operand) (x y:Code) (Q:Exit->St->Prop) (s:St):wpF P Γ (.cond c x y) Q s=condK (evalD Γ s.env c) (wpF P Γ x Q s) (wpF P Γ y Q s):=rfl
@[go_sem] theorem wpF_block (id:Nat) (b:Code) (Q:Exit->St->Prop) (s:St):wpF P Γ (.block id b) Q s=wpF P Γ b (blockW id Q) s:=rfl
@[go_sem] theorem wpF_loop (b:Code) (Q:Exit->St->Prop) (s:St):wpF P Γ (.loop b) Q s=LoopW (wpF P Γ b) Q s:=rfl
@[go_sem] theorem wpF_exit (id:Nat) (Q:Exit->St->Prop) (s:St):wpF P Γ (.exit id) Q s=Q (.exit id) s:=rfl
@[go_sem] theorem wpF_ret (Q:Exit->St->Prop) (s:St):wpF P Γ .ret Q s=Q .ret s:=rfl
@[go_sem] theorem thenW_normal (n:St->Prop) (Q:Exit->St->Prop) (s:St):thenW n Q .normal s=n s:=rfl
@[go_sem] theorem thenW_exit (n:St->Prop) (Q:Exit->St->Prop) (s:St) (id:Nat):thenW n Q (.exit id) s=Q (.exit id) s:=rfl
@[go_sem] theorem thenW_ret (n:St->Prop) (Q:Exit->St->Prop) (s:St):thenW n Q .ret s=Q .ret s:=rfl
@[go_sem] theorem blockW_normal (id:Nat) (Q:Exit->St->Prop) (s:St):blockW id Q .normal s=Q .normal s:=rfl
@[go_sem] theorem blockW_exit (id i:Nat) (Q:Exit->St->Prop) (s:St):blockW id Q (.exit i) s=ifW (decide (i=id)) (Q .normal s) (Q (.exit i) s):=by
 by_cases h:i=id<;>simp[blockW,ifW,h]
@[go_sem] theorem blockW_ret (id:Nat) (Q:Exit->St->Prop) (s:St):blockW id Q .ret s=Q .ret s:=rfl
@[congr] theorem thenW_congr {n0:Nat} (tk:tick=n0) (n:St->Prop) (Q:Exit->St->Prop) (x:Exit) (s:St):thenW n Q x s=thenW n Q x s:=rfl
@[congr] theorem blockW_congr {n0:Nat} (tk:tick=n0) (id:Nat) (Q:Exit->St->Prop) (x:Exit) (s:St):blockW id Q x s=blockW id Q x s:=rfl
@[congr] theorem resK_congr {n0:Nat} (tk:tick=n0) {l l':List ResultVar} (h:l=l') (s:St) (K:List D->Prop):resK P l s K=resK P l' s K:=by rw[h]
@[congr] theorem retQ_congr {n0:Nat} (tk:tick=n0) (fn:Func) (r:Data) (x:Exit) (s:St):retQ P fn r x s=retQ P fn r x s:=rfl
@[congr] theorem retDQ_congr {n0:Nat} (tk:tick=n0) (fn:Func) (K:D->(Nat->Blk)->Nat->Prop) (x:Exit) (s:St):retDQ P fn K x s=retDQ P fn K x s:=rfl
@[go_sem] theorem retQ_ret (fn:Func) (r:Data) (s:St):retQ P fn r .ret s=resK P fn.results.toList s fun ds=>∃ xs,FrzL true s.hp ds xs/\r=tupD xs:=rfl
@[go_sem] theorem retQ_normal (fn:Func) (r:Data) (s:St):retQ P fn r .normal s=resK P fn.results.toList s fun ds=>∃ xs,FrzL true s.hp ds xs/\r=tupD xs:=rfl
@[go_sem] theorem retDQ_ret (fn:Func) (K:D->(Nat->Blk)->Nat->Prop) (s:St):retDQ P fn K .ret s=resK P fn.results.toList s fun ds=>∃ d,tupDD ds=some d/\K d s.hp s.nx:=rfl
@[go_sem] theorem retDQ_normal (fn:Func) (K:D->(Nat->Blk)->Nat->Prop) (s:St):retDQ P fn K .normal s=resK P fn.results.toList s fun ds=>∃ d,tupDD ds=some d/\K d s.hp s.nx:=rfl
@[go_sem] theorem tupDD_one (d:D):tupDD [d]=some d:=rfl
@[go_sem] theorem resK_nil (s:St) (K:List D->Prop):resK P [] s K=K []:=rfl
@[go_sem] theorem resK_tmp (t:Nat) (rest:List ResultVar) (s:St) (K:List D->Prop):resK P (.tmp t::rest) s K=putK (s.env t) fun d=>resK P rest s fun ds=>K (d::ds):=rfl
@[go_sem] theorem resK_cell (a:Nat) (t:TypeId) (rest:List ResultVar) (s:St) (K:List D->Prop):resK P (.cell a t::rest) s K=loadK P t (s.env a) s.hp fun d _=>resK P rest s fun ds=>K (d::ds):=rfl
@[go_sem] theorem extract_tup (vs:List Data) (i:Nat) (K:D->Prop):extractK (.data (.tup vs)) i K=someK (vs[i]?) fun v=>putK (.data v) K:=by
 unfold extractK someK putK;apply propext;constructor
 . rintro⟨v,hv,hk⟩;rw[hv];exact hk
 . intro hk;cases h:vs[i]? with
   | none=>rw[h] at hk;exact hk.elim
   | some v=>rw[h] at hk;exact⟨v,h,hk⟩
@[congr] theorem extractK_congr {n0:Nat} (tk:tick=n0) {x x':D} (h:x=x') (i:Nat) (K:D->Prop):extractK x i K=extractK x' i K:=by rw[h]
@[congr] theorem partK_congr {n0:Nat} (tk:tick=n0) (t:TypeId) {cs cs':List D} (h:cs=cs') {off off':Nat} (h2:off=off') (K:D->Prop):partK P t cs off K=partK P t cs' off' K:=by rw[h,h2]
@[congr] theorem fieldK_congr {n0:Nat} (tk:tick=n0) (t:TypeId) {x x':D} (h:x=x') (f:Nat) (K:D->Prop):fieldK P t x f K=fieldK P t x' f K:=by rw[h]
def slcK (t:TypeId) (x:D) (lo hi:Option D) (H:Nat->Blk) (K:D->List Nat->List (Nat×Blk)->Prop):Prop:=match x with
 | .ptr _ _ | .cptr _=>sliceArrK P t x lo hi none H fun d rd=>K d rd []
 | .cut g off len cp es=>cutK P t g off len cp es lo hi none fun d=>K d [] []
 | _=>sliceK P t x lo hi none fun d=>K d [] []
def slc3K (t:TypeId) (x:D) (lo hi mx:Option D) (K:D->List Nat->List (Nat×Blk)->Prop):Prop:=match x with
 | .cut g off len cp es=>cutK P t g off len cp es lo hi mx fun d=>K d [] []
 | _=>False
@[congr] theorem slc3K_congr {n0:Nat} (tk:tick=n0) (t:TypeId) {x x':D} (h:x=x') {lo lo' hi hi' mx mx':Option D} (h2:lo=lo') (h3:hi=hi') (h4:mx=mx') (K:D->List Nat->List (Nat×Blk)->Prop):slc3K P t x lo hi mx K=slc3K P t x' lo' hi' mx' K:=by rw[h,h2,h3,h4]
@[congr] theorem boundsC_congr {n0:Nat} (tk:tick=n0) (n c:Nat) {lo lo' hi hi' mx mx':Option D} (h2:lo=lo') (h3:hi=hi') (h4:mx=mx') (K:Nat->Nat->Nat->Prop):boundsC n c lo hi mx K=boundsC n c lo' hi' mx' K:=by rw[h2,h3,h4]
@[go_sem] theorem slc_cut (t:TypeId) (g off len cp es:Nat) (lo hi:Option D) (H:Nat->Blk) (K:D->List Nat->List (Nat×Blk)->Prop):slcK P t (.cut g off len cp es) lo hi H K=cutK P t g off len cp es lo hi none fun d=>K d [] []:=rfl
@[congr] theorem sliceK_congr {n0:Nat} (tk:tick=n0) (t:TypeId) {x x':D} (h:x=x') {lo lo' hi hi' mx mx':Option D} (h2:lo=lo') (h3:hi=hi') (h4:mx=mx') (K:D->Prop):sliceK P t x lo hi mx K=sliceK P t x' lo' hi' mx' K:=by rw[h,h2,h3,h4]
@[go_sem] theorem slc3_cut (t:TypeId) (g off len cp es:Nat) (lo hi mx:Option D) (K:D->List Nat->List (Nat×Blk)->Prop):slc3K P t (.cut g off len cp es) lo hi mx K=cutK P t g off len cp es lo hi mx fun d=>K d [] []:=rfl
@[congr] theorem slcK_congr {n0:Nat} (tk:tick=n0) (t:TypeId) {x x':D} (h:x=x') {lo lo' hi hi':Option D} (h2:lo=lo') (h3:hi=hi') (H:Nat->Blk) (K:D->List Nat->List (Nat×Blk)->Prop):slcK P t x lo hi H K=slcK P t x' lo' hi' H K:=by rw[h,h2,h3]
@[congr] theorem boundsK_congr {n0:Nat} (tk:tick=n0) (n:Nat) {lo lo' hi hi':Option D} (h2:lo=lo') (h3:hi=hi') (K:Nat->Nat->Prop):boundsK n lo hi K=boundsK n lo' hi' K:=by rw[h2,h3]
@[go_sem] theorem slc_sl (t:TypeId) (es:Nat) (l:List Data) (lo hi:Option D) (H:Nat->Blk) (K:D->List Nat->List (Nat×Blk)->Prop):slcK P t (.data (.sl es l)) lo hi H K=someK (sliceT P t) fun e=>sideK (szT P e=some es) (boundsK l.length lo hi fun a b=>putK (.data (.sl es ((l.take b).drop a))) fun d=>K d [] []):=by
 unfold slcK sliceK someK sideK putK;cases sliceT P t<;>rfl
@[go_sem] theorem slc_str (t:TypeId) (s:ByteArray) (lo hi:Option D) (H:Nat->Blk) (K:D->List Nat->List (Nat×Blk)->Prop):slcK P t (.data (.str s)) lo hi H K=sideK (strT P t=true) (boundsK s.size lo hi fun a b=>putK (.data (.str (s.extract a b))) fun d=>K d [] []):=rfl
@[go_sem] theorem bounds_hi (n:Nat) (k:IntKind) (h:Int) (K:Nat->Nat->Prop):boundsK n none (some (.data (.int k h))) K=sideK (0<=h) (sideK (h<=n) (natK h.toNat fun b=>K 0 b)):=by simp[boundsK,natD,sideK,natK]
@[go_sem] theorem bounds_lo (n:Nat) (k:IntKind) (l:Int) (K:Nat->Nat->Prop):boundsK n (some (.data (.int k l))) none K=sideK (0<=l) (sideK (l<=n) (natK l.toNat fun a=>K a n)):=by simp[boundsK,natD,sideK,natK]
def datK (x:D) (K:Data->Prop):Prop:=match x with
 | .data d=>K d
 | _=>False
@[congr] theorem datK_congr {n0:Nat} (tk:tick=n0) {x x':D} (h:x=x') (K:Data->Prop):datK x K=datK x' K:=by rw[h]
@[go_sem] theorem datK_data (d:Data) (K:Data->Prop):datK (.data d) K=K d:=rfl
def ifcK (x:D) (K:TypeId->Data->Prop):Prop:=match x with
 | .data (.ifc t d)=>K t d
 | _=>False
@[congr] theorem ifcK_congr {n0:Nat} (tk:tick=n0) {x x':D} (h:x=x') (K:TypeId->Data->Prop):ifcK x K=ifcK x' K:=by rw[h]
@[go_sem] theorem ifcK_ifc (t:TypeId) (d:Data) (K:TypeId->Data->Prop):ifcK (.data (.ifc t d)) K=K t d:=rfl
def invK (P:Program) (name:String) (t:TypeId) (K:FuncId->Prop):Prop:=∃ f,MethOk P name t f/\K f
@[congr] theorem invK_congr {n0:Nat} (tk:tick=n0) (name:String) (t:TypeId) (K:FuncId->Prop):invK P name t K=invK P name t K:=rfl
section
variable (dst:Option Nat) (ty:TypeId) (pos:String) (af:Array Edge) (gd:Option (Nat×Bool)) (e:Nat->D) (H:Nat->Blk) (fr:Nat) (K:D->List Nat->List (Nat×Blk)->Prop)
@[go_sem] theorem opK_slice (t:TypeId) (x:Operand) (lo hi:Option Operand):opK P Γ ⟨dst,.slice t x lo hi none,ty,pos,af,gd⟩ e H fr K=slcK P t (evalD Γ e x) (lo.map (evalD Γ e)) (hi.map (evalD Γ e)) H K:=by
 simp only[opK,slcK,Option.map_none];cases evalD Γ e x<;>rfl
@[go_sem] theorem opK_slice3 (t:TypeId) (x m:Operand) (lo hi:Option Operand):opK P Γ ⟨dst,.slice t x lo hi (some m),ty,pos,af,gd⟩ e H fr K=(match evalD Γ e x with
 | .ptr _ _ | .cptr _=>sliceArrK P t (evalD Γ e x) (lo.map (evalD Γ e)) (hi.map (evalD Γ e)) (some (evalD Γ e m)) H fun d rd=>K d rd []
 | .cut g off len cp es=>cutK P t g off len cp es (lo.map (evalD Γ e)) (hi.map (evalD Γ e)) (some (evalD Γ e m)) fun d=>K d [] []
 | _=>sliceK P t (evalD Γ e x) (lo.map (evalD Γ e)) (hi.map (evalD Γ e)) (some (evalD Γ e m)) fun d=>K d [] []):=rfl
@[go_sem] theorem opK_makeFunc (f:FuncId) (caps:Array Operand):opK P Γ ⟨dst,.makeFunc (.func f) #[] caps,ty,pos,af,gd⟩ e H fr K=putK (.fn f (caps.toList.map (evalD Γ e))) fun d=>K d [] []:=rfl
@[go_sem] theorem opK_call (x:Operand) (args:Array Operand) (ts:Array TypeId):opK P Γ ⟨dst,.call ⟨.value x,args,ts⟩,ty,pos,af,gd⟩ e H fr K=someK (fnD (evalD Γ e x)) fun fc=>callK P Γ fc.1 (fc.2.1++(args.toList.map (evalD Γ e)++fc.2.2)) H K:=by
 simp only[opK];cases fnD (evalD Γ e x)
 . rw[someK_none]
 . rw[someK_some]
@[go_sem] theorem effK_call (x:Operand) (args:Array Operand) (ts:Array TypeId) (K:D->List Nat->List (Nat×Blk)->Nat->Prop):effK P Γ ⟨dst,.call ⟨.value x,args,ts⟩,ty,pos,af,gd⟩ e H fr K=someK (fnD (evalD Γ e x)) fun fc=>effC P Γ fc.1 (fc.2.1++(args.toList.map (evalD Γ e)++fc.2.2)) H fr K:=by
 simp only[effK];cases fnD (evalD Γ e x)
 . rw[someK_none]
 . rw[someK_some]
@[congr] theorem clearK_congr {n0:Nat} (tk:tick=n0) (t:TypeId) {x x':D} (h:x=x') (H:Nat->Blk) (K:D->List Nat->List (Nat×Blk)->Prop):clearK P t x H K=clearK P t x' H K:=by rw[h]
@[go_sem] theorem opK_clear (x:Operand) (t:TypeId):opK P Γ ⟨dst,.call ⟨.builtin .clear,#[x],#[t]⟩,ty,pos,af,gd⟩ e H fr K=clearK P t (evalD Γ e x) H K:=rfl
@[congr] theorem capK_congr {n0:Nat} (tk:tick=n0) (t:TypeId) {x x':D} (h:x=x') (K:D->Prop):capK P t x K=capK P t x' K:=by rw[h]
@[congr] theorem lenK_congr {n0:Nat} (tk:tick=n0) (t:TypeId) {x x':D} (h:x=x') (K:D->Prop):lenK P t x K=lenK P t x' K:=by rw[h]
@[go_sem] theorem opK_len (x:Operand) (t:TypeId):opK P Γ ⟨dst,.call ⟨.builtin .len,#[x],#[t]⟩,ty,pos,af,gd⟩ e H fr K=lenK P t (evalD Γ e x) fun d=>K d [] []:=rfl
@[go_sem] theorem opK_cap (x:Operand) (t:TypeId):opK P Γ ⟨dst,.call ⟨.builtin .cap,#[x],#[t]⟩,ty,pos,af,gd⟩ e H fr K=capK P t (evalD Γ e x) fun d=>K d [] []:=rfl
@[go_sem] theorem opK_copy (x y:Operand) (t u:TypeId):opK P Γ ⟨dst,.call ⟨.builtin .copy,#[x,y],#[t,u]⟩,ty,pos,af,gd⟩ e H fr K=copyK P t (evalD Γ e x) (evalD Γ e y) H K:=rfl
@[go_sem] theorem opK_append (x y:Operand) (t u:TypeId):opK P Γ ⟨dst,.call ⟨.builtin .append,#[x,y],#[t,u]⟩,ty,pos,af,gd⟩ e H fr K=appendK P t u (evalD Γ e x) (evalD Γ e y) H fr K:=rfl
@[go_sem] theorem opK_min (x y:Operand) (ts:Array TypeId):opK P Γ ⟨dst,.call ⟨.builtin .min,#[x,y],ts⟩,ty,pos,af,gd⟩ e H fr K=minmaxK false [evalD Γ e x,evalD Γ e y] fun d=>K d [] []:=rfl
@[go_sem] theorem opK_max (x y:Operand) (ts:Array TypeId):opK P Γ ⟨dst,.call ⟨.builtin .max,#[x,y],ts⟩,ty,pos,af,gd⟩ e H fr K=minmaxK true [evalD Γ e x,evalD Γ e y] fun d=>K d [] []:=rfl
@[congr] theorem minmaxK_congr {n0:Nat} (tk:tick=n0) (b:Bool) {ds ds':List D} (h:ds=ds') (K:D->Prop):minmaxK b ds K=minmaxK b ds' K:=by rw[h]
@[congr] theorem copyK_congr {n0:Nat} (tk:tick=n0) (t:TypeId) {x x' y y':D} (h:x=x') (h2:y=y') (H:Nat->Blk) (K:D->List Nat->List (Nat×Blk)->Prop):copyK P t x y H K=copyK P t x' y' H K:=by rw[h,h2]
@[congr] theorem appendK_congr {n0:Nat} (tk:tick=n0) (t u:TypeId) {x x' y y':D} (h:x=x') (h2:y=y') (H:Nat->Blk) (fr:Nat) (K:D->List Nat->List (Nat×Blk)->Prop):appendK P t u x y H fr K=appendK P t u x' y' H fr K:=by rw[h,h2]
@[congr] theorem srcK_congr {n0:Nat} (tk:tick=n0) {x x':D} (h:x=x') (es:Nat) (H:Nat->Blk) (K:Nat->List D->List Nat->Prop):srcK x es H K=srcK x' es H K:=by rw[h]
@[go_sem] theorem len_str (t:TypeId) (s:ByteArray) (K:D->Prop):lenK P t (.data (.str s)) K=sideK (strT P t=true) (putK (.data (.int .i64 s.size)) K):=rfl
@[go_sem] theorem len_sl (t:TypeId) (es:Nat) (l:List Data) (K:D->Prop):lenK P t (.data (.sl es l)) K=sideK ((sliceT P t).isSome=true) (putK (.data (.int .i64 l.length)) K):=rfl
@[go_sem] theorem len_ref (t:TypeId) (g o n es:Nat) (K:D->Prop):lenK P t (.ref g o n es) K=sideK ((sliceT P t).isSome=true) (putK (.data (.int .i64 n)) K):=rfl
@[go_sem] theorem len_cut (t:TypeId) (g o n c es:Nat) (K:D->Prop):lenK P t (.cut g o n c es) K=sideK ((sliceT P t).isSome=true) (putK (.data (.int .i64 n)) K):=rfl
@[go_sem] theorem len_ful (t:TypeId) (es:Nat) (l:List Data) (K:D->Prop):lenK P t (.ful es l) K=sideK ((sliceT P t).isSome=true) (putK (.data (.int .i64 l.length)) K):=rfl
@[go_sem] theorem cap_emp (t:TypeId) (es:Nat) (K:D->Prop):capK P t (.emp es) K=sideK ((sliceT P t).isSome=true) (putK (.data (.int .i64 0)) K):=rfl
@[go_sem] theorem len_emp (t:TypeId) (es:Nat) (K:D->Prop):lenK P t (.emp es) K=sideK ((sliceT P t).isSome=true) (putK (.data (.int .i64 0)) K):=rfl
@[go_sem] theorem min_int (k k':IntKind) (a b:Int) (K:D->Prop):minmaxK false [.data (.int k a),.data (.int k' b)] K=sideK (k=k') (putK (.data (.int k (if b<a then b else a))) K):=rfl
@[go_sem] theorem max_int (k k':IntKind) (a b:Int) (K:D->Prop):minmaxK true [.data (.int k a),.data (.int k' b)] K=sideK (k=k') (putK (.data (.int k (if b > a then b else a))) K):=rfl
@[go_sem] theorem src_sl (es es':Nat) (l:List Data) (K:Nat->List D->List Nat->Prop):srcK (.data (.sl es' l)) es H K=sideK (es'=es) (natK l.length fun n=>cellsK ((flat l).map .data) fun cs=>K n cs []):=rfl
@[go_sem] theorem src_emp (es es':Nat) (K:Nat->List D->List Nat->Prop):srcK (.emp es') es H K=K 0 [] []:=rfl
@[go_sem] theorem src_ref (g off len es es':Nat) (K:Nat->List D->List Nat->Prop):srcK (.ref g off len es') es H K=sideK (es'=es) (blkK (H g) fun _ cells=>sideK (off+len*es<=cells.length) (cellsK ((cells.drop off).take (len*es)) fun cs=>K len cs [g])):=by
 unfold srcK sideK blkK cellsK;simp only;cases H g<;>rfl
@[go_sem] theorem src_str (s:ByteArray) (es:Nat) (K:Nat->List D->List Nat->Prop):srcK (.data (.str s)) es H K=sideK (es=1) (natK s.size fun n=>cellsK (s.toList.map fun b=>.data (.int .u8 b.toNat)) fun cs=>K n cs []):=rfl
def appK (e xt:TypeId) (es by_ len:Nat) (y:D) (H:Nat->Blk) (K:Nat->List D->List Nat->Prop):Prop :=
 if (intT P xt).isSome then (match y with
  | .data (.int _ n)=>0<=n/\(len+n)*by_<=140737488355328/\len+n<=140737488355328/\zerosK P e n.toNat fun z=>K n.toNat z []
  | _=>False)
  else ((sliceT P xt).isSome || strT P xt)=true/\srcK y es H fun n cs rd=>cs.all D.cell=true/\(len+n)*by_<=140737488355328/\len+n<=140737488355328/\K n cs rd
@[congr] theorem appK_congr {n0:Nat} (tk:tick=n0) (el xt:TypeId) (es by_ len:Nat) {y y':D} (h:y=y') (H:Nat->Blk) (K:Nat->List D->List Nat->Prop):appK P el xt es by_ len y H K=appK P el xt es by_ len y' H K:=by rw[h]
@[go_sem] def appS (el xt:TypeId) (es by_ len:Nat) (y:D) (H:Nat->Blk) (K:Nat->List D->List Nat->Prop):Prop:=sideK ((intT P xt).isSome=false) (sideK (((sliceT P xt).isSome || strT P xt)=true) (srcK y es H fun n cs rd=>sideK (cs.all D.cell=true) (sideK ((len+n)*by_<=140737488355328) (sideK (len+n<=140737488355328) (K n cs rd)))))
theorem appK_src (el xt:TypeId) (es by_ len:Nat) (y:D) (hy:∀ k n,y≠.data (.int k n)) (H:Nat->Blk) (K:Nat->List D->List Nat->Prop):appK P el xt es by_ len y H K=appS P el xt es by_ len y H K:=by
 unfold appK appS sideK;by_cases h:(intT P xt).isSome
 . simp only[h,if_true];cases y with
   | data x=>cases x<;>simp_all
   | _=>simp
 . simp[h]
@[go_sem] theorem appK_sl (el xt:TypeId) (es by_ len:Nat) (es':Nat) (l:List Data) (H:Nat->Blk) (K:Nat->List D->List Nat->Prop):appK P el xt es by_ len (.data (.sl es' l)) H K=appS P el xt es by_ len (.data (.sl es' l)) H K:=appK_src P el xt es by_ len _ (by simp) H K
@[go_sem] theorem appK_ref (el xt:TypeId) (es by_ len:Nat) (g o n s:Nat) (H:Nat->Blk) (K:Nat->List D->List Nat->Prop):appK P el xt es by_ len (.ref g o n s) H K=appS P el xt es by_ len (.ref g o n s) H K:=appK_src P el xt es by_ len _ (by simp) H K
theorem append_empS (t u:TypeId) (es:Nat) (y:D) (hy:∀ k n,y≠.data (.int k n)):appendK P t u (.emp es) y H fr K=someK (sliceT P t) fun el=>someK (szT P el) fun n=>someK (byT P el) fun by_=>sideK (0<n) (sideK (zlT P el=some n) (appS P el u n by_ 0 y H fun m cs rd=>K (.ref fr 0 m n) rd [(fr,.blk true cs)])):=by
 unfold appendK someK sideK appS sideK;simp only;cases sliceT P t<;>simp only;rename_i el;cases szT P el<;>simp only;cases byT P el<;>simp only;by_cases h:(intT P u).isSome
 . simp only[h,if_true];cases y with
   | data x=>cases x<;>simp_all
   | _=>simp
 . simp[h]
@[go_sem] theorem append_emp_sl (t u:TypeId) (es es':Nat) (l:List Data):appendK P t u (.emp es) (.data (.sl es' l)) H fr K=someK (sliceT P t) fun el=>someK (szT P el) fun n=>someK (byT P el) fun by_=>sideK (0<n) (sideK (zlT P el=some n) (appS P el u n by_ 0 (.data (.sl es' l)) H fun m cs rd=>K (.ref fr 0 m n) rd [(fr,.blk true cs)])):=append_empS P H fr K t u es _ (by simp)
@[go_sem] theorem append_ref (t u:TypeId) (g len es:Nat) (y:D):appendK P t u (.ref g 0 len es) y H fr K=someK (sliceT P t) fun el=>someK (szT P el) fun n=>someK (byT P el) fun by_=>sideK (0<n) (sideK (zlT P el=some n) (sideK (es=n) (blkK (H g) fun rw cells=>ifW rw (sideK (cells.length=len*n) (appK P el u n by_ len y H fun m cs rd=>cellsK (cells++cs) fun nc=>K (.ref fr 0 (len+m) n) (g::rd) [(g,.dead),(fr,.blk true nc)])) False))):=by
 unfold appendK someK sideK appK blkK ifW cellsK;simp only;cases sliceT P t<;>simp only;rename_i el;cases szT P el<;>simp only;cases byT P el<;>simp only;cases H g with
 | dead=>rfl
 | obj o=>rfl
 | blk rw cells =>
   cases rw
   . rfl
   . simp only;by_cases h:(intT P u).isSome
     . simp only[h,if_true];cases y with
       | data x=>cases x<;>rfl
       | _=>rfl
     . simp[h]
end
@[go_sem] theorem dcK_eq (dst:Option Nat) (ty:TypeId) (pos:String) (af:Array Edge) (gd:Option (Nat×Bool)) (e:Nat->D) (H:Nat->Blk) (nx:Nat) (K:D->(Nat->Blk)->Nat->Prop) (x:Operand) (args:Array Operand) (ts:Array TypeId) :
 dcK P Γ ⟨dst,.call ⟨.value x,args,ts⟩,ty,pos,af,gd⟩ e H nx K=someK (fnD (evalD Γ e x)) fun fc=>DC P Γ fc.1 (fc.2.1++(args.toList.map (evalD Γ e)++fc.2.2)) H nx K:=by
 unfold dcK someK;simp only;cases fnD (evalD Γ e x)<;>rfl
@[go_sem] theorem fnD_data (f:FuncId) (c:List Data):fnD (.data (.fn f c))=some (f,[],c.map toD):=rfl
@[go_sem] theorem fnD_bn (f:FuncId) (r:Data):fnD (.data (.bn f r))=some (f,[toD r],[]):=rfl
@[go_sem] theorem fnD_bnd (f:FuncId) (r:D):fnD (.bnd f r)=some (f,[r],[]):=rfl
@[go_sem] theorem fnD_fn (f:FuncId) (c:List D):fnD (.fn f c)=some (f,[],c):=rfl
variable {P Γ}
theorem call_data {f:FuncId} {ds:List D} {xs:List Data} {r:Data} {H:Nat->Blk} {K:D->List Nat->List (Nat×Blk)->Prop} (h:PC P Γ f xs r) (hd:ds=xs.map toD) (k:K (.data r) [] []):callK P Γ f ds H K:=by
 subst hd;refine⟨[],xs,r,[],(fun g hg=>by cases hg),h,.inr fun H' _=>?_,k⟩;refine⟨by simp,fun i d x hd hx=>?_⟩;rw[List.getElem?_map,hx] at hd;cases hd;cases x with
 | pc c=>exact .cptr c
 | _=>exact .data _
theorem call_frz {f:FuncId} {ds:List D} {H:Nat->Blk} {K:D->List Nat->List (Nat×Blk)->Prop} (F rd:List Nat) {xs:List Data} {r:Data} (hF:∀ g∈F,∃ rw cells,H g = .blk rw cells) (h:PC P Γ f xs r) (hf:∀ H',(∀ g∈rd,H' g=H g)->FrzL false (Hp.upd H' (F.map fun g=>(g,fz (H g)))) ds xs) (k:K (.data r) rd (F.map fun g=>(g,fz (H g)))):callK P Γ f ds H K :=
 ⟨F,xs,r,rd,hF,h,.inr hf,k⟩
end
def NextW {σ:Type} (st:σ->St) (μ:σ->Nat) (x:σ) (s:St):Prop:=∃ y,WeakX s (st y)/\μ y<μ x
@[congr] theorem NextW_congr {n0:Nat} (tk:tick=n0) {σ:Type} (st:σ->St) (μ:σ->Nat) (x:σ) (s:St):NextW st μ x s=NextW st μ x s:=rfl
theorem next_ren {σ:Type} {st:σ->St} {μ:σ->Nat} {x:σ} {s:St} (y:σ) (hm:μ y<μ x) (F:List Nat) (ρ:Nat->Option Nat) (h:WeakR F ρ s (st y)):NextW st μ x s:=⟨y,.inr ⟨F,ρ,h⟩,hm⟩
theorem loop_ren {body:(Exit->St->Prop)->St->Prop} {Q:Exit->St->Prop} {s:St} {σ:Type} (st:σ->St) (μ:σ->Nat) (x0:σ) (F:List Nat) (ρ:Nat->Option Nat) (h0:WeakR F ρ s (st x0)) (h:∀ x,body (thenW (NextW st μ x) Q) (st x)):LoopW body Q s:=⟨σ,st,μ,x0,.inr ⟨F,ρ,h0⟩,h⟩
def startK (ds:List D) (n:Nat) (K:List D->Nat->Prop):Prop:=K ds n
@[congr] theorem startK_congr {n0:Nat} (tk:tick=n0) {ds ds':List D} (h:ds=ds') {n n':Nat} (h2:n=n') (K:List D->Nat->Prop):startK ds n K=startK ds' n' K:=by rw[h,h2]
@[go_sem] theorem startK_eq (ds:List D) (n:Nat) (K:List D->Nat->Prop):startK ds n K=K ds n:=rfl
section
variable {P:Program} {Γ:Nat->Option (List Data)}
theorem pc_by (hm:P.follows .mixedOrders=true) {f:FuncId} {fn:Func} {c:Code} {xs:List Data} {r:Data} (hf:P.funcs[f]?=some fn) (hb:fn.body=some c) (hc:CallOk P f)
 (h:startK (xs.map toD) (xs.length+(fn.ntmps-xs.length)) fun ds n=>wpF P Γ c (retQ P fn r) ⟨envArgs ds,fun _=>.dead,0,0,n⟩):PC P Γ f xs r:=pc_of hm hf hb hc h
end
theorem frz_ptr {ok:Bool} {H:Nat->Blk} {g:Nat} {l:List Data} {rw:Bool} (hg:H g = .blk rw (l.map .data)) (hrw:ok=true \/ rw=false):Frz ok H (.ptr g 0) (.pc l) :=
 .ptr g 0 rw _ l (fun i=>.data (l.getD i .nilp)) hg hrw (fun i x hx=>by simp[hx]) fun i x hx=>by
  have:l.getD i .nilp=x:=by simp[hx]
  rw[this];exact .data x
theorem frzL_c {ok:Bool} {H:Nat->Blk} {d:D} {x:Data} {ds:List D} {xs:List Data} (h:Frz ok H d x) (t:FrzL ok H ds xs):FrzL ok H (d::ds) (x::xs):=(frzL_cons ok H d ds (x::xs)).2 ⟨x,xs,rfl,h,t⟩
theorem frzL_n {ok:Bool} {H:Nat->Blk}:FrzL ok H [] []:=(frzL_nil ok H []).2 rfl
def envL:List (Nat×D)->Nat->D
 | [],_=>.junk
 | (k,d)::l,t=>if t=k then d else envL l t
def hpL:List (Nat×Blk)->Nat->Blk
 | [],_=>.dead
 | (k,d)::l,t=>if t=k then d else hpL l t
@[go_sem] theorem envL_nil (t:Nat):envL [] t = .junk:=rfl
@[go_sem] theorem envL_cons (k:Nat) (d:D) (l:List (Nat×D)) (t:Nat):envL ((k,d)::l) t=if t=k then d else envL l t:=rfl
@[go_sem] theorem hpL_nil (t:Nat):hpL [] t = .dead:=rfl
@[go_sem] theorem hpL_cons (k:Nat) (d:Blk) (l:List (Nat×Blk)) (t:Nat):hpL ((k,d)::l) t=if t=k then d else hpL l t:=rfl
def below (k:Nat):D->Bool
 | .ref g _ _ _=>decide (g<k)
 | .ptr g _=>decide (g<k)
 | .cut g _ _ _ _=>decide (g<k)
 | .mref g=>decide (g<k)
 | .iref g=>decide (g<k)
 | .agg cs=>allBelow k cs
 | .fn _ cs=>allBelow k cs
 | .bnd _ r=>below k r
 | .tp cs=>allBelow k cs
 | _=>true
where allBelow (k:Nat):List D->Bool
 | []=>true
 | d::l=>below k d && allBelow k l
@[go_sem] theorem below_data (k:Nat) (x:Data):below k (.data x)=true:=rfl
@[go_sem] theorem below_ref (k g o n s:Nat):below k (.ref g o n s)=decide (g<k):=rfl
@[go_sem] theorem below_ptr (k g o:Nat):below k (.ptr g o)=decide (g<k):=rfl
@[go_sem] theorem below_cut (k g o n c s:Nat):below k (.cut g o n c s)=decide (g<k):=rfl
@[go_sem] theorem below_mref (k g:Nat):below k (.mref g)=decide (g<k):=rfl
@[go_sem] theorem below_iref (k g:Nat):below k (.iref g)=decide (g<k):=rfl
@[go_sem] theorem below_emp (k n:Nat):below k (.emp n)=true:=rfl
@[go_sem] theorem below_cptr (k:Nat) (c:List Data):below k (.cptr c)=true:=rfl
@[go_sem] theorem below_fn (k:Nat) (f:FuncId) (c:List D):below k (.fn f c)=below.allBelow k c:=rfl
@[go_sem] theorem below_bnd (k:Nat) (f:FuncId) (r:D):below k (.bnd f r)=below k r:=rfl
@[go_sem] theorem below_yld (k l:Nat):below k (.yld l)=true:=rfl
@[go_sem] theorem below_ful (k n:Nat) (l:List Data):below k (.ful n l)=true:=rfl
@[go_sem] theorem below_tp (k:Nat) (c:List D):below k (.tp c)=below.allBelow k c:=rfl
@[go_sem] theorem below_agg (k:Nat) (c:List D):below k (.agg c)=below.allBelow k c:=rfl
@[go_sem] theorem allBelow_nil (k:Nat):below.allBelow k []=true:=rfl
@[go_sem] theorem allBelow_cons (k:Nat) (d:D) (l:List D):below.allBelow k (d::l)=(below k d && below.allBelow k l):=rfl
def rhoL:List (Nat×Option Nat)->Nat->Option Nat
 | [],g=>some g
 | (k,o)::l,g=>if g=k then o else rhoL l g
@[go_sem] theorem rhoL_nil (g:Nat):rhoL [] g=some g:=rfl
@[go_sem] theorem rhoL_cons (k:Nat) (o:Option Nat) (l:List (Nat×Option Nat)) (g:Nat):rhoL ((k,o)::l) g=if g=k then o else rhoL l g:=rfl
@[go_sem] theorem fzH_eq (H:Nat->Blk) (F:List Nat) (g:Nat):fzH H F g=if g∈F then fz (H g) else H g:=rfl
section
variable {n:Nat} {ρ:Nat->Option Nat} {H:Nat->Blk}
def RenCells (n:Nat) (ρ:Nat->Option Nat) (H:Nat->Blk) (cs ds:List D):Prop:=cs.length<=ds.length/\∀ (i:Nat) (c d:D),cs[i]?=some c->ds[i]?=some d->Ren n ρ H c d
@[go_sem] theorem renCells_nil (ds:List D):RenCells n ρ H [] ds ↔ True:=iff_true_intro ⟨by simp,fun i c d h=>by simp at h⟩
@[go_sem] theorem renCells_cons (c d:D) (cs ds:List D):RenCells n ρ H (c::cs) (d::ds) ↔ Ren n ρ H c d/\RenCells n ρ H cs ds:=by
 constructor
 . rintro⟨h1,h2⟩;exact⟨h2 0 c d rfl rfl,by simpa using h1,fun i c' d' hc hd=>h2 (i+1) c' d' (by simpa using hc) (by simpa using hd)⟩
 . rintro⟨h1,h2,h3⟩;refine⟨by simpa using h2,fun i c' d' hc hd=>?_⟩
   match i with
   | 0=>simp at hc hd;subst hc;subst hd;exact h1
   | i+1=>exact h3 i c' d' (by simpa using hc) (by simpa using hd)
theorem renCells_datas {cs:List D} (h:∀ c∈cs,∃ x,c = .data x):RenCells n ρ H cs cs:=⟨Nat.le_refl _,fun i c d hc hd=>by
 rw[hc] at hd;cases hd;obtain⟨x,rfl⟩:=h c (List.mem_of_getElem? hc);exact .data x⟩
theorem renCells_eq {l m:List Data} (h:l=m):RenCells n ρ H (l.map D.data) (m.map D.data):=by
 subst h;exact renCells_datas fun c hc=>by obtain⟨x,_,rfl⟩:=List.mem_map.1 hc;exact⟨x,rfl⟩
@[go_sem] theorem renCells_map (l:List Data):RenCells n ρ H (l.map D.data) (l.map D.data) ↔ True:=iff_true_intro (renCells_eq rfl)
@[go_sem] theorem ren_data (x y:Data):Ren n ρ H (.data x) (.data y) ↔ x=y:=by
 constructor
 . intro h;cases h with
   | data=>rfl
   | frz _ _ h=>cases h;rfl
 . rintro rfl;exact .data x
@[go_sem] theorem ren_ref (g off len es o off' len' es':Nat):Ren n ρ H (.ref g off len es) (.ref o off' len' es') ↔ g<n/\ρ g=some o/\off=off'/\len=len'/\es=es':=by
 constructor
 . intro h;cases h with
   | ref _ _ _ _ _ h1 h2=>exact⟨h1,h2,rfl,rfl,rfl⟩
 . rintro⟨h1,h2,rfl,rfl,rfl⟩;exact .ref _ _ _ _ _ h1 h2
@[go_sem] theorem ren_refnil (g off len es es':Nat):Ren n ρ H (.ref g off len es) (.emp es') ↔ g<n/\ρ g=none/\off=0/\len=0:=by
 constructor
 . intro h;cases h with
   | nil _ _ _ h1 h2=>exact⟨h1,h2,rfl,rfl⟩
 . rintro⟨h1,h2,rfl,rfl⟩;exact .nil _ _ _ h1 h2
@[go_sem] theorem ren_ptr (g off o off':Nat):Ren n ρ H (.ptr g off) (.ptr o off') ↔ g<n/\ρ g=some o/\off=off':=by
 constructor
 . intro h;cases h with
   | ptr _ _ _ h1 h2=>exact⟨h1,h2,rfl⟩
 . rintro⟨h1,h2,rfl⟩;exact .ptr _ _ _ h1 h2
@[go_sem] theorem ren_emp (a b:Nat):Ren n ρ H (.emp a) (.emp b) ↔ True:=iff_true_intro (.emp a b)
@[go_sem] theorem ren_frzref (x:Data) (g off len es:Nat):Ren n ρ H (.data x) (.ref g off len es) ↔ Frz false H (.ref g off len es) x:=by
 constructor
 . intro h;cases h with
   | frz _ _ h=>exact h
 . exact .frz _ _
@[go_sem] theorem ren_frzemp (x:Data) (es:Nat):Ren n ρ H (.data x) (.emp es) ↔ ∃ es',x = .sl es' []:=by
 constructor
 . intro h;cases h with
   | frz _ _ h=>cases h with|emp _ es'=>exact⟨es',rfl⟩
 . rintro⟨es',rfl⟩;exact .frz _ _ (.emp es es')
end
def RenK (n:Nat) (R:List (Nat×Option Nat)) (H:Nat->Blk) (rw:Bool) (cells:List D):Blk->Prop
 | .dead=>False
 | .obj _=>False
 | .blk rw' cells'=>rw=rw'/\RenCells n (rhoL R) H cells cells'
def RenO (n:Nat) (R:List (Nat×Option Nat)) (H:Nat->Blk) (rw:Bool) (cells:List D):Option Nat->Prop
 | some o=>RenK n R H rw cells (H o)
 | none=>cells=[]
def RenS (n:Nat) (R:List (Nat×Option Nat)) (H:Nat->Blk) (o2:Ob):Blk->Prop
 | .obj o1=>RenOb n (rhoL R) H o2 o1
 | _=>False
def RenP (n:Nat) (R:List (Nat×Option Nat)) (H:Nat->Blk) (o2:Ob):Option Nat->Prop
 | some o=>RenS n R H o2 (H o)
 | none=>False
def RenB (n:Nat) (R:List (Nat×Option Nat)) (H:Nat->Blk) (g:Nat):Blk->Prop
 | .dead=>True
 | .blk rw cells=>g<n/\RenO n R H rw cells (rhoL R g)
 | .obj o=>g<n/\RenP n R H o (rhoL R g)
@[go_sem] theorem renB_obj (n:Nat) (R:List (Nat×Option Nat)) (H:Nat->Blk) (g:Nat) (o:Ob):RenB n R H g (.obj o) ↔ g<n/\RenP n R H o (rhoL R g):=Iff.rfl
@[go_sem] theorem renP_some (n:Nat) (R:List (Nat×Option Nat)) (H:Nat->Blk) (o2:Ob) (o:Nat):RenP n R H o2 (some o) ↔ RenS n R H o2 (H o):=Iff.rfl
@[go_sem] theorem renK_blk (n:Nat) (R:List (Nat×Option Nat)) (H:Nat->Blk) (rw:Bool) (cells:List D) (rw':Bool) (cells':List D):RenK n R H rw cells (.blk rw' cells') ↔ rw=rw'/\RenCells n (rhoL R) H cells cells':=Iff.rfl
@[go_sem] theorem renO_some (n:Nat) (R:List (Nat×Option Nat)) (H:Nat->Blk) (rw:Bool) (cells:List D) (o:Nat):RenO n R H rw cells (some o) ↔ RenK n R H rw cells (H o):=Iff.rfl
@[go_sem] theorem renO_none (n:Nat) (R:List (Nat×Option Nat)) (H:Nat->Blk) (rw:Bool) (cells:List D):RenO n R H rw cells none ↔ cells=[]:=Iff.rfl
@[go_sem] theorem renB_dead (n:Nat) (R:List (Nat×Option Nat)) (H:Nat->Blk) (g:Nat):RenB n R H g .dead ↔ True:=Iff.rfl
@[go_sem] theorem renB_blk (n:Nat) (R:List (Nat×Option Nat)) (H:Nat->Blk) (g:Nat) (rw:Bool) (cells:List D):RenB n R H g (.blk rw cells) ↔ g<n/\RenO n R H rw cells (rhoL R g):=Iff.rfl
theorem nodup_inj {α:Type} (f:α->Option Nat) (k:α->Nat):∀ l:List α,(l.filterMap f).Nodup->∀ p∈l,∀ q∈l,∀ o,f p=some o->f q=some o->k p=k q
 | [],_,p,hp,_,_,_,_,_=>by simp at hp
 | a::l,h,p,hp,q,hq,o,e1,e2=>by
   have ht:(l.filterMap f).Nodup:=by
    rw[List.filterMap_cons] at h;split at h
    . exact h
    . exact (List.nodup_cons.1 h).2
   have hn:∀ x∈l,f a=some o->f x=some o->False:=fun x hx ea ex=>by
    rw[List.filterMap_cons_some ea] at h;exact (List.nodup_cons.1 h).1 (List.mem_filterMap.2 ⟨x,hx,ex⟩)
   rcases List.mem_cons.1 hp with ep|hp<;>rcases List.mem_cons.1 hq with eq|hq
   . rw[ep,eq]
   . rw[ep] at e1;exact (hn q hq e1 e2).elim
   . rw[eq] at e2;exact (hn p hp e2 e1).elim
   . exact nodup_inj f k l ht p hp q hq o e1 e2
theorem ren_lists {e:Nat->D} {H:Nat->Blk} {nx lo nt:Nat} {F:List Nat} (R:List (Nat×Option Nat)) (L:List (Nat×D)) (M:List (Nat×Blk)) (n:Nat) (hL:∀ p∈L,Ren n (rhoL R) (fzH H F) p.2 (e p.1)) (hM:∀ p∈M,RenB n R (fzH H F) p.1 p.2)
 (hi:(M.filterMap fun p=>rhoL R p.1).Nodup) (hlo:lo<=n) (hf:∀ p∈R,lo<=p.1) :
 WeakR F (rhoL R) ⟨e,H,nx,lo,nt⟩ ⟨envL L,hpL M,n,lo,nt⟩:=by
 have env:∀ (L:List (Nat×D)),(∀ p∈L,Ren n (rhoL R) (fzH H F) p.2 (e p.1))->∀ t,Ren n (rhoL R) (fzH H F) (envL L t) (e t):=by
  intro L
  induction L with
  | nil=>exact fun _ t=>.junk _
  | cons p L ih =>
    intro h t;obtain⟨k,d⟩:=p;by_cases ht:t=k
    . subst ht;have:=h (t,d) (by simp);simpa[envL] using this
    . simp only[envL,ht,if_false];exact ih (fun p hp=>h p (by simp[hp])) t
 have blk:∀ (M:List (Nat×Blk)) (g:Nat) (b:Blk),hpL M g=b->b = .dead \/ (g,b)∈M:=by
  intro M
  induction M with
  | nil=>intro g b h;exact .inl h.symm
  | cons p M ih =>
    intro g b h;obtain⟨k,d⟩:=p;by_cases hg:g=k
    . subst hg;simp only[hpL,if_true] at h;subst h;exact .inr (by simp)
    . simp only[hpL,hg,if_false] at h;rcases ih g b h with h|h
      . exact .inl h
      . exact .inr (by simp[h])
 have fix:∀ (R:List (Nat×Option Nat)),(∀ p∈R,lo<=p.1)->∀ g,g<lo->rhoL R g=some g:=by
  intro R
  induction R with
  | nil=>exact fun _ g _=>rfl
  | cons p R ih =>
    intro h g hg;obtain⟨k,o⟩:=p;have:=h (k,o) (by simp);simp only[rhoL,show ¬ g=k by simp only at this;omega,if_false];exact ih (fun p hp=>h p (by simp[hp])) g hg
 refine⟨env L hL,fun g rw cells hg=>?_,fun g g' o cells rw cells' hg hg' ho ho'=>?_,fun g o2 hg=>?_,fun g g' o p p' hg hg' ho ho'=>?_,rfl,hlo,fun g hg=>fix R hf g hg,rfl⟩;rotate_left 2
 . rcases blk M g _ hg with h|h
   . cases h
   . obtain⟨h1,h2⟩:=hM _ h;refine⟨h1,?_⟩;simp only at h2;cases ho:rhoL R g with
     | some o =>
       rw[ho] at h2;have h3:RenS n R (fzH H F) o2 (fzH H F o):=h2;cases hb:fzH H F o with
       | dead=>rw[hb] at h3;exact h3.elim
       | blk=>rw[hb] at h3;exact h3.elim
       | obj o1 =>
         rw[hb] at h3;refine⟨o,o1,rfl,?_,h3⟩;show H o = .obj o1;unfold fzH at hb;split at hb
         . cases hH:H o with
           | dead=>rw[hH] at hb;cases hb
           | blk=>rw[hH] at hb;cases hb
           | obj o3=>rw[hH] at hb;exact hb
         . exact hb
     | none=>rw[ho] at h2;exact h2.elim
 . rcases blk M g _ hg with h|h
   . cases h
   . rcases blk M g' _ hg' with h'|h'
     . cases h'
     . exact nodup_inj (fun p:Nat×Blk=>rhoL R p.1) (fun p=>p.1) M hi _ h _ h' o ho ho'
 . rcases blk M g _ hg with h|h
   . cases h
   . obtain⟨h1,h2⟩:=hM _ h;refine⟨h1,?_⟩;simp only at h2;cases ho:rhoL R g with
     | some o =>
       rw[ho] at h2;have h3:RenK n R (fzH H F) rw cells (fzH H F o):=h2;cases hb:fzH H F o with
       | dead=>rw[hb] at h3;exact h3.elim
       | obj o=>rw[hb] at h3;exact h3.elim
       | blk rw' cells' =>
         rw[hb] at h3;obtain⟨rfl,h4,h5⟩:=h3;exact .inl ⟨o,cells',rfl,hb,h4,h5⟩
     | none=>rw[ho] at h2;exact .inr ⟨rfl,h2⟩
 . rcases blk M g _ hg with h|h
   . cases h
   . rcases blk M g' _ hg' with h'|h'
     . cases h'
     . exact nodup_inj (fun p:Nat×Blk=>rhoL R p.1) (fun p=>p.1) M hi _ h _ h' o ho ho'
def mkE (P:Program) (t:TypeId) (ds:List Data):Data:=match P.underlying t with
 | some (.struct _)|some (.array _ _)=>.agg ds
 | _=>ds.headD .nilp
def suppF (P:Program) (s:TypeId->Bool):Nat->List Field->Option Nat
 | o,[]=>some o
 | o,f::fs=>if f.offset=o/\s f.type=true then suppF P s (o+P.cellsOf f.type) fs else none
def supp (P:Program):Nat->TypeId->Bool
 | 0,_=>false
 | n+1,t=>match P.underlying t with
   | some .bool|some .string=>true
   | some (.int _)=>true
   | some (.slice e)=>supp P n e && decide (0<P.cellsOf e) && decide (0<P.bytesOf e)
   | some (.struct fs)=>suppF P (supp P n) 0 fs.toList == some (P.cellsOf t)
   | some (.array m e)=>supp P n e && decide (P.cellsOf t=m*P.cellsOf e)
   | _=>false
def dDF {H:Type} (r:TypeId->DataW H->List Data):List Field->List (DataW H)->List Data
 | f::fs,d::ds=>r f.type d++dDF r fs ds
 | _,_=>[]
def dD {H:Type} (P:Program):Nat->TypeId->DataW H->List Data
 | 0,_,_=>[]
 | n+1,t,d=>match P.underlying t with
   | some (.slice e)=>(match d with
     | .slice elems _=>[.sl (P.cellsOf e) (elems.map fun x=>mkE P e (dD P n e x))]
     | _=>[.sl (P.cellsOf e) []])
   | some (.struct fs)=>(match d with
     | .agg parts=>dDF (dD P n) fs.toList parts
     | _=>[])
   | some (.array _ e)=>(match d with
     | .agg parts=>parts.flatMap (dD P n e)
     | _=>[])
   | _=>(match d with
     | .lit (.bool b)=>[.bool b]
     | .lit (.int k i)=>[.int k i]
     | .lit (.string s)=>[.str ⟨s.toArray⟩]
     | _=>[])
def okF (o:TypeId->List Data->Prop):List Field->List Data->Prop
 | [],ds=>ds=[]
 | f::fs,ds=>∃ a b,ds=a++b/\o f.type a/\okF o fs b
def okA (o:List Data->Prop):Nat->List Data->Prop
 | 0,ds=>ds=[]
 | n+1,ds=>∃ a b,ds=a++b/\o a/\okA o n b
def okD (P:Program):Nat->TypeId->List Data->Prop
 | 0,_,_=>False
 | n+1,t,ds=>match P.underlying t with
   | some .bool=>∃ b,ds=[.bool b]
   | some (.int k)=>∃ i,ds=[.int k i]/\(Lit.int k i).wf=true
   | some .string=>∃ s,ds=[.str s]/\s.size<=reachBytes
   | some (.slice e)=>∃ l,ds=[.sl (P.cellsOf e) l]/\l.length<=reachBytes/\∀ x∈l,∃ es,x=mkE P e es/\okD P n e es
   | some (.struct fs)=>okF (okD P n) fs.toList ds
   | some (.array m e)=>okA (okD P n e) m ds
   | _=>False
def VDs (w:World) (cs:List Value) (ds:List Data):Prop:=ds.length=cs.length/\∀ (i:Nat) (x:Data) (v:Value),ds[i]?=some x->cs[i]?=some v->VD (fun _=>False) w x v
theorem VDs.nil (w:World):VDs w [] []:=⟨rfl,fun i x v h=>by simp at h⟩
theorem VDs.one {w:World} {v:Value} {x:Data} (h:VD (fun _=>False) w x v):VDs w [v] [x]:=⟨rfl,fun i y u hy hu=>by
 match i with
 | 0=>simp at hy hu;subst hy;subst hu;exact h
 | i+1=>simp at hy⟩
theorem VDs.append {w:World} {a b:List Value} {x y:List Data} (h:VDs w a x) (k:VDs w b y):VDs w (a++b) (x++y):=by
 refine⟨by simp[h.1,k.1],fun i d v hd hv=>?_⟩;rw[List.getElem?_append] at hd hv;rw[h.1] at hd;split at hd
 . rename_i hi;rw[if_pos hi] at hv;exact h.2 i d v hd hv
 . rename_i hi;rw[if_neg hi] at hv;exact k.2 _ d v hd hv
section
variable {H:Type} {enc:TypeId×Value->H} {P:Program} {w:World} {held:Bool} {spare:Nat->Bool}
theorem weights_each {ts:List TypeId} {ds:List (DataW H)} (hz:∀ x∈DataW.weightsEach P ts ds,x<=reachBytes):∀ (i:Nat) t d,ts[i]?=some t->ds[i]?=some d->∀ x∈DataW.weights P t d,x<=reachBytes:=by
 induction ts generalizing ds with
 | nil=>intro i t d h;simp at h
 | cons t ts ih =>
   cases ds with
   | nil=>intro i t d _ h;simp at h
   | cons d ds =>
     simp only[DataW.weightsEach,List.mem_append] at hz;intro i t' d' ht hd x hx
     match i with
     | 0=>simp at ht hd;subst ht;subst hd;exact hz x (.inl hx)
     | i+1=>exact ih (fun y hy=>hz y (.inr hy)) i t' d' (by simpa using ht) (by simpa using hd) x hx
theorem weights_all {e:TypeId} {ds:List (DataW H)} (hz:∀ x∈DataW.weightsAll P e ds,x<=reachBytes):∀ d∈ds,∀ x∈DataW.weights P e d,x<=reachBytes:=by
 induction ds with
 | nil=>intro d h;simp at h
 | cons d ds ih =>
   simp only[DataW.weightsAll,List.mem_append] at hz;intro d' hd x hx;rcases List.mem_cons.1 hd with rfl|hd
   . exact hz x (.inl hx)
   . exact ih (fun y hy=>hz y (.inr hy)) d' hd x hx
theorem cells_get {b0:Nat} {a:Addr} {n:Nat} {cs:List Value} (h:w.cells? b0 a n=some cs):cs.length=n/\∀ i,i<n->w.cell? (a.add i)=cs[i]?:=by
 unfold World.cells? at h;split at h
 . exact⟨by simpa using mapM_some_length h,fun i hi=>mapM_some_get h i i (by simp[hi])⟩
 . cases h
theorem cell_lt {a:Addr} {v:Value} (h:w.cell? a=some v):a.block<w.heap.size/\a.spot=none:=by
 unfold World.cell? at h;split at h
 . rename_i hb;exact⟨(Array.getElem?_eq_some_iff.1 hb).1,by cases hs:a.spot with
    | none=>rfl
    | some s=>rw[hs] at h;simp at h⟩
 . cases h
theorem mkE_cells {n:Nat} {t:TypeId} {es:List Data} (h:okD P n t es):(mkE P t es).cells=es:=by
 cases n with
 | zero=>exact h.elim
 | succ n =>
   unfold okD at h;unfold mkE;split at h
   all_goals rename_i hu;simp only[hu]
   . obtain⟨b,rfl⟩:=h;rfl
   . obtain⟨i,rfl,_⟩:=h;rfl
   . obtain⟨s,rfl,_⟩:=h;rfl
   . obtain⟨l,rfl,_⟩:=h;rfl
   . rfl
   . rfl
   . exact h.elim
theorem read_ok:∀ (n:Nat) (fuel:Nat) (t:TypeId) (cs:List Value) (d:DataW H) (ps:List MemPlace),supp P n t=true->DataW.trod enc P w 0 spare held fuel t cs=some (d,ps)->(∀ x∈DataW.weights P t d,x<=reachBytes) →
 VDs w cs (dD P n t d)/\okD P n t (dD P n t d):=by
 intro n
 induction n with
 | zero=>intro fuel t cs d ps hs;simp[supp] at hs
 | succ n ih =>
   intro fuel t cs d ps hs h hz;unfold supp at hs;split at hs
   . rename_i hu;obtain⟨b,rfl,e⟩:=DataW.trod_bool hu h;cases e;simp only[dD,okD,hu];exact⟨.one (.bool b),b,rfl⟩
   . rename_i hu;obtain⟨s,rfl,e,_⟩:=DataW.trod_string hu h;cases e;simp only[dD,okD,hu];refine⟨.one (.str s),s,rfl,?_⟩;have:=hz s.data.toList.length (by simp[DataW.weights]);simpa using this
   . rename_i k hu;obtain⟨i,rfl,e,hw⟩:=DataW.trod_int hu h;cases e;simp only[dD,okD,hu];exact⟨.one (.int k i),i,rfl,hw⟩
   . rename_i e hu;simp only[Bool.and_eq_true,decide_eq_true_eq] at hs;obtain⟨⟨hse,hc⟩,hb⟩:=hs;rcases DataW.trod_slice hu h with⟨rfl,hx⟩|⟨a,len,cap,elems,rest,m,rfl,rfl,hx,_,hlc,hcm,hlen,hel,_,_⟩
     . cases hx;simp only[dD,okD,hu];exact⟨.one (.sl _ [] none 0 0 0 0 (fun _=>.nilIface) rfl (Nat.le_refl _) (by simp[maxLen]) (by simp) (.inr rfl) (fun i x hx=>by simp[flat] at hx) (fun i x hx=>by simp[flat] at hx)),[],rfl,by simp,by simp⟩
     . cases hx;simp only[DataW.weights,hu,List.mem_cons,List.mem_append,List.length_map] at hz;have hw1:=hz _ (.inl rfl);have hw2:=weights_all (P:=P) (e:=e) (ds:=elems.map (·.1)) (fun x hx=>hz x (.inr (.inl hx)));have hlen2:elems.length<=reachBytes:=by
        have:elems.length*1<=(elems.length+rest.length)*P.bytesOf e:=Nat.mul_le_mul (by omega) hb;omega
       have each:∀ (i:Nat) (y:DataW H×List MemPlace),elems[i]?=some y->∃ ec,w.cells? 0 (a.add (i*P.cellsOf e)) (P.cellsOf e)=some ec/\VDs w ec (dD P n e y.1)/\okD P n e (dD P n e y.1):=by
        intro i y hy;have hi:i<len:=by rw[<- hlen];exact (List.getElem?_eq_some_iff.1 hy).1
        have h1:=hel i hi;rw[hy,Option.bind_eq_some_iff] at h1;obtain⟨ec,h2,h3⟩:=h1;exact⟨ec,h2,ih m e ec y.1 y.2 hse h3 (hw2 y.1 (List.mem_map.2 ⟨y,List.mem_of_getElem? hy,rfl⟩))⟩
       have hcl:∀ (i:Nat) (y:DataW H×List MemPlace),elems[i]?=some y->(mkE P e (dD P n e y.1)).cells=dD P n e y.1/\(dD P n e y.1).length=P.cellsOf e:=by
        intro i y hy;obtain⟨ec,h2,h3,h4⟩:=each i y hy;exact⟨mkE_cells h4,by rw[h3.1];exact (cells_get h2).1⟩
       have hflat:∀ (l:List Data) (c:Nat),0<c->(∀ x∈l,x.cells.length=c)->∀ (i:Nat) (x:Data),(flat l)[i]?=some x->∃ y,l[i / c]?=some y/\y.cells[i%c]?=some x:=by
        intro l c hc0
        induction l with
        | nil=>intro _ i x hx;simp[flat] at hx
        | cons y l ihl =>
          intro hall i x hx;have hy:y.cells.length=c:=hall y (by simp);simp only[flat,List.flatMap_cons,List.getElem?_append] at hx;rw[hy] at hx;split at hx
          . rename_i hi;rw[Nat.div_eq_of_lt hi,Nat.mod_eq_of_lt hi];exact⟨y,rfl,hx⟩
          . rename_i hi;obtain⟨z,h1,h2⟩:=ihl (fun x hx=>hall x (by simp[hx])) (i-c) x hx;obtain⟨q,rfl⟩:∃ q,i=q+c:=⟨i-c,by omega⟩;rw[Nat.add_div_right _ hc0,Nat.add_mod_right];rw[Nat.add_sub_cancel] at h1 h2;exact⟨z,by simpa using h1,h2⟩
       have hall:∀ x∈(elems.map fun y=>mkE P e (dD P n e y.1)),x.cells.length=P.cellsOf e:=by
        intro x hx;obtain⟨y,hy,rfl⟩:=List.mem_map.1 hx;obtain⟨i,hi⟩:=List.getElem?_of_mem hy;rw[(hcl i y hi).1,(hcl i y hi).2]
       have key:∀ (i:Nat) (x:Data),(flat (elems.map fun y=>mkE P e (dD P n e y.1)))[i]?=some x->∃ v,w.cell? (a.add i)=some v/\VD (fun _=>False) w x v:=by
        intro i x hx;obtain⟨y,h1,h2⟩:=hflat _ _ hc hall i x hx;rw[List.getElem?_map,Option.map_eq_some_iff] at h1;obtain⟨z,h3,rfl⟩:=h1;rw[(hcl _ z h3).1] at h2;obtain⟨ec,h4,h5,_⟩:=each _ z h3;obtain⟨h6,h7⟩:=cells_get h4;have hlt:i%P.cellsOf e<P.cellsOf e:=Nat.mod_lt _ hc;have hv:ec[i%P.cellsOf e]?=some ec[i%P.cellsOf e]:=List.getElem?_eq_getElem (by omega);refine⟨ec[i%P.cellsOf e],?_,h5.2 _ x _ h2 hv⟩;have h8:=h7 _ hlt;rw[hv] at h8;rw[<- h8];congr 1;have hi:=Nat.div_add_mod i (P.cellsOf e);rw[Nat.mul_comm] at hi;generalize i / P.cellsOf e*P.cellsOf e=q at hi;generalize i%P.cellsOf e=r at hi;subst hi
        unfold Addr.add;by_cases hq:q=0
        . subst hq;simp
        . by_cases hr:r=0
          . subst hr;simp
          . simp[hq,hr,Nat.add_assoc]
       have hdd:dD P (n+1) t (DataW.slice (elems.map (·.1)) (rest.map (·.1)))=[.sl (P.cellsOf e) (elems.map fun y=>mkE P e (dD P n e y.1))]:=by
        simp[dD,hu,Function.comp_def]
       rw[hdd];refine⟨.one ?_,?_⟩
       . have spot:∀ (i:Nat) (x:Data),(flat (elems.map fun y=>mkE P e (dD P n e y.1)))[i]?=some x->a.spot=none:=by
          intro i x hx;have h0:0<(flat (elems.map fun y=>mkE P e (dD P n e y.1))).length:=by
           have:=(List.getElem?_eq_some_iff.1 hx).1;omega
          obtain⟨v,hv,_⟩:=key 0 _ (List.getElem?_eq_getElem h0);simpa[Addr.add] using (cell_lt hv).2
         refine .sl _ _ (some a) len cap a.block a.off (fun i=>(w.cell? ⟨a.block,a.off+i,none⟩).getD .nilIface) (by simp[hlen]) hlc hcm hall ?_ ?_ ?_
         . by_cases he:elems=[]
           . exact .inr (by simp[he])
           . refine .inl ?_;have h0:0<elems.length:=List.length_pos_iff.2 he;obtain⟨ec,h4,_,_⟩:=each 0 elems[0] (List.getElem?_eq_getElem h0);obtain⟨h6,h7⟩:=cells_get h4;have h8:=h7 0 hc;rw[List.getElem?_eq_getElem (by omega)] at h8;have h9:=cell_lt h8;simp[Addr.add] at h9;obtain⟨ab,ao,az⟩:=a;simp at h9;exact⟨by rw[h9.2],h9.1,fun h=>h⟩
         . intro i x hx;obtain⟨v,hv,_⟩:=key i x hx;have hsp:=spot i x hx;have:a.add i=⟨a.block,a.off+i,none⟩:=by
            unfold Addr.add;split
            . rename_i e0;subst e0;obtain⟨ab,ao,az⟩:=a;simp at hsp ⊢;exact hsp
            . rfl
           rw[this] at hv;simp only[hv,Option.getD_some]
         . intro i x hx;obtain⟨v,hv,hvd⟩:=key i x hx;have hsp:=spot i x hx;have:a.add i=⟨a.block,a.off+i,none⟩:=by
            unfold Addr.add;split
            . rename_i e0;subst e0;obtain⟨ab,ao,az⟩:=a;simp at hsp ⊢;exact hsp
            . rfl
           rw[this] at hv;simp only[hv,Option.getD_some];exact hvd
       . simp only[okD,hu];refine⟨_,rfl,by simpa using hlen2,fun x hx=>?_⟩;obtain⟨y,hy,rfl⟩:=List.mem_map.1 hx;obtain⟨i,hi⟩:=List.getElem?_of_mem hy;obtain⟨ec,_,_,h4⟩:=each i y hi;exact⟨_,rfl,h4⟩
   . rename_i fs hu;obtain⟨xs,m,rfl,hx,hcl,hxl,hf⟩:=DataW.trod_struct hu h;cases hx;simp only[DataW.weights,hu] at hz;have hw:=weights_each hz;have hdd:dD P (n+1) t (DataW.agg (xs.map (·.1)))=dDF (dD P n) fs.toList (xs.map (·.1)):=by simp[dD,hu]
     rw[hdd];have hs2:suppF P (supp P n) 0 fs.toList=some (P.cellsOf t):=by simpa using hs
     have go:∀ (l:List Field) (ys:List (DataW H×List MemPlace)) (o:Nat),l.length=ys.length->suppF P (supp P n) o l=some (P.cellsOf t) →
      (∀ (i:Nat) (f:Field),l[i]?=some f->DataW.trod enc P w 0 spare held m f.type ((cs.drop f.offset).take (P.cellsOf f.type))=ys[i]?) →
      (∀ (i:Nat) (f:Field) (y:DataW H×List MemPlace),l[i]?=some f->ys[i]?=some y->∀ x∈DataW.weights P f.type y.1,x<=reachBytes)->o<=P.cellsOf t/\VDs w (cs.drop o) (dDF (dD P n) l (ys.map (·.1)))/\okF (okD P n) l (dDF (dD P n) l (ys.map (·.1))):=by
      intro l
      induction l with
      | nil =>
        intro ys o hl hs3 _ _;simp only[suppF,Option.some.injEq] at hs3;subst hs3;rw[<- hcl];simp only[List.drop_length,dDF];exact⟨Nat.le_refl _,.nil w,rfl⟩
      | cons f l ihl =>
        intro ys o hl hs3 hf3 hw3;cases ys with
        | nil=>simp at hl
        | cons y ys =>
          simp only[suppF] at hs3;split at hs3
          . rename_i ho;obtain⟨rfl,hsf⟩:=ho;have h0:=hf3 0 f rfl;simp only[List.getElem?_cons_zero] at h0;obtain⟨h1,h2⟩:=ih m f.type _ y.1 y.2 hsf h0 (hw3 0 f y rfl rfl);obtain⟨h3,h4,h5⟩:=ihl ys (f.offset+P.cellsOf f.type) (by simpa using hl) hs3 (fun i g hg=>by simpa using hf3 (i+1) g (by simpa using hg)) (fun i g z hg hz'=>hw3 (i+1) g z (by simpa using hg) (by simpa using hz'));refine⟨by omega,?_,_,_,rfl,h2,h5⟩;have:cs.drop f.offset=(cs.drop f.offset).take (P.cellsOf f.type)++cs.drop (f.offset+P.cellsOf f.type):=by
             rw[<- List.drop_drop,List.take_append_drop]
            rw[this];exact h1.append h4
          . cases hs3
     obtain⟨_,h1,h2⟩:=go fs.toList xs 0 (by simp[hxl]) hs2 (fun i f hg=>hf i f (by simpa using hg)) (fun i f y hg hy=>hw i f.type y.1 (by simp at hg ⊢;exact⟨f,hg,rfl⟩) (by simp[hy]));refine⟨by simpa using h1,?_⟩;simp only[okD,hu];exact h2
   . rename_i m e hu;simp only[Bool.and_eq_true,decide_eq_true_eq] at hs;obtain⟨hse,hsz⟩:=hs;obtain⟨xs,k,rfl,hx,hcl,hxl,hf⟩:=DataW.trod_array hu h;cases hx;simp only[DataW.weights,hu] at hz;have hw:=weights_all hz;have hdd:dD P (n+1) t (DataW.agg (xs.map (·.1)))=(xs.map (·.1)).flatMap (dD P n e):=by simp[dD,hu]
     rw[hdd];have go:∀ (j:Nat),j<=m->VDs w (cs.drop ((m-j)*P.cellsOf e)) (((xs.drop (m-j)).map (·.1)).flatMap (dD P n e))/\okA (okD P n e) j (((xs.drop (m-j)).map (·.1)).flatMap (dD P n e)):=by
      intro j
      induction j with
      | zero =>
        intro _;rw[Nat.sub_zero,<- hsz,<- hcl,<- hxl];simp only[List.drop_length,List.map_nil,List.flatMap_nil];exact⟨.nil w,rfl⟩
      | succ j ihj =>
        intro hj;obtain⟨h1,h2⟩:=ihj (by omega);have hi:m-(j+1)<m:=by omega
        have hxi:m-(j+1)<xs.length:=by omega
        have h0:=hf (m-(j+1)) hi;rw[List.getElem?_eq_getElem hxi] at h0;obtain⟨h3,h4⟩:=ih k e _ xs[m-(j+1)].1 xs[m-(j+1)].2 hse h0 (hw _ (List.mem_map.2 ⟨_,List.getElem_mem hxi,rfl⟩));have e1:m-(j+1)+1=m-j:=by omega
        rw[List.drop_eq_getElem_cons hxi,e1];simp only[List.map_cons,List.flatMap_cons];refine⟨?_,_,_,rfl,h4,h2⟩;have e2:cs.drop ((m-(j+1))*P.cellsOf e)=(cs.drop ((m-(j+1))*P.cellsOf e)).take (P.cellsOf e)++cs.drop ((m-j)*P.cellsOf e):=by
         have:(m-j)*P.cellsOf e=(m-(j+1))*P.cellsOf e+P.cellsOf e:=by rw[<- e1,Nat.add_mul,Nat.one_mul]
         rw[this,<- List.drop_drop,List.take_append_drop]
        rw[e2];exact h3.append h1
     have:=go m (Nat.le_refl _);simp only[Nat.sub_self,Nat.zero_mul,List.drop_zero] at this;refine⟨this.1,?_⟩;simp only[okD,hu];exact this.2
   . cases hs
def argD (P:Program) (n:Nat) (t:TypeId) (x:Data):Prop:=∃ ds,x=mkE P t ds/\okD P n t ds
theorem read_arg {n:Nat} {base:Nat} {t:TypeId} {v:Value} {d:DataW H} {ps:List MemPlace} (hs:supp P n t=true) (hv:Value.okWide P w .any base t v) (k:DataW.Trod enc P w 0 spare held t v d ps) (hz:(DataW.weights P t d).all (fun x=>decide (x<=reachBytes))=true) :
 ∃ x,VD (fun _=>False) w x v/\argD P n t x:=by
 obtain⟨fuel,hf⟩:=k;obtain⟨h1,h2⟩:=read_ok n fuel t _ d ps hs hf (fun x hx=>by simpa using List.all_eq_true.1 hz x hx);refine⟨mkE P t (dD P n t d),?_,_,rfl,h2⟩;generalize dD P n t d=ds at h1 h2;cases n with
 | zero=>exact h2.elim
 | succ n =>
   have one:∀ x,(∀ cs,v≠.agg cs)->ds=[x]->VD (fun _=>False) w x v:=by
    intro x hna hds;subst hds;have:v.cells.toList=[v]:=by
     cases v with
     | agg cs=>exact absurd rfl (hna cs)
     | _=>rfl
    rw[this] at h1;exact h1.2 0 x v rfl rfl
   unfold Value.okWide at hv;unfold okD at h2;unfold mkE;split at h2
   all_goals rename_i hu;simp only[hu] at hv ⊢
   . obtain⟨b,rfl⟩:=h2;exact one _ (fun cs e=>by subst e;simp[Cell.okWide,Cell.ok,hu] at hv) rfl
   . obtain⟨i,rfl,_⟩:=h2;exact one _ (fun cs e=>by subst e;simp[Cell.okWide,Cell.ok,hu] at hv) rfl
   . obtain⟨s,rfl,_⟩:=h2;exact one _ (fun cs e=>by subst e;simp[Cell.okWide,Cell.ok,hu] at hv) rfl
   . obtain⟨l,rfl,_⟩:=h2;exact one _ (fun cs e=>by subst e;simp[Cell.okWide,Cell.ok,hu] at hv) rfl
   . obtain⟨cs,rfl,_⟩:=hv;exact .agg _ _ (by simpa[Value.cells] using h1.1) (fun i x u hx hu=>h1.2 i x u hx (by simpa[Value.cells] using hu))
   . obtain⟨cs,rfl,_⟩:=hv;exact .agg _ _ (by simpa[Value.cells] using h1.1) (fun i x u hx hu=>h1.2 i x u hx (by simpa[Value.cells] using hu))
   . exact h2.elim
theorem calls_of_pc {Γ:Nat->Option (List Data)} {f:FuncId} {xs:List Data} {vs:Array Value} (hg:Glob Γ (fun _=>False) w) (h:PC P Γ f xs (.bool true)) (hl:xs.length=vs.size)
 (hv:∀ (i:Nat) (x:Data) (v:Value),xs[i]?=some x->vs[i]?=some v->VD (fun _=>False) w x v) :
 Calls P f vs w fun e w'=>e = .returned (.bool true)/\Below w.heap.size w w':=by
 refine (h.2 (fun _=>False) w vs hg (fun b hb=>hb.elim) hl hv).mono fun e w' ⟨v,he,hvd,hb⟩=>?_;cases hvd;exact⟨he,hb⟩
theorem vdl {x0:Data} {v0:Value} {xs:List Data} {vs:List Value} (h0:VD (fun _=>False) w x0 v0) (h:∀ (i:Nat) (x:Data) (v:Value),xs[i]?=some x->vs[i]?=some v->VD (fun _=>False) w x v) :
 ∀ (i:Nat) (x:Data) (v:Value),(x0::xs)[i]?=some x->(v0::vs)[i]?=some v->VD (fun _=>False) w x v:=fun i x v hx hv=>by
 match i with
 | 0=>simp at hx hv;subst hx;subst hv;exact h0
 | i+1=>exact h i x v (by simpa using hx) (by simpa using hv)
theorem glob_of {n:Nat} {nm:String} {g:Nat} {t:TypeId} {cs:Array Value} {fuel:Nat} {d:DataW H} {ps:List MemPlace} (hs:supp P n t=true) (hg:P.globalNamed nm=some g) (hv:w.var? P nm=some cs)
 (hd:DataW.trod enc P w 0 spare held fuel t cs.toList=some (d,ps)) (hz:(DataW.weights P t d).all (fun x=>decide (x<=reachBytes))=true) (hne:dD P n t d≠[]) :
 VV (fun _=>False) w (fun _=>.res) (.cptr (dD P n t d)) (.pointer (some ⟨g,0,none⟩)):=by
 obtain⟨h1,h2⟩:=read_ok n fuel t _ d ps hs hd (fun x hx=>by simpa using List.all_eq_true.1 hz x hx);have hc:∀ (i:Nat) (x:Data),(dD P n t d)[i]?=some x->∃ v,w.cell? ⟨g,0+i,none⟩=some v/\VD (fun _=>False) w x v:=by
  intro i x hx;have hi:i<cs.size:=by
   have:=(List.getElem?_eq_some_iff.1 hx).1;rw[h1.1] at this;simpa using this
  have hcell:=World.var?_cell hg hv i;rw[Array.getElem?_eq_getElem hi] at hcell;refine⟨cs[i],by simpa using hcell,h1.2 i x _ hx (by simp[hi])⟩
 have h0:0<(dD P n t d).length:=List.length_pos_iff.2 hne;obtain⟨v,hv0,_⟩:=hc 0 _ (List.getElem?_eq_getElem h0);refine .cptr _ g 0 (fun i=>(w.cell? ⟨g,0+i,none⟩).getD .nilIface) (cell_lt hv0).1 (fun h=>h) (fun i x hx=>?_) (fun i x hx=>?_)
 . obtain⟨v,hv,_⟩:=hc i x hx;simp only[hv,Option.getD_some]
 . obtain⟨v,hv,hvd⟩:=hc i x hx;simp only[hv,Option.getD_some];exact hvd
end
def u8 (n:Nat):Data:=.int .u8 n
@[go_sem] theorem data_u8 (n:Nat):D.data (u8 n) = .data (.int .u8 n):=rfl
@[go_sem] theorem u8_cell (n:Nat):(u8 n).cell=true:=rfl
@[go_sem] theorem u8_cells (n:Nat):(u8 n).cells=[u8 n]:=rfl
theorem flat_len {es:Nat}:∀ {l:List Data},(∀ x∈l,x.cells.length=es)->(flat l).length=l.length*es
 | [],_=>by simp[flat]
 | x::l,h=>by
   have ih:=flat_len (l:=l) fun y hy=>h y (by simp[hy]);have hx:=h x (by simp);simp only[flat,List.flatMap_cons,List.length_append,List.length_cons] at ih ⊢;rw[ih,hx,Nat.add_mul];omega
def plainD:D->Bool
 | .data _ | .emp _=>true
 | _=>false
theorem renCells_plain {n:Nat} {ρ:Nat->Option Nat} {H:Nat->Blk} {cs ds:List D} (e:cs=ds) (h:cs.all plainD=true):RenCells n ρ H cs ds:=by
 subst e;refine⟨Nat.le_refl _,fun i c d hc hd=>?_⟩;rw[hc] at hd;cases hd;have:=List.all_eq_true.1 h c (List.mem_of_getElem? hc);cases c with
 | data x=>exact .data x
 | emp es=>exact .emp es es
 | _=>cases this
theorem frz_aggL {ok:Bool} {H:Nat->Blk} {cs:List D} {xs:List Data} (h:FrzL ok H cs xs):Frz ok H (.agg cs) (.agg xs):=.agg cs xs h.1 h.2
theorem call_keep {P:Program} {Γ:Nat->Option (List Data)} {f:FuncId} {ds:List D} {H:Nat->Blk} {K:D->List Nat->List (Nat×Blk)->Prop} (g:Nat) {rw:Bool} {cells:List D} {xs:List Data} {r:Data} (h:PC P Γ f xs r) (hg:H g = .blk rw cells)
 (hx:∀ H':Nat->Blk,H' g = .blk false cells->FrzL false H' ds xs) (k:K (.data r) [g] [(g,.blk false cells)]):callK P Γ f ds H K:=by
 refine call_frz [g] [g] (fun q hq=>⟨rw,cells,by simp at hq;subst hq;exact hg⟩) h (fun H' hH'=>?_) ?_
 . exact hx _ (by simp[Hp.upd,Hp.set,hg,fz])
 . simp only[List.map_cons,List.map_nil,hg,fz];exact k
theorem wf_nat {k:IntKind} {i:Int} (h:(Lit.int k i).wf=true):k.min<=i/\i<=k.max:=by simpa[Lit.wf] using h
section
variable {P:Program} {n:Nat} {t e:TypeId} {x:Data}
theorem arg_struct {fs:Array Field} (hu:P.underlying t=some (.struct fs)) (a:argD P (n+1) t x):∃ ds,x = .agg ds/\okF (okD P n) fs.toList ds:=by
 obtain⟨ds,rfl,h⟩:=a;simp only[okD,hu] at h;exact⟨ds,by simp[mkE,hu],h⟩
theorem okF_cons {o:TypeId->List Data->Prop} {f:Field} {fs:List Field} {ds:List Data} (h:okF o (f::fs) ds):∃ a b,ds=a++b/\o f.type a/\okF o fs b:=h
theorem okF_nil {o:TypeId->List Data->Prop} {ds:List Data} (h:okF o [] ds):ds=[]:=h
theorem ok_int {k:IntKind} {ds:List Data} (hu:P.underlying t=some (.int k)) (h:okD P (n+1) t ds):∃ i:Int,k.min<=i/\i<=k.max/\ds=[.int k i]:=by
 unfold okD at h;simp only[hu] at h;obtain⟨i,rfl,hw⟩:=h;have:=wf_nat hw;exact⟨i,this.1,this.2,rfl⟩
theorem ok_i64 {ds:List Data} (hu:P.underlying t=some (.int .i64)) (h:okD P (n+1) t ds):∃ i:Int,-9223372036854775808<=i/\i<=9223372036854775807/\ds=[.int .i64 i]:=by
 obtain⟨i,h1,h2,rfl⟩:=ok_int hu h;simp[IntKind.min,IntKind.max,IntKind.signed,IntKind.bits] at h1 h2;exact⟨i,h1,h2,rfl⟩
theorem ok_slice {ds:List Data} (hu:P.underlying t=some (.slice e)) (h:okD P (n+1) t ds):∃ l,ds=[.sl (P.cellsOf e) l]/\l.length<=140737488351232/\∀ x∈l,argD P n e x:=by
 unfold okD at h;simp only[hu] at h;obtain⟨l,h1,h2,h3⟩:=h;exact⟨l,h1,by simpa[reachBytes] using h2,h3⟩
end
@[go_sem] theorem dec_yes {p:Prop} [Decidable p] (h:p):decide p=true:=decide_eq_true h
@[go_sem] theorem dec_no {p:Prop} [Decidable p] (h:¬ p):decide p=false:=decide_eq_false h
section
variable (P:Program) (Γ:Nat->Option (List Data))
/- Regions of more than 64 operations: their list is put together of two. -/
@[go_sem] theorem opsW_app (ops:Array Oper) (o:Oper) (l r:List Oper) (s:St) (K:St->Prop):opsW P Γ ops (List.append (o::l) r) s K=opsW P Γ ops (o::List.append l r) s K:=rfl
@[go_sem] theorem opsW_app_nil (ops:Array Oper) (r:List Oper) (s:St) (K:St->Prop):opsW P Γ ops (List.append [] r) s K=opsW P Γ ops r s K:=rfl
@[go_sem] theorem drawW_app (ops:Array Oper) (o:Oper) (l r:List Oper) (s:St) (tr:List Tr) (K:St->List Tr->Prop):drawW P Γ ops (List.append (o::l) r) s tr K=drawW P Γ ops (o::List.append l r) s tr K:=rfl
@[go_sem] theorem drawW_app_nil (ops:Array Oper) (r:List Oper) (s:St) (tr:List Tr) (K:St->List Tr->Prop):drawW P Γ ops (List.append [] r) s tr K=drawW P Γ ops r s tr K:=rfl
end
section
variable {P:Program} {Γ:Nat->Option (List Data)} {L0:Nat->Prop} {w0:W0}
def retOQ (P:Program) (fn:Func) (d:D) (M:List (Nat×Blk)) (k:Nat):Exit->St->Prop
 | .normal,s | .ret,s=>resK P fn.results.toList s fun ds=>∃ d0 F R,tupDD ds=some d0/\WeakR F (rhoL R) ⟨envL [(0,d0)],s.hp,s.nx,0,1⟩ ⟨envL [(0,d)],hpL M,k,0,1⟩
 | _,_=>False
@[congr] theorem retOQ_congr {n0:Nat} (tk:tick=n0) (P:Program) (fn:Func) (d:D) (M:List (Nat×Blk)) (k:Nat) (e:Exit) (s:St):retOQ P fn d M k e s=retOQ P fn d M k e s:=rfl
def ownK (H:Nat->Blk) (nx:Nat) (d:D) (M:List (Nat×Blk)) (k:Nat) (ds:List D):Prop:=∃ d0 F R,tupDD ds=some d0/\WeakR F (rhoL R) ⟨envL [(0,d0)],H,nx,0,1⟩ ⟨envL [(0,d)],hpL M,k,0,1⟩
@[congr] theorem ownK_congr {n0:Nat} (tk:tick=n0) (H:Nat->Blk) (nx:Nat) (d:D) (M:List (Nat×Blk)) (k:Nat) {ds ds':List D} (h:ds=ds'):ownK H nx d M k ds=ownK H nx d M k ds':=by rw[h]
@[go_sem] theorem retOQ_ret (fn:Func) (d:D) (M:List (Nat×Blk)) (k:Nat) (s:St):retOQ P fn d M k .ret s=resK P fn.results.toList s fun ds=>ownK s.hp s.nx d M k ds:=rfl
@[go_sem] theorem retOQ_normal (fn:Func) (d:D) (M:List (Nat×Blk)) (k:Nat) (s:St):retOQ P fn d M k .normal s=resK P fn.results.toList s fun ds=>ownK s.hp s.nx d M k ds:=rfl
end
inductive FK where
 | b
 | i (k:IntKind)
 | s
def FK.okB (P:Program) (t:TypeId):FK->Bool
 | .b=>match P.underlying t with|some .bool=>true|_=>false
 | .i k=>match P.underlying t with|some (.int q)=>decide (q=k)|_=>false
 | .s=>match P.underlying t with|some .string=>true|_=>false
def FK.fit:FK->Data->Prop
 | .b,x=>∃ b,x = .bool b
 | .i k,x=>∃ n:Int,x = .int k n/\(Lit.int k n).wf=true
 | .s,x=>∃ s:ByteArray,x = .str s/\s.size<=maxLen
def FitD (ks:List FK) (xs:List Data):Prop:=xs.length=ks.length/\∀ (i:Nat) (k:FK) (x:Data),ks[i]?=some k->xs[i]?=some x->k.fit x
@[go_sem] theorem fitD_nil:FitD [] [] ↔ True:=iff_true_intro ⟨rfl,fun i k x h=>by simp at h⟩
@[go_sem] theorem fitD_cons (k:FK) (ks:List FK) (x:Data) (xs:List Data):FitD (k::ks) (x::xs) ↔ k.fit x/\FitD ks xs:=by
 constructor
 . rintro⟨h1,h2⟩;exact⟨h2 0 k x rfl rfl,by simpa using h1,fun i k' x' hk hx=>h2 (i+1) k' x' (by simpa using hk) (by simpa using hx)⟩
 . rintro⟨h1,h2,h3⟩;refine⟨by simpa using h2,fun i k' x' hk hx=>?_⟩
   match i with
   | 0=>simp at hk hx;subst hk;subst hx;exact h1
   | i+1=>exact h3 i k' x' (by simpa using hk) (by simpa using hx)
theorem fit_int {k:IntKind} {n:Int} (h:k.min<=n/\n<=k.max):FK.fit (.i k) (.int k n):=⟨n,rfl,by simp[Lit.wf,h]⟩
theorem fit_str {s:ByteArray} (h:s.size<=maxLen):FK.fit .s (.str s):=⟨s,rfl,h⟩
def litD:Data->Lit
 | .bool b=>.bool b
 | .int k n=>.int k n
 | .str s=>.string s.data.toList
 | _=>.bool false
def valD:Data->Value
 | .bool b=>.bool b
 | .int k n=>.int k n
 | .str s=>.string s
 | _=>.nilIface
theorem fit_val {k:FK} {x:Data} {v:Value} {L:Nat->Prop} {w:World} (hf:k.fit x) (h:VD L w x v):v=valD x:=by
 cases k with
 | b=>obtain⟨b,rfl⟩:=hf;cases h;rfl
 | i k=>obtain⟨n,rfl,_⟩:=hf;cases h;rfl
 | s=>obtain⟨s,rfl,_⟩:=hf;cases h;rfl
theorem fit_inj {k:FK} {x y:Data} (hx:k.fit x) (hy:k.fit y) (e:litD x=litD y):x=y:=by
 cases k with
 | b=>obtain⟨b,rfl⟩:=hx;obtain⟨c,rfl⟩:=hy;simpa[litD] using e
 | i k=>obtain⟨n,rfl,_⟩:=hx;obtain⟨m,rfl,_⟩:=hy;simpa[litD] using e
 | s =>
   obtain⟨s,rfl,_⟩:=hx;obtain⟨t,rfl,_⟩:=hy;have:s.data.toList=t.data.toList:=by simpa[litD] using e
   have h2:s=t:=by
    cases s;cases t;simp only at this;congr 1;exact Array.toList_inj.1 this
   rw[h2]
theorem fitD_inj:∀ {ks:List FK} {xs ys:List Data},FitD ks xs->FitD ks ys->(xs.map litD=ys.map litD ↔ xs=ys)
 | [],xs,ys,hx,hy=>by
   have h1:=List.eq_nil_of_length_eq_zero hx.1;have h2:=List.eq_nil_of_length_eq_zero hy.1;subst h1;subst h2;simp
 | k::ks,[],_,hx,_=>by have:=hx.1;simp at this
 | k::ks,_::_,[],_,hy=>by have:=hy.1;simp at this
 | k::ks,x::xs,y::ys,hx,hy=>by
   obtain⟨a1,a2⟩:=(fitD_cons k ks x xs).1 hx;obtain⟨b1,b2⟩:=(fitD_cons k ks y ys).1 hy;have ih:=fitD_inj a2 b2;simp only[List.map_cons,List.cons.injEq,ih];constructor
   . rintro⟨e1,e2⟩;exact⟨fit_inj a1 b1 e1,e2⟩
   . rintro⟨e1,e2⟩;exact⟨by rw[e1],e2⟩
def flatB (P:Program) (fs:Array Field) (ks:List FK):Bool:=(List.range ks.length).all fun i=>match fs[i]?,ks[i]? with
 | some f,some k=>decide (f.offset=i) && decide (P.cellsOf f.type=1) && k.okB P f.type
 | _,_=>false
structure FlatS (P:Program) (t:TypeId) (fs:Array Field) (ks:List FK):Prop where
 ut:P.underlying t=some (.struct fs)
 n:fs.size=ks.length
 ct:P.cellsOf t=ks.length
 names:fs.all (·.name != "_")=true
 each:flatB P fs ks=true
 deep:EqAt P (9998+2) t
 guard:P.eqGuardType P.depth t=false
theorem FlatS.lits {P:Program} {t:TypeId} {fs:Array Field} {ks:List FK} (h:FlatS P t fs ks) {xs:List Data} (hx:FitD ks xs):P.keyLits 3 t (xs.map valD)=some (xs.map litD):=by
 rw[Program.keyLits.eq_def];simp only[h.ut];have hlen:xs.length=P.cellsOf t:=by rw[h.ct,hx.1]
 rw[if_pos ⟨by simp[hlen],h.names⟩];have key:∀ (n:Nat) (l:List Field),n+l.length=xs.length->(∀ i,i<l.length->l[i]?=fs[n+i]?)->(l.mapM fun f=>P.keyLits 2 f.type (((xs.map valD).drop f.offset).take (P.cellsOf f.type)))=some ((xs.drop n).map fun x=>[litD x]):=by
  intro n l
  induction l generalizing n with
  | nil=>intro hl _;simp at hl;rw[List.drop_of_length_le (by omega)];rfl
  | cons f l ih =>
    intro hl hf;simp only[List.length_cons] at hl;have hnl:n<xs.length:=by omega
    have hnk:n<ks.length:=by rw[<- hx.1];exact hnl
    have hfn:fs[n]?=some f:=by have:=hf 0 (by simp);simpa using this.symm
    have hall:=List.all_eq_true.1 h.each n (List.mem_range.2 hnk);rw[hfn,List.getElem?_eq_getElem hnk] at hall;simp only[Bool.and_eq_true,decide_eq_true_eq] at hall;obtain⟨⟨ho,hc⟩,hk⟩:=hall;have hfit:=hx.2 n ks[n] xs[n] (List.getElem?_eq_getElem hnk) (List.getElem?_eq_getElem hnl);rw[List.mapM_cons,ih (n+1) (by omega) (fun i hi=>by have:=hf (i+1) (by simp;omega);simpa[Nat.add_assoc,Nat.add_comm 1] using this)];have e1:((xs.map valD).drop f.offset).take (P.cellsOf f.type)=[valD xs[n]]:=by
     rw[ho,hc,List.drop_eq_getElem_cons (by simpa using hnl)];simp
    have e2:P.keyLits 2 f.type [valD xs[n]]=some [litD xs[n]]:=by
     generalize ks[n]=kk at hk hfit;cases kk with
     | b =>
       obtain⟨b,hb⟩:=hfit;rw[hb,Program.keyLits.eq_def];simp only[FK.okB] at hk;split at hk
       . rename_i hu;simp only[hu];rfl
       . cases hk
     | i k =>
       obtain⟨m,hb,hw⟩:=hfit;rw[hb,Program.keyLits.eq_def];simp only[FK.okB] at hk;split at hk
       . rename_i q hu;have hq:q=k:=by simpa using hk
         subst hq;simp only[hu,valD];rw[if_pos (by simpa using hw)];rfl
       . cases hk
     | s =>
       obtain⟨st,hb,hw⟩:=hfit;rw[hb,Program.keyLits.eq_def];simp only[FK.okB] at hk;split at hk
       . rename_i hu;simp only[hu,valD];rw[if_pos hw];rfl
       . cases hk
    rw[e1,e2,List.drop_eq_getElem_cons hnl];rfl
 have:=key 0 fs.toList (by simp[h.n,hx.1]) (fun i hi=>by simp);rw[this];simp only[List.drop_zero,Option.map_some,Option.some.injEq];rw[List.flatten_eq_flatMap,List.flatMap_map];have fm:∀ (l:List Data),(l.flatMap fun x=>id [litD x])=l.map litD:=fun l=>by
  induction l with
  | nil=>rfl
  | cons a l ih =>
    simp only[List.flatMap_cons,List.map_cons,id] at ih ⊢;rw[ih];rfl
 exact fm xs
theorem fitD_vals {ks:List FK} {xs:List Data} {vs:Array Value} {L:Nat->Prop} {w:World} (hx:FitD ks xs) (hl:xs.length=vs.size) (h:∀ (i:Nat) (x:Data) (v:Value),xs[i]?=some x->vs[i]?=some v->VD L w x v):vs=(xs.map valD).toArray:=by
 apply Array.ext
 . simp[hl]
 . intro i h1 h2;have hi:i<xs.length:=by simpa using h2
   have hk:i<ks.length:=by rw[<- hx.1];exact hi
   have hv:=h i xs[i] vs[i] (List.getElem?_eq_getElem hi) (Array.getElem?_eq_getElem h1);rw[fit_val (hx.2 i ks[i] xs[i] (List.getElem?_eq_getElem hk) (List.getElem?_eq_getElem hi)) hv];simp
theorem eqK_flat {P:Program} {t:TypeId} {fs:Array Field} {ks:List FK} (h:FlatS P t fs ks) {xs ys:List Data} (hx:FitD ks xs) (hy:FitD ks ys) {p:Prop} [Decidable p] (hp:xs=ys ↔ p) {K:Bool->Prop} (hk:K (decide p)):eqK P t (.agg xs) (.agg ys) K:=by
 refine⟨_,fun L w ox oy vx vy h1 h2=>?_,hk⟩;cases h1 with
 | agg _ vs hs hv =>
 cases h2 with
 | agg _ us hs2 hv2 =>
 obtain rfl:=fitD_vals hx hs hv;obtain rfl:=fitD_vals hy hs2 hv2;refine⟨fun op=>run_eqGuard_agg w op t ox oy _ _ h.guard,?_⟩;have formed:∀ (l:List Data),FitD ks l->(Value.agg (l.map valD).toArray).formed P t=true:=by
  intro l hl;simp only[Value.formed,h.ut,h.ct];simp[hl.1]
 obtain⟨r,hr,hi⟩:=h.deep w 3 3 _ _ (xs.map litD) (ys.map litD) (formed xs hx) (formed ys hy) (by simpa[Value.cells] using h.lits hx) (by simpa[Value.cells] using h.lits hy);have e:r=decide p:=by
  rw[Bool.eq_iff_iff,hi,fitD_inj hx hy,hp];simp
 rw[<- e];exact hr
end Go.Proofs.Ytndnlfgchmjbjaa
namespace Go.Proofs.Ytndnlfgchmjbjaa
@[go_sem] theorem ty_sz3:szT Try.prog 3=some 1:=by kernel_rfl
@[go_sem] theorem ty_ag3:aggT Try.prog 3=some false:=by kernel_rfl
@[go_sem] theorem ty_in3:intT Try.prog 3=some .i64:=by kernel_rfl
@[go_sem] theorem ty_sz4:szT Try.prog 4=some 1:=by kernel_rfl
@[go_sem] theorem ty_ag4:aggT Try.prog 4=some false:=by kernel_rfl
@[go_sem] theorem ty_ze4:zeT Try.prog 4=some [.data (.bool false)]:=by kernel_rfl
@[go_sem] theorem ty_bo4:boolT Try.prog 4=true:=by kernel_rfl
@[go_sem] theorem ty_sz5:szT Try.prog 5=some 1:=by kernel_rfl
@[go_sem] theorem ty_ag5:aggT Try.prog 5=some false:=by kernel_rfl
@[go_sem] theorem ty_sz9:szT Try.prog 9=some 1:=by kernel_rfl
@[go_sem] theorem ty_ag9:aggT Try.prog 9=some false:=by kernel_rfl
@[go_sem] theorem ty_st9:strT Try.prog 9=true:=by kernel_rfl
@[go_sem] theorem ty_sz22:szT Try.prog 22=some 1:=by kernel_rfl
@[go_sem] theorem ty_ag22:aggT Try.prog 22=some false:=by kernel_rfl
@[go_sem] theorem ty_sl22:sliceT Try.prog 22=some 76:=by kernel_rfl
@[go_sem] theorem ty_in22:intT Try.prog 22=none:=by kernel_rfl
@[go_sem] theorem ty_st22:strT Try.prog 22=false:=by kernel_rfl
@[go_sem] theorem ty_sz23:szT Try.prog 23=some 1:=by kernel_rfl
@[go_sem] theorem ty_ag23:aggT Try.prog 23=some false:=by kernel_rfl
@[go_sem] theorem ty_sl23:sliceT Try.prog 23=some 72:=by kernel_rfl
@[go_sem] theorem ty_in23:intT Try.prog 23=none:=by kernel_rfl
@[go_sem] theorem ty_st23:strT Try.prog 23=false:=by kernel_rfl
@[go_sem] theorem ty_sz24:szT Try.prog 24=some 1:=by kernel_rfl
@[go_sem] theorem ty_ag24:aggT Try.prog 24=some false:=by kernel_rfl
@[go_sem] theorem ty_sl24:sliceT Try.prog 24=some 64:=by kernel_rfl
@[go_sem] theorem ty_in24:intT Try.prog 24=none:=by kernel_rfl
@[go_sem] theorem ty_st24:strT Try.prog 24=false:=by kernel_rfl
@[go_sem] theorem ty_sz26:szT Try.prog 26=some 4:=by kernel_rfl
@[go_sem] theorem ty_ag26:aggT Try.prog 26=some true:=by kernel_rfl
@[go_sem] theorem ty_ze26:zeT Try.prog 26=some [.data (.int .i64 0),.emp 0,.emp 0,.emp 0]:=by kernel_rfl
@[go_sem] theorem ty_ar26:arrT Try.prog 26=none:=by kernel_rfl
@[go_sem] theorem ty_fl26_0:fldT Try.prog 26 0=some (0,3):=by kernel_rfl
@[go_sem] theorem ty_fl26_1:fldT Try.prog 26 1=some (1,22):=by kernel_rfl
@[go_sem] theorem ty_fl26_2:fldT Try.prog 26 2=some (2,23):=by kernel_rfl
@[go_sem] theorem ty_fl26_3:fldT Try.prog 26 3=some (3,24):=by kernel_rfl
@[go_sem] theorem ty_pl26:plT Try.prog 26=some [(0,1),(1,1),(2,1),(3,1)]:=by kernel_rfl
@[go_sem] theorem ty_fl28_0:fldT Try.prog 28 0=some (0,26):=by kernel_rfl
@[go_sem] theorem ty_fl28_1:fldT Try.prog 28 1=some (4,9):=by kernel_rfl
@[go_sem] theorem ty_fl28_2:fldT Try.prog 28 2=some (5,4):=by kernel_rfl
@[go_sem] theorem ty_fl28_3:fldT Try.prog 28 3=some (6,4):=by kernel_rfl
@[go_sem] theorem ty_fl28_4:fldT Try.prog 28 4=some (7,3):=by kernel_rfl
@[go_sem] theorem ty_sl31:sliceT Try.prog 31=some 41:=by kernel_rfl
@[go_sem] theorem ty_sz38:szT Try.prog 38=some 1:=by kernel_rfl
@[go_sem] theorem ty_ag38:aggT Try.prog 38=some false:=by kernel_rfl
@[go_sem] theorem ty_sz39:szT Try.prog 39=some 1:=by kernel_rfl
@[go_sem] theorem ty_ag39:aggT Try.prog 39=some false:=by kernel_rfl
@[go_sem] theorem ty_sz41:szT Try.prog 41=some 9:=by kernel_rfl
@[go_sem] theorem ty_ag41:aggT Try.prog 41=some true:=by kernel_rfl
@[go_sem] theorem ty_ze41:zeT Try.prog 41=some [.data (.int .i64 0),.data (.int .i64 0),.data (.int .i64 0),.data (.int .u32 0),.data (.str ByteArray.empty),.data (.int .u64 0),.data (.int .u64 0),.data (.int .i64 0),.data (.int .i64 0)]:=by kernel_rfl
@[go_sem] theorem ty_ar41:arrT Try.prog 41=none:=by kernel_rfl
@[go_sem] theorem ty_fl41_0:fldT Try.prog 41 0=some (0,3):=by kernel_rfl
@[go_sem] theorem ty_fl41_1:fldT Try.prog 41 1=some (1,3):=by kernel_rfl
@[go_sem] theorem ty_fl41_2:fldT Try.prog 41 2=some (2,3):=by kernel_rfl
@[go_sem] theorem ty_fl41_3:fldT Try.prog 41 3=some (3,38):=by kernel_rfl
@[go_sem] theorem ty_fl41_4:fldT Try.prog 41 4=some (4,9):=by kernel_rfl
@[go_sem] theorem ty_fl41_5:fldT Try.prog 41 5=some (5,39):=by kernel_rfl
@[go_sem] theorem ty_fl41_6:fldT Try.prog 41 6=some (6,39):=by kernel_rfl
@[go_sem] theorem ty_fl41_7:fldT Try.prog 41 7=some (7,3):=by kernel_rfl
@[go_sem] theorem ty_fl41_8:fldT Try.prog 41 8=some (8,3):=by kernel_rfl
@[go_sem] theorem ty_pl41:plT Try.prog 41=some [(0,1),(1,1),(2,1),(3,1),(4,1),(5,1),(6,1),(7,1),(8,1)]:=by kernel_rfl
@[go_sem] theorem ty_fl44_0:fldT Try.prog 44 0=some (0,26):=by kernel_rfl
@[go_sem] theorem ty_fl44_1:fldT Try.prog 44 1=some (4,9):=by kernel_rfl
@[go_sem] theorem ty_fl44_2:fldT Try.prog 44 2=some (5,3):=by kernel_rfl
@[go_sem] theorem ty_fl44_3:fldT Try.prog 44 3=some (6,5):=by kernel_rfl
@[go_sem] theorem ty_sz47:szT Try.prog 47=some 1:=by kernel_rfl
@[go_sem] theorem ty_ag47:aggT Try.prog 47=some false:=by kernel_rfl
@[go_sem] theorem ty_fl49_0:fldT Try.prog 49 0=some (0,26):=by kernel_rfl
@[go_sem] theorem ty_fl49_1:fldT Try.prog 49 1=some (4,9):=by kernel_rfl
@[go_sem] theorem ty_fl49_2:fldT Try.prog 49 2=some (5,3):=by kernel_rfl
@[go_sem] theorem ty_fl49_3:fldT Try.prog 49 3=some (6,47):=by kernel_rfl
@[go_sem] theorem ty_fl52_0:fldT Try.prog 52 0=some (0,26):=by kernel_rfl
@[go_sem] theorem ty_fl52_1:fldT Try.prog 52 1=some (4,9):=by kernel_rfl
@[go_sem] theorem ty_fl52_2:fldT Try.prog 52 2=some (5,9):=by kernel_rfl
@[go_sem] theorem ty_fl52_3:fldT Try.prog 52 3=some (6,4):=by kernel_rfl
@[go_sem] theorem ty_fl52_4:fldT Try.prog 52 4=some (7,3):=by kernel_rfl
@[go_sem] theorem ty_fl56_0:fldT Try.prog 56 0=some (0,26):=by kernel_rfl
@[go_sem] theorem ty_fl56_1:fldT Try.prog 56 1=some (4,9):=by kernel_rfl
@[go_sem] theorem ty_fl56_2:fldT Try.prog 56 2=some (5,4):=by kernel_rfl
@[go_sem] theorem ty_fl56_3:fldT Try.prog 56 3=some (6,3):=by kernel_rfl
@[go_sem] theorem ty_fl59_0:fldT Try.prog 59 0=some (0,26):=by kernel_rfl
@[go_sem] theorem ty_fl59_1:fldT Try.prog 59 1=some (4,9):=by kernel_rfl
@[go_sem] theorem ty_fl59_2:fldT Try.prog 59 2=some (5,4):=by kernel_rfl
@[go_sem] theorem ty_fl59_3:fldT Try.prog 59 3=some (6,3):=by kernel_rfl
@[go_sem] theorem ty_sz64:szT Try.prog 64=some 3:=by kernel_rfl
@[go_sem] theorem ty_by64:byT Try.prog 64=some 32:=by kernel_rfl
@[go_sem] theorem ty_ag64:aggT Try.prog 64=some true:=by kernel_rfl
@[go_sem] theorem ty_ze64:zeT Try.prog 64=some [.data (.str ByteArray.empty),.data (.int .i64 0),.data (.int .i64 0)]:=by kernel_rfl
@[go_sem] theorem ty_zl64:zlT Try.prog 64=some 3:=by kernel_rfl
@[go_sem] theorem ty_ar64:arrT Try.prog 64=none:=by kernel_rfl
@[go_sem] theorem ty_fl64_0:fldT Try.prog 64 0=some (0,9):=by kernel_rfl
@[go_sem] theorem ty_fl64_1:fldT Try.prog 64 1=some (1,3):=by kernel_rfl
@[go_sem] theorem ty_fl64_2:fldT Try.prog 64 2=some (2,3):=by kernel_rfl
@[go_sem] theorem ty_pl64:plT Try.prog 64=some [(0,1),(1,1),(2,1)]:=by kernel_rfl
@[go_sem] theorem ty_sz72:szT Try.prog 72=some 5:=by kernel_rfl
@[go_sem] theorem ty_by72:byT Try.prog 72=some 40:=by kernel_rfl
@[go_sem] theorem ty_ag72:aggT Try.prog 72=some true:=by kernel_rfl
@[go_sem] theorem ty_ze72:zeT Try.prog 72=some [.data (.int .i64 0),.data (.int .i64 0),.data (.int .u64 0),.data (.int .u64 0),.data (.int .i64 0)]:=by kernel_rfl
@[go_sem] theorem ty_zl72:zlT Try.prog 72=some 5:=by kernel_rfl
@[go_sem] theorem ty_ar72:arrT Try.prog 72=none:=by kernel_rfl
@[go_sem] theorem ty_fl72_0:fldT Try.prog 72 0=some (0,3):=by kernel_rfl
@[go_sem] theorem ty_fl72_1:fldT Try.prog 72 1=some (1,3):=by kernel_rfl
@[go_sem] theorem ty_fl72_2:fldT Try.prog 72 2=some (2,39):=by kernel_rfl
@[go_sem] theorem ty_fl72_3:fldT Try.prog 72 3=some (3,39):=by kernel_rfl
@[go_sem] theorem ty_fl72_4:fldT Try.prog 72 4=some (4,3):=by kernel_rfl
@[go_sem] theorem ty_pl72:plT Try.prog 72=some [(0,1),(1,1),(2,1),(3,1),(4,1)]:=by kernel_rfl
@[go_sem] theorem ty_sz76:szT Try.prog 76=some 6:=by kernel_rfl
@[go_sem] theorem ty_by76:byT Try.prog 76=some 56:=by kernel_rfl
@[go_sem] theorem ty_ag76:aggT Try.prog 76=some true:=by kernel_rfl
@[go_sem] theorem ty_ze76:zeT Try.prog 76=some [.data (.int .i64 0),.data (.int .i64 0),.data (.int .u32 0),.data (.str ByteArray.empty),.data (.int .u64 0),.data (.int .u64 0)]:=by kernel_rfl
@[go_sem] theorem ty_zl76:zlT Try.prog 76=some 6:=by kernel_rfl
@[go_sem] theorem ty_ar76:arrT Try.prog 76=none:=by kernel_rfl
@[go_sem] theorem ty_fl76_0:fldT Try.prog 76 0=some (0,3):=by kernel_rfl
@[go_sem] theorem ty_fl76_1:fldT Try.prog 76 1=some (1,3):=by kernel_rfl
@[go_sem] theorem ty_fl76_2:fldT Try.prog 76 2=some (2,38):=by kernel_rfl
@[go_sem] theorem ty_fl76_3:fldT Try.prog 76 3=some (3,9):=by kernel_rfl
@[go_sem] theorem ty_fl76_4:fldT Try.prog 76 4=some (4,39):=by kernel_rfl
@[go_sem] theorem ty_fl76_5:fldT Try.prog 76 5=some (5,39):=by kernel_rfl
@[go_sem] theorem ty_pl76:plT Try.prog 76=some [(0,1),(1,1),(2,1),(3,1),(4,1),(5,1)]:=by kernel_rfl
theorem mixed:Try.prog.follows .mixedOrders=true:=by kernel_rfl
end Go.Proofs.Ytndnlfgchmjbjaa
namespace Go.Proofs.Ytndnlfgchmjbjaa
open Go.RowKit
set_option linter.unusedSimpArgs false
set_option linter.unusedVariables false
set_option maxRecDepth 100000
namespace Bk
structure Sess where
 id:Int
 link:Int
 addr:Int
 user:ByteArray
 inn:Int
 out:Int
 deriving DecidableEq,Inhabited
structure Item where
 kind:Int
 id:Int
 inn:Int
 out:Int
 cause:Int
 deriving DecidableEq,Inhabited
structure Lock where
 user:ByteArray
 n:Int
 at_:Int
 deriving DecidableEq,Inhabited
structure Book where
 next:Int
 opn:List Sess
 items:List Item
 locks:List Lock
 deriving DecidableEq
structure Op where
 kind:Int
 id:Int
 link:Int
 addr:Int
 user:ByteArray
 inn:Int
 out:Int
 cause:Int
 at_:Int
 deriving DecidableEq
def sess (s:Sess):Data:=.agg [.int .i64 s.id,.int .i64 s.link,.int .u32 s.addr,.str s.user,.int .u64 s.inn,.int .u64 s.out]
def item (x:Item):Data:=.agg [.int .i64 x.kind,.int .i64 x.id,.int .u64 x.inn,.int .u64 x.out,.int .i64 x.cause]
def lock (l:Lock):Data:=.agg [.str l.user,.int .i64 l.n,.int .i64 l.at_]
def op (o:Op):Data:=.agg [.int .i64 o.kind,.int .i64 o.id,.int .i64 o.link,.int .u32 o.addr,.str o.user,.int .u64 o.inn,.int .u64 o.out,.int .i64 o.cause,.int .i64 o.at_]
def sesss (l:List Sess):List Data:=l.map sess
def items (l:List Item):List Data:=l.map item
def locks (l:List Lock):List Data:=l.map lock
def book (b:Book):Data:=.agg [.int .i64 b.next,.sl 6 (sesss b.opn),.sl 5 (items b.items),.sl 3 (locks b.locks)]
@[go_sem] theorem sesss_length (l:List Sess):(sesss l).length=l.length:=by simp[sesss]
@[go_sem] theorem items_length (l:List Item):(items l).length=l.length:=by simp[items]
@[go_sem] theorem locks_length (l:List Lock):(locks l).length=l.length:=by simp[locks]
@[go_sem] theorem sesss_get (l:List Sess) (i:Nat):(sesss l)[i]?=(l[i]?).map sess:=by simp[sesss]
@[go_sem] theorem items_get (l:List Item) (i:Nat):(items l)[i]?=(l[i]?).map item:=by simp[items]
@[go_sem] theorem locks_get (l:List Lock) (i:Nat):(locks l)[i]?=(l[i]?).map lock:=by simp[locks]
@[go_sem] theorem sess_cells (s:Sess):(sess s).cells=[.int .i64 s.id,.int .i64 s.link,.int .u32 s.addr,.str s.user,.int .u64 s.inn,.int .u64 s.out]:=rfl
@[go_sem] theorem item_cells (x:Item):(item x).cells=[.int .i64 x.kind,.int .i64 x.id,.int .u64 x.inn,.int .u64 x.out,.int .i64 x.cause]:=rfl
@[go_sem] theorem lock_cells (l:Lock):(lock l).cells=[.str l.user,.int .i64 l.n,.int .i64 l.at_]:=rfl
theorem sesss_cells (l:List Sess):∀ x∈sesss l,x.cells.length=6:=fun x hx=>by obtain⟨p,_,rfl⟩:=List.mem_map.1 hx;rfl
theorem items_cells (l:List Item):∀ x∈items l,x.cells.length=5:=fun x hx=>by obtain⟨p,_,rfl⟩:=List.mem_map.1 hx;rfl
theorem locks_cells (l:List Lock):∀ x∈locks l,x.cells.length=3:=fun x hx=>by obtain⟨p,_,rfl⟩:=List.mem_map.1 hx;rfl
@[go_sem] theorem flat_sesss_cell (l:List Sess):(∀ x∈flat (sesss l),x.cell=true) ↔ True:=iff_true_intro fun x hx=>by
 obtain⟨y,hy,hx⟩:=List.mem_flatMap.1 hx;obtain⟨p,_,rfl⟩:=List.mem_map.1 hy;simp[sess,Data.cells] at hx;rcases hx with rfl|rfl|rfl|rfl|rfl|rfl<;>rfl
@[go_sem] theorem flat_items_cell (l:List Item):(∀ x∈flat (items l),x.cell=true) ↔ True:=iff_true_intro fun x hx=>by
 obtain⟨y,hy,hx⟩:=List.mem_flatMap.1 hx;obtain⟨p,_,rfl⟩:=List.mem_map.1 hy;simp[item,Data.cells] at hx;rcases hx with rfl|rfl|rfl|rfl|rfl<;>rfl
@[go_sem] theorem flat_locks_cell (l:List Lock):(∀ x∈flat (locks l),x.cell=true) ↔ True:=iff_true_intro fun x hx=>by
 obtain⟨y,hy,hx⟩:=List.mem_flatMap.1 hx;obtain⟨p,_,rfl⟩:=List.mem_map.1 hy;simp[lock,Data.cells] at hx;rcases hx with rfl|rfl|rfl<;>rfl
@[go_sem] theorem flat_sesss_length (l:List Sess):(flat (sesss l)).length=l.length*6:=by rw[flat_len (sesss_cells l),sesss_length]
@[go_sem] theorem flat_items_length (l:List Item):(flat (items l)).length=l.length*5:=by rw[flat_len (items_cells l),items_length]
@[go_sem] theorem flat_locks_length (l:List Lock):(flat (locks l)).length=l.length*3:=by rw[flat_len (locks_cells l),locks_length]
theorem sesss_append (a b:List Sess):flat (sesss a)++flat (sesss b)=flat (sesss (a++b)):=by simp[sesss,flat]
theorem items_append (a b:List Item):flat (items a)++flat (items b)=flat (items (a++b)):=by simp[items,flat]
theorem locks_append (a b:List Lock):flat (locks a)++flat (locks b)=flat (locks (a++b)):=by simp[locks,flat]
theorem fz_sesss {ok:Bool} {H:Nat->Blk} {g n:Nat} {l:List Sess} {rw:Bool} (hg:H g = .blk rw ((flat (sesss l)).map D.data)) (hrw:ok=true \/ rw=false) (hn:l.length=n):Frz ok H (.ref g 0 n 6) (.sl 6 (sesss l)):=frz_ref hg hrw (by rw[sesss_length,hn]) (sesss_cells l) rfl
theorem fz_items {ok:Bool} {H:Nat->Blk} {g n:Nat} {l:List Item} {rw:Bool} (hg:H g = .blk rw ((flat (items l)).map D.data)) (hrw:ok=true \/ rw=false) (hn:l.length=n):Frz ok H (.ref g 0 n 5) (.sl 5 (items l)):=frz_ref hg hrw (by rw[items_length,hn]) (items_cells l) rfl
theorem fz_locks {ok:Bool} {H:Nat->Blk} {g n:Nat} {l:List Lock} {rw:Bool} (hg:H g = .blk rw ((flat (locks l)).map D.data)) (hrw:ok=true \/ rw=false) (hn:l.length=n):Frz ok H (.ref g 0 n 3) (.sl 3 (locks l)):=frz_ref hg hrw (by rw[locks_length,hn]) (locks_cells l) rfl
structure Fits (b:Book):Prop where
 o:b.opn.length<=140737488351232
 i:b.items.length<=140737488351232
 l:b.locks.length<=140737488351232
 ou:∀ s∈b.opn,s.user.size<=140737488351232
 lu:∀ l∈b.locks,l.user.size<=140737488351232
def nameOk (u:ByteArray):Prop:=1<=u.size/\u.size<=16
instance (u:ByteArray):Decidable (nameOk u):=by unfold nameOk;infer_instance
def poolOk (a:Int):Prop:=167772161<=a/\a<=167772166
instance (a:Int):Decidable (poolOk a):=by unfold poolOk;infer_instance
def MayP (o:Op):Prop:=1<=o.kind/\o.kind<=6/\0<=o.id/\o.id<=1000000000/\0<=o.link/\o.link<=7/\1<=o.user.size/\o.user.size<=16/\0<=o.at_/\o.at_<=1000000000/\0<=o.cause/\o.cause<=255
instance (o:Op):Decidable (MayP o):=by unfold MayP;infer_instance
def last (l:List Item) (id:Int):Nat->Int
 | 0=>-1
 | n+1=>if (l.getD n ⟨0,0,0,0,0⟩).id=id then (n:Int) else last l id n
theorem last_lt (l:List Item) (id:Int):∀ n:Nat,last l id n<n/\-1<=last l id n
 | 0=>by simp[last]
 | n+1=>by
   have:=last_lt l id n;simp only[last];split<;>omega
def first {α:Type} (p:α->Bool):Nat->List α->Int
 | _,[]=>-1
 | n,a::l=>if p a then (n:Int) else first p (n+1) l
def ofId (b:Book) (id:Int):Int:=first (fun s:Sess=>decide (s.id=id)) 0 b.opn
def failed (b:Book) (u:ByteArray):Int:=first (fun l:Lock=>decide (l.user=u)) 0 b.locks
theorem first_none {α:Type} {p:α->Bool}:∀ {l:List α} {n:Nat},(∀ a∈l,p a=false)->first p n l = -1
 | [],_,_=>rfl
 | a::l,n,h=>by simp only[first,h a (by simp)];exact first_none fun b hb=>h b (by simp[hb])
theorem first_at {α:Type} {p:α->Bool}:∀ {l:List α} {n i:Nat} (hi:i<l.length),p l[i]=true->(∀ j (h:j<i),p (l[j]'(by omega))=false)->first p n l=((n+i:Nat):Int)
 | [],_,_,hi,_,_=>by simp at hi
 | a::l,n,0,_,hp,_=>by simp only[List.getElem_cons_zero] at hp;simp[first,hp]
 | a::l,n,i+1,hi,hp,h=>by
   have h0:=h 0 (by omega);simp only[List.getElem_cons_zero] at h0;simp only[first,h0];have:=first_at (l:=l) (n:=n+1) (i:=i) (by simpa using hi) (by simpa using hp) (fun j hj=>by have:=h (j+1) (by omega);simpa using this);rw[if_neg (by simp),this];congr 1;omega
theorem name_pc (Γ:Nat->Option (List Data)) (u:ByteArray) (hu:u.size<=9223372036854775807):PC Try.prog Γ 30 [.str u] (.bool (decide (nameOk u))):=by
 refine pc_by mixed Try.func30 rfl (fun args w=>Try.call30 args w) ?_;by_cases h1:1<=u.size
 . by_cases h2:u.size<=16
   . have hyes:nameOk u:=⟨h1,h2⟩;simp -implicitDefEqProofs (disch:=omega) [go_sem,hyes,Try.f30]
   . have hno:¬ nameOk u:=fun hk=>by unfold nameOk at hk;omega
     simp -implicitDefEqProofs (disch:=omega) [go_sem,hno,Try.f30]
 . have hno:¬ nameOk u:=fun hk=>by unfold nameOk at hk;omega
   simp -implicitDefEqProofs (disch:=omega) [go_sem,hno,Try.f30]
theorem pool_pc (Γ:Nat->Option (List Data)) (a:Int):PC Try.prog Γ 33 [.int .u32 a] (.bool (decide (poolOk a))):=by
 refine pc_by mixed Try.func33 rfl (fun args w=>Try.call33 args w) ?_;by_cases h1:167772161<=a
 . by_cases h2:a<=167772166
   . have hyes:poolOk a:=⟨h1,h2⟩;simp -implicitDefEqProofs (disch:=omega) [go_sem,hyes,Try.f33]
   . have hno:¬ poolOk a:=fun hk=>by unfold poolOk at hk;omega
     simp -implicitDefEqProofs (disch:=omega) [go_sem,hno,Try.f33]
 . have hno:¬ poolOk a:=fun hk=>by unfold poolOk at hk;omega
   simp -implicitDefEqProofs (disch:=omega) [go_sem,hno,Try.f33]
set_option maxHeartbeats 4000000 in
set_option maxRecDepth 100000 in
theorem may_pc (Γ:Nat->Option (List Data)) (o:Op) (hu:o.user.size<=9223372036854775807):PC Try.prog Γ 22 [op o] (.bool (decide (MayP o))):=by
 refine pc_by mixed Try.func22 rfl (fun args w=>Try.call22 args w) ?_;have hn:=name_pc Γ o.user hu;simp -implicitDefEqProofs (disch:=omega) [go_sem,op];refine .inl (call_data hn (by simp[go_sem]) ?_);by_cases h1:1<=o.kind
 . by_cases h2:o.kind<=6
   . by_cases h3:0<=o.id
     . by_cases h4:o.id<=1000000000
       . by_cases h5:0<=o.link
         . by_cases h6:o.link<=7
           . by_cases h7:nameOk o.user
             . by_cases h8:0<=o.at_
               . by_cases h9:o.at_<=1000000000
                 . by_cases h10:0<=o.cause
                   . by_cases h11:o.cause<=255
                     . have hyes:MayP o:=⟨h1,h2,h3,h4,h5,h6,h7.1,h7.2,h8,h9,h10,h11⟩;simp -implicitDefEqProofs (disch:=omega) [go_sem,hyes,h7,Try.f22]
                     . have hno:¬ MayP o:=fun hk=>by unfold MayP at hk;omega
                       simp -implicitDefEqProofs (disch:=omega) [go_sem,hno,h7,Try.f22]
                   . have hno:¬ MayP o:=fun hk=>by unfold MayP at hk;omega
                     simp -implicitDefEqProofs (disch:=omega) [go_sem,hno,h7,Try.f22]
                 . have hno:¬ MayP o:=fun hk=>by unfold MayP at hk;omega
                   simp -implicitDefEqProofs (disch:=omega) [go_sem,hno,h7,Try.f22]
               . have hno:¬ MayP o:=fun hk=>by unfold MayP at hk;omega
                 simp -implicitDefEqProofs (disch:=omega) [go_sem,hno,h7,Try.f22]
             . have hno:¬ MayP o:=fun hk=>by unfold MayP at hk;exact h7 ⟨by omega,by omega⟩
               simp -implicitDefEqProofs (disch:=omega) [go_sem,hno,h7,Try.f22]
           . have hno:¬ MayP o:=fun hk=>by unfold MayP at hk;omega
             simp -implicitDefEqProofs (disch:=omega) [go_sem,hno,Try.f22]
         . have hno:¬ MayP o:=fun hk=>by unfold MayP at hk;omega
           simp -implicitDefEqProofs (disch:=omega) [go_sem,hno,Try.f22]
       . have hno:¬ MayP o:=fun hk=>by unfold MayP at hk;omega
         simp -implicitDefEqProofs (disch:=omega) [go_sem,hno,Try.f22]
     . have hno:¬ MayP o:=fun hk=>by unfold MayP at hk;omega
       simp -implicitDefEqProofs (disch:=omega) [go_sem,hno,Try.f22]
   . have hno:¬ MayP o:=fun hk=>by unfold MayP at hk;omega
     simp -implicitDefEqProofs (disch:=omega) [go_sem,hno,Try.f22]
 . have hno:¬ MayP o:=fun hk=>by unfold MayP at hk;omega
   simp -implicitDefEqProofs (disch:=omega) [go_sem,hno,Try.f22]
set_option maxRecDepth 100000 in
theorem last_pc (Γ:Nat->Option (List Data)) (b:Book) (hb:Fits b) (id:Int) (n:Nat) (hn:n<=b.items.length):PC Try.prog Γ 29 [book b,.int .i64 id,.int .i64 n] (.int .i64 (last b.items id n)):=by
 refine pc_by mixed Try.func29 rfl (fun args w=>Try.call29 args w) ?_;have hi:=hb.i;obtain⟨R,hR⟩:∃ R,last b.items id n=R:=⟨_,rfl⟩;rw[hR];simp -implicitDefEqProofs (disch:=omega) [go_sem,book];refine loop_ren (σ:={ j:Nat // j<=n/\R=last b.items id j }) (fun j=>⟨envL [(1,.data (.int .i64 id)),(3,.ptr 0 0),(7,.data (.int .i64 ((j.1:Int)-1)))],hpL [(0,.blk true [.data (.int .i64 b.next),.data (.sl 6 (sesss b.opn)),.data (.sl 5 (items b.items)),.data (.sl 3 (locks b.locks))])],1,0,23⟩) (fun j=>j.1) ⟨n,by omega,hR.symm⟩ [] (rhoL []) ?_ ?_
 . apply ren_lists<;>simp -implicitDefEqProofs [go_sem]
 . rintro⟨j,hj,hst⟩;by_cases hj0:0<j
   . obtain⟨k,rfl⟩:∃ k,j=k+1:=⟨j-1,by omega⟩;have e1:(((k+1:Nat):Int)-1).toNat=k:=by omega
     have e2:(((k+1:Nat):Int)-1)=k:=by omega
     have hk:k<b.items.length:=by omega
     have hg:b.items.getD k ⟨0,0,0,0,0⟩=b.items[k]:=by simp[List.getD_eq_getElem?_getD,hk]
     simp only[last,hg] at hst;by_cases he:b.items[k].id=id
     . rw[if_pos he] at hst;simp -implicitDefEqProofs (disch:=omega) [go_sem,e2,he,hst,Try.f29]
     . rw[if_neg he] at hst;simp -implicitDefEqProofs (disch:=omega) [go_sem,e2,he];refine next_ren ⟨k,by omega,hst⟩ (by simp only;omega) [] (rhoL []) ?_;apply ren_lists<;>simp -implicitDefEqProofs [go_sem]
   . have:j=0:=by omega
     subst this;have hR1:R = -1:=hst;simp -implicitDefEqProofs (disch:=omega) [go_sem,hR1,Try.f29]
set_option maxRecDepth 100000 in
theorem of_pc (Γ:Nat->Option (List Data)) (b:Book) (hb:Fits b) (id:Int):PC Try.prog Γ 26 [book b,.int .i64 id] (.int .i64 (ofId b id)):=by
 refine pc_by mixed Try.func26 rfl (fun args w=>Try.call26 args w) ?_;have ho:=hb.o;simp -implicitDefEqProofs (disch:=omega) [go_sem,book];refine loop_ren (σ:={ i:Nat // i<=b.opn.length/\∀ j (h:j<b.opn.length),j<i->b.opn[j].id≠id }) (fun i=>⟨envL [(1,.data (.int .i64 id)),(2,.ptr 0 0),(5,.data (.int .i64 i.1))],hpL [(0,.blk true [.data (.int .i64 b.next),.data (.sl 6 (sesss b.opn)),.data (.sl 5 (items b.items)),.data (.sl 3 (locks b.locks))])],1,0,22⟩) (fun i=>b.opn.length-i.1) ⟨0,by omega,by omega⟩ [] (rhoL []) ?_ ?_
 . apply ren_lists<;>simp -implicitDefEqProofs [go_sem]
 . rintro⟨i,hi,hall⟩;by_cases h:i<b.opn.length
   . by_cases he:b.opn[i].id=id
     . have hf:ofId b id=i:=by
        have:=first_at (p:=fun s:Sess=>decide (s.id=id)) (n:=0) h (by simpa using he) (fun j hj=>by simpa using hall j (by omega) hj);simpa[ofId] using this
       simp -implicitDefEqProofs (disch:=omega) [go_sem,he,hf,Try.f26]
     . simp -implicitDefEqProofs (disch:=omega) [go_sem,he];refine next_ren ⟨i+1,by omega,fun j hj hji=>?_⟩ (by simp only;omega) [] (rhoL []) ?_
       . by_cases e:j=i
         . subst e;exact he
         . exact hall j hj (by omega)
       apply ren_lists<;>simp -implicitDefEqProofs [go_sem]
   . have hf:ofId b id = -1:=first_none fun s hs=>by
      obtain⟨j,hj,rfl⟩:=List.getElem_of_mem hs;simpa using hall j hj (by omega)
     simp -implicitDefEqProofs (disch:=omega) [go_sem,hf,Try.f26]
set_option maxRecDepth 100000 in
theorem failed_pc (Γ:Nat->Option (List Data)) (b:Book) (hb:Fits b) (u:ByteArray):PC Try.prog Γ 31 [book b,.str u] (.int .i64 (failed b u)):=by
 refine pc_by mixed Try.func31 rfl (fun args w=>Try.call31 args w) ?_;have ho:=hb.l;simp -implicitDefEqProofs (disch:=omega) [go_sem,book];refine loop_ren (σ:={ i:Nat // i<=b.locks.length/\∀ j (h:j<b.locks.length),j<i->b.locks[j].user≠u }) (fun i=>⟨envL [(1,.data (.str u)),(2,.ptr 0 0),(5,.data (.int .i64 i.1))],hpL [(0,.blk true [.data (.int .i64 b.next),.data (.sl 6 (sesss b.opn)),.data (.sl 5 (items b.items)),.data (.sl 3 (locks b.locks))])],1,0,22⟩) (fun i=>b.locks.length-i.1) ⟨0,by omega,by omega⟩ [] (rhoL []) ?_ ?_
 . apply ren_lists<;>simp -implicitDefEqProofs [go_sem]
 . rintro⟨i,hi,hall⟩;by_cases h:i<b.locks.length
   . by_cases he:b.locks[i].user=u
     . have hf:failed b u=i:=by
        have:=first_at (p:=fun l:Lock=>decide (l.user=u)) (n:=0) h (by simpa using he) (fun j hj=>by simpa using hall j (by omega) hj);simpa[failed] using this
       simp -implicitDefEqProofs (disch:=omega) [go_sem,he,hf,Try.f31]
     . simp -implicitDefEqProofs (disch:=omega) [go_sem,he];refine next_ren ⟨i+1,by omega,fun j hj hji=>?_⟩ (by simp only;omega) [] (rhoL []) ?_
       . by_cases e:j=i
         . subst e;exact he
         . exact hall j hj (by omega)
       apply ren_lists<;>simp -implicitDefEqProofs [go_sem]
   . have hf:failed b u = -1:=first_none fun s hs=>by
      obtain⟨j,hj,rfl⟩:=List.getElem_of_mem hs;simpa using hall j hj (by omega)
     simp -implicitDefEqProofs (disch:=omega) [go_sem,hf,Try.f31]
end Bk
namespace Gt
open Bk
def lockU (b:Book) (u:ByteArray):Option Lock:=b.locks.find? fun l=>decide (l.user=u)
def failedN (b:Book) (u:ByteArray):Int×Int:=match lockU b u with
 | some l=>(l.n,l.at_)
 | none=>(0,0)
def untilN (b:Book) (u:ByteArray):Int:=if 3<=(failedN b u).1 then (failedN b u).2+20 else 0
def lockedN (b:Book) (u:ByteArray) (now:Int):Bool:=decide (3<=(failedN b u).1) && decide (now<(failedN b u).2+20)
def verdictN (b:Book) (u:ByteArray) (known good:Bool) (now:Int):Bool×List Bk.Op :=
 if known=false \/ lockedN b u now=true then (false,[])
 else if good=true then (if (failedN b u).1=0 then (true,[]) else (true,[(⟨5,0,0,0,u,0,0,0,0⟩:Bk.Op)]))
 else (false,[(⟨4,0,0,0,u,0,0,0,max (failedN b u).2 now⟩:Bk.Op)])
def ops (l:List Bk.Op):List Data:=l.map Bk.op
@[go_sem] theorem ops_length (l:List Bk.Op):(ops l).length=l.length:=by simp[ops]
@[go_sem] theorem ops_get (l:List Bk.Op) (i:Nat):(ops l)[i]?=(l[i]?).map Bk.op:=by simp[ops]
theorem first_some {α:Type} {p:α->Bool}:∀ {l:List α} {n:Nat},(first p n l = -1/\l.find? p=none) \/ ∃ (i:Nat) (h:i<l.length),first p n l=((n+i:Nat):Int)/\l.find? p=some l[i]
 | [],n=>.inl ⟨rfl,rfl⟩
 | a::l,n=>by
   by_cases h:p a=true
   . exact .inr ⟨0,by simp,by simp[first,h],by simp[h]⟩
   . have h':p a=false:=by simpa using h
     rcases first_some (p:=p) (l:=l) (n:=n+1) with⟨e1,e2⟩|⟨i,hi,e1,e2⟩
     . exact .inl ⟨by simp only[first,h'];exact e1,by simp[h',e2]⟩
     . exact .inr ⟨i+1,by simp;omega,by simp only[first,h'];rw[show n+(i+1)=n+1+i by omega];exact e1,by simp[h',e2]⟩
end Gt
namespace Bk
theorem sess_flat:∃ fs,FlatS Try.prog 76 fs [.i .i64,.i .i64,.i .u32,.s,.i .u64,.i .u64]:=⟨_,{
 ut:=Try.underlying76
 n:=rfl
 ct:=by kernel_rfl
 names:=by simp
 each:=by kernel_rfl
 deep:=run_equalIn_deep 9998 2 76 (by kernel_rfl)
 guard:=by kernel_rfl }⟩
theorem item_flat:∃ fs,FlatS Try.prog 72 fs [.i .i64,.i .i64,.i .u64,.i .u64,.i .i64]:=⟨_,{
 ut:=Try.underlying72
 n:=rfl
 ct:=by kernel_rfl
 names:=by simp
 each:=by kernel_rfl
 deep:=run_equalIn_deep 9998 2 72 (by kernel_rfl)
 guard:=by kernel_rfl }⟩
theorem lock_flat:∃ fs,FlatS Try.prog 64 fs [.s,.i .i64,.i .i64]:=⟨_,{
 ut:=Try.underlying64
 n:=rfl
 ct:=by kernel_rfl
 names:=by simp
 each:=by kernel_rfl
 deep:=run_equalIn_deep 9998 2 64 (by kernel_rfl)
 guard:=by kernel_rfl }⟩
def R64 (n:Int):Prop:=-9223372036854775808<=n/\n<=9223372036854775807
def U64 (n:Int):Prop:=0<=n/\n<=18446744073709551615
structure Sess.Ty (s:Sess):Prop where
 id:R64 s.id
 link:R64 s.link
 addr:0<=s.addr/\s.addr<=4294967295
 user:s.user.size<=maxLen
 inn:U64 s.inn
 out:U64 s.out
structure Item.Ty (s:Item):Prop where
 kind:R64 s.kind
 id:R64 s.id
 inn:U64 s.inn
 out:U64 s.out
 cause:R64 s.cause
structure Lock.Ty (s:Lock):Prop where
 user:s.user.size<=maxLen
 n:R64 s.n
 at_:R64 s.at_
structure Book.Ty (b:Book):Prop where
 o:∀ s∈b.opn,s.Ty
 i:∀ x∈b.items,x.Ty
 l:∀ x∈b.locks,x.Ty
theorem Sess.fit {s:Sess} (h:s.Ty):FitD [.i .i64,.i .i64,.i .u32,.s,.i .u64,.i .u64] [.int .i64 s.id,.int .i64 s.link,.int .u32 s.addr,.str s.user,.int .u64 s.inn,.int .u64 s.out]:=by
 simp only[fitD_cons,fitD_nil];exact⟨fit_int h.id,fit_int h.link,fit_int h.addr,fit_str h.user,fit_int h.inn,fit_int h.out,trivial⟩
theorem Item.fit {s:Item} (h:s.Ty):FitD [.i .i64,.i .i64,.i .u64,.i .u64,.i .i64] [.int .i64 s.kind,.int .i64 s.id,.int .u64 s.inn,.int .u64 s.out,.int .i64 s.cause]:=by
 simp only[fitD_cons,fitD_nil];exact⟨fit_int h.kind,fit_int h.id,fit_int h.inn,fit_int h.out,fit_int h.cause,trivial⟩
theorem Lock.fit {s:Lock} (h:s.Ty):FitD [.s,.i .i64,.i .i64] [.str s.user,.int .i64 s.n,.int .i64 s.at_]:=by
 simp only[fitD_cons,fitD_nil];exact⟨fit_str h.user,fit_int h.n,fit_int h.at_,trivial⟩
theorem sess_eq (a c:Sess):([.int .i64 a.id,.int .i64 a.link,.int .u32 a.addr,.str a.user,.int .u64 a.inn,.int .u64 a.out]:List Data)=[.int .i64 c.id,.int .i64 c.link,.int .u32 c.addr,.str c.user,.int .u64 c.inn,.int .u64 c.out] ↔ a=c:=by
 cases a;cases c;simp
theorem item_eq (a c:Item):([.int .i64 a.kind,.int .i64 a.id,.int .u64 a.inn,.int .u64 a.out,.int .i64 a.cause]:List Data)=[.int .i64 c.kind,.int .i64 c.id,.int .u64 c.inn,.int .u64 c.out,.int .i64 c.cause] ↔ a=c:=by
 cases a;cases c;simp
theorem lock_eq (a c:Lock):([.str a.user,.int .i64 a.n,.int .i64 a.at_]:List Data)=[.str c.user,.int .i64 c.n,.int .i64 c.at_] ↔ a=c:=by
 cases a;cases c;simp
theorem eqK_sess {a c:Sess} (ha:a.Ty) (hc:c.Ty) {K:Bool->Prop} (hk:K (decide (a=c))):eqK Try.prog 76 (.agg [.int .i64 a.id,.int .i64 a.link,.int .u32 a.addr,.str a.user,.int .u64 a.inn,.int .u64 a.out]) (.agg [.int .i64 c.id,.int .i64 c.link,.int .u32 c.addr,.str c.user,.int .u64 c.inn,.int .u64 c.out]) K:=by
 obtain⟨fs,hf⟩:=sess_flat;exact eqK_flat hf (Sess.fit ha) (Sess.fit hc) (sess_eq a c) hk
theorem eqK_item {a c:Item} (ha:a.Ty) (hc:c.Ty) {K:Bool->Prop} (hk:K (decide (a=c))):eqK Try.prog 72 (.agg [.int .i64 a.kind,.int .i64 a.id,.int .u64 a.inn,.int .u64 a.out,.int .i64 a.cause]) (.agg [.int .i64 c.kind,.int .i64 c.id,.int .u64 c.inn,.int .u64 c.out,.int .i64 c.cause]) K:=by
 obtain⟨fs,hf⟩:=item_flat;exact eqK_flat hf (Item.fit ha) (Item.fit hc) (item_eq a c) hk
theorem eqK_lock {a c:Lock} (ha:a.Ty) (hc:c.Ty) {K:Bool->Prop} (hk:K (decide (a=c))):eqK Try.prog 64 (.agg [.str a.user,.int .i64 a.n,.int .i64 a.at_]) (.agg [.str c.user,.int .i64 c.n,.int .i64 c.at_]) K:=by
 obtain⟨fs,hf⟩:=lock_flat;exact eqK_flat hf (Lock.fit ha) (Lock.fit hc) (lock_eq a c) hk
set_option maxHeartbeats 4000000 in
set_option maxRecDepth 100000 in
theorem same_pc (Γ:Nat->Option (List Data)) (a b:Book) (ha:Fits a) (hb:Fits b) (ta:a.Ty) (tb:b.Ty):PC Try.prog Γ 18 [book a,book b] (.bool (decide (a=b))):=by
 refine pc_by mixed Try.func18 rfl (fun args w=>Try.call18 args w) ?_;obtain⟨ao,ai,al,-,-⟩:=ha;obtain⟨bo,bi,bl,-,-⟩:=hb;simp -implicitDefEqProofs (disch:=omega) [go_sem,book];by_cases g0:a.next=b.next;rotate_left
 . have hno:¬ a=b:=fun e=>g0 (by rw[e]);simp -implicitDefEqProofs (disch:=omega) [go_sem,g0,hno,Try.results18]
 by_cases g1:a.opn.length=b.opn.length;rotate_left
 . have hno:¬ a=b:=fun e=>g1 (by rw[e]);simp -implicitDefEqProofs (disch:=omega) [go_sem,g0,hno,Try.results18]
 by_cases g2:a.items.length=b.items.length;rotate_left
 . have hno:¬ a=b:=fun e=>g2 (by rw[e]);simp -implicitDefEqProofs (disch:=omega) [go_sem,g0,hno,Try.results18]
 by_cases g3:a.locks.length=b.locks.length;rotate_left
 . have hno:¬ a=b:=fun e=>g3 (by rw[e]);simp -implicitDefEqProofs (disch:=omega) [go_sem,g0,hno,Try.results18]
 simp -implicitDefEqProofs (disch:=omega) [go_sem,g0]
 refine loop_ren (σ:={ i:Nat // i<=a.opn.length/\∀ (j:Nat) (h:j<a.opn.length) (h2:j<b.opn.length),j<i->a.opn[j]=b.opn[j] }) (fun i=>⟨envL [(2,.ptr 0 0),(3,.ptr 1 0),(5,.data (.int .i64 i.1))],hpL [(0,.blk true [.data (.int .i64 b.next),.data (.sl 6 (sesss a.opn)),.data (.sl 5 (items a.items)),.data (.sl 3 (locks a.locks))]),(1,.blk true [.data (.int .i64 b.next),.data (.sl 6 (sesss b.opn)),.data (.sl 5 (items b.items)),.data (.sl 3 (locks b.locks))])],2,0,94⟩) (fun i=>a.opn.length-i.1) ⟨0,by omega,by omega⟩ [] (rhoL [(0,some 0),(1,some 1)]) ?_ ?_
 . apply ren_lists<;>simp -implicitDefEqProofs [go_sem]
 rintro⟨i,hi,hall⟩;by_cases h:i<a.opn.length
 . have h2:i<b.opn.length:=by omega
   simp -implicitDefEqProofs (disch:=omega) [go_sem];refine eqK_sess (ta.o _ (List.getElem_mem h)) (tb.o _ (List.getElem_mem h2)) ?_;by_cases he:a.opn[i]=b.opn[i]
   . simp -implicitDefEqProofs (disch:=omega) [go_sem,he];refine side (by kernel_rfl) ?_;simp -implicitDefEqProofs (disch:=omega) [go_sem];refine next_ren ⟨i+1,by omega,fun j hj hj2 hl=>if e:j=i then by subst e;exact he else hall j hj hj2 (by omega)⟩ (by simp only;omega) [] (rhoL [(0,some 0),(1,some 1)]) ?_;apply ren_lists<;>simp -implicitDefEqProofs [go_sem]
   . have hno:¬ a=b:=fun e=>he (by subst e;rfl);simp -implicitDefEqProofs (disch:=omega) [go_sem,he];refine side (by kernel_rfl) ?_;simp -implicitDefEqProofs (disch:=omega) [go_sem,hno,Try.results18]
 have e0:a.opn=b.opn:=List.ext_getElem g1 fun j h1 h2=>hall j h1 h2 (by omega);simp -implicitDefEqProofs (disch:=omega) [go_sem];clear h hall hi
 refine loop_ren (σ:={ i:Nat // i<=a.items.length/\∀ (j:Nat) (h:j<a.items.length) (h2:j<b.items.length),j<i->a.items[j]=b.items[j] }) (fun i=>⟨envL [(2,.ptr 0 0),(3,.ptr 1 0),(6,.data (.int .i64 i.1))],hpL [(0,.blk true [.data (.int .i64 b.next),.data (.sl 6 (sesss a.opn)),.data (.sl 5 (items a.items)),.data (.sl 3 (locks a.locks))]),(1,.blk true [.data (.int .i64 b.next),.data (.sl 6 (sesss b.opn)),.data (.sl 5 (items b.items)),.data (.sl 3 (locks b.locks))])],2,0,94⟩) (fun i=>a.items.length-i.1) ⟨0,by omega,by omega⟩ [] (rhoL [(0,some 0),(1,some 1)]) ?_ ?_
 . apply ren_lists<;>simp -implicitDefEqProofs [go_sem]
 rintro⟨i,hi,hall⟩;by_cases h:i<a.items.length
 . have h2:i<b.items.length:=by omega
   simp -implicitDefEqProofs (disch:=omega) [go_sem];refine eqK_item (ta.i _ (List.getElem_mem h)) (tb.i _ (List.getElem_mem h2)) ?_;by_cases he:a.items[i]=b.items[i]
   . simp -implicitDefEqProofs (disch:=omega) [go_sem,he];refine side (by kernel_rfl) ?_;simp -implicitDefEqProofs (disch:=omega) [go_sem];refine next_ren ⟨i+1,by omega,fun j hj hj2 hl=>if e:j=i then by subst e;exact he else hall j hj hj2 (by omega)⟩ (by simp only;omega) [] (rhoL [(0,some 0),(1,some 1)]) ?_;apply ren_lists<;>simp -implicitDefEqProofs [go_sem]
   . have hno:¬ a=b:=fun e=>he (by subst e;rfl);simp -implicitDefEqProofs (disch:=omega) [go_sem,he];refine side (by kernel_rfl) ?_;simp -implicitDefEqProofs (disch:=omega) [go_sem,hno,Try.results18]
 have e1:a.items=b.items:=List.ext_getElem g2 fun j h1 h2=>hall j h1 h2 (by omega);simp -implicitDefEqProofs (disch:=omega) [go_sem];clear h hall hi
 refine loop_ren (σ:={ i:Nat // i<=a.locks.length/\∀ (j:Nat) (h:j<a.locks.length) (h2:j<b.locks.length),j<i->a.locks[j]=b.locks[j] }) (fun i=>⟨envL [(2,.ptr 0 0),(3,.ptr 1 0),(7,.data (.int .i64 i.1))],hpL [(0,.blk true [.data (.int .i64 b.next),.data (.sl 6 (sesss a.opn)),.data (.sl 5 (items a.items)),.data (.sl 3 (locks a.locks))]),(1,.blk true [.data (.int .i64 b.next),.data (.sl 6 (sesss b.opn)),.data (.sl 5 (items b.items)),.data (.sl 3 (locks b.locks))])],2,0,94⟩) (fun i=>a.locks.length-i.1) ⟨0,by omega,by omega⟩ [] (rhoL [(0,some 0),(1,some 1)]) ?_ ?_
 . apply ren_lists<;>simp -implicitDefEqProofs [go_sem]
 rintro⟨i,hi,hall⟩;by_cases h:i<a.locks.length
 . have h2:i<b.locks.length:=by omega
   simp -implicitDefEqProofs (disch:=omega) [go_sem];refine eqK_lock (ta.l _ (List.getElem_mem h)) (tb.l _ (List.getElem_mem h2)) ?_;by_cases he:a.locks[i]=b.locks[i]
   . simp -implicitDefEqProofs (disch:=omega) [go_sem,he];refine side (by kernel_rfl) ?_;simp -implicitDefEqProofs (disch:=omega) [go_sem];refine next_ren ⟨i+1,by omega,fun j hj hj2 hl=>if e:j=i then by subst e;exact he else hall j hj hj2 (by omega)⟩ (by simp only;omega) [] (rhoL [(0,some 0),(1,some 1)]) ?_;apply ren_lists<;>simp -implicitDefEqProofs [go_sem]
   . have hno:¬ a=b:=fun e=>he (by subst e;rfl);simp -implicitDefEqProofs (disch:=omega) [go_sem,he];refine side (by kernel_rfl) ?_;simp -implicitDefEqProofs (disch:=omega) [go_sem,hno,Try.results18]
 have e2:a.locks=b.locks:=List.ext_getElem g3 fun j h1 h2=>hall j h1 h2 (by omega);have hyes:a=b:=by
  cases a;cases b;simp only at g0 e0 e1 e2;subst g0;subst e0;subst e1;subst e2;rfl
 simp -implicitDefEqProofs (disch:=omega) [go_sem,hyes,Try.results18]
end Bk
namespace Bk
theorem lift_rows {α:Type} {f:α->Data} {p:α->Prop} {l:List Data} (h:∀ x∈l,∃ a,p a/\x=f a):∃ bs:List α,l=bs.map f/\∀ a∈bs,p a:=by
 induction l with
 | nil=>exact⟨[],rfl,fun a ha=>by cases ha⟩
 | cons x t ih =>
   obtain⟨a,pa,rfl⟩:=h _ List.mem_cons_self;obtain⟨bs,rfl,hp⟩:=ih fun y hy=>h y (List.mem_cons_of_mem _ hy);exact⟨a::bs,rfl,fun b hb=>by
    rcases List.mem_cons.1 hb with rfl|hb
    . exact pa
    . exact hp b hb⟩
theorem ok_u64 {n:Nat} {t:TypeId} {ds:List Data} (hu:Try.prog.underlying t=some (.int .u64)) (h:okD Try.prog (n+1) t ds):∃ i:Int,U64 i/\ds=[.int .u64 i]:=by
 obtain⟨i,h1,h2,rfl⟩:=ok_int hu h;have e1:IntKind.u64.min=0:=by decide
 have e2:IntKind.u64.max=18446744073709551615:=by decide
 exact⟨i,⟨by omega,by omega⟩,rfl⟩
theorem ok_u32 {n:Nat} {t:TypeId} {ds:List Data} (hu:Try.prog.underlying t=some (.int .u32)) (h:okD Try.prog (n+1) t ds):∃ i:Int,(0<=i/\i<=4294967295)/\ds=[.int .u32 i]:=by
 obtain⟨i,h1,h2,rfl⟩:=ok_int hu h;have e1:IntKind.u32.min=0:=by decide
 have e2:IntKind.u32.max=4294967295:=by decide
 exact⟨i,⟨by omega,by omega⟩,rfl⟩
theorem ok_text {n:Nat} {t:TypeId} {ds:List Data} (hu:Try.prog.underlying t=some .string) (h:okD Try.prog (n+1) t ds):∃ s:ByteArray,s.size<=140737488351232/\ds=[.str s]:=by
 unfold okD at h;simp only[hu] at h;obtain⟨s,rfl,hs⟩:=h;exact⟨s,hs,rfl⟩
theorem arg_sess {n:Nat} {x:Data} (a:argD Try.prog (n+2) 76 x):∃ s:Sess,(s.Ty/\s.user.size<=140737488351232)/\x=sess s:=by
 obtain⟨ds,rfl,h⟩:=arg_struct Try.underlying76 a;obtain⟨d1,r1,rfl,h1,h⟩:=okF_cons h;obtain⟨d2,r2,rfl,h2,h⟩:=okF_cons h;obtain⟨d3,r3,rfl,h3,h⟩:=okF_cons h;obtain⟨d4,r4,rfl,h4,h⟩:=okF_cons h;obtain⟨d5,r5,rfl,h5,h⟩:=okF_cons h;obtain⟨d6,r6,rfl,h6,h⟩:=okF_cons h;obtain rfl:=okF_nil h;obtain⟨i1,a1,b1,rfl⟩:=ok_i64 Try.underlying3 h1;obtain⟨i2,a2,b2,rfl⟩:=ok_i64 Try.underlying3 h2;obtain⟨i3,a3,rfl⟩:=ok_u32 Try.underlying38 h3;obtain⟨u,hu,rfl⟩:=ok_text Try.underlying9 h4;obtain⟨i5,a5,rfl⟩:=ok_u64 Try.underlying39 h5;obtain⟨i6,a6,rfl⟩:=ok_u64 Try.underlying39 h6
 exact⟨⟨i1,i2,i3,u,i5,i6⟩,⟨⟨⟨a1,b1⟩,⟨a2,b2⟩,a3,Nat.le_trans hu (by decide),a5,a6⟩,hu⟩,rfl⟩
theorem arg_item {n:Nat} {x:Data} (a:argD Try.prog (n+2) 72 x):∃ s:Item,s.Ty/\x=item s:=by
 obtain⟨ds,rfl,h⟩:=arg_struct Try.underlying72 a;obtain⟨d1,r1,rfl,h1,h⟩:=okF_cons h;obtain⟨d2,r2,rfl,h2,h⟩:=okF_cons h;obtain⟨d3,r3,rfl,h3,h⟩:=okF_cons h;obtain⟨d4,r4,rfl,h4,h⟩:=okF_cons h;obtain⟨d5,r5,rfl,h5,h⟩:=okF_cons h;obtain rfl:=okF_nil h;obtain⟨i1,a1,b1,rfl⟩:=ok_i64 Try.underlying3 h1;obtain⟨i2,a2,b2,rfl⟩:=ok_i64 Try.underlying3 h2;obtain⟨i3,a3,rfl⟩:=ok_u64 Try.underlying39 h3;obtain⟨i4,a4,rfl⟩:=ok_u64 Try.underlying39 h4;obtain⟨i5,a5,b5,rfl⟩:=ok_i64 Try.underlying3 h5;exact⟨⟨i1,i2,i3,i4,i5⟩,⟨⟨a1,b1⟩,⟨a2,b2⟩,a3,a4,⟨a5,b5⟩⟩,rfl⟩
theorem arg_lock {n:Nat} {x:Data} (a:argD Try.prog (n+2) 64 x):∃ s:Lock,(s.Ty/\s.user.size<=140737488351232)/\x=lock s:=by
 obtain⟨ds,rfl,h⟩:=arg_struct Try.underlying64 a;obtain⟨d1,r1,rfl,h1,h⟩:=okF_cons h;obtain⟨d2,r2,rfl,h2,h⟩:=okF_cons h;obtain⟨d3,r3,rfl,h3,h⟩:=okF_cons h;obtain rfl:=okF_nil h;obtain⟨u,hu,rfl⟩:=ok_text Try.underlying9 h1;obtain⟨i2,a2,b2,rfl⟩:=ok_i64 Try.underlying3 h2;obtain⟨i3,a3,b3,rfl⟩:=ok_i64 Try.underlying3 h3;exact⟨⟨u,i2,i3⟩,⟨⟨Nat.le_trans hu (by decide),⟨a2,b2⟩,⟨a3,b3⟩⟩,hu⟩,rfl⟩
theorem arg_book {n:Nat} {x:Data} (a:argD Try.prog (n+4) 26 x):∃ b:Book,Fits b/\b.Ty/\x=book b:=by
 obtain⟨ds,rfl,h⟩:=arg_struct Try.underlying26 a;obtain⟨d1,r1,rfl,h1,h⟩:=okF_cons h;obtain⟨d2,r2,rfl,h2,h⟩:=okF_cons h;obtain⟨d3,r3,rfl,h3,h⟩:=okF_cons h;obtain⟨d4,r4,rfl,h4,h⟩:=okF_cons h;obtain rfl:=okF_nil h;obtain⟨i1,a1,b1,rfl⟩:=ok_i64 Try.underlying3 h1;obtain⟨l2,rfl,k2,e2⟩:=ok_slice Try.underlying22 h2;obtain⟨l3,rfl,k3,e3⟩:=ok_slice Try.underlying23 h3;obtain⟨l4,rfl,k4,e4⟩:=ok_slice Try.underlying24 h4;obtain⟨l2,rfl,p2⟩:=lift_rows fun x hx=>arg_sess (e2 x hx);obtain⟨l3,rfl,p3⟩:=lift_rows fun x hx=>arg_item (e3 x hx);obtain⟨l4,rfl,p4⟩:=lift_rows fun x hx=>arg_lock (e4 x hx)
 refine⟨⟨i1,l2,l3,l4⟩,⟨by simpa using k2,by simpa using k3,by simpa using k4,fun s hs=>(p2 s hs).2,fun s hs=>(p4 s hs).2⟩,⟨fun s hs=>(p2 s hs).1,p3,fun s hs=>(p4 s hs).1⟩,?_⟩;rw[show Try.prog.cellsOf 76=6 by kernel_rfl,show Try.prog.cellsOf 72=5 by kernel_rfl,show Try.prog.cellsOf 64=3 by kernel_rfl];rfl
structure Op.Ty (o:Op):Prop where
 kind:R64 o.kind
 id:R64 o.id
 link:R64 o.link
 addr:0<=o.addr/\o.addr<=4294967295
 user:o.user.size<=140737488351232
 inn:U64 o.inn
 out:U64 o.out
 cause:R64 o.cause
 at_:R64 o.at_
theorem ok_book {n:Nat} {ds:List Data} (h:okD Try.prog (n+4) 26 ds):∃ b:Book,Fits b/\b.Ty/\ds=(book b).cells:=by
 obtain⟨o,hf,ho,e⟩:=arg_book (n:=n) (x:=mkE Try.prog 26 ds) ⟨ds,rfl,h⟩;refine⟨o,hf,ho,?_⟩;simp only[mkE,Try.underlying26] at e;rw[<- e];rfl
end Bk
namespace Gt
open Bk
theorem gop_flat:∃ fs,FlatS Try.prog 41 fs [.i .i64,.i .i64,.i .i64,.i .u32,.s,.i .u64,.i .u64,.i .i64,.i .i64]:=⟨_,{
 ut:=Try.underlying41
 n:=rfl
 ct:=by kernel_rfl
 names:=by simp
 each:=by kernel_rfl
 deep:=run_equalIn_deep 9998 2 41 (by kernel_rfl)
 guard:=by kernel_rfl }⟩
theorem gop_fit {o:Bk.Op} (h:o.Ty):FitD [.i .i64,.i .i64,.i .i64,.i .u32,.s,.i .u64,.i .u64,.i .i64,.i .i64] [.int .i64 o.kind,.int .i64 o.id,.int .i64 o.link,.int .u32 o.addr,.str o.user,.int .u64 o.inn,.int .u64 o.out,.int .i64 o.cause,.int .i64 o.at_]:=by
 simp only[fitD_cons,fitD_nil];exact⟨fit_int h.kind,fit_int h.id,fit_int h.link,fit_int h.addr,fit_str (Nat.le_trans h.user (by decide)),fit_int h.inn,fit_int h.out,fit_int h.cause,fit_int h.at_,trivial⟩
theorem gop_eq (a c:Bk.Op):([.int .i64 a.kind,.int .i64 a.id,.int .i64 a.link,.int .u32 a.addr,.str a.user,.int .u64 a.inn,.int .u64 a.out,.int .i64 a.cause,.int .i64 a.at_]:List Data)=[.int .i64 c.kind,.int .i64 c.id,.int .i64 c.link,.int .u32 c.addr,.str c.user,.int .u64 c.inn,.int .u64 c.out,.int .i64 c.cause,.int .i64 c.at_] ↔ a=c:=by
 cases a;cases c;simp
theorem eqK_gop {a c:Bk.Op} (ha:a.Ty) (hc:c.Ty) {K:Bool->Prop} (hk:K (decide (a=c))):eqK Try.prog 41 (.agg [.int .i64 a.kind,.int .i64 a.id,.int .i64 a.link,.int .u32 a.addr,.str a.user,.int .u64 a.inn,.int .u64 a.out,.int .i64 a.cause,.int .i64 a.at_]) (.agg [.int .i64 c.kind,.int .i64 c.id,.int .i64 c.link,.int .u32 c.addr,.str c.user,.int .u64 c.inn,.int .u64 c.out,.int .i64 c.cause,.int .i64 c.at_]) K:=by
 obtain⟨fs,hf⟩:=gop_flat;exact eqK_flat hf (gop_fit ha) (gop_fit hc) (gop_eq a c) hk
section
variable (Γ:Nat->Option (List Data))
set_option maxHeartbeats 4000000 in
theorem rops_pc (a b:List Bk.Op) (ha:a.length<=1000000000) (hb:b.length<=1000000000) (ta:∀ o∈a,o.Ty) (tb:∀ o∈b,o.Ty):PC Try.prog Γ 16 [.sl 9 (ops a),.sl 9 (ops b)] (.bool (decide (a=b))):=by
 refine pc_by mixed Try.func16 rfl (fun args w=>Try.call16 args w) ?_;by_cases hn:a.length=b.length;rotate_left
 . rw[decide_eq_false fun e=>hn (by rw[e])];simp -implicitDefEqProofs (disch:=omega) [go_sem,hn,Try.f16]
 simp -implicitDefEqProofs (disch:=omega) [go_sem,hn];refine loop_ren (σ:={ i:Nat // i<=b.length/\a.take i=b.take i }) (fun i=>⟨envL [(0,.data (.sl 9 (ops a))),(1,.data (.sl 9 (ops b))),(5,.data (.int .i64 i.1))],hpL [],0,0,26⟩) (fun i=>b.length-i.1) ⟨0,by omega,rfl⟩ [] (rhoL []) ?_ ?_
 . apply ren_lists<;>simp -implicitDefEqProofs [go_sem]
 rintro⟨i,hi,hall⟩;by_cases h:i<b.length
 . have h2:i<a.length:=by omega
   have ty1:=ta _ (List.getElem_mem h2);have ty2:=tb _ (List.getElem_mem h);by_cases he:a[i]=b[i]
   . simp -implicitDefEqProofs (disch:=omega) [go_sem,Bk.op];refine eqK_gop ty1 ty2 ?_;rw[decide_eq_true he];simp -implicitDefEqProofs (disch:=omega) [go_sem];refine side (by kernel_rfl) ?_;simp -implicitDefEqProofs (disch:=omega) [go_sem];refine next_ren ⟨i+1,by omega,by rw[List.take_add_one,List.take_add_one,hall,List.getElem?_eq_getElem h,List.getElem?_eq_getElem h2,he]⟩ (by simp only;omega) [] (rhoL []) ?_;apply ren_lists<;>simp -implicitDefEqProofs [go_sem]
   . rw[decide_eq_false fun e=>he (by simp[e])];simp -implicitDefEqProofs (disch:=omega) [go_sem,Bk.op];refine eqK_gop ty1 ty2 ?_;rw[decide_eq_false he];simp -implicitDefEqProofs (disch:=omega) [go_sem];refine side (by kernel_rfl) ?_;simp -implicitDefEqProofs (disch:=omega) [go_sem,Try.f16]
 . have:i=b.length:=by omega
   subst this;rw[List.take_length,List.take_of_length_le (by omega)] at hall;rw[decide_eq_true hall];simp -implicitDefEqProofs (disch:=omega) [go_sem,hn,Try.f16]
end
end Gt
namespace Bk
structure SessOk (b:Book) (i:Nat) (s:Sess):Prop where
 id0:0<=s.id
 id1:s.id<b.next
 up:0<i->(b.opn.getD (i-1) default).id<s.id
 l0:0<=s.link
 l1:s.link<=7
 user:nameOk s.user
 addr:poolOk s.addr
def SessAt (b:Book) (i:Nat) (h:i<b.opn.length):Prop:=SessOk b i b.opn[i]/\∀ (k:Nat) (hk:k<i),b.opn[k].link≠b.opn[i].link/\b.opn[k].addr≠b.opn[i].addr
def OpenOk (b:Book):Prop:=∀ (i:Nat) (h:i<b.opn.length),SessAt b i h
set_option maxHeartbeats 8000000 in
set_option maxRecDepth 100000 in
theorem open_pc (Γ:Nat->Option (List Data)) (b:Book) (hb:Fits b) {q:Bool} (hq:q=true ↔ OpenOk b):PC Try.prog Γ 27 [book b] (.bool q):=by
 refine pc_by mixed Try.func27 rfl (fun args w=>Try.call27 args w) ?_;have ho:=hb.o;have no:¬ OpenOk b->q=false:=fun h=>by
  cases q
  . rfl
  . exact absurd (hq.1 rfl) h
 simp -implicitDefEqProofs (disch:=omega) [go_sem,book];refine loop_ren (σ:={ i:Nat // i<=b.opn.length/\∀ (j:Nat) (h:j<b.opn.length),j<i->SessAt b j h }) (fun i=>⟨envL [(1,.ptr 0 0),(3,.data (.int .i64 i.1))],hpL [(0,.blk true [.data (.int .i64 b.next),.data (.sl 6 (sesss b.opn)),.data (.sl 5 (items b.items)),.data (.sl 3 (locks b.locks))])],1,0,95⟩) (fun i=>b.opn.length-i.1) ⟨0,by omega,by omega⟩ [] (rhoL []) ?_ ?_
 . apply ren_lists<;>simp -implicitDefEqProofs [go_sem]
 . rintro⟨i,hi,hall⟩;by_cases h:i<b.opn.length;rotate_left
   . have hyes:q=true:=hq.2 fun i hi2=>hall i hi2 (by omega);simp -implicitDefEqProofs (disch:=omega) [go_sem,hyes,Try.results27]
   have hn:=name_pc Γ b.opn[i].user (by have:=hb.ou _ (List.getElem_mem h);omega);have hp:=pool_pc Γ b.opn[i].addr;have hno:¬ SessOk b i b.opn[i]->q=false:=fun hk=>no fun ha=>hk (ha i h).1;have hgd:0<i->b.opn.getD (i-1) default=b.opn[i-1]:=fun h0=>by rw[List.getD_eq_getElem?_getD,List.getElem?_eq_getElem (by omega)];rfl
   have ei:((i:Int)-1).toNat=i-1:=by omega
   simp -implicitDefEqProofs (disch:=omega) [go_sem];refine .inl (call_data hn (by simp[go_sem]) ?_);simp -implicitDefEqProofs (disch:=omega) [go_sem];refine .inl (call_data hp (by simp[go_sem]) ?_);simp -implicitDefEqProofs (disch:=omega) [go_sem];refine ifW_ndec (fun g1=>?_) (fun g1=>?_);rotate_left
   . have hqf:q=false:=hno fun hk=>absurd hk.id0 (by omega);simp -implicitDefEqProofs (disch:=omega) [go_sem,hqf];refine side (by kernel_rfl) ?_;simp -implicitDefEqProofs (disch:=omega) [go_sem,hqf,Try.results27]
   simp -implicitDefEqProofs (disch:=omega) [go_sem];refine ifW_ndec (fun g2=>?_) (fun g2=>?_);rotate_left
   . have hqf:q=false:=hno fun hk=>absurd hk.id1 (by omega);simp -implicitDefEqProofs (disch:=omega) [go_sem,hqf];refine side (by kernel_rfl) ?_;simp -implicitDefEqProofs (disch:=omega) [go_sem,hqf,Try.results27]
   simp -implicitDefEqProofs (disch:=omega) [go_sem];refine ifW_dec (fun g0=>?_) (fun g0=>?_)
   . have g0':0<i:=by omega
     have him:i-1<b.opn.length:=by omega
     simp -implicitDefEqProofs (disch:=omega) [go_sem,ei];refine ifW_ndec (fun g3=>?_) (fun g3=>?_);rotate_left
     . have hqf:q=false:=hno fun hk=>by have:=hk.up g0';rw[hgd g0'] at this;omega
       simp -implicitDefEqProofs (disch:=omega) [go_sem,hqf];refine side (by kernel_rfl) ?_;simp -implicitDefEqProofs (disch:=omega) [go_sem,hqf,Try.results27]
     simp -implicitDefEqProofs (disch:=omega) [go_sem];refine ifW_ndec (fun g4=>?_) (fun g4=>?_);rotate_left
     . have hqf:q=false:=hno fun hk=>absurd hk.l0 (by omega);simp -implicitDefEqProofs (disch:=omega) [go_sem,hqf];refine side (by kernel_rfl) ?_;simp -implicitDefEqProofs (disch:=omega) [go_sem,hqf,Try.results27]
     simp -implicitDefEqProofs (disch:=omega) [go_sem];refine ifW_ndec (fun g5=>?_) (fun g5=>?_);rotate_left
     . have hqf:q=false:=hno fun hk=>absurd hk.l1 (by omega);simp -implicitDefEqProofs (disch:=omega) [go_sem,hqf];refine side (by kernel_rfl) ?_;simp -implicitDefEqProofs (disch:=omega) [go_sem,hqf,Try.results27]
     by_cases g6:nameOk b.opn[i].user;rotate_left
     . have hqf:q=false:=hno fun hk=>g6 hk.user;simp -implicitDefEqProofs (disch:=omega) [go_sem,hqf,g6];refine side (by kernel_rfl) ?_;simp -implicitDefEqProofs (disch:=omega) [go_sem,hqf,g6,Try.results27]
     by_cases g7:poolOk b.opn[i].addr;rotate_left
     . have hqf:q=false:=hno fun hk=>g7 hk.addr;simp -implicitDefEqProofs (disch:=omega) [go_sem,hqf,g6,g7];refine side (by kernel_rfl) ?_;simp -implicitDefEqProofs (disch:=omega) [go_sem,hqf,g6,g7,Try.results27]
     have hsok:SessOk b i b.opn[i]:=⟨by omega,by omega,fun h0=>by rw[hgd h0];omega,by omega,by omega,g6,g7⟩;simp -implicitDefEqProofs (disch:=omega) [go_sem,g6,g7];refine side (by kernel_rfl) ?_;simp -implicitDefEqProofs (disch:=omega) [go_sem]
     refine loop_ren (σ:={ k:Nat // k<=i/\∀ (j:Nat) (hj:j<k) (hk:k<=i),b.opn[j].link≠b.opn[i].link/\b.opn[j].addr≠b.opn[i].addr }) (fun k=>⟨envL [(1,.ptr 0 0),(3,.data (.int .i64 i)),(4,.ptr 1 0),(7,.data (.int .i64 k.1))],hpL [(0,.blk true [.data (.int .i64 b.next),.data (.sl 6 (sesss b.opn)),.data (.sl 5 (items b.items)),.data (.sl 3 (locks b.locks))]),(1,.blk true [.data (.int .i64 b.opn[i].id),.data (.int .i64 b.opn[i].link),.data (.int .u32 b.opn[i].addr),.data (.str b.opn[i].user),.data (.int .u64 b.opn[i].inn),.data (.int .u64 b.opn[i].out)])],2,0,95⟩) (fun k=>i-k.1) ⟨0,by omega,by omega⟩ [] (rhoL [(1,some 11)]) ?_ ?_
     . apply ren_lists<;>simp -implicitDefEqProofs [go_sem]
     rintro⟨k,hk,hin⟩;by_cases hki:k<i;rotate_left
     . have hki2:k=i:=by omega
       subst hki2;simp -implicitDefEqProofs (disch:=omega) [go_sem];refine next_ren ⟨k+1,by omega,fun j hj hji=>?_⟩ (by simp only;omega) [] (rhoL []) ?_
       . by_cases e:j=k
         . subst e;exact⟨hsok,fun m hm=>hin m hm (Nat.le_refl _)⟩
         . exact hall j hj (by omega)
       apply ren_lists<;>simp -implicitDefEqProofs [go_sem]
     have hkl:k<b.opn.length:=by omega
     simp -implicitDefEqProofs (disch:=omega) [go_sem];refine ifW_ndec (fun g8=>?_) (fun g8=>?_);rotate_left
     . have hqf:q=false:=no fun ha=>((ha i h).2 k hki).1 g8;simp -implicitDefEqProofs (disch:=omega) [go_sem,hqf,g8];refine side (by kernel_rfl) ?_;simp -implicitDefEqProofs (disch:=omega) [go_sem,hqf,g8,Try.results27]
     simp -implicitDefEqProofs (disch:=omega) [go_sem,g8];refine side (by kernel_rfl) ?_;simp -implicitDefEqProofs (disch:=omega) [go_sem,g8];refine ifW_dec (fun g9=>?_) (fun g9=>?_)
     . have hqf:q=false:=no fun ha=>((ha i h).2 k hki).2 g9;simp -implicitDefEqProofs (disch:=omega) [go_sem,hqf,Try.results27]
     simp -implicitDefEqProofs (disch:=omega) [go_sem];refine next_ren ⟨k+1,by omega,fun j hj hk2=>?_⟩ (by simp only;omega) [] (rhoL []) ?_
     . by_cases e:j=k
       . subst e;exact⟨g8,g9⟩
       . exact hin j (by omega) (by omega)
     apply ren_lists<;>simp -implicitDefEqProofs [go_sem]
   . simp -implicitDefEqProofs (disch:=omega) [go_sem];refine ifW_ndec (fun g4=>?_) (fun g4=>?_);rotate_left
     . have hqf:q=false:=hno fun hk=>absurd hk.l0 (by omega);simp -implicitDefEqProofs (disch:=omega) [go_sem,hqf];refine side (by kernel_rfl) ?_;simp -implicitDefEqProofs (disch:=omega) [go_sem,hqf,Try.results27]
     simp -implicitDefEqProofs (disch:=omega) [go_sem];refine ifW_ndec (fun g5=>?_) (fun g5=>?_);rotate_left
     . have hqf:q=false:=hno fun hk=>absurd hk.l1 (by omega);simp -implicitDefEqProofs (disch:=omega) [go_sem,hqf];refine side (by kernel_rfl) ?_;simp -implicitDefEqProofs (disch:=omega) [go_sem,hqf,Try.results27]
     by_cases g6:nameOk b.opn[i].user;rotate_left
     . have hqf:q=false:=hno fun hk=>g6 hk.user;simp -implicitDefEqProofs (disch:=omega) [go_sem,hqf,g6];refine side (by kernel_rfl) ?_;simp -implicitDefEqProofs (disch:=omega) [go_sem,hqf,g6,Try.results27]
     by_cases g7:poolOk b.opn[i].addr;rotate_left
     . have hqf:q=false:=hno fun hk=>g7 hk.addr;simp -implicitDefEqProofs (disch:=omega) [go_sem,hqf,g6,g7];refine side (by kernel_rfl) ?_;simp -implicitDefEqProofs (disch:=omega) [go_sem,hqf,g6,g7,Try.results27]
     have hsok:SessOk b i b.opn[i]:=⟨by omega,by omega,fun h0=>absurd h0 (by omega),by omega,by omega,g6,g7⟩;simp -implicitDefEqProofs (disch:=omega) [go_sem,g6,g7];refine side (by kernel_rfl) ?_;simp -implicitDefEqProofs (disch:=omega) [go_sem]
     refine loop_ren (σ:={ k:Nat // k<=i/\∀ (j:Nat) (hj:j<k) (hk:k<=i),b.opn[j].link≠b.opn[i].link/\b.opn[j].addr≠b.opn[i].addr }) (fun k=>⟨envL [(1,.ptr 0 0),(3,.data (.int .i64 i)),(4,.ptr 1 0),(7,.data (.int .i64 k.1))],hpL [(0,.blk true [.data (.int .i64 b.next),.data (.sl 6 (sesss b.opn)),.data (.sl 5 (items b.items)),.data (.sl 3 (locks b.locks))]),(1,.blk true [.data (.int .i64 b.opn[i].id),.data (.int .i64 b.opn[i].link),.data (.int .u32 b.opn[i].addr),.data (.str b.opn[i].user),.data (.int .u64 b.opn[i].inn),.data (.int .u64 b.opn[i].out)])],2,0,95⟩) (fun k=>i-k.1) ⟨0,by omega,by omega⟩ [] (rhoL [(1,some 11)]) ?_ ?_
     . apply ren_lists<;>simp -implicitDefEqProofs [go_sem]
     rintro⟨k,hk,hin⟩;by_cases hki:k<i;rotate_left
     . have hki2:k=i:=by omega
       subst hki2;simp -implicitDefEqProofs (disch:=omega) [go_sem];refine next_ren ⟨k+1,by omega,fun j hj hji=>?_⟩ (by simp only;omega) [] (rhoL []) ?_
       . by_cases e:j=k
         . subst e;exact⟨hsok,fun m hm=>hin m hm (Nat.le_refl _)⟩
         . exact hall j hj (by omega)
       apply ren_lists<;>simp -implicitDefEqProofs [go_sem]
     exact absurd hki (by omega)
end Bk
namespace Bk
def withLine (b:Book) (x:Item):Book:={ b with items:=b.items++[x] }
theorem flat_item1 (x:Item):flat (items [x])=[.int .i64 x.kind,.int .i64 x.id,.int .u64 x.inn,.int .u64 x.out,.int .i64 x.cause]:=rfl
set_option maxRecDepth 100000 in
theorem with_pc (Γ:Nat->Option (List Data)) (b:Book) (hi:b.items.length<=1000000) (x:Item):PC Try.prog Γ 34 [book b,item x] (book (withLine b x)):=by
 refine pc_by mixed Try.func34 rfl (fun args w=>Try.call34 args w) ?_;simp -implicitDefEqProofs (disch:=omega) [go_sem,book,item];refine side (by kernel_rfl) ?_;simp -implicitDefEqProofs (disch:=omega) [go_sem,Try.f34];refine⟨_,⟨_,rfl,frz_aggL (frzL_c ((frz_data _ _ _ _).2 rfl) (frzL_c ((frz_data _ _ _ _).2 rfl) (frzL_c (fz_items (rw:=true) (l:=b.items++[x]) (by simp[go_sem,<- items_append,flat_item1]) (.inl rfl) (by simp)) (frzL_c ((frz_data _ _ _ _).2 rfl) frzL_n))))⟩,?_⟩;rfl
def LineAt (b:Book) (x:Item) (k:Int):Prop:=0<=x.id/\x.id<b.next /\
 ((k<0/\x.kind=1/\x.inn=0/\x.out=0/\x.cause=0) \/
  (0<=k/\(b.items.getD k.toNat default).kind≠3/\(b.items.getD k.toNat default).inn<=x.inn/\(b.items.getD k.toNat default).out<=x.out/\(x.kind=2/\x.cause=0 \/ x.kind=3/\0<=x.cause/\x.cause<=255)))
def LineOk (b:Book) (i:Nat) (x:Item):Prop:=LineAt b x (last b.items x.id i)
set_option maxHeartbeats 4000000 in
set_option maxRecDepth 100000 in
theorem line_pc (Γ:Nat->Option (List Data)) (b:Book) (hb:Fits b) (i:Nat) (h:i<b.items.length) {v:Bool} (hv:v=true ↔ LineOk b i b.items[i]):PC Try.prog Γ 28 [book b,.int .i64 i] (.bool v):=by
 refine pc_by mixed Try.func28 rfl (fun args w=>Try.call28 args w) ?_;have hi:=hb.i;have hl:=last_pc Γ b hb b.items[i].id i (by omega);obtain⟨l1,l2⟩:=last_lt b.items b.items[i].id i;unfold LineOk at hv;generalize last b.items b.items[i].id i=k at *;have yes:LineAt b b.items[i] k->v=true:=hv.2;have no:¬ LineAt b b.items[i] k->v=false:=fun h=>by
  cases v
  . rfl
  . exact absurd (hv.1 rfl) h
 clear hv;simp -implicitDefEqProofs (disch:=omega) [go_sem,book];refine .inl (call_data hl (by simp[go_sem,book]) ?_);simp -implicitDefEqProofs (disch:=omega) [go_sem];refine ifW_ndec (fun h1=>?_) (fun h1=>?_)
 . simp -implicitDefEqProofs (disch:=omega) [go_sem];refine ifW_dec (fun h2=>?_) (fun h2=>?_)
   . have hvf:v=false:=no fun e=>by unfold LineAt at e;omega
     simp -implicitDefEqProofs (disch:=omega) [go_sem,hvf,Try.results28]
   . simp -implicitDefEqProofs (disch:=omega) [go_sem];refine ifW_dec (fun h3=>?_) (fun h3=>?_)
     . by_cases a1:b.items[i].kind=1
       . by_cases a2:b.items[i].inn=0
         . by_cases a3:b.items[i].out=0
           . by_cases a4:b.items[i].cause=0
             . have hvt:v=true:=yes (by unfold LineAt;omega);simp -implicitDefEqProofs (disch:=omega) [go_sem,hvt,Try.results28]
             . have hvf:v=false:=no fun e=>by unfold LineAt at e;omega
               simp -implicitDefEqProofs (disch:=omega) [go_sem,hvf,Try.results28]
           . have hvf:v=false:=no fun e=>by unfold LineAt at e;omega
             simp -implicitDefEqProofs (disch:=omega) [go_sem,hvf,Try.results28]
         . have hvf:v=false:=no fun e=>by unfold LineAt at e;omega
           simp -implicitDefEqProofs (disch:=omega) [go_sem,hvf,Try.results28]
       . have hvf:v=false:=no fun e=>by unfold LineAt at e;omega
         simp -implicitDefEqProofs (disch:=omega) [go_sem,hvf,Try.results28]
     . have hk:k.toNat<b.items.length:=by omega
       have hgd:b.items.getD k.toNat default=b.items[k.toNat]:=by rw[List.getD_eq_getElem?_getD,List.getElem?_eq_getElem hk];rfl
       simp -implicitDefEqProofs (disch:=omega) [go_sem];refine ifW_ndec (fun b1=>?_) (fun b1=>?_)
       . simp -implicitDefEqProofs (disch:=omega) [go_sem];refine ifW_ndec (fun b2=>?_) (fun b2=>?_)
         . simp -implicitDefEqProofs (disch:=omega) [go_sem];refine ifW_dec (fun b3=>?_) (fun b3=>?_)
           . have hvf:v=false:=no fun e=>by unfold LineAt at e;rw[hgd] at e;omega
             simp -implicitDefEqProofs (disch:=omega) [go_sem,hvf,Try.results28]
           . by_cases k2:b.items[i].kind=2
             . by_cases c0:b.items[i].cause=0
               . have hvt:v=true:=yes (by unfold LineAt;rw[hgd];omega);simp -implicitDefEqProofs (disch:=omega) [go_sem,hvt,Try.results28]
               . have hvf:v=false:=no fun e=>by unfold LineAt at e;rw[hgd] at e;omega
                 simp -implicitDefEqProofs (disch:=omega) [go_sem,hvf,Try.results28]
             . by_cases k3:b.items[i].kind=3
               . by_cases c0:0<=b.items[i].cause
                 . by_cases c1:b.items[i].cause<=255
                   . have hvt:v=true:=yes (by unfold LineAt;rw[hgd];omega);simp -implicitDefEqProofs (disch:=omega) [go_sem,hvt,Try.results28]
                   . have hvf:v=false:=no fun e=>by unfold LineAt at e;rw[hgd] at e;omega
                     simp -implicitDefEqProofs (disch:=omega) [go_sem,hvf,Try.results28]
                 . have hvf:v=false:=no fun e=>by unfold LineAt at e;rw[hgd] at e;omega
                   simp -implicitDefEqProofs (disch:=omega) [go_sem,hvf,Try.results28]
               . have hvf:v=false:=no fun e=>by unfold LineAt at e;rw[hgd] at e;omega
                 simp -implicitDefEqProofs (disch:=omega) [go_sem,hvf,Try.results28]
         . have hvf:v=false:=no fun e=>by unfold LineAt at e;rw[hgd] at e;omega
           simp -implicitDefEqProofs (disch:=omega) [go_sem,hvf,Try.results28]
       . have hvf:v=false:=no fun e=>by unfold LineAt at e;rw[hgd] at e;omega
         simp -implicitDefEqProofs (disch:=omega) [go_sem,hvf,Try.results28]
 . have hvf:v=false:=no fun e=>by unfold LineAt at e;omega
   simp -implicitDefEqProofs (disch:=omega) [go_sem,hvf,Try.results28]
end Bk
namespace Bk
structure ItemAt (b:Book) (i:Nat) (h:i<b.items.length):Prop where
 line:LineOk b i b.items[i]
 ends:last b.items b.items[i].id b.items.length=i->¬ (0<=ofId b b.items[i].id ↔ b.items[i].kind=3)
structure SessEnd (b:Book) (s:Sess):Prop where
 k0:0<=last b.items s.id b.items.length
 inn:(b.items.getD (last b.items s.id b.items.length).toNat default).inn=s.inn
 out:(b.items.getD (last b.items s.id b.items.length).toNat default).out=s.out
structure LockAt (b:Book) (i:Nat) (h:i<b.locks.length):Prop where
 user:nameOk b.locks[i].user
 n0:1<=b.locks[i].n
 n1:b.locks[i].n<=255
 t0:0<=b.locks[i].at_
 t1:b.locks[i].at_<=1000000000
 f:failed b b.locks[i].user=i
structure RightP (b:Book):Prop where
 n0:0<=b.next
 n1:b.next<=1000000000
 len:b.items.length+b.opn.length<=60
 ll:b.locks.length<=8
 opens:OpenOk b
 items:∀ (i:Nat) (h:i<b.items.length),ItemAt b i h
 ends:∀ (i:Nat) (h:i<b.opn.length),SessEnd b b.opn[i]
 locks:∀ (i:Nat) (h:i<b.locks.length),LockAt b i h
set_option maxHeartbeats 8000000 in
set_option maxRecDepth 100000 in
theorem right_pc (Γ:Nat->Option (List Data)) (b:Book) (hb:Fits b) {q:Bool} (hq:q=true ↔ RightP b):PC Try.prog Γ 17 [book b] (.bool q):=by
 refine pc_by mixed Try.func17 rfl (fun args w=>Try.call17 args w) ?_;have no:¬ RightP b->q=false:=fun h=>by
  cases q
  . rfl
  . exact absurd (hq.1 rfl) h
 have yes:RightP b->q=true:=hq.2;clear hq;have hb2:=hb;obtain⟨f1,f2,f3,f4,f5⟩:=hb2;obtain⟨vo,hvo⟩:∃ v:Bool,v=true ↔ OpenOk b:=by classical exact⟨decide (OpenOk b),by simp⟩
 have co:=open_pc Γ b hb hvo;by_cases n0:0<=b.next;rotate_left
 . have hqf:q=false:=no fun r=>n0 r.n0;simp -implicitDefEqProofs (disch:=omega) [go_sem,book,hqf,Try.results17]
 by_cases n1:b.next<=1000000000;rotate_left
 . have hqf:q=false:=no fun r=>n1 r.n1;simp -implicitDefEqProofs (disch:=omega) [go_sem,book,hqf,Try.results17]
 by_cases len:b.items.length+b.opn.length<=60;rotate_left
 . have hqf:q=false:=no fun r=>len r.len;simp -implicitDefEqProofs (disch:=omega) [go_sem,book,hqf,Try.results17]
 by_cases ll:b.locks.length<=8;rotate_left
 . have hqf:q=false:=no fun r=>ll r.ll;simp -implicitDefEqProofs (disch:=omega) [go_sem,book,hqf,Try.results17]
 simp -implicitDefEqProofs (disch:=omega) [go_sem,book];refine .inl (call_data co (by simp[go_sem,book]) ?_);cases vo with
 | false =>
   have hqf:q=false:=no fun r=>by have:=hvo.2 r.opens;cases this
   simp -implicitDefEqProofs (disch:=omega) [go_sem,hqf,Try.results17]
 | true =>
 have opens:=hvo.1 rfl;clear hvo co;simp -implicitDefEqProofs (disch:=omega) [go_sem];refine loop_ren (σ:={ i:Nat // i<=b.items.length/\∀ (j:Nat) (h:j<b.items.length),j<i->ItemAt b j h }) (fun i=>⟨envL [(1,.ptr 0 0),(4,.data (.int .i64 i.1))],hpL [(0,.blk true [.data (.int .i64 b.next),.data (.sl 6 (sesss b.opn)),.data (.sl 5 (items b.items)),.data (.sl 3 (locks b.locks))])],1,0,182⟩) (fun i=>b.items.length-i.1) ⟨0,by omega,fun j h hj=>absurd hj (by omega)⟩ [] (rhoL []) ?_ ?_
 . apply ren_lists<;>simp -implicitDefEqProofs [go_sem]
 rintro⟨i,hi,hall⟩;by_cases h:i<b.items.length
 . obtain⟨vl,hvl⟩:∃ v:Bool,v=true ↔ LineOk b i b.items[i]:=by classical exact⟨decide (LineOk b i b.items[i]),by simp⟩
   have cl:=line_pc Γ b hb i h hvl;have ca:=last_pc Γ b hb b.items[i].id b.items.length (Nat.le_refl _);have cf:=of_pc Γ b hb b.items[i].id;simp -implicitDefEqProofs (disch:=omega) [go_sem];refine .inl (call_data cl (by simp[go_sem,book]) ?_);cases vl with
   | false =>
     have hqf:q=false:=no fun r=>by have:=hvl.2 (r.items i h).line;cases this
     simp -implicitDefEqProofs (disch:=omega) [go_sem,hqf,Try.results17]
   | true =>
   have hline:=hvl.1 rfl;clear hvl cl;simp -implicitDefEqProofs (disch:=omega) [go_sem];refine .inl (call_data ca (by simp[go_sem,book]) ?_);by_cases ge:last b.items b.items[i].id b.items.length=i
   . simp -implicitDefEqProofs (disch:=omega) [go_sem];refine side (by kernel_rfl) ?_;simp -implicitDefEqProofs (disch:=omega) [go_sem];refine .inl (call_data cf (by simp[go_sem,book]) ?_);by_cases gi:0<=ofId b b.items[i].id
     . by_cases gk:b.items[i].kind=3
       . simp -implicitDefEqProofs (disch:=omega) [go_sem];refine side (by kernel_rfl) ?_;have hqf:q=false:=no fun r=>(r.items i h).ends ge (by simp[gi,gk]);simp -implicitDefEqProofs (disch:=omega) [go_sem,hqf,Try.results17]
       . simp -implicitDefEqProofs (disch:=omega) [go_sem];refine side (by kernel_rfl) ?_;simp -implicitDefEqProofs (disch:=omega) [go_sem];refine next_ren ⟨i+1,by omega,fun j hj hji=>?_⟩ (by simp only;omega) [] (rhoL []) ?_
         . by_cases e:j=i
           . subst e;exact⟨hline,fun _=>by simp[gi,gk]⟩
           . exact hall j hj (by omega)
         apply ren_lists<;>simp -implicitDefEqProofs [go_sem]
     . by_cases gk:b.items[i].kind=3
       . simp -implicitDefEqProofs (disch:=omega) [go_sem];refine side (by kernel_rfl) ?_;simp -implicitDefEqProofs (disch:=omega) [go_sem];refine next_ren ⟨i+1,by omega,fun j hj hji=>?_⟩ (by simp only;omega) [] (rhoL []) ?_
         . by_cases e:j=i
           . subst e;exact⟨hline,fun _=>by simp[gi,gk]⟩
           . exact hall j hj (by omega)
         apply ren_lists<;>simp -implicitDefEqProofs [go_sem]
       . simp -implicitDefEqProofs (disch:=omega) [go_sem];refine side (by kernel_rfl) ?_;have hqf:q=false:=no fun r=>(r.items i h).ends ge (by simp[gi,gk]);simp -implicitDefEqProofs (disch:=omega) [go_sem,hqf,Try.results17]
   . simp -implicitDefEqProofs (disch:=omega) [go_sem];refine side (by kernel_rfl) ?_;simp -implicitDefEqProofs (disch:=omega) [go_sem];refine .inl (call_data cf (by simp[go_sem,book]) ?_);by_cases gi:0<=ofId b b.items[i].id
     . simp -implicitDefEqProofs (disch:=omega) [go_sem];refine side (by kernel_rfl) ?_;simp -implicitDefEqProofs (disch:=omega) [go_sem];refine next_ren ⟨i+1,by omega,fun j hj hji=>?_⟩ (by simp only;omega) [] (rhoL []) ?_
       . by_cases e:j=i
         . subst e;exact⟨hline,fun e=>absurd e ge⟩
         . exact hall j hj (by omega)
       apply ren_lists<;>simp -implicitDefEqProofs [go_sem]
     . simp -implicitDefEqProofs (disch:=omega) [go_sem];refine side (by kernel_rfl) ?_;simp -implicitDefEqProofs (disch:=omega) [go_sem];refine next_ren ⟨i+1,by omega,fun j hj hji=>?_⟩ (by simp only;omega) [] (rhoL []) ?_
       . by_cases e:j=i
         . subst e;exact⟨hline,fun e=>absurd e ge⟩
         . exact hall j hj (by omega)
       apply ren_lists<;>simp -implicitDefEqProofs [go_sem]
 obtain rfl:i=b.items.length:=by omega
 have hitems:∀ (i:Nat) (h:i<b.items.length),ItemAt b i h:=fun i h=>hall i h h;simp -implicitDefEqProofs (disch:=omega) [go_sem]
 try clear hall h hi
 refine loop_ren (σ:={ i:Nat // i<=b.opn.length/\∀ (j:Nat) (h:j<b.opn.length),j<i->SessEnd b b.opn[j] }) (fun i=>⟨envL [(1,.ptr 0 0),(8,.data (.int .i64 i.1))],hpL [(0,.blk true [.data (.int .i64 b.next),.data (.sl 6 (sesss b.opn)),.data (.sl 5 (items b.items)),.data (.sl 3 (locks b.locks))])],1,0,182⟩) (fun i=>b.opn.length-i.1) ⟨0,by omega,fun j h hj=>absurd hj (by omega)⟩ [] (rhoL []) ?_ ?_
 . apply ren_lists<;>simp -implicitDefEqProofs [go_sem]
 rintro⟨i,hi,hall⟩;by_cases h:i<b.opn.length
 . have ca:=last_pc Γ b hb b.opn[i].id b.items.length (Nat.le_refl _);have hlt:=last_lt b.items b.opn[i].id b.items.length;obtain⟨K,hK⟩:∃ K,last b.items b.opn[i].id b.items.length=K:=⟨_,rfl⟩;rw[hK] at ca hlt;obtain⟨l1,l2⟩:=hlt;simp -implicitDefEqProofs (disch:=omega) [go_sem];refine .inl (call_data ca (by simp[go_sem,book]) ?_);simp -implicitDefEqProofs (disch:=omega) [go_sem];refine side (by kernel_rfl) ?_;by_cases g0:0<=K;rotate_left
   . have hqf:q=false:=no fun r=>g0 (hK ▸ (r.ends i h).k0);simp -implicitDefEqProofs (disch:=omega) [go_sem,hqf];refine side (by kernel_rfl) ?_;simp -implicitDefEqProofs (disch:=omega) [go_sem,hqf,Try.results17]
   have hk:K.toNat<b.items.length:=by omega
   have hgd:b.items.getD K.toNat default=b.items[K.toNat]:=by rw[List.getD_eq_getElem?_getD,List.getElem?_eq_getElem hk];rfl
   by_cases g1:b.items[K.toNat].inn=b.opn[i].inn;rotate_left
   . have hqf:q=false:=no fun r=>g1 (by have:=(r.ends i h).inn;rw[hK,hgd] at this;exact this);simp -implicitDefEqProofs (disch:=omega) [go_sem,hqf,g1];refine side (by kernel_rfl) ?_;simp -implicitDefEqProofs (disch:=omega) [go_sem,hqf,Try.results17]
   by_cases g2:b.items[K.toNat].out=b.opn[i].out;rotate_left
   . have hqf:q=false:=no fun r=>g2 (by have:=(r.ends i h).out;rw[hK,hgd] at this;exact this);simp -implicitDefEqProofs (disch:=omega) [go_sem,hqf,g1,g2];refine side (by kernel_rfl) ?_;simp -implicitDefEqProofs (disch:=omega) [go_sem,hqf,Try.results17]
   simp -implicitDefEqProofs (disch:=omega) [go_sem,g1,g2];refine side (by kernel_rfl) ?_;simp -implicitDefEqProofs (disch:=omega) [go_sem];refine next_ren ⟨i+1,by omega,fun j hj hji=>?_⟩ (by simp only;omega) [] (rhoL []) ?_
   . by_cases e:j=i
     . subst e;exact⟨hK ▸ g0,by rw[hK,hgd];exact g1,by rw[hK,hgd];exact g2⟩
     . exact hall j hj (by omega)
   apply ren_lists<;>simp -implicitDefEqProofs [go_sem]
 obtain rfl:i=b.opn.length:=by omega
 have hends:∀ (i:Nat) (h:i<b.opn.length),SessEnd b b.opn[i]:=fun i h=>hall i h h;simp -implicitDefEqProofs (disch:=omega) [go_sem]
 try clear hall h hi
 refine loop_ren (σ:={ i:Nat // i<=b.locks.length/\∀ (j:Nat) (h:j<b.locks.length),j<i->LockAt b j h }) (fun i=>⟨envL [(1,.ptr 0 0),(10,.data (.int .i64 i.1))],hpL [(0,.blk true [.data (.int .i64 b.next),.data (.sl 6 (sesss b.opn)),.data (.sl 5 (items b.items)),.data (.sl 3 (locks b.locks))])],1,0,182⟩) (fun i=>b.locks.length-i.1) ⟨0,by omega,fun j h hj=>absurd hj (by omega)⟩ [] (rhoL []) ?_ ?_
 . apply ren_lists<;>simp -implicitDefEqProofs [go_sem]
 rintro⟨i,hi,hall⟩;by_cases h:i<b.locks.length
 . have cn:=name_pc Γ b.locks[i].user (by have:=f5 _ (List.getElem_mem h);omega);have cf:=failed_pc Γ b hb b.locks[i].user;simp -implicitDefEqProofs (disch:=omega) [go_sem];refine .inl (call_data cn (by simp[go_sem]) ?_);by_cases k_user:nameOk b.locks[i].user;rotate_left
   . have hqf:q=false:=no fun r=>k_user (r.locks i h).user;simp -implicitDefEqProofs (disch:=omega) [go_sem,hqf,k_user,Try.results17]
   by_cases k_n0:1<=b.locks[i].n;rotate_left
   . have hqf:q=false:=no fun r=>k_n0 (r.locks i h).n0;simp -implicitDefEqProofs (disch:=omega) [go_sem,hqf,k_user,Try.results17]
   by_cases k_n1:b.locks[i].n<=255;rotate_left
   . have hqf:q=false:=no fun r=>k_n1 (r.locks i h).n1;simp -implicitDefEqProofs (disch:=omega) [go_sem,hqf,k_user,Try.results17]
   by_cases k_t0:0<=b.locks[i].at_;rotate_left
   . have hqf:q=false:=no fun r=>k_t0 (r.locks i h).t0;simp -implicitDefEqProofs (disch:=omega) [go_sem,hqf,k_user,Try.results17]
   by_cases k_t1:b.locks[i].at_<=1000000000;rotate_left
   . have hqf:q=false:=no fun r=>k_t1 (r.locks i h).t1;simp -implicitDefEqProofs (disch:=omega) [go_sem,hqf,k_user,Try.results17]
   simp -implicitDefEqProofs (disch:=omega) [go_sem,k_user];refine .inl (call_data cf (by simp[go_sem,book]) ?_);by_cases k_f:failed b b.locks[i].user=i;rotate_left
   . have hqf:q=false:=no fun r=>k_f (r.locks i h).f;simp -implicitDefEqProofs (disch:=omega) [go_sem,hqf,Try.results17]
   simp -implicitDefEqProofs (disch:=omega) [go_sem];refine next_ren ⟨i+1,by omega,fun j hj hji=>?_⟩ (by simp only;omega) [] (rhoL []) ?_
   . by_cases e:j=i
     . subst e;exact⟨k_user,k_n0,k_n1,k_t0,k_t1,k_f⟩
     . exact hall j hj (by omega)
   apply ren_lists<;>simp -implicitDefEqProofs [go_sem]
 obtain rfl:i=b.locks.length:=by omega
 have hqt:q=true:=yes ⟨n0,n1,len,ll,opens,hitems,hends,fun i h=>hall i h h⟩;simp -implicitDefEqProofs (disch:=omega) [go_sem,hqt,Try.results17]
end Bk
end Go.Proofs.Ytndnlfgchmjbjaa
