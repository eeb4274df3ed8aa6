/- What the walk's simp goes by, second part: code, calls, loops. Functions that hand back rows of their own, which the caller may write: a contract of its own (OC), and its use in a call. Calls in operations whose order is open that hand back rows of their own, or that write rows of the caller's. Arrays of numbers, held against each other. What came in, read as plain data: the arguments of a law, the listed variables. Rows of bytes; what arguments are. Choices that the numbers at hand decide: by omega, in the walk's simp. (Import it where the walk should decide by itself.) Functions that may panic, on plain data; functions that are lent a row of the caller's. A row of the caller's, lent to a call: the call is looked at with this row alone. The closed facts on the types. The state table: the document's own functions. The state table: the document's own Next, Has, Ints, Timed, Name. The state table: the document's own names. Strings gone through: bytes below 128 are runes. -/
import Derived.Test.YtnggelbagedlfaaDoorPk3
import Derived.Laws.Bits64
import Derived.Laws.BitsAllLaws
import Derived.DeepKeys
import Derived.Laws.StructEq
import Derived.OpenShut
import Derived.SizedLaws
import Derived.LaidMore
import Derived.KernelRfl
import Derived.Test.YtnggelbagedlfaaDoorChecked
namespace Go.Proofs.YtnggelbagedlfaaDoor
open Go.RowKit
set_option linter.unusedSimpArgs false
set_option linter.unusedVariables false
set_option maxRecDepth 100000
theorem side {p q:Prop} (h:p) (k:q):sideK p q:=⟨h,k⟩
/- Numbers. -/
@[go_sem] theorem wrap64 {x:Int} (h:-9223372036854775808≤x∧x≤9223372036854775807):IntKind.i64.wrap x = x:=by rw [IntKind.wrap_i64];omega
@[go_sem] theorem wrapI32 {x:Int} (h:-2147483648≤x∧x≤2147483647):IntKind.i32.wrap x = x:=by rw [IntKind.wrap_i32];omega
theorem mod_of {a:Nat} {m:Nat} (h:a < m):a % m = a:=Nat.mod_eq_of_lt h
@[go_sem] theorem get_zero {α:Type} (x:α) (l:List α):(x :: l)[0]? = some x:=rfl
@[go_sem] theorem get_succ {α:Type} (x:α) (l:List α) (i:Nat):(x :: l)[i + 1]? = l[i]?:=rfl
def condK (d:D) (x y:Prop):Prop:=match d with
 | .data (.bool b)=>ifW b x y
 | _=>False
@[go_sem] theorem condK_bool (b:Bool) (x y:Prop):condK (.data (.bool b)) x y = ifW b x y:=rfl
@[congr] theorem condK_congr {n0:Nat} (tk:tick = n0) {d d':D} (h:d = d') (x y:Prop):condK d x y = condK d' x y:=by rw [h]
section
variable (P:Program) (Γ:Nat->Option (List Data))
@[go_sem] theorem wpF_skip (Q:Exit->St->Prop) (s:St):wpF P Γ .skip Q s = Q .normal s:=rfl
@[go_sem] theorem wpF_draw (i:Nat) (ops:List Oper) (Q:Exit->St->Prop) (s:St):wpF P Γ (.region i ops.toArray true) Q s = drawW P Γ ops.toArray ops s [] (fun s' tr=>sideK (drawOk2 ops.toArray tr s.nx s'.nx = true) (Q .normal s')):=rfl
@[go_sem] theorem wpF_row (i:Nat) (ops:List Oper) (Q:Exit->St->Prop) (s:St):wpF P Γ (.region i ops.toArray false) Q s = opsW P Γ ops.toArray ops s (Q .normal):=rfl
@[go_sem] theorem wpF_seq (x y:Code) (Q:Exit->St->Prop) (s:St):wpF P Γ (.seq x y) Q s = wpF P Γ x (thenW (wpF P Γ y Q) Q) s:=rfl
@[go_sem] theorem wpF_cond (c:Operand) (x y:Code) (Q:Exit->St->Prop) (s:St):wpF P Γ (.cond c x y) Q s = condK (evalD Γ s.env c) (wpF P Γ x Q s) (wpF P Γ y Q s):=rfl
@[go_sem] theorem wpF_block (id:Nat) (b:Code) (Q:Exit->St->Prop) (s:St):wpF P Γ (.block id b) Q s = wpF P Γ b (blockW id Q) s:=rfl
@[go_sem] theorem wpF_loop (b:Code) (Q:Exit->St->Prop) (s:St):wpF P Γ (.loop b) Q s = LoopW (wpF P Γ b) Q s:=rfl
@[go_sem] theorem wpF_exit (id:Nat) (Q:Exit->St->Prop) (s:St):wpF P Γ (.exit id) Q s = Q (.exit id) s:=rfl
@[go_sem] theorem wpF_ret (Q:Exit->St->Prop) (s:St):wpF P Γ .ret Q s = Q .ret s:=rfl
@[go_sem] theorem thenW_normal (n:St->Prop) (Q:Exit->St->Prop) (s:St):thenW n Q .normal s = n s:=rfl
@[go_sem] theorem thenW_exit (n:St->Prop) (Q:Exit->St->Prop) (s:St) (id:Nat):thenW n Q (.exit id) s = Q (.exit id) s:=rfl
@[go_sem] theorem thenW_ret (n:St->Prop) (Q:Exit->St->Prop) (s:St):thenW n Q .ret s = Q .ret s:=rfl
@[go_sem] theorem blockW_normal (id:Nat) (Q:Exit->St->Prop) (s:St):blockW id Q .normal s = Q .normal s:=rfl
@[go_sem] theorem blockW_exit (id i:Nat) (Q:Exit->St->Prop) (s:St):blockW id Q (.exit i) s = ifW (decide (i = id)) (Q .normal s) (Q (.exit i) s):=by
 by_cases h:i = id <;> simp [blockW,ifW,h]
@[go_sem] theorem blockW_ret (id:Nat) (Q:Exit->St->Prop) (s:St):blockW id Q .ret s = Q .ret s:=rfl
@[congr] theorem thenW_congr {n0:Nat} (tk:tick = n0) (n:St->Prop) (Q:Exit->St->Prop) (x:Exit) (s:St):thenW n Q x s = thenW n Q x s:=rfl
@[congr] theorem blockW_congr {n0:Nat} (tk:tick = n0) (id:Nat) (Q:Exit->St->Prop) (x:Exit) (s:St):blockW id Q x s = blockW id Q x s:=rfl
@[congr] theorem resK_congr {n0:Nat} (tk:tick = n0) {l l':List ResultVar} (h:l = l') (s:St) (K:List D->Prop):resK P l s K = resK P l' s K:=by rw [h]
@[congr] theorem retQ_congr {n0:Nat} (tk:tick = n0) (fn:Func) (r:Data) (x:Exit) (s:St):retQ P fn r x s = retQ P fn r x s:=rfl
@[congr] theorem retDQ_congr {n0:Nat} (tk:tick = n0) (fn:Func) (K:D->(Nat->Blk)->Nat->Prop) (x:Exit) (s:St):retDQ P fn K x s = retDQ P fn K x s:=rfl
@[go_sem] theorem retQ_ret (fn:Func) (r:Data) (s:St):retQ P fn r .ret s = resK P fn.results.toList s fun ds=>∃ xs,FrzL true s.hp ds xs∧r = tupD xs:=rfl
@[go_sem] theorem retQ_normal (fn:Func) (r:Data) (s:St):retQ P fn r .normal s = resK P fn.results.toList s fun ds=>∃ xs,FrzL true s.hp ds xs∧r = tupD xs:=rfl
@[go_sem] theorem retDQ_ret (fn:Func) (K:D->(Nat->Blk)->Nat->Prop) (s:St):retDQ P fn K .ret s = resK P fn.results.toList s fun ds=>∃ d,tupDD ds = some d∧K d s.hp s.nx:=rfl
@[go_sem] theorem retDQ_normal (fn:Func) (K:D->(Nat->Blk)->Nat->Prop) (s:St):retDQ P fn K .normal s = resK P fn.results.toList s fun ds=>∃ d,tupDD ds = some d∧K d s.hp s.nx:=rfl
@[go_sem] theorem tupDD_one (d:D):tupDD [d] = some d:=rfl
def mkTup (ds:List D):D:=match allData ds with
 | some xs=>.data (.tup xs)
 | none=>.tp ds
@[go_sem] theorem tupDD_two (a b:D) (l:List D):tupDD (a :: b :: l) = some (mkTup (a :: b :: l)):=rfl
@[go_sem] theorem mkTup_eq (ds:List D):mkTup ds = match allData ds with
 | some xs=>.data (.tup xs)
 | none=>.tp ds:=rfl
@[go_sem] theorem resK_nil (s:St) (K:List D->Prop):resK P [] s K = K []:=rfl
@[go_sem] theorem resK_tmp (t:Nat) (rest:List ResultVar) (s:St) (K:List D->Prop):resK P (.tmp t :: rest) s K = putK (s.env t) fun d=>resK P rest s fun ds=>K (d :: ds):=rfl
@[go_sem] theorem resK_cell (a:Nat) (t:TypeId) (rest:List ResultVar) (s:St) (K:List D->Prop):resK P (.cell a t :: rest) s K = loadK P t (s.env a) s.hp fun d _=>resK P rest s fun ds=>K (d :: ds):=rfl
@[go_sem] theorem extract_tup (vs:List Data) (i:Nat) (K:D->Prop):extractK (.data (.tup vs)) i K = someK (vs[i]?) fun v=>putK (.data v) K:=by
 unfold extractK someK putK
 apply propext
 constructor
 · rintro ⟨v,hv,hk⟩;rw [hv];exact hk
 · intro hk
   cases h:vs[i]? with
   | none=>rw [h] at hk;exact hk.elim
   | some v=>rw [h] at hk;exact ⟨v,h,hk⟩
@[congr] theorem extractK_congr {n0:Nat} (tk:tick = n0) {x x':D} (h:x = x') (i:Nat) (K:D->Prop):extractK x i K = extractK x' i K:=by rw [h]
@[go_sem] theorem partK_eq (t:TypeId) (cs:List D) (off:Nat) (K:D->Prop):partK P t cs off K = aggK (aggT P t) (someK (szT P t) fun n=>sideK (off + n≤cs.length) (putK (mkAgg ((cs.drop off).take n)) K)) (someK (cs[off]?) fun d=>K d):=by
 unfold partK aggK someK sideK putK
 cases aggT P t with
 | none=>cases szT P t <;> rfl
 | some b =>
   cases b
   · cases szT P t <;> simp only <;> cases cs[off]? <;> simp
   · cases szT P t <;> rfl
@[congr] theorem partK_congr {n0:Nat} (tk:tick = n0) (t:TypeId) {cs cs':List D} (h:cs = cs') {off off':Nat} (h2:off = off') (K:D->Prop):partK P t cs off K = partK P t cs' off' K:=by rw [h,h2]
@[congr] theorem fieldK_congr {n0:Nat} (tk:tick = n0) (t:TypeId) {x x':D} (h:x = x') (f:Nat) (K:D->Prop):fieldK P t x f K = fieldK P t x' f K:=by rw [h]
@[go_sem] theorem index_data (t:TypeId) (cs:List Data) (k:IntKind) (i:Int) (K:D->Prop):indexK P t (.data (.agg cs)) (.data (.int k i)) K = someK (arrT P t) fun ne=>sideK (0≤i) (sideK (i < ne.1) (someK (szT P ne.2) fun es=>partK P ne.2 (cs.map .data) (i.toNat * es) K)):=by
 unfold indexK aggD someK sideK
 cases arrT P t with
 | none=>rfl
 | some ne=>obtain ⟨n,e⟩:=ne;simp only;congr 2;cases szT P e <;> rfl
/-- A slice expression. -/
def slcK (t:TypeId) (x:D) (lo hi:Option D) (H:Nat->Blk) (K:D->List Nat->List (Nat × Blk)->Prop):Prop:=match x with
 | .ptr _ _ | .cptr _=>sliceArrK P t x lo hi none H fun d rd=>K d rd []
 | .cut g off len cp es=>cutK P t g off len cp es lo hi none fun d=>K d [] []
 | _=>sliceK P t x lo hi none fun d=>K d [] []
/-- A slice expression with three bounds. -/
def slc3K (t:TypeId) (x:D) (lo hi mx:Option D) (K:D->List Nat->List (Nat × Blk)->Prop):Prop:=match x with
 | .cut g off len cp es=>cutK P t g off len cp es lo hi mx fun d=>K d [] []
 | _=>False
@[congr] theorem slc3K_congr {n0:Nat} (tk:tick = n0) (t:TypeId) {x x':D} (h:x = x') {lo lo' hi hi' mx mx':Option D} (h2:lo = lo') (h3:hi = hi') (h4:mx = mx') (K:D->List Nat->List (Nat × Blk)->Prop):slc3K P t x lo hi mx K = slc3K P t x' lo' hi' mx' K:=by rw [h,h2,h3,h4]
@[congr] theorem boundsC_congr {n0:Nat} (tk:tick = n0) (n c:Nat) {lo lo' hi hi' mx mx':Option D} (h2:lo = lo') (h3:hi = hi') (h4:mx = mx') (K:Nat->Nat->Nat->Prop):boundsC n c lo hi mx K = boundsC n c lo' hi' mx' K:=by rw [h2,h3,h4]
@[go_sem] theorem slc_cut (t:TypeId) (g off len cp es:Nat) (lo hi:Option D) (H:Nat->Blk) (K:D->List Nat->List (Nat × Blk)->Prop):slcK P t (.cut g off len cp es) lo hi H K = cutK P t g off len cp es lo hi none fun d=>K d [] []:=rfl
@[congr] theorem sliceK_congr {n0:Nat} (tk:tick = n0) (t:TypeId) {x x':D} (h:x = x') {lo lo' hi hi' mx mx':Option D} (h2:lo = lo') (h3:hi = hi') (h4:mx = mx') (K:D->Prop):sliceK P t x lo hi mx K = sliceK P t x' lo' hi' mx' K:=by rw [h,h2,h3,h4]
@[go_sem] theorem slc3_cut (t:TypeId) (g off len cp es:Nat) (lo hi mx:Option D) (K:D->List Nat->List (Nat × Blk)->Prop):slc3K P t (.cut g off len cp es) lo hi mx K = cutK P t g off len cp es lo hi mx fun d=>K d [] []:=rfl
@[congr] theorem slcK_congr {n0:Nat} (tk:tick = n0) (t:TypeId) {x x':D} (h:x = x') {lo lo' hi hi':Option D} (h2:lo = lo') (h3:hi = hi') (H:Nat->Blk) (K:D->List Nat->List (Nat × Blk)->Prop):slcK P t x lo hi H K = slcK P t x' lo' hi' H K:=by rw [h,h2,h3]
@[congr] theorem boundsK_congr {n0:Nat} (tk:tick = n0) (n:Nat) {lo lo' hi hi':Option D} (h2:lo = lo') (h3:hi = hi') (K:Nat->Nat->Prop):boundsK n lo hi K = boundsK n lo' hi' K:=by rw [h2,h3]
@[go_sem] theorem slc_sl (t:TypeId) (es:Nat) (l:List Data) (lo hi:Option D) (H:Nat->Blk) (K:D->List Nat->List (Nat × Blk)->Prop):slcK P t (.data (.sl es l)) lo hi H K = someK (sliceT P t) fun e=>sideK (szT P e = some es) (boundsK l.length lo hi fun a b=>putK (.data (.sl es ((l.take b).drop a))) fun d=>K d [] []):=by
 unfold slcK sliceK someK sideK putK
 cases sliceT P t <;> rfl
@[go_sem] theorem slc_str (t:TypeId) (s:ByteArray) (lo hi:Option D) (H:Nat->Blk) (K:D->List Nat->List (Nat × Blk)->Prop):slcK P t (.data (.str s)) lo hi H K = sideK (strT P t = true) (boundsK s.size lo hi fun a b=>putK (.data (.str (s.extract a b))) fun d=>K d [] []):=rfl
@[go_sem] theorem bounds_hi (n:Nat) (k:IntKind) (h:Int) (K:Nat->Nat->Prop):boundsK n none (some (.data (.int k h))) K = sideK (0≤h) (sideK (h≤n) (natK h.toNat fun b=>K 0 b)):=by simp [boundsK,natD,sideK,natK]
@[go_sem] theorem bounds_lo (n:Nat) (k:IntKind) (l:Int) (K:Nat->Nat->Prop):boundsK n (some (.data (.int k l))) none K = sideK (0≤l) (sideK (l≤n) (natK l.toNat fun a=>K a n)):=by simp [boundsK,natD,sideK,natK]
@[go_sem] theorem bounds_both (n:Nat) (k k':IntKind) (l h:Int) (K:Nat->Nat->Prop):boundsK n (some (.data (.int k l))) (some (.data (.int k' h))) K = sideK (0≤l) (sideK (l≤h) (sideK (h≤n) (natK l.toNat fun a=>natK h.toNat fun b=>K a b))):=by simp [boundsK,natD,sideK,natK]
/-- Plain data. -/
def datK (x:D) (K:Data->Prop):Prop:=match x with
 | .data d=>K d
 | _=>False
@[congr] theorem datK_congr {n0:Nat} (tk:tick = n0) {x x':D} (h:x = x') (K:Data->Prop):datK x K = datK x' K:=by rw [h]
@[go_sem] theorem datK_data (d:Data) (K:Data->Prop):datK (.data d) K = K d:=rfl
/-- What an interface holds. -/
def ifcK (x:D) (K:TypeId->Data->Prop):Prop:=match x with
 | .data (.ifc t d)=>K t d
 | _=>False
@[congr] theorem ifcK_congr {n0:Nat} (tk:tick = n0) {x x':D} (h:x = x') (K:TypeId->Data->Prop):ifcK x K = ifcK x' K:=by rw [h]
@[go_sem] theorem ifcK_ifc (t:TypeId) (d:Data) (K:TypeId->Data->Prop):ifcK (.data (.ifc t d)) K = K t d:=rfl
def invK (P:Program) (name:String) (t:TypeId) (K:FuncId->Prop):Prop:=∃ f,MethOk P name t f∧K f
@[congr] theorem invK_congr {n0:Nat} (tk:tick = n0) (name:String) (t:TypeId) (K:FuncId->Prop):invK P name t K = invK P name t K:=rfl
section
variable (dst:Option Nat) (ty:TypeId) (pos:String) (af:Array Edge) (gd:Option (Nat × Bool)) (e:Nat->D) (H:Nat->Blk) (fr:Nat) (K:D->List Nat->List (Nat × Blk)->Prop)
@[go_sem] theorem opK_slice (t:TypeId) (x:Operand) (lo hi:Option Operand):opK P Γ ⟨dst,.slice t x lo hi none,ty,pos,af,gd⟩ e H fr K = slcK P t (evalD Γ e x) (lo.map (evalD Γ e)) (hi.map (evalD Γ e)) H K:=by
 simp only [opK,slcK,Option.map_none]
 cases evalD Γ e x <;> rfl
@[go_sem] theorem opK_slice3 (t:TypeId) (x m:Operand) (lo hi:Option Operand):opK P Γ ⟨dst,.slice t x lo hi (some m),ty,pos,af,gd⟩ e H fr K = (match evalD Γ e x with
 | .ptr _ _ | .cptr _=>sliceArrK P t (evalD Γ e x) (lo.map (evalD Γ e)) (hi.map (evalD Γ e)) (some (evalD Γ e m)) H fun d rd=>K d rd []
 | .cut g off len cp es=>cutK P t g off len cp es (lo.map (evalD Γ e)) (hi.map (evalD Γ e)) (some (evalD Γ e m)) fun d=>K d [] []
 | _=>sliceK P t (evalD Γ e x) (lo.map (evalD Γ e)) (hi.map (evalD Γ e)) (some (evalD Γ e m)) fun d=>K d [] []):=rfl
@[go_sem] theorem opK_makeFunc (f:FuncId) (caps:Array Operand):opK P Γ ⟨dst,.makeFunc (.func f) #[] caps,ty,pos,af,gd⟩ e H fr K = putK (.fn f (caps.toList.map (evalD Γ e))) fun d=>K d [] []:=rfl
@[go_sem] theorem opK_call (x:Operand) (args:Array Operand) (ts:Array TypeId):opK P Γ ⟨dst,.call ⟨.value x,args,ts⟩,ty,pos,af,gd⟩ e H fr K = someK (fnD (evalD Γ e x)) fun fc=>callK P Γ fc.1 (fc.2.1++(args.toList.map (evalD Γ e)++fc.2.2)) H K:=by
 simp only [opK]
 cases fnD (evalD Γ e x)
 · rw [someK_none]
 · rw [someK_some]
@[go_sem] theorem effK_call (x:Operand) (args:Array Operand) (ts:Array TypeId) (K:D->List Nat->List (Nat × Blk)->Nat->Prop):effK P Γ ⟨dst,.call ⟨.value x,args,ts⟩,ty,pos,af,gd⟩ e H fr K = someK (fnD (evalD Γ e x)) fun fc=>effC P Γ fc.1 (fc.2.1++(args.toList.map (evalD Γ e)++fc.2.2)) H fr K:=by
 simp only [effK]
 cases fnD (evalD Γ e x)
 · rw [someK_none]
 · rw [someK_some]
@[congr] theorem clearK_congr {n0:Nat} (tk:tick = n0) (t:TypeId) {x x':D} (h:x = x') (H:Nat->Blk) (K:D->List Nat->List (Nat × Blk)->Prop):clearK P t x H K = clearK P t x' H K:=by rw [h]
@[go_sem] theorem opK_clear (x:Operand) (t:TypeId):opK P Γ ⟨dst,.call ⟨.builtin .clear,#[x],#[t]⟩,ty,pos,af,gd⟩ e H fr K = clearK P t (evalD Γ e x) H K:=rfl
@[congr] theorem capK_congr {n0:Nat} (tk:tick = n0) (t:TypeId) {x x':D} (h:x = x') (K:D->Prop):capK P t x K = capK P t x' K:=by rw [h]
@[congr] theorem lenK_congr {n0:Nat} (tk:tick = n0) (t:TypeId) {x x':D} (h:x = x') (K:D->Prop):lenK P t x K = lenK P t x' K:=by rw [h]
@[go_sem] theorem opK_len (x:Operand) (t:TypeId):opK P Γ ⟨dst,.call ⟨.builtin .len,#[x],#[t]⟩,ty,pos,af,gd⟩ e H fr K = lenK P t (evalD Γ e x) fun d=>K d [] []:=rfl
@[go_sem] theorem opK_cap (x:Operand) (t:TypeId):opK P Γ ⟨dst,.call ⟨.builtin .cap,#[x],#[t]⟩,ty,pos,af,gd⟩ e H fr K = capK P t (evalD Γ e x) fun d=>K d [] []:=rfl
@[go_sem] theorem opK_copy (x y:Operand) (t u:TypeId):opK P Γ ⟨dst,.call ⟨.builtin .copy,#[x,y],#[t,u]⟩,ty,pos,af,gd⟩ e H fr K = copyK P t (evalD Γ e x) (evalD Γ e y) H K:=rfl
@[go_sem] theorem opK_append (x y:Operand) (t u:TypeId):opK P Γ ⟨dst,.call ⟨.builtin .append,#[x,y],#[t,u]⟩,ty,pos,af,gd⟩ e H fr K = appendK P t u (evalD Γ e x) (evalD Γ e y) H fr K:=rfl
@[go_sem] theorem opK_min (x y:Operand) (ts:Array TypeId):opK P Γ ⟨dst,.call ⟨.builtin .min,#[x,y],ts⟩,ty,pos,af,gd⟩ e H fr K = minmaxK false [evalD Γ e x,evalD Γ e y] fun d=>K d [] []:=rfl
@[go_sem] theorem opK_max (x y:Operand) (ts:Array TypeId):opK P Γ ⟨dst,.call ⟨.builtin .max,#[x,y],ts⟩,ty,pos,af,gd⟩ e H fr K = minmaxK true [evalD Γ e x,evalD Γ e y] fun d=>K d [] []:=rfl
@[congr] theorem minmaxK_congr {n0:Nat} (tk:tick = n0) (b:Bool) {ds ds':List D} (h:ds = ds') (K:D->Prop):minmaxK b ds K = minmaxK b ds' K:=by rw [h]
@[congr] theorem copyK_congr {n0:Nat} (tk:tick = n0) (t:TypeId) {x x' y y':D} (h:x = x') (h2:y = y') (H:Nat->Blk) (K:D->List Nat->List (Nat × Blk)->Prop):copyK P t x y H K = copyK P t x' y' H K:=by rw [h,h2]
@[congr] theorem appendK_congr {n0:Nat} (tk:tick = n0) (t u:TypeId) {x x' y y':D} (h:x = x') (h2:y = y') (H:Nat->Blk) (fr:Nat) (K:D->List Nat->List (Nat × Blk)->Prop):appendK P t u x y H fr K = appendK P t u x' y' H fr K:=by rw [h,h2]
@[congr] theorem srcK_congr {n0:Nat} (tk:tick = n0) {x x':D} (h:x = x') (es:Nat) (H:Nat->Blk) (K:Nat->List D->List Nat->Prop):srcK x es H K = srcK x' es H K:=by rw [h]
@[go_sem] theorem len_str (t:TypeId) (s:ByteArray) (K:D->Prop):lenK P t (.data (.str s)) K = sideK (strT P t = true) (putK (.data (.int .i64 s.size)) K):=rfl
@[go_sem] theorem len_sl (t:TypeId) (es:Nat) (l:List Data) (K:D->Prop):lenK P t (.data (.sl es l)) K = sideK ((sliceT P t).isSome = true) (putK (.data (.int .i64 l.length)) K):=rfl
@[go_sem] theorem len_ref (t:TypeId) (g o n es:Nat) (K:D->Prop):lenK P t (.ref g o n es) K = sideK ((sliceT P t).isSome = true) (putK (.data (.int .i64 n)) K):=rfl
@[go_sem] theorem len_cut (t:TypeId) (g o n c es:Nat) (K:D->Prop):lenK P t (.cut g o n c es) K = sideK ((sliceT P t).isSome = true) (putK (.data (.int .i64 n)) K):=rfl
@[go_sem] theorem len_ful (t:TypeId) (es:Nat) (l:List Data) (K:D->Prop):lenK P t (.ful es l) K = sideK ((sliceT P t).isSome = true) (putK (.data (.int .i64 l.length)) K):=rfl
@[go_sem] theorem cap_emp (t:TypeId) (es:Nat) (K:D->Prop):capK P t (.emp es) K = sideK ((sliceT P t).isSome = true) (putK (.data (.int .i64 0)) K):=rfl
@[go_sem] theorem len_emp (t:TypeId) (es:Nat) (K:D->Prop):lenK P t (.emp es) K = sideK ((sliceT P t).isSome = true) (putK (.data (.int .i64 0)) K):=rfl
@[go_sem] theorem min_int (k k':IntKind) (a b:Int) (K:D->Prop):minmaxK false [.data (.int k a),.data (.int k' b)] K = sideK (k = k') (putK (.data (.int k (if b < a then b else a))) K):=rfl
@[go_sem] theorem max_int (k k':IntKind) (a b:Int) (K:D->Prop):minmaxK true [.data (.int k a),.data (.int k' b)] K = sideK (k = k') (putK (.data (.int k (if b > a then b else a))) K):=rfl
@[go_sem] theorem src_sl (es es':Nat) (l:List Data) (K:Nat->List D->List Nat->Prop):srcK (.data (.sl es' l)) es H K = sideK (es' = es) (natK l.length fun n=>cellsK ((flat l).map .data) fun cs=>K n cs []):=rfl
@[go_sem] theorem src_emp (es es':Nat) (K:Nat->List D->List Nat->Prop):srcK (.emp es') es H K = K 0 [] []:=rfl
@[go_sem] theorem src_ref (g off len es es':Nat) (K:Nat->List D->List Nat->Prop):srcK (.ref g off len es') es H K = sideK (es' = es) (blkK (H g) fun _ cells=>sideK (off + len * es≤cells.length) (cellsK ((cells.drop off).take (len * es)) fun cs=>K len cs [g])):=by
 unfold srcK sideK blkK cellsK
 simp only
 cases H g <;> rfl
@[go_sem] theorem src_str (s:ByteArray) (es:Nat) (K:Nat->List D->List Nat->Prop):srcK (.data (.str s)) es H K = sideK (es = 1) (natK s.size fun n=>cellsK (s.toList.map fun b=>.data (.int .u8 b.toNat)) fun cs=>K n cs []):=rfl
/-- What is put behind a row. -/
def appK (e xt:TypeId) (es by_ len:Nat) (y:D) (H:Nat->Blk) (K:Nat->List D->List Nat->Prop):Prop :=
 if (intT P xt).isSome then (match y with
  | .data (.int _ n)=>0≤n∧(len + n) * by_≤140737488355328∧len + n≤140737488355328∧zerosK P e n.toNat fun z=>K n.toNat z []
  | _=>False)
  else ((sliceT P xt).isSome || strT P xt) = true∧srcK y es H fun n cs rd=>cs.all D.cell = true∧(len + n) * by_≤140737488355328∧len + n≤140737488355328∧K n cs rd
@[congr] theorem appK_congr {n0:Nat} (tk:tick = n0) (el xt:TypeId) (es by_ len:Nat) {y y':D} (h:y = y') (H:Nat->Blk) (K:Nat->List D->List Nat->Prop):appK P el xt es by_ len y H K = appK P el xt es by_ len y' H K:=by rw [h]
@[go_sem] def appS (el xt:TypeId) (es by_ len:Nat) (y:D) (H:Nat->Blk) (K:Nat->List D->List Nat->Prop):Prop:=sideK ((intT P xt).isSome = false) (sideK (((sliceT P xt).isSome || strT P xt) = true) (srcK y es H fun n cs rd=>sideK (cs.all D.cell = true) (sideK ((len + n) * by_≤140737488355328) (sideK (len + n≤140737488355328) (K n cs rd)))))
theorem appK_src (el xt:TypeId) (es by_ len:Nat) (y:D) (hy:∀ k n,y≠.data (.int k n)) (H:Nat->Blk) (K:Nat->List D->List Nat->Prop):appK P el xt es by_ len y H K = appS P el xt es by_ len y H K:=by
 unfold appK appS sideK
 by_cases h:(intT P xt).isSome
 · simp only [h,if_true]
   cases y with
   | data x=>cases x <;> simp_all
   | _=>simp
 · simp [h]
@[go_sem] theorem appK_ref (el xt:TypeId) (es by_ len:Nat) (g o n s:Nat) (H:Nat->Blk) (K:Nat->List D->List Nat->Prop):appK P el xt es by_ len (.ref g o n s) H K = appS P el xt es by_ len (.ref g o n s) H K:=appK_src P el xt es by_ len _ (by simp) H K
@[go_sem] theorem append_ref (t u:TypeId) (g len es:Nat) (y:D):appendK P t u (.ref g 0 len es) y H fr K = someK (sliceT P t) fun el=>someK (szT P el) fun n=>someK (byT P el) fun by_=>sideK (0 < n) (sideK (zlT P el = some n) (sideK (es = n) (blkK (H g) fun rw cells=>ifW rw (sideK (cells.length = len * n) (appK P el u n by_ len y H fun m cs rd=>cellsK (cells++cs) fun nc=>K (.ref fr 0 (len + m) n) (g :: rd) [(g,.dead),(fr,.blk true nc)])) False))):=by
 unfold appendK someK sideK appK blkK ifW cellsK
 simp only
 cases sliceT P t <;> simp only
 rename_i el
 cases szT P el <;> simp only
 cases byT P el <;> simp only
 cases H g with
 | dead=>rfl
 | obj o=>rfl
 | blk rw cells =>
   cases rw
   · rfl
   · simp only
     by_cases h:(intT P u).isSome
     · simp only [h,if_true]
       cases y with
       | data x=>cases x <;> rfl
       | _=>rfl
     · simp [h]
end
@[go_sem] theorem dcK_eq (dst:Option Nat) (ty:TypeId) (pos:String) (af:Array Edge) (gd:Option (Nat × Bool)) (e:Nat->D) (H:Nat->Blk) (nx:Nat) (K:D->(Nat->Blk)->Nat->Prop) (x:Operand) (args:Array Operand) (ts:Array TypeId) :
 dcK P Γ ⟨dst,.call ⟨.value x,args,ts⟩,ty,pos,af,gd⟩ e H nx K = someK (fnD (evalD Γ e x)) fun fc=>DC P Γ fc.1 (fc.2.1++(args.toList.map (evalD Γ e)++fc.2.2)) H nx K:=by
 unfold dcK someK
 simp only
 cases fnD (evalD Γ e x) <;> rfl
@[go_sem] theorem fnD_data (f:FuncId) (c:List Data):fnD (.data (.fn f c)) = some (f,[],c.map toD):=rfl
@[go_sem] theorem fnD_bnd (f:FuncId) (r:D):fnD (.bnd f r) = some (f,[r],[]):=rfl
@[go_sem] theorem fnD_fn (f:FuncId) (c:List D):fnD (.fn f c) = some (f,[],c):=rfl
variable {P Γ}
/-- A call whose arguments are plain data. -/
theorem call_data {f:FuncId} {ds:List D} {xs:List Data} {r:Data} {H:Nat->Blk} {K:D->List Nat->List (Nat × Blk)->Prop} (h:PC P Γ f xs r) (hd:ds = xs.map toD) (k:K (.data r) [] []):callK P Γ f ds H K:=by
 subst hd
 refine ⟨[],xs,r,[],(fun g hg=>by cases hg),h,.inr fun H' _=>?_,k⟩
 refine ⟨by simp,fun i d x hd hx=>?_⟩
 rw [List.getElem?_map,hx] at hd
 cases hd
 cases x with
 | pc c=>exact .cptr c
 | _=>exact .data _
/-- A call that keeps rows of the caller's: nobody writes them from there on. -/
theorem call_frz {f:FuncId} {ds:List D} {H:Nat->Blk} {K:D->List Nat->List (Nat × Blk)->Prop} (F rd:List Nat) {xs:List Data} {r:Data} (hF:∀ g∈F,∃ rw cells,H g = .blk rw cells) (h:PC P Γ f xs r) (hf:∀ H',(∀ g∈rd,H' g = H g)->FrzL false (Hp.upd H' (F.map fun g=>(g,fz (H g)))) ds xs) (k:K (.data r) rd (F.map fun g=>(g,fz (H g)))):callK P Γ f ds H K :=
 ⟨F,xs,r,rd,hF,h,.inr hf,k⟩
end
/-- Behind a loop's round: a state of the family,nearer to the end. -/
def NextW {σ:Type} (st:σ->St) (μ:σ->Nat) (x:σ) (s:St):Prop:=∃ y,WeakX s (st y)∧μ y < μ x
@[congr] theorem NextW_congr {n0:Nat} (tk:tick = n0) {σ:Type} (st:σ->St) (μ:σ->Nat) (x:σ) (s:St):NextW st μ x s = NextW st μ x s:=rfl
theorem next_ren {σ:Type} {st:σ->St} {μ:σ->Nat} {x:σ} {s:St} (y:σ) (hm:μ y < μ x) (F:List Nat) (ρ:Nat->Option Nat) (h:WeakR F ρ s (st y)):NextW st μ x s:=⟨y,.inr ⟨F,ρ,h⟩,hm⟩
theorem loop_ren {body:(Exit->St->Prop)->St->Prop} {Q:Exit->St->Prop} {s:St} {σ:Type} (st:σ->St) (μ:σ->Nat) (x0:σ) (F:List Nat) (ρ:Nat->Option Nat) (h0:WeakR F ρ s (st x0)) (h:∀ x,body (thenW (NextW st μ x) Q) (st x)):LoopW body Q s:=⟨σ,st,μ,x0,.inr ⟨F,ρ,h0⟩,h⟩
def startK (ds:List D) (n:Nat) (K:List D->Nat->Prop):Prop:=K ds n
@[congr] theorem startK_congr {n0:Nat} (tk:tick = n0) {ds ds':List D} (h:ds = ds') {n n':Nat} (h2:n = n') (K:List D->Nat->Prop):startK ds n K = startK ds' n' K:=by rw [h,h2]
@[go_sem] theorem startK_eq (ds:List D) (n:Nat) (K:List D->Nat->Prop):startK ds n K = K ds n:=rfl
section
variable {P:Program} {Γ:Nat->Option (List Data)}
theorem pc_by (hm:P.follows .mixedOrders = true) {f:FuncId} {fn:Func} {c:Code} {xs:List Data} {r:Data} (hf:P.funcs[f]? = some fn) (hb:fn.body = some c) (hc:CallOk P f)
 (h:startK (xs.map toD) (xs.length + (fn.ntmps - xs.length)) fun ds n=>wpF P Γ c (retQ P fn r) ⟨envArgs ds,fun _=>.dead,0,0,n⟩):PC P Γ f xs r:=pc_of hm hf hb hc h
end
theorem frzL_c {ok:Bool} {H:Nat->Blk} {d:D} {x:Data} {ds:List D} {xs:List Data} (h:Frz ok H d x) (t:FrzL ok H ds xs):FrzL ok H (d :: ds) (x :: xs):=(frzL_cons ok H d ds (x :: xs)).2 ⟨x,xs,rfl,h,t⟩
theorem frzL_n {ok:Bool} {H:Nat->Blk}:FrzL ok H [] []:=(frzL_nil ok H []).2 rfl
/-- Slots by a list. -/
def envL:List (Nat × D)->Nat->D
 | [],_=>.junk
 | (k,d) :: l,t=>if t = k then d else envL l t
def hpL:List (Nat × Blk)->Nat->Blk
 | [],_=>.dead
 | (k,d) :: l,t=>if t = k then d else hpL l t
@[go_sem] theorem envL_nil (t:Nat):envL [] t = .junk:=rfl
@[go_sem] theorem envL_cons (k:Nat) (d:D) (l:List (Nat × D)) (t:Nat):envL ((k,d) :: l) t = if t = k then d else envL l t:=rfl
@[go_sem] theorem hpL_nil (t:Nat):hpL [] t = .dead:=rfl
@[go_sem] theorem hpL_cons (k:Nat) (d:Blk) (l:List (Nat × Blk)) (t:Nat):hpL ((k,d) :: l) t = if t = k then d else hpL l t:=rfl
/-- All that it holds lies below a number. -/
def below (k:Nat):D->Bool
 | .ref g _ _ _=>decide (g < k)
 | .ptr g _=>decide (g < k)
 | .cut g _ _ _ _=>decide (g < k)
 | .mref g=>decide (g < k)
 | .iref g=>decide (g < k)
 | .agg cs=>allBelow k cs
 | .fn _ cs=>allBelow k cs
 | .bnd _ r=>below k r
 | .tp cs=>allBelow k cs
 | _=>true
where allBelow (k:Nat):List D->Bool
 | []=>true
 | d :: l=>below k d && allBelow k l
@[go_sem] theorem below_data (k:Nat) (x:Data):below k (.data x) = true:=rfl
@[go_sem] theorem below_ref (k g o n s:Nat):below k (.ref g o n s) = decide (g < k):=rfl
@[go_sem] theorem below_ptr (k g o:Nat):below k (.ptr g o) = decide (g < k):=rfl
@[go_sem] theorem below_cut (k g o n c s:Nat):below k (.cut g o n c s) = decide (g < k):=rfl
@[go_sem] theorem below_mref (k g:Nat):below k (.mref g) = decide (g < k):=rfl
@[go_sem] theorem below_iref (k g:Nat):below k (.iref g) = decide (g < k):=rfl
@[go_sem] theorem below_emp (k n:Nat):below k (.emp n) = true:=rfl
@[go_sem] theorem below_cptr (k:Nat) (c:List Data):below k (.cptr c) = true:=rfl
@[go_sem] theorem below_fn (k:Nat) (f:FuncId) (c:List D):below k (.fn f c) = below.allBelow k c:=rfl
@[go_sem] theorem below_bnd (k:Nat) (f:FuncId) (r:D):below k (.bnd f r) = below k r:=rfl
@[go_sem] theorem below_yld (k l:Nat):below k (.yld l) = true:=rfl
@[go_sem] theorem below_ful (k n:Nat) (l:List Data):below k (.ful n l) = true:=rfl
@[go_sem] theorem below_tp (k:Nat) (c:List D):below k (.tp c) = below.allBelow k c:=rfl
@[go_sem] theorem below_agg (k:Nat) (c:List D):below k (.agg c) = below.allBelow k c:=rfl
@[go_sem] theorem allBelow_nil (k:Nat):below.allBelow k [] = true:=rfl
@[go_sem] theorem allBelow_cons (k:Nat) (d:D) (l:List D):below.allBelow k (d :: l) = (below k d && below.allBelow k l):=rfl
/-- New numbers by a list. -/
def rhoL:List (Nat × Option Nat)->Nat->Option Nat
 | [],g=>some g
 | (k,o) :: l,g=>if g = k then o else rhoL l g
@[go_sem] theorem rhoL_nil (g:Nat):rhoL [] g = some g:=rfl
@[go_sem] theorem rhoL_cons (k:Nat) (o:Option Nat) (l:List (Nat × Option Nat)) (g:Nat):rhoL ((k,o) :: l) g = if g = k then o else rhoL l g:=rfl
@[go_sem] theorem fzH_eq (H:Nat->Blk) (F:List Nat) (g:Nat):fzH H F g = if g∈F then fz (H g) else H g:=rfl
section
variable {n:Nat} {ρ:Nat->Option Nat} {H:Nat->Blk}
def RenCells (n:Nat) (ρ:Nat->Option Nat) (H:Nat->Blk) (cs ds:List D):Prop:=cs.length≤ds.length∧∀ (i:Nat) (c d:D),cs[i]? = some c->ds[i]? = some d->Ren n ρ H c d
@[go_sem] theorem ren_data (x y:Data):Ren n ρ H (.data x) (.data y) ↔ x = y:=by
 constructor
 · intro h
   cases h with
   | data=>rfl
   | frz _ _ h=>cases h;rfl
 · rintro rfl;exact .data x
@[go_sem] theorem ren_ref (g off len es o off' len' es':Nat):Ren n ρ H (.ref g off len es) (.ref o off' len' es') ↔ g < n∧ρ g = some o∧off = off'∧len = len'∧es = es':=by
 constructor
 · intro h
   cases h with
   | ref _ _ _ _ _ h1 h2=>exact ⟨h1,h2,rfl,rfl,rfl⟩
 · rintro ⟨h1,h2,rfl,rfl,rfl⟩;exact .ref _ _ _ _ _ h1 h2
@[go_sem] theorem ren_refnil (g off len es es':Nat):Ren n ρ H (.ref g off len es) (.emp es') ↔ g < n∧ρ g = none∧off = 0∧len = 0:=by
 constructor
 · intro h
   cases h with
   | nil _ _ _ h1 h2=>exact ⟨h1,h2,rfl,rfl⟩
 · rintro ⟨h1,h2,rfl,rfl⟩;exact .nil _ _ _ h1 h2
@[go_sem] theorem ren_iref (g o:Nat):Ren n ρ H (.iref g) (.iref o) ↔ g < n∧ρ g = some o:=by
 constructor
 · intro h;cases h with | iref _ _ h1 h2=>exact ⟨h1,h2⟩
 · rintro ⟨h1,h2⟩;exact .iref _ _ h1 h2
end
/-- A row under its new number. -/
def RenK (n:Nat) (R:List (Nat × Option Nat)) (H:Nat->Blk) (rw:Bool) (cells:List D):Blk->Prop
 | .dead=>False
 | .obj _=>False
 | .blk rw' cells'=>rw = rw'∧RenCells n (rhoL R) H cells cells'
def RenO (n:Nat) (R:List (Nat × Option Nat)) (H:Nat->Blk) (rw:Bool) (cells:List D):Option Nat->Prop
 | some o=>RenK n R H rw cells (H o)
 | none=>cells = []
def RenS (n:Nat) (R:List (Nat × Option Nat)) (H:Nat->Blk) (o2:Ob):Blk->Prop
 | .obj o1=>RenOb n (rhoL R) H o2 o1
 | _=>False
def RenP (n:Nat) (R:List (Nat × Option Nat)) (H:Nat->Blk) (o2:Ob):Option Nat->Prop
 | some o=>RenS n R H o2 (H o)
 | none=>False
def RenB (n:Nat) (R:List (Nat × Option Nat)) (H:Nat->Blk) (g:Nat):Blk->Prop
 | .dead=>True
 | .blk rw cells=>g < n∧RenO n R H rw cells (rhoL R g)
 | .obj o=>g < n∧RenP n R H o (rhoL R g)
@[go_sem] theorem renB_obj (n:Nat) (R:List (Nat × Option Nat)) (H:Nat->Blk) (g:Nat) (o:Ob):RenB n R H g (.obj o) ↔ g < n∧RenP n R H o (rhoL R g):=Iff.rfl
@[go_sem] theorem renP_some (n:Nat) (R:List (Nat × Option Nat)) (H:Nat->Blk) (o2:Ob) (o:Nat):RenP n R H o2 (some o) ↔ RenS n R H o2 (H o):=Iff.rfl
@[go_sem] theorem renS_si (n:Nat) (R:List (Nat × Option Nat)) (H:Nat->Blk) (s s':ByteArray) (p p':Nat):RenS n R H (.si s p) (.obj (.si s' p')) ↔ s = s'∧p = p':=by
 constructor
 · intro h;cases h;exact ⟨rfl,rfl⟩
 · rintro ⟨rfl,rfl⟩;exact .si _ _
@[go_sem] theorem renK_blk (n:Nat) (R:List (Nat × Option Nat)) (H:Nat->Blk) (rw:Bool) (cells:List D) (rw':Bool) (cells':List D):RenK n R H rw cells (.blk rw' cells') ↔ rw = rw'∧RenCells n (rhoL R) H cells cells':=Iff.rfl
@[go_sem] theorem renO_some (n:Nat) (R:List (Nat × Option Nat)) (H:Nat->Blk) (rw:Bool) (cells:List D) (o:Nat):RenO n R H rw cells (some o) ↔ RenK n R H rw cells (H o):=Iff.rfl
@[go_sem] theorem renO_none (n:Nat) (R:List (Nat × Option Nat)) (H:Nat->Blk) (rw:Bool) (cells:List D):RenO n R H rw cells none ↔ cells = []:=Iff.rfl
@[go_sem] theorem renB_dead (n:Nat) (R:List (Nat × Option Nat)) (H:Nat->Blk) (g:Nat):RenB n R H g .dead ↔ True:=Iff.rfl
@[go_sem] theorem renB_blk (n:Nat) (R:List (Nat × Option Nat)) (H:Nat->Blk) (g:Nat) (rw:Bool) (cells:List D):RenB n R H g (.blk rw cells) ↔ g < n∧RenO n R H rw cells (rhoL R g):=Iff.rfl
theorem nodup_inj {α:Type} (f:α->Option Nat) (k:α->Nat):∀ l:List α,(l.filterMap f).Nodup->∀ p∈l,∀ q∈l,∀ o,f p = some o->f q = some o->k p = k q
 | [],_,p,hp,_,_,_,_,_=>by simp at hp
 | a :: l,h,p,hp,q,hq,o,e1,e2=>by
   have ht:(l.filterMap f).Nodup:=by
    rw [List.filterMap_cons] at h
    split at h
    · exact h
    · exact (List.nodup_cons.1 h).2
   have hn:∀ x∈l,f a = some o->f x = some o->False:=fun x hx ea ex=>by
    rw [List.filterMap_cons_some ea] at h
    exact (List.nodup_cons.1 h).1 (List.mem_filterMap.2 ⟨x,hx,ex⟩)
   rcases List.mem_cons.1 hp with ep | hp <;> rcases List.mem_cons.1 hq with eq | hq
   · rw [ep,eq]
   · rw [ep] at e1;exact (hn q hq e1 e2).elim
   · rw [eq] at e2;exact (hn p hp e2 e1).elim
   · exact nodup_inj f k l ht p hp q hq o e1 e2
theorem ren_lists {e:Nat->D} {H:Nat->Blk} {nx lo nt:Nat} {F:List Nat} (R:List (Nat × Option Nat)) (L:List (Nat × D)) (M:List (Nat × Blk)) (n:Nat) (hL:∀ p∈L,Ren n (rhoL R) (fzH H F) p.2 (e p.1)) (hM:∀ p∈M,RenB n R (fzH H F) p.1 p.2)
 (hi:(M.filterMap fun p=>rhoL R p.1).Nodup) (hlo:lo≤n) (hf:∀ p∈R,lo≤p.1) :
 WeakR F (rhoL R) ⟨e,H,nx,lo,nt⟩ ⟨envL L,hpL M,n,lo,nt⟩:=by
 have env:∀ (L:List (Nat × D)),(∀ p∈L,Ren n (rhoL R) (fzH H F) p.2 (e p.1))->∀ t,Ren n (rhoL R) (fzH H F) (envL L t) (e t):=by
  intro L
  induction L with
  | nil=>exact fun _ t=>.junk _
  | cons p L ih =>
    intro h t
    obtain ⟨k,d⟩:=p
    by_cases ht:t = k
    · subst ht
      have:=h (t,d) (by simp)
      simpa [envL] using this
    · simp only [envL,ht,if_false]
      exact ih (fun p hp=>h p (by simp [hp])) t
 have blk:∀ (M:List (Nat × Blk)) (g:Nat) (b:Blk),hpL M g = b->b = .dead ∨ (g,b)∈M:=by
  intro M
  induction M with
  | nil=>intro g b h;exact .inl h.symm
  | cons p M ih =>
    intro g b h
    obtain ⟨k,d⟩:=p
    by_cases hg:g = k
    · subst hg
      simp only [hpL,if_true] at h
      subst h
      exact .inr (by simp)
    · simp only [hpL,hg,if_false] at h
      rcases ih g b h with h | h
      · exact .inl h
      · exact .inr (by simp [h])
 have fix:∀ (R:List (Nat × Option Nat)),(∀ p∈R,lo≤p.1)->∀ g,g < lo->rhoL R g = some g:=by
  intro R
  induction R with
  | nil=>exact fun _ g _=>rfl
  | cons p R ih =>
    intro h g hg
    obtain ⟨k,o⟩:=p
    have:=h (k,o) (by simp)
    simp only [rhoL,show ¬ g = k by simp only at this;omega,if_false]
    exact ih (fun p hp=>h p (by simp [hp])) g hg
 refine ⟨env L hL,fun g rw cells hg=>?_,fun g g' o cells rw cells' hg hg' ho ho'=>?_,fun g o2 hg=>?_,fun g g' o p p' hg hg' ho ho'=>?_,rfl,hlo,fun g hg=>fix R hf g hg,rfl⟩
 rotate_left 2
 · rcases blk M g _ hg with h | h
   · cases h
   · obtain ⟨h1,h2⟩:=hM _ h
     refine ⟨h1,?_⟩
     simp only at h2
     cases ho:rhoL R g with
     | some o =>
       rw [ho] at h2
       have h3:RenS n R (fzH H F) o2 (fzH H F o):=h2
       cases hb:fzH H F o with
       | dead=>rw [hb] at h3;exact h3.elim
       | blk=>rw [hb] at h3;exact h3.elim
       | obj o1 =>
         rw [hb] at h3
         refine ⟨o,o1,rfl,?_,h3⟩
         show H o = .obj o1
         unfold fzH at hb
         split at hb
         · cases hH:H o with
           | dead=>rw [hH] at hb;cases hb
           | blk=>rw [hH] at hb;cases hb
           | obj o3=>rw [hH] at hb;exact hb
         · exact hb
     | none=>rw [ho] at h2;exact h2.elim
 · rcases blk M g _ hg with h | h
   · cases h
   · rcases blk M g' _ hg' with h' | h'
     · cases h'
     · exact nodup_inj (fun p:Nat × Blk=>rhoL R p.1) (fun p=>p.1) M hi _ h _ h' o ho ho'
 · rcases blk M g _ hg with h | h
   · cases h
   · obtain ⟨h1,h2⟩:=hM _ h
     refine ⟨h1,?_⟩
     simp only at h2
     cases ho:rhoL R g with
     | some o =>
       rw [ho] at h2
       have h3:RenK n R (fzH H F) rw cells (fzH H F o):=h2
       cases hb:fzH H F o with
       | dead=>rw [hb] at h3;exact h3.elim
       | obj o=>rw [hb] at h3;exact h3.elim
       | blk rw' cells' =>
         rw [hb] at h3
         obtain ⟨rfl,h4,h5⟩:=h3
         exact .inl ⟨o,cells',rfl,hb,h4,h5⟩
     | none=>rw [ho] at h2;exact .inr ⟨rfl,h2⟩
 · rcases blk M g _ hg with h | h
   · cases h
   · rcases blk M g' _ hg' with h' | h'
     · cases h'
     · exact nodup_inj (fun p:Nat × Blk=>rhoL R p.1) (fun p=>p.1) M hi _ h _ h' o ho ho'
mutual
/-- Numbers moved up. -/
def shD (n:Nat):D->D
 | .ref g off len es=>.ref (g + n) off len es
 | .ptr g off=>.ptr (g + n) off
 | .cut g off len cp es=>.cut (g + n) off len cp es
 | .mref g=>.mref (g + n)
 | .iref g=>.iref (g + n)
 | .agg cs=>.agg (shL n cs)
 | .fn f caps=>.fn f (shL n caps)
 | .bnd f r=>.bnd f (shD n r)
 | .tp cs=>.tp (shL n cs)
 | .data x=>.data x
 | .emp es=>.emp es
 | .cptr cells=>.cptr cells
 | .yld l=>.yld l
 | .ful n l=>.ful n l
 | .junk=>.junk
def shL (n:Nat):List D->List D
 | []=>[]
 | d :: ds=>shD n d :: shL n ds
end
def shB (n:Nat):Blk->Blk
 | .dead=>.dead
 | .blk rw cells=>.blk rw (shL n cells)
 | .obj (.mp ks xs)=>.obj (.mp ks (shL n xs))
 | .obj o=>.obj o
@[go_sem] theorem shB_mp (n:Nat) (ks:List Data) (xs:List D):shB n (.obj (.mp ks xs)) = .obj (.mp ks (shL n xs)):=rfl
@[go_sem] theorem shB_it (n:Nat) (ks xs:List Data) (l:List Nat) (c:Option Nat):shB n (.obj (.it ks xs l c)) = .obj (.it ks xs l c):=rfl
@[go_sem] theorem shB_si (n:Nat) (s:ByteArray) (p:Nat):shB n (.obj (.si s p)) = .obj (.si s p):=rfl
@[go_sem] theorem shB_blk (n:Nat) (rw:Bool) (cells:List D):shB n (.blk rw cells) = .blk rw (shL n cells):=rfl
@[go_sem] theorem shB_dead (n:Nat):shB n .dead = .dead:=rfl
/-- The caller's rows,and above them those handed back. -/
def ownH (nx:Nat) (H:Nat->Blk) (M:List (Nat × Blk)):Nat->Blk:=fun g=>if g < nx then H g else shB nx (hpL M (g - nx))
@[go_sem] theorem ownH_eq (nx:Nat) (H:Nat->Blk) (M:List (Nat × Blk)) (g:Nat):ownH nx H M g = if g < nx then H g else shB nx (hpL M (g - nx)):=rfl
section
variable {P:Program} {Γ:Nat->Option (List Data)} {L0:Nat->Prop} {w0:W0}
/-- What a function hands back of its own. -/
def retOQ (P:Program) (fn:Func) (d:D) (M:List (Nat × Blk)) (k:Nat):Exit->St->Prop
 | .normal,s | .ret,s=>resK P fn.results.toList s fun ds=>∃ d0 F R,tupDD ds = some d0∧WeakR F (rhoL R) ⟨envL [(0,d0)],s.hp,s.nx,0,1⟩ ⟨envL [(0,d)],hpL M,k,0,1⟩
 | _,_=>False
@[congr] theorem retOQ_congr {n0:Nat} (tk:tick = n0) (P:Program) (fn:Func) (d:D) (M:List (Nat × Blk)) (k:Nat) (e:Exit) (s:St):retOQ P fn d M k e s = retOQ P fn d M k e s:=rfl
/-- The result,and the rows that it takes with it. -/
def ownK (H:Nat->Blk) (nx:Nat) (d:D) (M:List (Nat × Blk)) (k:Nat) (ds:List D):Prop:=∃ d0 F R,tupDD ds = some d0∧WeakR F (rhoL R) ⟨envL [(0,d0)],H,nx,0,1⟩ ⟨envL [(0,d)],hpL M,k,0,1⟩
@[congr] theorem ownK_congr {n0:Nat} (tk:tick = n0) (H:Nat->Blk) (nx:Nat) (d:D) (M:List (Nat × Blk)) (k:Nat) {ds ds':List D} (h:ds = ds'):ownK H nx d M k ds = ownK H nx d M k ds':=by rw [h]
@[go_sem] theorem retOQ_ret (fn:Func) (d:D) (M:List (Nat × Blk)) (k:Nat) (s:St):retOQ P fn d M k .ret s = resK P fn.results.toList s fun ds=>ownK s.hp s.nx d M k ds:=rfl
@[go_sem] theorem retOQ_normal (fn:Func) (d:D) (M:List (Nat × Blk)) (k:Nat) (s:St):retOQ P fn d M k .normal s = resK P fn.results.toList s fun ds=>ownK s.hp s.nx d M k ds:=rfl
end
@[go_sem] theorem coe_tp (P:Program) (t:TypeId) (cs:List D):coe P t (.tp cs) = .tp cs:=rfl
@[go_sem] theorem coe_yld (P:Program) (t:TypeId) (l:Nat):coe P t (.yld l) = .yld l:=rfl
/-- An element of a type,out of its cells. -/
def mkE (P:Program) (t:TypeId) (ds:List Data):Data:=match P.underlying t with
 | some (.struct _) | some (.array _ _)=>.agg ds
 | _=>ds.headD .nilp
/-- Types that are read as plain data. -/
def suppF (P:Program) (s:TypeId->Bool):Nat->List Field->Option Nat
 | o,[]=>some o
 | o,f :: fs=>if f.offset = o∧s f.type = true then suppF P s (o + P.cellsOf f.type) fs else none
def supp (P:Program):Nat->TypeId->Bool
 | 0,_=>false
 | n + 1,t=>match P.underlying t with
   | some .bool | some .string=>true
   | some (.int _)=>true
   | some (.slice e)=>supp P n e && decide (0 < P.cellsOf e) && decide (0 < P.bytesOf e)
   | some (.struct fs)=>suppF P (supp P n) 0 fs.toList == some (P.cellsOf t)
   | some (.array m e)=>supp P n e && decide (P.cellsOf t = m * P.cellsOf e)
   | _=>false
/-- The cells that a reading tells. -/
def dDF {H:Type} (r:TypeId->DataW H->List Data):List Field->List (DataW H)->List Data
 | f :: fs,d :: ds=>r f.type d++dDF r fs ds
 | _,_=>[]
def dD {H:Type} (P:Program):Nat->TypeId->DataW H->List Data
 | 0,_,_=>[]
 | n + 1,t,d=>match P.underlying t with
   | some (.slice e)=>(match d with
     | .slice elems _=>[.sl (P.cellsOf e) (elems.map fun x=>mkE P e (dD P n e x))]
     | _=>[.sl (P.cellsOf e) []])
   | some (.struct fs)=>(match d with
     | .agg parts=>dDF (dD P n) fs.toList parts
     | _=>[])
   | some (.array _ e)=>(match d with
     | .agg parts=>parts.flatMap (dD P n e)
     | _=>[])
   | _=>(match d with
     | .lit (.bool b)=>[.bool b]
     | .lit (.int k i)=>[.int k i]
     | .lit (.string s)=>[.str ⟨s.toArray⟩]
     | _=>[])
/-- The form of a type's cells. -/
def okF (o:TypeId->List Data->Prop):List Field->List Data->Prop
 | [],ds=>ds = []
 | f :: fs,ds=>∃ a b,ds = a++b∧o f.type a∧okF o fs b
def okA (o:List Data->Prop):Nat->List Data->Prop
 | 0,ds=>ds = []
 | n + 1,ds=>∃ a b,ds = a++b∧o a∧okA o n b
def okD (P:Program):Nat->TypeId->List Data->Prop
 | 0,_,_=>False
 | n + 1,t,ds=>match P.underlying t with
   | some .bool=>∃ b,ds = [.bool b]
   | some (.int k)=>∃ i,ds = [.int k i]∧(Lit.int k i).wf = true
   | some .string=>∃ s,ds = [.str s]∧s.size≤reachBytes
   | some (.slice e)=>∃ l,ds = [.sl (P.cellsOf e) l]∧l.length≤reachBytes∧∀ x∈l,∃ es,x = mkE P e es∧okD P n e es
   | some (.struct fs)=>okF (okD P n) fs.toList ds
   | some (.array m e)=>okA (okD P n e) m ds
   | _=>False
/-- Cells,one by one. -/
def VDs (w:World) (cs:List Value) (ds:List Data):Prop:=ds.length = cs.length∧∀ (i:Nat) (x:Data) (v:Value),ds[i]? = some x->cs[i]? = some v->VD (fun _=>False) w x v
theorem VDs.nil (w:World):VDs w [] []:=⟨rfl,fun i x v h=>by simp at h⟩
theorem VDs.one {w:World} {v:Value} {x:Data} (h:VD (fun _=>False) w x v):VDs w [v] [x]:=⟨rfl,fun i y u hy hu=>by
 match i with
 | 0=>simp at hy hu;subst hy;subst hu;exact h
 | i + 1=>simp at hy⟩
theorem VDs.append {w:World} {a b:List Value} {x y:List Data} (h:VDs w a x) (k:VDs w b y):VDs w (a++b) (x++y):=by
 refine ⟨by simp [h.1,k.1],fun i d v hd hv=>?_⟩
 rw [List.getElem?_append] at hd hv
 rw [h.1] at hd
 split at hd
 · rename_i hi;rw [if_pos hi] at hv;exact h.2 i d v hd hv
 · rename_i hi;rw [if_neg hi] at hv;exact k.2 _ d v hd hv
section
variable {H:Type} {enc:TypeId × Value->H} {P:Program} {w:World} {held:Bool} {spare:Nat->Bool}
theorem weights_each {ts:List TypeId} {ds:List (DataW H)} (hz:∀ x∈DataW.weightsEach P ts ds,x≤reachBytes):∀ (i:Nat) t d,ts[i]? = some t->ds[i]? = some d->∀ x∈DataW.weights P t d,x≤reachBytes:=by
 induction ts generalizing ds with
 | nil=>intro i t d h;simp at h
 | cons t ts ih =>
   cases ds with
   | nil=>intro i t d _ h;simp at h
   | cons d ds =>
     simp only [DataW.weightsEach,List.mem_append] at hz
     intro i t' d' ht hd x hx
     match i with
     | 0=>simp at ht hd;subst ht;subst hd;exact hz x (.inl hx)
     | i + 1=>exact ih (fun y hy=>hz y (.inr hy)) i t' d' (by simpa using ht) (by simpa using hd) x hx
theorem weights_all {e:TypeId} {ds:List (DataW H)} (hz:∀ x∈DataW.weightsAll P e ds,x≤reachBytes):∀ d∈ds,∀ x∈DataW.weights P e d,x≤reachBytes:=by
 induction ds with
 | nil=>intro d h;simp at h
 | cons d ds ih =>
   simp only [DataW.weightsAll,List.mem_append] at hz
   intro d' hd x hx
   rcases List.mem_cons.1 hd with rfl | hd
   · exact hz x (.inl hx)
   · exact ih (fun y hy=>hz y (.inr hy)) d' hd x hx
/-- The cells of a memory row. -/
theorem cells_get {b0:Nat} {a:Addr} {n:Nat} {cs:List Value} (h:w.cells? b0 a n = some cs):cs.length = n∧∀ i,i < n->w.cell? (a.add i) = cs[i]?:=by
 unfold World.cells? at h
 split at h
 · exact ⟨by simpa using mapM_some_length h,fun i hi=>mapM_some_get h i i (by simp [hi])⟩
 · cases h
theorem cell_lt {a:Addr} {v:Value} (h:w.cell? a = some v):a.block < w.heap.size∧a.spot = none:=by
 unfold World.cell? at h
 split at h
 · rename_i hb
   exact ⟨(Array.getElem?_eq_some_iff.1 hb).1,by cases hs:a.spot with
    | none=>rfl
    | some s=>rw [hs] at h;simp at h⟩
 · cases h
theorem mkE_cells {n:Nat} {t:TypeId} {es:List Data} (h:okD P n t es):(mkE P t es).cells = es:=by
 cases n with
 | zero=>exact h.elim
 | succ n =>
   unfold okD at h
   unfold mkE
   split at h
   all_goals rename_i hu;simp only [hu]
   · obtain ⟨b,rfl⟩:=h;rfl
   · obtain ⟨i,rfl,_⟩:=h;rfl
   · obtain ⟨s,rfl,_⟩:=h;rfl
   · obtain ⟨l,rfl,_⟩:=h;rfl
   · rfl
   · rfl
   · exact h.elim
/-- The reading of cells: plain data,of the type's form. -/
theorem read_ok:∀ (n:Nat) (fuel:Nat) (t:TypeId) (cs:List Value) (d:DataW H) (ps:List MemPlace),supp P n t = true->DataW.trod enc P w 0 spare held fuel t cs = some (d,ps)->(∀ x∈DataW.weights P t d,x≤reachBytes) →
 VDs w cs (dD P n t d)∧okD P n t (dD P n t d):=by
 intro n
 induction n with
 | zero=>intro fuel t cs d ps hs;simp [supp] at hs
 | succ n ih =>
   intro fuel t cs d ps hs h hz
   unfold supp at hs
   split at hs
   · rename_i hu
     obtain ⟨b,rfl,e⟩:=DataW.trod_bool hu h
     cases e
     simp only [dD,okD,hu]
     exact ⟨.one (.bool b),b,rfl⟩
   · rename_i hu
     obtain ⟨s,rfl,e,_⟩:=DataW.trod_string hu h
     cases e
     simp only [dD,okD,hu]
     refine ⟨.one (.str s),s,rfl,?_⟩
     have:=hz s.data.toList.length (by simp [DataW.weights])
     simpa using this
   · rename_i k hu
     obtain ⟨i,rfl,e,hw⟩:=DataW.trod_int hu h
     cases e
     simp only [dD,okD,hu]
     exact ⟨.one (.int k i),i,rfl,hw⟩
   · rename_i e hu
     simp only [Bool.and_eq_true,decide_eq_true_eq] at hs
     obtain ⟨⟨hse,hc⟩,hb⟩:=hs
     rcases DataW.trod_slice hu h with ⟨rfl,hx⟩ | ⟨a,len,cap,elems,rest,m,rfl,rfl,hx,_,hlc,hcm,hlen,hel,_,_⟩
     · cases hx
       simp only [dD,okD,hu]
       exact ⟨.one (.sl _ [] none 0 0 0 0 (fun _=>.nilIface) rfl (Nat.le_refl _) (by simp [maxLen]) (by simp) (.inr rfl) (fun i x hx=>by simp [flat] at hx) (fun i x hx=>by simp [flat] at hx)),[],rfl,by simp,by simp⟩
     · cases hx
       simp only [DataW.weights,hu,List.mem_cons,List.mem_append,List.length_map] at hz
       have hw1:=hz _ (.inl rfl)
       have hw2:=weights_all (P:=P) (e:=e) (ds:=elems.map (·.1)) (fun x hx=>hz x (.inr (.inl hx)))
       have hlen2:elems.length≤reachBytes:=by
        have:elems.length * 1≤(elems.length + rest.length) * P.bytesOf e:=Nat.mul_le_mul (by omega) hb
        omega
       have each:∀ (i:Nat) (y:DataW H × List MemPlace),elems[i]? = some y->∃ ec,w.cells? 0 (a.add (i * P.cellsOf e)) (P.cellsOf e) = some ec∧VDs w ec (dD P n e y.1)∧okD P n e (dD P n e y.1):=by
        intro i y hy
        have hi:i < len:=by rw [<- hlen];exact (List.getElem?_eq_some_iff.1 hy).1
        have h1:=hel i hi
        rw [hy,Option.bind_eq_some_iff] at h1
        obtain ⟨ec,h2,h3⟩:=h1
        exact ⟨ec,h2,ih m e ec y.1 y.2 hse h3 (hw2 y.1 (List.mem_map.2 ⟨y,List.mem_of_getElem? hy,rfl⟩))⟩
       have hcl:∀ (i:Nat) (y:DataW H × List MemPlace),elems[i]? = some y->(mkE P e (dD P n e y.1)).cells = dD P n e y.1∧(dD P n e y.1).length = P.cellsOf e:=by
        intro i y hy
        obtain ⟨ec,h2,h3,h4⟩:=each i y hy
        exact ⟨mkE_cells h4,by rw [h3.1];exact (cells_get h2).1⟩
       have hflat:∀ (l:List Data) (c:Nat),0 < c->(∀ x∈l,x.cells.length = c)->∀ (i:Nat) (x:Data),(flat l)[i]? = some x->∃ y,l[i / c]? = some y∧y.cells[i % c]? = some x:=by
        intro l c hc0
        induction l with
        | nil=>intro _ i x hx;simp [flat] at hx
        | cons y l ihl =>
          intro hall i x hx
          have hy:y.cells.length = c:=hall y (by simp)
          simp only [flat,List.flatMap_cons,List.getElem?_append] at hx
          rw [hy] at hx
          split at hx
          · rename_i hi
            rw [Nat.div_eq_of_lt hi,Nat.mod_eq_of_lt hi]
            exact ⟨y,rfl,hx⟩
          · rename_i hi
            obtain ⟨z,h1,h2⟩:=ihl (fun x hx=>hall x (by simp [hx])) (i - c) x hx
            obtain ⟨q,rfl⟩:∃ q,i = q + c:=⟨i - c,by omega⟩
            rw [Nat.add_div_right _ hc0,Nat.add_mod_right]
            rw [Nat.add_sub_cancel] at h1 h2
            exact ⟨z,by simpa using h1,h2⟩
       have hall:∀ x∈(elems.map fun y=>mkE P e (dD P n e y.1)),x.cells.length = P.cellsOf e:=by
        intro x hx
        obtain ⟨y,hy,rfl⟩:=List.mem_map.1 hx
        obtain ⟨i,hi⟩:=List.getElem?_of_mem hy
        rw [(hcl i y hi).1,(hcl i y hi).2]
       have key:∀ (i:Nat) (x:Data),(flat (elems.map fun y=>mkE P e (dD P n e y.1)))[i]? = some x->∃ v,w.cell? (a.add i) = some v∧VD (fun _=>False) w x v:=by
        intro i x hx
        obtain ⟨y,h1,h2⟩:=hflat _ _ hc hall i x hx
        rw [List.getElem?_map,Option.map_eq_some_iff] at h1
        obtain ⟨z,h3,rfl⟩:=h1
        rw [(hcl _ z h3).1] at h2
        obtain ⟨ec,h4,h5,_⟩:=each _ z h3
        obtain ⟨h6,h7⟩:=cells_get h4
        have hlt:i % P.cellsOf e < P.cellsOf e:=Nat.mod_lt _ hc
        have hv:ec[i % P.cellsOf e]? = some ec[i % P.cellsOf e]:=List.getElem?_eq_getElem (by omega)
        refine ⟨ec[i % P.cellsOf e],?_,h5.2 _ x _ h2 hv⟩
        have h8:=h7 _ hlt
        rw [hv] at h8
        rw [<- h8]
        congr 1
        have hi:=Nat.div_add_mod i (P.cellsOf e)
        rw [Nat.mul_comm] at hi
        generalize i / P.cellsOf e * P.cellsOf e = q at hi
        generalize i % P.cellsOf e = r at hi
        subst hi
        unfold Addr.add
        by_cases hq:q = 0
        · subst hq;simp
        · by_cases hr:r = 0
          · subst hr;simp
          · simp [hq,hr,Nat.add_assoc]
       have hdd:dD P (n + 1) t (DataW.slice (elems.map (·.1)) (rest.map (·.1))) = [.sl (P.cellsOf e) (elems.map fun y=>mkE P e (dD P n e y.1))]:=by
        simp [dD,hu,Function.comp_def]
       rw [hdd]
       refine ⟨.one ?_,?_⟩
       · have spot:∀ (i:Nat) (x:Data),(flat (elems.map fun y=>mkE P e (dD P n e y.1)))[i]? = some x->a.spot = none:=by
          intro i x hx
          have h0:0 < (flat (elems.map fun y=>mkE P e (dD P n e y.1))).length:=by
           have:=(List.getElem?_eq_some_iff.1 hx).1;omega
          obtain ⟨v,hv,_⟩:=key 0 _ (List.getElem?_eq_getElem h0)
          simpa [Addr.add] using (cell_lt hv).2
         refine .sl _ _ (some a) len cap a.block a.off (fun i=>(w.cell? ⟨a.block,a.off + i,none⟩).getD .nilIface) (by simp [hlen]) hlc hcm hall ?_ ?_ ?_
         · by_cases he:elems = []
           · exact .inr (by simp [he])
           · refine .inl ?_
             have h0:0 < elems.length:=List.length_pos_iff.2 he
             obtain ⟨ec,h4,_,_⟩:=each 0 elems[0] (List.getElem?_eq_getElem h0)
             obtain ⟨h6,h7⟩:=cells_get h4
             have h8:=h7 0 hc
             rw [List.getElem?_eq_getElem (by omega)] at h8
             have h9:=cell_lt h8
             simp [Addr.add] at h9
             obtain ⟨ab,ao,az⟩:=a
             simp at h9
             exact ⟨by rw [h9.2],h9.1,fun h=>h⟩
         · intro i x hx
           obtain ⟨v,hv,_⟩:=key i x hx
           have hsp:=spot i x hx
           have:a.add i = ⟨a.block,a.off + i,none⟩:=by
            unfold Addr.add
            split
            · rename_i e0;subst e0;obtain ⟨ab,ao,az⟩:=a;simp at hsp ⊢;exact hsp
            · rfl
           rw [this] at hv
           simp only [hv,Option.getD_some]
         · intro i x hx
           obtain ⟨v,hv,hvd⟩:=key i x hx
           have hsp:=spot i x hx
           have:a.add i = ⟨a.block,a.off + i,none⟩:=by
            unfold Addr.add
            split
            · rename_i e0;subst e0;obtain ⟨ab,ao,az⟩:=a;simp at hsp ⊢;exact hsp
            · rfl
           rw [this] at hv
           simp only [hv,Option.getD_some]
           exact hvd
       · simp only [okD,hu]
         refine ⟨_,rfl,by simpa using hlen2,fun x hx=>?_⟩
         obtain ⟨y,hy,rfl⟩:=List.mem_map.1 hx
         obtain ⟨i,hi⟩:=List.getElem?_of_mem hy
         obtain ⟨ec,_,_,h4⟩:=each i y hi
         exact ⟨_,rfl,h4⟩
   · rename_i fs hu
     obtain ⟨xs,m,rfl,hx,hcl,hxl,hf⟩:=DataW.trod_struct hu h
     cases hx
     simp only [DataW.weights,hu] at hz
     have hw:=weights_each hz
     have hdd:dD P (n + 1) t (DataW.agg (xs.map (·.1))) = dDF (dD P n) fs.toList (xs.map (·.1)):=by simp [dD,hu]
     rw [hdd]
     have hs2:suppF P (supp P n) 0 fs.toList = some (P.cellsOf t):=by simpa using hs
     have go:∀ (l:List Field) (ys:List (DataW H × List MemPlace)) (o:Nat),l.length = ys.length->suppF P (supp P n) o l = some (P.cellsOf t) →
      (∀ (i:Nat) (f:Field),l[i]? = some f->DataW.trod enc P w 0 spare held m f.type ((cs.drop f.offset).take (P.cellsOf f.type)) = ys[i]?) →
      (∀ (i:Nat) (f:Field) (y:DataW H × List MemPlace),l[i]? = some f->ys[i]? = some y->∀ x∈DataW.weights P f.type y.1,x≤reachBytes)->o≤P.cellsOf t∧VDs w (cs.drop o) (dDF (dD P n) l (ys.map (·.1)))∧okF (okD P n) l (dDF (dD P n) l (ys.map (·.1))):=by
      intro l
      induction l with
      | nil =>
        intro ys o hl hs3 _ _
        simp only [suppF,Option.some.injEq] at hs3
        subst hs3
        rw [<- hcl]
        simp only [List.drop_length,dDF]
        exact ⟨Nat.le_refl _,.nil w,rfl⟩
      | cons f l ihl =>
        intro ys o hl hs3 hf3 hw3
        cases ys with
        | nil=>simp at hl
        | cons y ys =>
          simp only [suppF] at hs3
          split at hs3
          · rename_i ho
            obtain ⟨rfl,hsf⟩:=ho
            have h0:=hf3 0 f rfl
            simp only [List.getElem?_cons_zero] at h0
            obtain ⟨h1,h2⟩:=ih m f.type _ y.1 y.2 hsf h0 (hw3 0 f y rfl rfl)
            obtain ⟨h3,h4,h5⟩:=ihl ys (f.offset + P.cellsOf f.type) (by simpa using hl) hs3 (fun i g hg=>by simpa using hf3 (i + 1) g (by simpa using hg)) (fun i g z hg hz'=>hw3 (i + 1) g z (by simpa using hg) (by simpa using hz'))
            refine ⟨by omega,?_,_,_,rfl,h2,h5⟩
            have:cs.drop f.offset = (cs.drop f.offset).take (P.cellsOf f.type)++cs.drop (f.offset + P.cellsOf f.type):=by
             rw [<- List.drop_drop,List.take_append_drop]
            rw [this]
            exact h1.append h4
          · cases hs3
     obtain ⟨_,h1,h2⟩:=go fs.toList xs 0 (by simp [hxl]) hs2 (fun i f hg=>hf i f (by simpa using hg)) (fun i f y hg hy=>hw i f.type y.1 (by simp at hg ⊢;exact ⟨f,hg,rfl⟩) (by simp [hy]))
     refine ⟨by simpa using h1,?_⟩
     simp only [okD,hu]
     exact h2
   · rename_i m e hu
     simp only [Bool.and_eq_true,decide_eq_true_eq] at hs
     obtain ⟨hse,hsz⟩:=hs
     obtain ⟨xs,k,rfl,hx,hcl,hxl,hf⟩:=DataW.trod_array hu h
     cases hx
     simp only [DataW.weights,hu] at hz
     have hw:=weights_all hz
     have hdd:dD P (n + 1) t (DataW.agg (xs.map (·.1))) = (xs.map (·.1)).flatMap (dD P n e):=by simp [dD,hu]
     rw [hdd]
     have go:∀ (j:Nat),j≤m->VDs w (cs.drop ((m - j) * P.cellsOf e)) (((xs.drop (m - j)).map (·.1)).flatMap (dD P n e))∧okA (okD P n e) j (((xs.drop (m - j)).map (·.1)).flatMap (dD P n e)):=by
      intro j
      induction j with
      | zero =>
        intro _
        rw [Nat.sub_zero,<- hsz,<- hcl,<- hxl]
        simp only [List.drop_length,List.map_nil,List.flatMap_nil]
        exact ⟨.nil w,rfl⟩
      | succ j ihj =>
        intro hj
        obtain ⟨h1,h2⟩:=ihj (by omega)
        have hi:m - (j + 1) < m:=by omega
        have hxi:m - (j + 1) < xs.length:=by omega
        have h0:=hf (m - (j + 1)) hi
        rw [List.getElem?_eq_getElem hxi] at h0
        obtain ⟨h3,h4⟩:=ih k e _ xs[m - (j + 1)].1 xs[m - (j + 1)].2 hse h0 (hw _ (List.mem_map.2 ⟨_,List.getElem_mem hxi,rfl⟩))
        have e1:m - (j + 1) + 1 = m - j:=by omega
        rw [List.drop_eq_getElem_cons hxi,e1]
        simp only [List.map_cons,List.flatMap_cons]
        refine ⟨?_,_,_,rfl,h4,h2⟩
        have e2:cs.drop ((m - (j + 1)) * P.cellsOf e) = (cs.drop ((m - (j + 1)) * P.cellsOf e)).take (P.cellsOf e)++cs.drop ((m - j) * P.cellsOf e):=by
         have:(m - j) * P.cellsOf e = (m - (j + 1)) * P.cellsOf e + P.cellsOf e:=by rw [<- e1,Nat.add_mul,Nat.one_mul]
         rw [this,<- List.drop_drop,List.take_append_drop]
        rw [e2]
        exact h3.append h1
     have:=go m (Nat.le_refl _)
     simp only [Nat.sub_self,Nat.zero_mul,List.drop_zero] at this
     refine ⟨this.1,?_⟩
     simp only [okD,hu]
     exact this.2
   · cases hs
/-- An argument. -/
def argD (P:Program) (n:Nat) (t:TypeId) (x:Data):Prop:=∃ ds,x = mkE P t ds∧okD P n t ds
theorem read_arg {n:Nat} {base:Nat} {t:TypeId} {v:Value} {d:DataW H} {ps:List MemPlace} (hs:supp P n t = true) (hv:Value.okWide P w .any base t v) (k:DataW.Trod enc P w 0 spare held t v d ps) (hz:(DataW.weights P t d).all (fun x=>decide (x≤reachBytes)) = true) :
 ∃ x,VD (fun _=>False) w x v∧argD P n t x:=by
 obtain ⟨fuel,hf⟩:=k
 obtain ⟨h1,h2⟩:=read_ok n fuel t _ d ps hs hf (fun x hx=>by simpa using List.all_eq_true.1 hz x hx)
 refine ⟨mkE P t (dD P n t d),?_,_,rfl,h2⟩
 generalize dD P n t d = ds at h1 h2
 cases n with
 | zero=>exact h2.elim
 | succ n =>
   have one:∀ x,(∀ cs,v≠.agg cs)->ds = [x]->VD (fun _=>False) w x v:=by
    intro x hna hds
    subst hds
    have:v.cells.toList = [v]:=by
     cases v with
     | agg cs=>exact absurd rfl (hna cs)
     | _=>rfl
    rw [this] at h1
    exact h1.2 0 x v rfl rfl
   unfold Value.okWide at hv
   unfold okD at h2
   unfold mkE
   split at h2
   all_goals rename_i hu;simp only [hu] at hv ⊢
   · obtain ⟨b,rfl⟩:=h2
     exact one _ (fun cs e=>by subst e;simp [Cell.okWide,Cell.ok,hu] at hv) rfl
   · obtain ⟨i,rfl,_⟩:=h2
     exact one _ (fun cs e=>by subst e;simp [Cell.okWide,Cell.ok,hu] at hv) rfl
   · obtain ⟨s,rfl,_⟩:=h2
     exact one _ (fun cs e=>by subst e;simp [Cell.okWide,Cell.ok,hu] at hv) rfl
   · obtain ⟨l,rfl,_⟩:=h2
     exact one _ (fun cs e=>by subst e;simp [Cell.okWide,Cell.ok,hu] at hv) rfl
   · obtain ⟨cs,rfl,_⟩:=hv
     exact .agg _ _ (by simpa [Value.cells] using h1.1) (fun i x u hx hu=>h1.2 i x u hx (by simpa [Value.cells] using hu))
   · obtain ⟨cs,rfl,_⟩:=hv
     exact .agg _ _ (by simpa [Value.cells] using h1.1) (fun i x u hx hu=>h1.2 i x u hx (by simpa [Value.cells] using hu))
   · exact h2.elim
/-- A law by its contract on plain data. -/
theorem calls_of_pc {Γ:Nat->Option (List Data)} {f:FuncId} {xs:List Data} {vs:Array Value} (hg:Glob Γ (fun _=>False) w) (h:PC P Γ f xs (.bool true)) (hl:xs.length = vs.size)
 (hv:∀ (i:Nat) (x:Data) (v:Value),xs[i]? = some x->vs[i]? = some v->VD (fun _=>False) w x v) :
 Calls P f vs w fun e w'=>e = .returned (.bool true)∧Below w.heap.size w w':=by
 refine (h.2 (fun _=>False) w vs hg (fun b hb=>hb.elim) hl hv).mono fun e w' ⟨v,he,hvd,hb⟩=>?_
 cases hvd
 exact ⟨he,hb⟩
theorem vdl {x0:Data} {v0:Value} {xs:List Data} {vs:List Value} (h0:VD (fun _=>False) w x0 v0) (h:∀ (i:Nat) (x:Data) (v:Value),xs[i]? = some x->vs[i]? = some v->VD (fun _=>False) w x v) :
 ∀ (i:Nat) (x:Data) (v:Value),(x0 :: xs)[i]? = some x->(v0 :: vs)[i]? = some v->VD (fun _=>False) w x v:=fun i x v hx hv=>by
 match i with
 | 0=>simp at hx hv;subst hx;subst hv;exact h0
 | i + 1=>exact h i x v (by simpa using hx) (by simpa using hv)
/-- A listed variable. -/
theorem glob_of {n:Nat} {nm:String} {g:Nat} {t:TypeId} {cs:Array Value} {fuel:Nat} {d:DataW H} {ps:List MemPlace} (hs:supp P n t = true) (hg:P.globalNamed nm = some g) (hv:w.var? P nm = some cs)
 (hd:DataW.trod enc P w 0 spare held fuel t cs.toList = some (d,ps)) (hz:(DataW.weights P t d).all (fun x=>decide (x≤reachBytes)) = true) (hne:dD P n t d≠[]) :
 VV (fun _=>False) w (fun _=>.res) (.cptr (dD P n t d)) (.pointer (some ⟨g,0,none⟩)):=by
 obtain ⟨h1,h2⟩:=read_ok n fuel t _ d ps hs hd (fun x hx=>by simpa using List.all_eq_true.1 hz x hx)
 have hc:∀ (i:Nat) (x:Data),(dD P n t d)[i]? = some x->∃ v,w.cell? ⟨g,0 + i,none⟩ = some v∧VD (fun _=>False) w x v:=by
  intro i x hx
  have hi:i < cs.size:=by
   have:=(List.getElem?_eq_some_iff.1 hx).1
   rw [h1.1] at this;simpa using this
  have hcell:=World.var?_cell hg hv i
  rw [Array.getElem?_eq_getElem hi] at hcell
  refine ⟨cs[i],by simpa using hcell,h1.2 i x _ hx (by simp [hi])⟩
 have h0:0 < (dD P n t d).length:=List.length_pos_iff.2 hne
 obtain ⟨v,hv0,_⟩:=hc 0 _ (List.getElem?_eq_getElem h0)
 refine .cptr _ g 0 (fun i=>(w.cell? ⟨g,0 + i,none⟩).getD .nilIface) (cell_lt hv0).1 (fun h=>h) (fun i x hx=>?_) (fun i x hx=>?_)
 · obtain ⟨v,hv,_⟩:=hc i x hx
   simp only [hv,Option.getD_some]
 · obtain ⟨v,hv,hvd⟩:=hc i x hx
   simp only [hv,Option.getD_some]
   exact hvd
end
def u8 (n:Nat):Data:=.int .u8 n
/-- A row of bytes. -/
def bys (l:List Nat):List Data:=l.map u8
@[go_sem] theorem bys_nil:bys [] = []:=rfl
@[go_sem] theorem data_u8 (n:Nat):D.data (u8 n) = .data (.int .u8 n):=rfl
@[go_sem] theorem u8_cell (n:Nat):(u8 n).cell = true:=rfl
@[go_sem] theorem u8_cells (n:Nat):(u8 n).cells = [u8 n]:=rfl
def plainD:D->Bool
 | .data _ | .emp _=>true
 | _=>false
theorem renCells_plain {n:Nat} {ρ:Nat->Option Nat} {H:Nat->Blk} {cs ds:List D} (e:cs = ds) (h:cs.all plainD = true):RenCells n ρ H cs ds:=by
 subst e
 refine ⟨Nat.le_refl _,fun i c d hc hd=>?_⟩
 rw [hc] at hd;cases hd
 have:=List.all_eq_true.1 h c (List.mem_of_getElem? hc)
 cases c with
 | data x=>exact .data x
 | emp es=>exact .emp es es
 | _=>cases this
/-- A row of the call's own,handed to a callee that keeps it. -/
theorem call_keep {P:Program} {Γ:Nat->Option (List Data)} {f:FuncId} {ds:List D} {H:Nat->Blk} {K:D->List Nat->List (Nat × Blk)->Prop} (g:Nat) {rw:Bool} {cells:List D} {xs:List Data} {r:Data} (h:PC P Γ f xs r) (hg:H g = .blk rw cells)
 (hx:∀ H':Nat->Blk,H' g = .blk false cells->FrzL false H' ds xs) (k:K (.data r) [g] [(g,.blk false cells)]):callK P Γ f ds H K:=by
 refine call_frz [g] [g] (fun q hq=>⟨rw,cells,by simp at hq;subst hq;exact hg⟩) h (fun H' hH'=>?_) ?_
 · exact hx _ (by simp [Hp.upd,Hp.set,hg,fz])
 · simp only [List.map_cons,List.map_nil,hg,fz]
   exact k
theorem wf_nat {k:IntKind} {i:Int} (h:(Lit.int k i).wf = true):k.min≤i∧i≤k.max:=by simpa [Lit.wf] using h
section
variable {P:Program} {n:Nat} {t e:TypeId} {x:Data}
theorem arg_int {k:IntKind} (hu:P.underlying t = some (.int k)) (a:argD P (n + 1) t x):∃ i:Int,k.min≤i∧i≤k.max∧x = .int k i:=by
 obtain ⟨ds,rfl,h⟩:=a
 simp only [okD,hu] at h
 obtain ⟨i,rfl,hw⟩:=h
 have:=wf_nat hw
 exact ⟨i,this.1,this.2,by simp [mkE,hu]⟩
theorem arg_i64 (hu:P.underlying t = some (.int .i64)) (a:argD P (n + 1) t x):∃ i:Int,-9223372036854775808≤i∧i≤9223372036854775807∧x = .int .i64 i:=by
 obtain ⟨i,h1,h2,rfl⟩:=arg_int hu a
 simp [IntKind.min,IntKind.max,IntKind.signed,IntKind.bits] at h1 h2
 exact ⟨i,h1,h2,rfl⟩
theorem arg_bool (hu:P.underlying t = some .bool) (a:argD P (n + 1) t x):∃ b:Bool,x = .bool b:=by
 obtain ⟨ds,rfl,h⟩:=a
 simp only [okD,hu] at h
 obtain ⟨b,rfl⟩:=h
 exact ⟨b,by simp [mkE,hu]⟩
end
@[go_sem] theorem dec_yes {p:Prop} [Decidable p] (h:p):decide p = true:=decide_eq_true h
@[go_sem] theorem dec_no {p:Prop} [Decidable p] (h:¬ p):decide p = false:=decide_eq_false h
section
variable (P:Program) (Γ:Nat->Option (List Data))
/- Regions of more than 64 operations: their list is put together of two. -/
@[go_sem] theorem opsW_app (ops:Array Oper) (o:Oper) (l r:List Oper) (s:St) (K:St->Prop):opsW P Γ ops (List.append (o :: l) r) s K = opsW P Γ ops (o :: List.append l r) s K:=rfl
@[go_sem] theorem opsW_app_nil (ops:Array Oper) (r:List Oper) (s:St) (K:St->Prop):opsW P Γ ops (List.append [] r) s K = opsW P Γ ops r s K:=rfl
@[go_sem] theorem drawW_app (ops:Array Oper) (o:Oper) (l r:List Oper) (s:St) (tr:List Tr) (K:St->List Tr->Prop):drawW P Γ ops (List.append (o :: l) r) s tr K = drawW P Γ ops (o :: List.append l r) s tr K:=rfl
@[go_sem] theorem drawW_app_nil (ops:Array Oper) (r:List Oper) (s:St) (tr:List Tr) (K:St->List Tr->Prop):drawW P Γ ops (List.append [] r) s tr K = drawW P Γ ops r s tr K:=rfl
end
/-- What a panic brings. -/
def pan (x:Value):List PanicEntry:=[{ v:=x,recovered:=false }]
/-- A call on the caller's own numbered rows: it hands back,or it panics. -/
def DX (P:Program) (Γ:Nat->Option (List Data)) (f:FuncId) (ds:List D) (H:Nat->Blk) (nx:Nat) (K:D->(Nat->Blk)->Nat->Prop) (X:Value->(Nat->Blk)->Nat->Prop):Prop :=
 CallOk P f∧∀ (L0:Nat->Prop) (w0:W0) (m:Nat->MB) (w:World) (vs:Array Value),WR Γ L0 w0 m H w->(∀ g,nx≤g->m g = .res)->(∀ g,nx≤g->H g = .dead)->ds.length = vs.size->(∀ (i:Nat) (d:D) (v:Value),ds[i]? = some d->vs[i]? = some v->VV (Live L0 m H) w m d v) →
  Calls P f vs w fun e w'=>∃ H' nx' m',WR Γ L0 w0 m' H' w'∧Grow (Live L0 m H) w (Live L0 m' H') w'∧(∀ g,g < nx->m' g = m g)∧(∀ g,nx'≤g->m' g = .res)∧nx≤nx' ∧
   ((∃ v d,e = .returned v∧VV (Live L0 m' H') w' m' d v∧K d H' nx') ∨ ∃ x,e = .panicked (pan x)∧X x H' nx')
theorem DX.mono {P:Program} {Γ:Nat->Option (List Data)} {f:FuncId} {ds:List D} {H:Nat->Blk} {nx:Nat} {K K':D->(Nat->Blk)->Nat->Prop} {X X':Value->(Nat->Blk)->Nat->Prop} (h:DX P Γ f ds H nx K X) (hk:∀ d H' nx',K d H' nx'->K' d H' nx') (hx:∀ v H' nx',X v H' nx'->X' v H' nx'):DX P Γ f ds H nx K' X' :=
 ⟨h.1,fun L0 w0 m w vs a b c d e=>(h.2 L0 w0 m w vs a b c d e).mono fun e w' ⟨H',nx',m',k1,k2,k3,k4,k5,k6⟩=>⟨H',nx',m',k1,k2,k3,k4,k5,k6.imp (fun ⟨v,d,a,b,c⟩=>⟨v,d,a,b,hk _ _ _ c⟩) (fun ⟨x,a,b⟩=>⟨x,a,hx _ _ _ b⟩)⟩⟩
end Go.Proofs.YtnggelbagedlfaaDoor
namespace Go.Proofs.YtnggelbagedlfaaDoor
@[go_sem] theorem ty_sz3:szT Tryd.prog 3 = some 1:=by kernel_rfl
@[go_sem] theorem ty_by3:byT Tryd.prog 3 = some 8:=by kernel_rfl
@[go_sem] theorem ty_ag3:aggT Tryd.prog 3 = some false:=by kernel_rfl
@[go_sem] theorem ty_ze3:zeT Tryd.prog 3 = some [.data (.int .i64 0)]:=by kernel_rfl
@[go_sem] theorem ty_zl3:zlT Tryd.prog 3 = some 1:=by kernel_rfl
@[go_sem] theorem ty_in3:intT Tryd.prog 3 = some .i64:=by kernel_rfl
@[go_sem] theorem ty_zv3:zvT Tryd.prog 3 = some (.data (.int .i64 0)):=by kernel_rfl
@[go_sem] theorem ty_bo4:boolT Tryd.prog 4 = true:=by kernel_rfl
@[go_sem] theorem ty_sz5:szT Tryd.prog 5 = some 1:=by kernel_rfl
@[go_sem] theorem ty_ag5:aggT Tryd.prog 5 = some false:=by kernel_rfl
@[go_sem] theorem ty_sz9:szT Tryd.prog 9 = some 1:=by kernel_rfl
@[go_sem] theorem ty_by9:byT Tryd.prog 9 = some 16:=by kernel_rfl
@[go_sem] theorem ty_ag9:aggT Tryd.prog 9 = some false:=by kernel_rfl
@[go_sem] theorem ty_ze9:zeT Tryd.prog 9 = some [.data (.str ByteArray.empty)]:=by kernel_rfl
@[go_sem] theorem ty_st9:strT Tryd.prog 9 = true:=by kernel_rfl
@[go_sem] theorem ty_ki21  (n:Int):keyT Tryd.prog 21 (.int .i32 n) = true:=by kernel_rfl
@[go_sem] theorem ty_sl23:sliceT Tryd.prog 23 = some 3:=by kernel_rfl
@[go_sem] theorem ty_in23:intT Tryd.prog 23 = none:=by kernel_rfl
@[go_sem] theorem ty_st23:strT Tryd.prog 23 = false:=by kernel_rfl
@[go_sem] theorem ty_sl32:sliceT Tryd.prog 32 = some 9:=by kernel_rfl
@[go_sem] theorem ty_ze40:zeT Tryd.prog 40 = some [.data (.str ByteArray.empty),.data (.str ByteArray.empty),.data (.str ByteArray.empty),.data (.str ByteArray.empty),.data (.str ByteArray.empty),.data (.str ByteArray.empty),.data (.str ByteArray.empty),.data (.str ByteArray.empty),.data (.str ByteArray.empty),.data (.str ByteArray.empty)]:=by kernel_rfl
@[go_sem] theorem ty_ar40:arrT Tryd.prog 40 = some (10,9):=by kernel_rfl
@[go_sem] theorem ty_ar41:arrT Tryd.prog 41 = some (256,5):=by kernel_rfl
@[go_sem] theorem ty_ze44:zeT Tryd.prog 44 = some [.data (.str ByteArray.empty),.data (.str ByteArray.empty),.data (.str ByteArray.empty),.data (.str ByteArray.empty),.data (.str ByteArray.empty),.data (.str ByteArray.empty),.data (.str ByteArray.empty),.data (.str ByteArray.empty),.data (.str ByteArray.empty),.data (.str ByteArray.empty),.data (.str ByteArray.empty),.data (.str ByteArray.empty),.data (.str ByteArray.empty),.data (.str ByteArray.empty),.data (.str ByteArray.empty),.data (.str ByteArray.empty)]:=by kernel_rfl
@[go_sem] theorem ty_ar44:arrT Tryd.prog 44 = some (16,9):=by kernel_rfl
@[go_sem] theorem ty_mp45:mapT Tryd.prog 45 = some (21,3):=by kernel_rfl
theorem mixed:Tryd.prog.follows .mixedOrders = true:=by kernel_rfl
end Go.Proofs.YtnggelbagedlfaaDoor
namespace Go.Proofs.YtnggelbagedlfaaDoor
open Go.RowKit
set_option linter.unusedSimpArgs false
set_option linter.unusedVariables false
set_option maxRecDepth 100000
namespace Fs
def nums (l:List Int):Data:=.sl 1 (l.map fun n=>Data.int .i64 n)
/-- Actions,a state,and whether it can be. -/
abbrev R3:=List Int × Int × Bool
def tri (r:R3):Data:=.tup [nums r.1,.int .i64 r.2.1,.bool r.2.2]
theorem frz_nums {ok:Bool} {H:Nat->Blk} {g n:Nat} {rw:Bool} {l:List Int} (hg:H g = .blk rw (l.map fun n=>D.data (.int .i64 n))) (hrw:ok = true ∨ rw = false) (hn:l.length = n):Frz ok H (.ref g 0 n 1) (nums l):=by
 refine frz_ref hg hrw (by simpa using hn) (fun x hx=>?_) ?_
 · obtain ⟨p,_,rfl⟩:=List.mem_map.1 hx
   rfl
 · clear hg hn
   induction l with
   | nil=>rfl
   | cons a l ih =>
     simp only [List.map_cons] at ih ⊢
     rw [ih]
     rfl
section
variable (Γ:Nat->Option (List Data))
theorem to_pc (s:Int) (l:List Int):PC Tryd.prog Γ 34 [.int .i64 s,nums l] (tri (l,s,true)):=by
 refine pc_by mixed Tryd.func34 rfl (fun args w=>Tryd.call34 args w) ?_
 unfold tri nums
 simp -implicitDefEqProofs (disch:=omega) [go_sem,Tryd.f34]
theorem stay_pc (s:Int):PC Tryd.prog Γ 36 [.int .i64 s] (tri ([],s,true)):=by
 refine pc_by mixed Tryd.func36 rfl (fun args w=>Tryd.call36 args w) ?_
 unfold tri nums
 simp -implicitDefEqProofs (disch:=omega) [go_sem,Tryd.f36]
 exact ⟨_,⟨_,rfl,.emp _ _⟩,rfl⟩
theorem never_pc (s:Int):PC Tryd.prog Γ 24 [.int .i64 s] (tri ([],s,false)):=by
 refine pc_by mixed Tryd.func24 rfl (fun args w=>Tryd.call24 args w) ?_
 unfold tri nums
 simp -implicitDefEqProofs (disch:=omega) [go_sem,Tryd.f24]
 exact ⟨_,⟨_,rfl,.emp _ _⟩,rfl⟩
def upF (s:Int)  : R3:=if s = 0 then ([],2,true) else if s = 1 then ([5,7],6,true) else ([],s,false)
set_option maxHeartbeats 4000000 in
theorem up_pc (s:Int)  (h:0≤s∧s≤9):PC Tryd.prog Γ 25 [.int .i64 s] (tri (upF s)):=by
 refine pc_by mixed Tryd.func25 rfl (fun args w=>Tryd.call25 args w) ?_
 obtain ⟨h1,h2⟩:=h
 have hs:s = 0 ∨ s = 1 ∨ s = 2 ∨ s = 3 ∨ s = 4 ∨ s = 5 ∨ s = 6 ∨ s = 7 ∨ s = 8 ∨ s = 9:=by omega
 rcases hs with rfl | rfl | rfl | rfl | rfl | rfl | rfl | rfl | rfl | rfl
 · rw [show upF 0 = ([],2,true) by simp [upF]]
   simp -implicitDefEqProofs (disch:=omega) [go_sem]
   refine .inl (call_data (stay_pc Γ 2) (by simp [go_sem]) ?_)
   unfold tri nums
   simp -implicitDefEqProofs (disch:=omega) [go_sem,Tryd.f25]
 · rw [show upF 1 = ([5,7],6,true) by simp [upF]]
   simp -implicitDefEqProofs (disch:=omega) [go_sem]
   refine .inl (call_keep _ (to_pc Γ 6 [5,7]) (rw:=true) (cells:=([5,7]:List Int).map fun n=>D.data (.int .i64 n)) (by simp [Hp.upd,Hp.set]) (fun H' hg=>frzL_c (.data _) (frzL_c (frz_nums (rw:=false) hg (.inr rfl) rfl) frzL_n)) ?_)
   unfold tri nums
   simp -implicitDefEqProofs (disch:=omega) [go_sem,Tryd.f25]
 · rw [show upF 2 = ([],2,false) by simp [upF]]
   simp -implicitDefEqProofs (disch:=omega) [go_sem]
   refine .inl (call_data (never_pc Γ 2) (by simp [go_sem]) ?_)
   unfold tri nums
   simp -implicitDefEqProofs (disch:=omega) [go_sem,Tryd.f25]
 · rw [show upF 3 = ([],3,false) by simp [upF]]
   simp -implicitDefEqProofs (disch:=omega) [go_sem]
   refine .inl (call_data (never_pc Γ 3) (by simp [go_sem]) ?_)
   unfold tri nums
   simp -implicitDefEqProofs (disch:=omega) [go_sem,Tryd.f25]
 · rw [show upF 4 = ([],4,false) by simp [upF]]
   simp -implicitDefEqProofs (disch:=omega) [go_sem]
   refine .inl (call_data (never_pc Γ 4) (by simp [go_sem]) ?_)
   unfold tri nums
   simp -implicitDefEqProofs (disch:=omega) [go_sem,Tryd.f25]
 · rw [show upF 5 = ([],5,false) by simp [upF]]
   simp -implicitDefEqProofs (disch:=omega) [go_sem]
   refine .inl (call_data (never_pc Γ 5) (by simp [go_sem]) ?_)
   unfold tri nums
   simp -implicitDefEqProofs (disch:=omega) [go_sem,Tryd.f25]
 · rw [show upF 6 = ([],6,false) by simp [upF]]
   simp -implicitDefEqProofs (disch:=omega) [go_sem]
   refine .inl (call_data (never_pc Γ 6) (by simp [go_sem]) ?_)
   unfold tri nums
   simp -implicitDefEqProofs (disch:=omega) [go_sem,Tryd.f25]
 · rw [show upF 7 = ([],7,false) by simp [upF]]
   simp -implicitDefEqProofs (disch:=omega) [go_sem]
   refine .inl (call_data (never_pc Γ 7) (by simp [go_sem]) ?_)
   unfold tri nums
   simp -implicitDefEqProofs (disch:=omega) [go_sem,Tryd.f25]
 · rw [show upF 8 = ([],8,false) by simp [upF]]
   simp -implicitDefEqProofs (disch:=omega) [go_sem]
   refine .inl (call_data (never_pc Γ 8) (by simp [go_sem]) ?_)
   unfold tri nums
   simp -implicitDefEqProofs (disch:=omega) [go_sem,Tryd.f25]
 · rw [show upF 9 = ([],9,false) by simp [upF]]
   simp -implicitDefEqProofs (disch:=omega) [go_sem]
   refine .inl (call_data (never_pc Γ 9) (by simp [go_sem]) ?_)
   unfold tri nums
   simp -implicitDefEqProofs (disch:=omega) [go_sem,Tryd.f25]
def downF (s:Int)  : R3:=if s = 0 ∨ s = 1 then ([],s,false) else if s = 2 ∨ s = 4 then ([],0,true) else if s = 3 then ([3],1,true) else if s = 9 then ([2],1,true) else ([],1,true)
set_option maxHeartbeats 4000000 in
theorem down_pc (s:Int)  (h:0≤s∧s≤9):PC Tryd.prog Γ 26 [.int .i64 s] (tri (downF s)):=by
 refine pc_by mixed Tryd.func26 rfl (fun args w=>Tryd.call26 args w) ?_
 obtain ⟨h1,h2⟩:=h
 have hs:s = 0 ∨ s = 1 ∨ s = 2 ∨ s = 3 ∨ s = 4 ∨ s = 5 ∨ s = 6 ∨ s = 7 ∨ s = 8 ∨ s = 9:=by omega
 rcases hs with rfl | rfl | rfl | rfl | rfl | rfl | rfl | rfl | rfl | rfl
 · rw [show downF 0 = ([],0,false) by simp [downF]]
   simp -implicitDefEqProofs (disch:=omega) [go_sem]
   refine .inl (call_data (never_pc Γ 0) (by simp [go_sem]) ?_)
   unfold tri nums
   simp -implicitDefEqProofs (disch:=omega) [go_sem,Tryd.f26]
 · rw [show downF 1 = ([],1,false) by simp [downF]]
   simp -implicitDefEqProofs (disch:=omega) [go_sem]
   refine .inl (call_data (never_pc Γ 1) (by simp [go_sem]) ?_)
   unfold tri nums
   simp -implicitDefEqProofs (disch:=omega) [go_sem,Tryd.f26]
 · rw [show downF 2 = ([],0,true) by simp [downF]]
   simp -implicitDefEqProofs (disch:=omega) [go_sem]
   refine .inl (call_data (stay_pc Γ 0) (by simp [go_sem]) ?_)
   unfold tri nums
   simp -implicitDefEqProofs (disch:=omega) [go_sem,Tryd.f26]
 · rw [show downF 3 = ([3],1,true) by simp [downF]]
   simp -implicitDefEqProofs (disch:=omega) [go_sem]
   refine .inl (call_keep _ (to_pc Γ 1 [3]) (rw:=true) (cells:=([3]:List Int).map fun n=>D.data (.int .i64 n)) (by simp [Hp.upd,Hp.set]) (fun H' hg=>frzL_c (.data _) (frzL_c (frz_nums (rw:=false) hg (.inr rfl) rfl) frzL_n)) ?_)
   unfold tri nums
   simp -implicitDefEqProofs (disch:=omega) [go_sem,Tryd.f26]
 · rw [show downF 4 = ([],0,true) by simp [downF]]
   simp -implicitDefEqProofs (disch:=omega) [go_sem]
   refine .inl (call_data (stay_pc Γ 0) (by simp [go_sem]) ?_)
   unfold tri nums
   simp -implicitDefEqProofs (disch:=omega) [go_sem,Tryd.f26]
 · rw [show downF 5 = ([],1,true) by simp [downF]]
   simp -implicitDefEqProofs (disch:=omega) [go_sem]
   refine .inl (call_data (stay_pc Γ 1) (by simp [go_sem]) ?_)
   unfold tri nums
   simp -implicitDefEqProofs (disch:=omega) [go_sem,Tryd.f26]
 · rw [show downF 6 = ([],1,true) by simp [downF]]
   simp -implicitDefEqProofs (disch:=omega) [go_sem]
   refine .inl (call_data (stay_pc Γ 1) (by simp [go_sem]) ?_)
   unfold tri nums
   simp -implicitDefEqProofs (disch:=omega) [go_sem,Tryd.f26]
 · rw [show downF 7 = ([],1,true) by simp [downF]]
   simp -implicitDefEqProofs (disch:=omega) [go_sem]
   refine .inl (call_data (stay_pc Γ 1) (by simp [go_sem]) ?_)
   unfold tri nums
   simp -implicitDefEqProofs (disch:=omega) [go_sem,Tryd.f26]
 · rw [show downF 8 = ([],1,true) by simp [downF]]
   simp -implicitDefEqProofs (disch:=omega) [go_sem]
   refine .inl (call_data (stay_pc Γ 1) (by simp [go_sem]) ?_)
   unfold tri nums
   simp -implicitDefEqProofs (disch:=omega) [go_sem,Tryd.f26]
 · rw [show downF 9 = ([2],1,true) by simp [downF]]
   simp -implicitDefEqProofs (disch:=omega) [go_sem]
   refine .inl (call_keep _ (to_pc Γ 1 [2]) (rw:=true) (cells:=([2]:List Int).map fun n=>D.data (.int .i64 n)) (by simp [Hp.upd,Hp.set]) (fun H' hg=>frzL_c (.data _) (frzL_c (frz_nums (rw:=false) hg (.inr rfl) rfl) frzL_n)) ?_)
   unfold tri nums
   simp -implicitDefEqProofs (disch:=omega) [go_sem,Tryd.f26]
def openedF (s:Int)  : R3:=if s = 0 then ([3],1,true) else if s = 2 then ([5,7],6,true) else if s = 4 then ([],5,true) else ([],s,true)
set_option maxHeartbeats 4000000 in
theorem opened_pc (s:Int)  (h:0≤s∧s≤9):PC Tryd.prog Γ 27 [.int .i64 s] (tri (openedF s)):=by
 refine pc_by mixed Tryd.func27 rfl (fun args w=>Tryd.call27 args w) ?_
 obtain ⟨h1,h2⟩:=h
 have hs:s = 0 ∨ s = 1 ∨ s = 2 ∨ s = 3 ∨ s = 4 ∨ s = 5 ∨ s = 6 ∨ s = 7 ∨ s = 8 ∨ s = 9:=by omega
 rcases hs with rfl | rfl | rfl | rfl | rfl | rfl | rfl | rfl | rfl | rfl
 · rw [show openedF 0 = ([3],1,true) by simp [openedF]]
   simp -implicitDefEqProofs (disch:=omega) [go_sem]
   refine .inl (call_keep _ (to_pc Γ 1 [3]) (rw:=true) (cells:=([3]:List Int).map fun n=>D.data (.int .i64 n)) (by simp [Hp.upd,Hp.set]) (fun H' hg=>frzL_c (.data _) (frzL_c (frz_nums (rw:=false) hg (.inr rfl) rfl) frzL_n)) ?_)
   unfold tri nums
   simp -implicitDefEqProofs (disch:=omega) [go_sem,Tryd.f27]
 · rw [show openedF 1 = ([],1,true) by simp [openedF]]
   simp -implicitDefEqProofs (disch:=omega) [go_sem]
   refine .inl (call_data (stay_pc Γ 1) (by simp [go_sem]) ?_)
   unfold tri nums
   simp -implicitDefEqProofs (disch:=omega) [go_sem,Tryd.f27]
 · rw [show openedF 2 = ([5,7],6,true) by simp [openedF]]
   simp -implicitDefEqProofs (disch:=omega) [go_sem]
   refine .inl (call_keep _ (to_pc Γ 6 [5,7]) (rw:=true) (cells:=([5,7]:List Int).map fun n=>D.data (.int .i64 n)) (by simp [Hp.upd,Hp.set]) (fun H' hg=>frzL_c (.data _) (frzL_c (frz_nums (rw:=false) hg (.inr rfl) rfl) frzL_n)) ?_)
   unfold tri nums
   simp -implicitDefEqProofs (disch:=omega) [go_sem,Tryd.f27]
 · rw [show openedF 3 = ([],3,true) by simp [openedF]]
   simp -implicitDefEqProofs (disch:=omega) [go_sem]
   refine .inl (call_data (stay_pc Γ 3) (by simp [go_sem]) ?_)
   unfold tri nums
   simp -implicitDefEqProofs (disch:=omega) [go_sem,Tryd.f27]
 · rw [show openedF 4 = ([],5,true) by simp [openedF]]
   simp -implicitDefEqProofs (disch:=omega) [go_sem]
   refine .inl (call_data (stay_pc Γ 5) (by simp [go_sem]) ?_)
   unfold tri nums
   simp -implicitDefEqProofs (disch:=omega) [go_sem,Tryd.f27]
 · rw [show openedF 5 = ([],5,true) by simp [openedF]]
   simp -implicitDefEqProofs (disch:=omega) [go_sem]
   refine .inl (call_data (stay_pc Γ 5) (by simp [go_sem]) ?_)
   unfold tri nums
   simp -implicitDefEqProofs (disch:=omega) [go_sem,Tryd.f27]
 · rw [show openedF 6 = ([],6,true) by simp [openedF]]
   simp -implicitDefEqProofs (disch:=omega) [go_sem]
   refine .inl (call_data (stay_pc Γ 6) (by simp [go_sem]) ?_)
   unfold tri nums
   simp -implicitDefEqProofs (disch:=omega) [go_sem,Tryd.f27]
 · rw [show openedF 7 = ([],7,true) by simp [openedF]]
   simp -implicitDefEqProofs (disch:=omega) [go_sem]
   refine .inl (call_data (stay_pc Γ 7) (by simp [go_sem]) ?_)
   unfold tri nums
   simp -implicitDefEqProofs (disch:=omega) [go_sem,Tryd.f27]
 · rw [show openedF 8 = ([],8,true) by simp [openedF]]
   simp -implicitDefEqProofs (disch:=omega) [go_sem]
   refine .inl (call_data (stay_pc Γ 8) (by simp [go_sem]) ?_)
   unfold tri nums
   simp -implicitDefEqProofs (disch:=omega) [go_sem,Tryd.f27]
 · rw [show openedF 9 = ([],9,true) by simp [openedF]]
   simp -implicitDefEqProofs (disch:=omega) [go_sem]
   refine .inl (call_data (stay_pc Γ 9) (by simp [go_sem]) ?_)
   unfold tri nums
   simp -implicitDefEqProofs (disch:=omega) [go_sem,Tryd.f27]
def closedF (s:Int)  : R3:=if s = 1 then ([4],0,true) else if s = 3 then ([],2,true) else if s = 5 then ([],4,true) else if s = 6 ∨ s = 7 ∨ s = 8 then ([5,10],4,true) else if s = 9 then ([2,5,10],4,true) else ([],s,true)
set_option maxHeartbeats 4000000 in
theorem closed_pc (s:Int)  (h:0≤s∧s≤9):PC Tryd.prog Γ 28 [.int .i64 s] (tri (closedF s)):=by
 refine pc_by mixed Tryd.func28 rfl (fun args w=>Tryd.call28 args w) ?_
 obtain ⟨h1,h2⟩:=h
 have hs:s = 0 ∨ s = 1 ∨ s = 2 ∨ s = 3 ∨ s = 4 ∨ s = 5 ∨ s = 6 ∨ s = 7 ∨ s = 8 ∨ s = 9:=by omega
 rcases hs with rfl | rfl | rfl | rfl | rfl | rfl | rfl | rfl | rfl | rfl
 · rw [show closedF 0 = ([],0,true) by simp [closedF]]
   simp -implicitDefEqProofs (disch:=omega) [go_sem]
   refine .inl (call_data (stay_pc Γ 0) (by simp [go_sem]) ?_)
   unfold tri nums
   simp -implicitDefEqProofs (disch:=omega) [go_sem,Tryd.f28]
 · rw [show closedF 1 = ([4],0,true) by simp [closedF]]
   simp -implicitDefEqProofs (disch:=omega) [go_sem]
   refine .inl (call_keep _ (to_pc Γ 0 [4]) (rw:=true) (cells:=([4]:List Int).map fun n=>D.data (.int .i64 n)) (by simp [Hp.upd,Hp.set]) (fun H' hg=>frzL_c (.data _) (frzL_c (frz_nums (rw:=false) hg (.inr rfl) rfl) frzL_n)) ?_)
   unfold tri nums
   simp -implicitDefEqProofs (disch:=omega) [go_sem,Tryd.f28]
 · rw [show closedF 2 = ([],2,true) by simp [closedF]]
   simp -implicitDefEqProofs (disch:=omega) [go_sem]
   refine .inl (call_data (stay_pc Γ 2) (by simp [go_sem]) ?_)
   unfold tri nums
   simp -implicitDefEqProofs (disch:=omega) [go_sem,Tryd.f28]
 · rw [show closedF 3 = ([],2,true) by simp [closedF]]
   simp -implicitDefEqProofs (disch:=omega) [go_sem]
   refine .inl (call_data (stay_pc Γ 2) (by simp [go_sem]) ?_)
   unfold tri nums
   simp -implicitDefEqProofs (disch:=omega) [go_sem,Tryd.f28]
 · rw [show closedF 4 = ([],4,true) by simp [closedF]]
   simp -implicitDefEqProofs (disch:=omega) [go_sem]
   refine .inl (call_data (stay_pc Γ 4) (by simp [go_sem]) ?_)
   unfold tri nums
   simp -implicitDefEqProofs (disch:=omega) [go_sem,Tryd.f28]
 · rw [show closedF 5 = ([],4,true) by simp [closedF]]
   simp -implicitDefEqProofs (disch:=omega) [go_sem]
   refine .inl (call_data (stay_pc Γ 4) (by simp [go_sem]) ?_)
   unfold tri nums
   simp -implicitDefEqProofs (disch:=omega) [go_sem,Tryd.f28]
 · rw [show closedF 6 = ([5,10],4,true) by simp [closedF]]
   simp -implicitDefEqProofs (disch:=omega) [go_sem]
   refine .inl (call_keep _ (to_pc Γ 4 [5,10]) (rw:=true) (cells:=([5,10]:List Int).map fun n=>D.data (.int .i64 n)) (by simp [Hp.upd,Hp.set]) (fun H' hg=>frzL_c (.data _) (frzL_c (frz_nums (rw:=false) hg (.inr rfl) rfl) frzL_n)) ?_)
   unfold tri nums
   simp -implicitDefEqProofs (disch:=omega) [go_sem,Tryd.f28]
 · rw [show closedF 7 = ([5,10],4,true) by simp [closedF]]
   simp -implicitDefEqProofs (disch:=omega) [go_sem]
   refine .inl (call_keep _ (to_pc Γ 4 [5,10]) (rw:=true) (cells:=([5,10]:List Int).map fun n=>D.data (.int .i64 n)) (by simp [Hp.upd,Hp.set]) (fun H' hg=>frzL_c (.data _) (frzL_c (frz_nums (rw:=false) hg (.inr rfl) rfl) frzL_n)) ?_)
   unfold tri nums
   simp -implicitDefEqProofs (disch:=omega) [go_sem,Tryd.f28]
 · rw [show closedF 8 = ([5,10],4,true) by simp [closedF]]
   simp -implicitDefEqProofs (disch:=omega) [go_sem]
   refine .inl (call_keep _ (to_pc Γ 4 [5,10]) (rw:=true) (cells:=([5,10]:List Int).map fun n=>D.data (.int .i64 n)) (by simp [Hp.upd,Hp.set]) (fun H' hg=>frzL_c (.data _) (frzL_c (frz_nums (rw:=false) hg (.inr rfl) rfl) frzL_n)) ?_)
   unfold tri nums
   simp -implicitDefEqProofs (disch:=omega) [go_sem,Tryd.f28]
 · rw [show closedF 9 = ([2,5,10],4,true) by simp [closedF]]
   simp -implicitDefEqProofs (disch:=omega) [go_sem]
   refine .inl (call_keep _ (to_pc Γ 4 [2,5,10]) (rw:=true) (cells:=([2,5,10]:List Int).map fun n=>D.data (.int .i64 n)) (by simp [Hp.upd,Hp.set]) (fun H' hg=>frzL_c (.data _) (frzL_c (frz_nums (rw:=false) hg (.inr rfl) rfl) frzL_n)) ?_)
   unfold tri nums
   simp -implicitDefEqProofs (disch:=omega) [go_sem,Tryd.f28]
def timeoutF (s:Int) (more:Bool):R3:=if s < 4 ∨ 8 < s then ([],s,false) else if more = false∧s = 4 then ([4],2,true) else if more = false then ([4],3,true) else if s = 4 ∨ s = 5 then ([10],s,true) else if s = 7 then ([7],6,true) else ([7],s,true)
set_option maxHeartbeats 4000000 in
theorem timeout_pc (s:Int) (more:Bool) (h:0≤s∧s≤9):PC Tryd.prog Γ 29 [.int .i64 s,.bool more] (tri (timeoutF s more)):=by
 refine pc_by mixed Tryd.func29 rfl (fun args w=>Tryd.call29 args w) ?_
 obtain ⟨h1,h2⟩:=h
 have hs:s = 0 ∨ s = 1 ∨ s = 2 ∨ s = 3 ∨ s = 4 ∨ s = 5 ∨ s = 6 ∨ s = 7 ∨ s = 8 ∨ s = 9:=by omega
 rcases hs with rfl | rfl | rfl | rfl | rfl | rfl | rfl | rfl | rfl | rfl
 · cases more
   · rw [show timeoutF 0 false = ([],0,false) by simp [timeoutF]]
     simp -implicitDefEqProofs (disch:=omega) [go_sem]
     refine .inl (call_data (never_pc Γ 0) (by simp [go_sem]) ?_)
     unfold tri nums
     simp -implicitDefEqProofs (disch:=omega) [go_sem,Tryd.f29]
   · rw [show timeoutF 0 true = ([],0,false) by simp [timeoutF]]
     simp -implicitDefEqProofs (disch:=omega) [go_sem]
     refine .inl (call_data (never_pc Γ 0) (by simp [go_sem]) ?_)
     unfold tri nums
     simp -implicitDefEqProofs (disch:=omega) [go_sem,Tryd.f29]
 · cases more
   · rw [show timeoutF 1 false = ([],1,false) by simp [timeoutF]]
     simp -implicitDefEqProofs (disch:=omega) [go_sem]
     refine .inl (call_data (never_pc Γ 1) (by simp [go_sem]) ?_)
     unfold tri nums
     simp -implicitDefEqProofs (disch:=omega) [go_sem,Tryd.f29]
   · rw [show timeoutF 1 true = ([],1,false) by simp [timeoutF]]
     simp -implicitDefEqProofs (disch:=omega) [go_sem]
     refine .inl (call_data (never_pc Γ 1) (by simp [go_sem]) ?_)
     unfold tri nums
     simp -implicitDefEqProofs (disch:=omega) [go_sem,Tryd.f29]
 · cases more
   · rw [show timeoutF 2 false = ([],2,false) by simp [timeoutF]]
     simp -implicitDefEqProofs (disch:=omega) [go_sem]
     refine .inl (call_data (never_pc Γ 2) (by simp [go_sem]) ?_)
     unfold tri nums
     simp -implicitDefEqProofs (disch:=omega) [go_sem,Tryd.f29]
   · rw [show timeoutF 2 true = ([],2,false) by simp [timeoutF]]
     simp -implicitDefEqProofs (disch:=omega) [go_sem]
     refine .inl (call_data (never_pc Γ 2) (by simp [go_sem]) ?_)
     unfold tri nums
     simp -implicitDefEqProofs (disch:=omega) [go_sem,Tryd.f29]
 · cases more
   · rw [show timeoutF 3 false = ([],3,false) by simp [timeoutF]]
     simp -implicitDefEqProofs (disch:=omega) [go_sem]
     refine .inl (call_data (never_pc Γ 3) (by simp [go_sem]) ?_)
     unfold tri nums
     simp -implicitDefEqProofs (disch:=omega) [go_sem,Tryd.f29]
   · rw [show timeoutF 3 true = ([],3,false) by simp [timeoutF]]
     simp -implicitDefEqProofs (disch:=omega) [go_sem]
     refine .inl (call_data (never_pc Γ 3) (by simp [go_sem]) ?_)
     unfold tri nums
     simp -implicitDefEqProofs (disch:=omega) [go_sem,Tryd.f29]
 · cases more
   · rw [show timeoutF 4 false = ([4],2,true) by simp [timeoutF]]
     simp -implicitDefEqProofs (disch:=omega) [go_sem]
     refine .inl (call_keep _ (to_pc Γ 2 [4]) (rw:=true) (cells:=([4]:List Int).map fun n=>D.data (.int .i64 n)) (by simp [Hp.upd,Hp.set]) (fun H' hg=>frzL_c (.data _) (frzL_c (frz_nums (rw:=false) hg (.inr rfl) rfl) frzL_n)) ?_)
     unfold tri nums
     simp -implicitDefEqProofs (disch:=omega) [go_sem,Tryd.f29]
   · rw [show timeoutF 4 true = ([10],4,true) by simp [timeoutF]]
     simp -implicitDefEqProofs (disch:=omega) [go_sem]
     refine .inl (call_keep _ (to_pc Γ 4 [10]) (rw:=true) (cells:=([10]:List Int).map fun n=>D.data (.int .i64 n)) (by simp [Hp.upd,Hp.set]) (fun H' hg=>frzL_c (.data _) (frzL_c (frz_nums (rw:=false) hg (.inr rfl) rfl) frzL_n)) ?_)
     unfold tri nums
     simp -implicitDefEqProofs (disch:=omega) [go_sem,Tryd.f29]
 · cases more
   · rw [show timeoutF 5 false = ([4],3,true) by simp [timeoutF]]
     simp -implicitDefEqProofs (disch:=omega) [go_sem]
     refine .inl (call_keep _ (to_pc Γ 3 [4]) (rw:=true) (cells:=([4]:List Int).map fun n=>D.data (.int .i64 n)) (by simp [Hp.upd,Hp.set]) (fun H' hg=>frzL_c (.data _) (frzL_c (frz_nums (rw:=false) hg (.inr rfl) rfl) frzL_n)) ?_)
     unfold tri nums
     simp -implicitDefEqProofs (disch:=omega) [go_sem,Tryd.f29]
   · rw [show timeoutF 5 true = ([10],5,true) by simp [timeoutF]]
     simp -implicitDefEqProofs (disch:=omega) [go_sem]
     refine .inl (call_keep _ (to_pc Γ 5 [10]) (rw:=true) (cells:=([10]:List Int).map fun n=>D.data (.int .i64 n)) (by simp [Hp.upd,Hp.set]) (fun H' hg=>frzL_c (.data _) (frzL_c (frz_nums (rw:=false) hg (.inr rfl) rfl) frzL_n)) ?_)
     unfold tri nums
     simp -implicitDefEqProofs (disch:=omega) [go_sem,Tryd.f29]
 · cases more
   · rw [show timeoutF 6 false = ([4],3,true) by simp [timeoutF]]
     simp -implicitDefEqProofs (disch:=omega) [go_sem]
     refine .inl (call_keep _ (to_pc Γ 3 [4]) (rw:=true) (cells:=([4]:List Int).map fun n=>D.data (.int .i64 n)) (by simp [Hp.upd,Hp.set]) (fun H' hg=>frzL_c (.data _) (frzL_c (frz_nums (rw:=false) hg (.inr rfl) rfl) frzL_n)) ?_)
     unfold tri nums
     simp -implicitDefEqProofs (disch:=omega) [go_sem,Tryd.f29]
   · rw [show timeoutF 6 true = ([7],6,true) by simp [timeoutF]]
     simp -implicitDefEqProofs (disch:=omega) [go_sem]
     refine .inl (call_keep _ (to_pc Γ 6 [7]) (rw:=true) (cells:=([7]:List Int).map fun n=>D.data (.int .i64 n)) (by simp [Hp.upd,Hp.set]) (fun H' hg=>frzL_c (.data _) (frzL_c (frz_nums (rw:=false) hg (.inr rfl) rfl) frzL_n)) ?_)
     unfold tri nums
     simp -implicitDefEqProofs (disch:=omega) [go_sem,Tryd.f29]
 · cases more
   · rw [show timeoutF 7 false = ([4],3,true) by simp [timeoutF]]
     simp -implicitDefEqProofs (disch:=omega) [go_sem]
     refine .inl (call_keep _ (to_pc Γ 3 [4]) (rw:=true) (cells:=([4]:List Int).map fun n=>D.data (.int .i64 n)) (by simp [Hp.upd,Hp.set]) (fun H' hg=>frzL_c (.data _) (frzL_c (frz_nums (rw:=false) hg (.inr rfl) rfl) frzL_n)) ?_)
     unfold tri nums
     simp -implicitDefEqProofs (disch:=omega) [go_sem,Tryd.f29]
   · rw [show timeoutF 7 true = ([7],6,true) by simp [timeoutF]]
     simp -implicitDefEqProofs (disch:=omega) [go_sem]
     refine .inl (call_keep _ (to_pc Γ 6 [7]) (rw:=true) (cells:=([7]:List Int).map fun n=>D.data (.int .i64 n)) (by simp [Hp.upd,Hp.set]) (fun H' hg=>frzL_c (.data _) (frzL_c (frz_nums (rw:=false) hg (.inr rfl) rfl) frzL_n)) ?_)
     unfold tri nums
     simp -implicitDefEqProofs (disch:=omega) [go_sem,Tryd.f29]
 · cases more
   · rw [show timeoutF 8 false = ([4],3,true) by simp [timeoutF]]
     simp -implicitDefEqProofs (disch:=omega) [go_sem]
     refine .inl (call_keep _ (to_pc Γ 3 [4]) (rw:=true) (cells:=([4]:List Int).map fun n=>D.data (.int .i64 n)) (by simp [Hp.upd,Hp.set]) (fun H' hg=>frzL_c (.data _) (frzL_c (frz_nums (rw:=false) hg (.inr rfl) rfl) frzL_n)) ?_)
     unfold tri nums
     simp -implicitDefEqProofs (disch:=omega) [go_sem,Tryd.f29]
   · rw [show timeoutF 8 true = ([7],8,true) by simp [timeoutF]]
     simp -implicitDefEqProofs (disch:=omega) [go_sem]
     refine .inl (call_keep _ (to_pc Γ 8 [7]) (rw:=true) (cells:=([7]:List Int).map fun n=>D.data (.int .i64 n)) (by simp [Hp.upd,Hp.set]) (fun H' hg=>frzL_c (.data _) (frzL_c (frz_nums (rw:=false) hg (.inr rfl) rfl) frzL_n)) ?_)
     unfold tri nums
     simp -implicitDefEqProofs (disch:=omega) [go_sem,Tryd.f29]
 · cases more
   · rw [show timeoutF 9 false = ([],9,false) by simp [timeoutF]]
     simp -implicitDefEqProofs (disch:=omega) [go_sem]
     refine .inl (call_data (never_pc Γ 9) (by simp [go_sem]) ?_)
     unfold tri nums
     simp -implicitDefEqProofs (disch:=omega) [go_sem,Tryd.f29]
   · rw [show timeoutF 9 true = ([],9,false) by simp [timeoutF]]
     simp -implicitDefEqProofs (disch:=omega) [go_sem]
     refine .inl (call_data (never_pc Γ 9) (by simp [go_sem]) ?_)
     unfold tri nums
     simp -implicitDefEqProofs (disch:=omega) [go_sem,Tryd.f29]
def requestF (s:Int) (good:Bool) (act:Int):R3:=if s = 2 then ([11],2,true) else if s = 3 then ([5,7,act],(if good = true then 8 else 6),true) else if s = 4 ∨ s = 5 then ([],s,true) else if s = 7∧good = true then ([act,1],9,true) else if s = 7 then ([act],7,true) else if s = 9 then ([2,7,act],(if good = true then 8 else 6),true) else ([act],(if good = true then 8 else 6),true)
set_option maxHeartbeats 4000000 in
theorem request_pc (s:Int) (good:Bool) (act:Int) (h:0≤s∧s≤9):PC Tryd.prog Γ 30 [.int .i64 s,.bool good,.int .i64 act] (tri (requestF s good act)):=by
 refine pc_by mixed Tryd.func30 rfl (fun args w=>Tryd.call30 args w) ?_
 obtain ⟨h1,h2⟩:=h
 have hs:s = 0 ∨ s = 1 ∨ s = 2 ∨ s = 3 ∨ s = 4 ∨ s = 5 ∨ s = 6 ∨ s = 7 ∨ s = 8 ∨ s = 9:=by omega
 rcases hs with rfl | rfl | rfl | rfl | rfl | rfl | rfl | rfl | rfl | rfl
 · cases good
   · rw [show requestF 0 false act = ([act],6,true) by simp [requestF]]
     simp -implicitDefEqProofs (disch:=omega) [go_sem]
     refine .inl (call_keep _ (to_pc Γ 6 [act]) (rw:=true) (cells:=([act]:List Int).map fun n=>D.data (.int .i64 n)) (by simp [Hp.upd,Hp.set]) (fun H' hg=>frzL_c (.data _) (frzL_c (frz_nums (rw:=false) hg (.inr rfl) rfl) frzL_n)) ?_)
     unfold tri nums
     simp -implicitDefEqProofs (disch:=omega) [go_sem,Tryd.f30]
   · rw [show requestF 0 true act = ([act],8,true) by simp [requestF]]
     simp -implicitDefEqProofs (disch:=omega) [go_sem]
     refine .inl (call_keep _ (to_pc Γ 8 [act]) (rw:=true) (cells:=([act]:List Int).map fun n=>D.data (.int .i64 n)) (by simp [Hp.upd,Hp.set]) (fun H' hg=>frzL_c (.data _) (frzL_c (frz_nums (rw:=false) hg (.inr rfl) rfl) frzL_n)) ?_)
     unfold tri nums
     simp -implicitDefEqProofs (disch:=omega) [go_sem,Tryd.f30]
 · cases good
   · rw [show requestF 1 false act = ([act],6,true) by simp [requestF]]
     simp -implicitDefEqProofs (disch:=omega) [go_sem]
     refine .inl (call_keep _ (to_pc Γ 6 [act]) (rw:=true) (cells:=([act]:List Int).map fun n=>D.data (.int .i64 n)) (by simp [Hp.upd,Hp.set]) (fun H' hg=>frzL_c (.data _) (frzL_c (frz_nums (rw:=false) hg (.inr rfl) rfl) frzL_n)) ?_)
     unfold tri nums
     simp -implicitDefEqProofs (disch:=omega) [go_sem,Tryd.f30]
   · rw [show requestF 1 true act = ([act],8,true) by simp [requestF]]
     simp -implicitDefEqProofs (disch:=omega) [go_sem]
     refine .inl (call_keep _ (to_pc Γ 8 [act]) (rw:=true) (cells:=([act]:List Int).map fun n=>D.data (.int .i64 n)) (by simp [Hp.upd,Hp.set]) (fun H' hg=>frzL_c (.data _) (frzL_c (frz_nums (rw:=false) hg (.inr rfl) rfl) frzL_n)) ?_)
     unfold tri nums
     simp -implicitDefEqProofs (disch:=omega) [go_sem,Tryd.f30]
 · cases good
   · rw [show requestF 2 false act = ([11],2,true) by simp [requestF]]
     simp -implicitDefEqProofs (disch:=omega) [go_sem]
     refine .inl (call_keep _ (to_pc Γ 2 [11]) (rw:=true) (cells:=([11]:List Int).map fun n=>D.data (.int .i64 n)) (by simp [Hp.upd,Hp.set]) (fun H' hg=>frzL_c (.data _) (frzL_c (frz_nums (rw:=false) hg (.inr rfl) rfl) frzL_n)) ?_)
     unfold tri nums
     simp -implicitDefEqProofs (disch:=omega) [go_sem,Tryd.f30]
   · rw [show requestF 2 true act = ([11],2,true) by simp [requestF]]
     simp -implicitDefEqProofs (disch:=omega) [go_sem]
     refine .inl (call_keep _ (to_pc Γ 2 [11]) (rw:=true) (cells:=([11]:List Int).map fun n=>D.data (.int .i64 n)) (by simp [Hp.upd,Hp.set]) (fun H' hg=>frzL_c (.data _) (frzL_c (frz_nums (rw:=false) hg (.inr rfl) rfl) frzL_n)) ?_)
     unfold tri nums
     simp -implicitDefEqProofs (disch:=omega) [go_sem,Tryd.f30]
 · cases good
   · rw [show requestF 3 false act = ([5,7,act],6,true) by simp [requestF]]
     simp -implicitDefEqProofs (disch:=omega) [go_sem]
     refine .inl (call_keep _ (to_pc Γ 6 [5,7,act]) (rw:=true) (cells:=([5,7,act]:List Int).map fun n=>D.data (.int .i64 n)) (by simp [Hp.upd,Hp.set]) (fun H' hg=>frzL_c (.data _) (frzL_c (frz_nums (rw:=false) hg (.inr rfl) rfl) frzL_n)) ?_)
     unfold tri nums
     simp -implicitDefEqProofs (disch:=omega) [go_sem,Tryd.f30]
   · rw [show requestF 3 true act = ([5,7,act],8,true) by simp [requestF]]
     simp -implicitDefEqProofs (disch:=omega) [go_sem]
     refine .inl (call_keep _ (to_pc Γ 8 [5,7,act]) (rw:=true) (cells:=([5,7,act]:List Int).map fun n=>D.data (.int .i64 n)) (by simp [Hp.upd,Hp.set]) (fun H' hg=>frzL_c (.data _) (frzL_c (frz_nums (rw:=false) hg (.inr rfl) rfl) frzL_n)) ?_)
     unfold tri nums
     simp -implicitDefEqProofs (disch:=omega) [go_sem,Tryd.f30]
 · cases good
   · rw [show requestF 4 false act = ([],4,true) by simp [requestF]]
     simp -implicitDefEqProofs (disch:=omega) [go_sem]
     refine .inl (call_data (stay_pc Γ 4) (by simp [go_sem]) ?_)
     unfold tri nums
     simp -implicitDefEqProofs (disch:=omega) [go_sem,Tryd.f30]
   · rw [show requestF 4 true act = ([],4,true) by simp [requestF]]
     simp -implicitDefEqProofs (disch:=omega) [go_sem]
     refine .inl (call_data (stay_pc Γ 4) (by simp [go_sem]) ?_)
     unfold tri nums
     simp -implicitDefEqProofs (disch:=omega) [go_sem,Tryd.f30]
 · cases good
   · rw [show requestF 5 false act = ([],5,true) by simp [requestF]]
     simp -implicitDefEqProofs (disch:=omega) [go_sem]
     refine .inl (call_data (stay_pc Γ 5) (by simp [go_sem]) ?_)
     unfold tri nums
     simp -implicitDefEqProofs (disch:=omega) [go_sem,Tryd.f30]
   · rw [show requestF 5 true act = ([],5,true) by simp [requestF]]
     simp -implicitDefEqProofs (disch:=omega) [go_sem]
     refine .inl (call_data (stay_pc Γ 5) (by simp [go_sem]) ?_)
     unfold tri nums
     simp -implicitDefEqProofs (disch:=omega) [go_sem,Tryd.f30]
 · cases good
   · rw [show requestF 6 false act = ([act],6,true) by simp [requestF]]
     simp -implicitDefEqProofs (disch:=omega) [go_sem]
     refine .inl (call_keep _ (to_pc Γ 6 [act]) (rw:=true) (cells:=([act]:List Int).map fun n=>D.data (.int .i64 n)) (by simp [Hp.upd,Hp.set]) (fun H' hg=>frzL_c (.data _) (frzL_c (frz_nums (rw:=false) hg (.inr rfl) rfl) frzL_n)) ?_)
     unfold tri nums
     simp -implicitDefEqProofs (disch:=omega) [go_sem,Tryd.f30]
   · rw [show requestF 6 true act = ([act],8,true) by simp [requestF]]
     simp -implicitDefEqProofs (disch:=omega) [go_sem]
     refine .inl (call_keep _ (to_pc Γ 8 [act]) (rw:=true) (cells:=([act]:List Int).map fun n=>D.data (.int .i64 n)) (by simp [Hp.upd,Hp.set]) (fun H' hg=>frzL_c (.data _) (frzL_c (frz_nums (rw:=false) hg (.inr rfl) rfl) frzL_n)) ?_)
     unfold tri nums
     simp -implicitDefEqProofs (disch:=omega) [go_sem,Tryd.f30]
 · cases good
   · rw [show requestF 7 false act = ([act],7,true) by simp [requestF]]
     simp -implicitDefEqProofs (disch:=omega) [go_sem]
     refine .inl (call_keep _ (to_pc Γ 7 [act]) (rw:=true) (cells:=([act]:List Int).map fun n=>D.data (.int .i64 n)) (by simp [Hp.upd,Hp.set]) (fun H' hg=>frzL_c (.data _) (frzL_c (frz_nums (rw:=false) hg (.inr rfl) rfl) frzL_n)) ?_)
     unfold tri nums
     simp -implicitDefEqProofs (disch:=omega) [go_sem,Tryd.f30]
   · rw [show requestF 7 true act = ([act,1],9,true) by simp [requestF]]
     simp -implicitDefEqProofs (disch:=omega) [go_sem]
     refine .inl (call_keep _ (to_pc Γ 9 [act,1]) (rw:=true) (cells:=([act,1]:List Int).map fun n=>D.data (.int .i64 n)) (by simp [Hp.upd,Hp.set]) (fun H' hg=>frzL_c (.data _) (frzL_c (frz_nums (rw:=false) hg (.inr rfl) rfl) frzL_n)) ?_)
     unfold tri nums
     simp -implicitDefEqProofs (disch:=omega) [go_sem,Tryd.f30]
 · cases good
   · rw [show requestF 8 false act = ([act],6,true) by simp [requestF]]
     simp -implicitDefEqProofs (disch:=omega) [go_sem]
     refine .inl (call_keep _ (to_pc Γ 6 [act]) (rw:=true) (cells:=([act]:List Int).map fun n=>D.data (.int .i64 n)) (by simp [Hp.upd,Hp.set]) (fun H' hg=>frzL_c (.data _) (frzL_c (frz_nums (rw:=false) hg (.inr rfl) rfl) frzL_n)) ?_)
     unfold tri nums
     simp -implicitDefEqProofs (disch:=omega) [go_sem,Tryd.f30]
   · rw [show requestF 8 true act = ([act],8,true) by simp [requestF]]
     simp -implicitDefEqProofs (disch:=omega) [go_sem]
     refine .inl (call_keep _ (to_pc Γ 8 [act]) (rw:=true) (cells:=([act]:List Int).map fun n=>D.data (.int .i64 n)) (by simp [Hp.upd,Hp.set]) (fun H' hg=>frzL_c (.data _) (frzL_c (frz_nums (rw:=false) hg (.inr rfl) rfl) frzL_n)) ?_)
     unfold tri nums
     simp -implicitDefEqProofs (disch:=omega) [go_sem,Tryd.f30]
 · cases good
   · rw [show requestF 9 false act = ([2,7,act],6,true) by simp [requestF]]
     simp -implicitDefEqProofs (disch:=omega) [go_sem]
     refine .inl (call_keep _ (to_pc Γ 6 [2,7,act]) (rw:=true) (cells:=([2,7,act]:List Int).map fun n=>D.data (.int .i64 n)) (by simp [Hp.upd,Hp.set]) (fun H' hg=>frzL_c (.data _) (frzL_c (frz_nums (rw:=false) hg (.inr rfl) rfl) frzL_n)) ?_)
     unfold tri nums
     simp -implicitDefEqProofs (disch:=omega) [go_sem,Tryd.f30]
   · rw [show requestF 9 true act = ([2,7,act],8,true) by simp [requestF]]
     simp -implicitDefEqProofs (disch:=omega) [go_sem]
     refine .inl (call_keep _ (to_pc Γ 8 [2,7,act]) (rw:=true) (cells:=([2,7,act]:List Int).map fun n=>D.data (.int .i64 n)) (by simp [Hp.upd,Hp.set]) (fun H' hg=>frzL_c (.data _) (frzL_c (frz_nums (rw:=false) hg (.inr rfl) rfl) frzL_n)) ?_)
     unfold tri nums
     simp -implicitDefEqProofs (disch:=omega) [go_sem,Tryd.f30]
def answerF (s:Int) (ack:Bool):R3:=if s = 2 ∨ s = 3 then ([11],s,true) else if s = 4 ∨ s = 5 then ([],s,true) else if s = 7 then ([7],6,true) else if s = 9 then ([2,7],6,true) else if ack = true∧s = 6 then ([5],7,true) else if ack = true then ([5,1],9,true) else ([5,7],s,true)
set_option maxHeartbeats 4000000 in
theorem answer_pc (s:Int) (ack:Bool) (h:0≤s∧s≤9):PC Tryd.prog Γ 31 [.int .i64 s,.bool ack] (tri (answerF s ack)):=by
 refine pc_by mixed Tryd.func31 rfl (fun args w=>Tryd.call31 args w) ?_
 obtain ⟨h1,h2⟩:=h
 have hs:s = 0 ∨ s = 1 ∨ s = 2 ∨ s = 3 ∨ s = 4 ∨ s = 5 ∨ s = 6 ∨ s = 7 ∨ s = 8 ∨ s = 9:=by omega
 rcases hs with rfl | rfl | rfl | rfl | rfl | rfl | rfl | rfl | rfl | rfl
 · cases ack
   · rw [show answerF 0 false = ([5,7],0,true) by simp [answerF]]
     simp -implicitDefEqProofs (disch:=omega) [go_sem]
     refine .inl (call_keep _ (to_pc Γ 0 [5,7]) (rw:=true) (cells:=([5,7]:List Int).map fun n=>D.data (.int .i64 n)) (by simp [Hp.upd,Hp.set]) (fun H' hg=>frzL_c (.data _) (frzL_c (frz_nums (rw:=false) hg (.inr rfl) rfl) frzL_n)) ?_)
     unfold tri nums
     simp -implicitDefEqProofs (disch:=omega) [go_sem,Tryd.f31]
   · rw [show answerF 0 true = ([5,1],9,true) by simp [answerF]]
     simp -implicitDefEqProofs (disch:=omega) [go_sem]
     refine .inl (call_keep _ (to_pc Γ 9 [5,1]) (rw:=true) (cells:=([5,1]:List Int).map fun n=>D.data (.int .i64 n)) (by simp [Hp.upd,Hp.set]) (fun H' hg=>frzL_c (.data _) (frzL_c (frz_nums (rw:=false) hg (.inr rfl) rfl) frzL_n)) ?_)
     unfold tri nums
     simp -implicitDefEqProofs (disch:=omega) [go_sem,Tryd.f31]
 · cases ack
   · rw [show answerF 1 false = ([5,7],1,true) by simp [answerF]]
     simp -implicitDefEqProofs (disch:=omega) [go_sem]
     refine .inl (call_keep _ (to_pc Γ 1 [5,7]) (rw:=true) (cells:=([5,7]:List Int).map fun n=>D.data (.int .i64 n)) (by simp [Hp.upd,Hp.set]) (fun H' hg=>frzL_c (.data _) (frzL_c (frz_nums (rw:=false) hg (.inr rfl) rfl) frzL_n)) ?_)
     unfold tri nums
     simp -implicitDefEqProofs (disch:=omega) [go_sem,Tryd.f31]
   · rw [show answerF 1 true = ([5,1],9,true) by simp [answerF]]
     simp -implicitDefEqProofs (disch:=omega) [go_sem]
     refine .inl (call_keep _ (to_pc Γ 9 [5,1]) (rw:=true) (cells:=([5,1]:List Int).map fun n=>D.data (.int .i64 n)) (by simp [Hp.upd,Hp.set]) (fun H' hg=>frzL_c (.data _) (frzL_c (frz_nums (rw:=false) hg (.inr rfl) rfl) frzL_n)) ?_)
     unfold tri nums
     simp -implicitDefEqProofs (disch:=omega) [go_sem,Tryd.f31]
 · cases ack
   · rw [show answerF 2 false = ([11],2,true) by simp [answerF]]
     simp -implicitDefEqProofs (disch:=omega) [go_sem]
     refine .inl (call_keep _ (to_pc Γ 2 [11]) (rw:=true) (cells:=([11]:List Int).map fun n=>D.data (.int .i64 n)) (by simp [Hp.upd,Hp.set]) (fun H' hg=>frzL_c (.data _) (frzL_c (frz_nums (rw:=false) hg (.inr rfl) rfl) frzL_n)) ?_)
     unfold tri nums
     simp -implicitDefEqProofs (disch:=omega) [go_sem,Tryd.f31]
   · rw [show answerF 2 true = ([11],2,true) by simp [answerF]]
     simp -implicitDefEqProofs (disch:=omega) [go_sem]
     refine .inl (call_keep _ (to_pc Γ 2 [11]) (rw:=true) (cells:=([11]:List Int).map fun n=>D.data (.int .i64 n)) (by simp [Hp.upd,Hp.set]) (fun H' hg=>frzL_c (.data _) (frzL_c (frz_nums (rw:=false) hg (.inr rfl) rfl) frzL_n)) ?_)
     unfold tri nums
     simp -implicitDefEqProofs (disch:=omega) [go_sem,Tryd.f31]
 · cases ack
   · rw [show answerF 3 false = ([11],3,true) by simp [answerF]]
     simp -implicitDefEqProofs (disch:=omega) [go_sem]
     refine .inl (call_keep _ (to_pc Γ 3 [11]) (rw:=true) (cells:=([11]:List Int).map fun n=>D.data (.int .i64 n)) (by simp [Hp.upd,Hp.set]) (fun H' hg=>frzL_c (.data _) (frzL_c (frz_nums (rw:=false) hg (.inr rfl) rfl) frzL_n)) ?_)
     unfold tri nums
     simp -implicitDefEqProofs (disch:=omega) [go_sem,Tryd.f31]
   · rw [show answerF 3 true = ([11],3,true) by simp [answerF]]
     simp -implicitDefEqProofs (disch:=omega) [go_sem]
     refine .inl (call_keep _ (to_pc Γ 3 [11]) (rw:=true) (cells:=([11]:List Int).map fun n=>D.data (.int .i64 n)) (by simp [Hp.upd,Hp.set]) (fun H' hg=>frzL_c (.data _) (frzL_c (frz_nums (rw:=false) hg (.inr rfl) rfl) frzL_n)) ?_)
     unfold tri nums
     simp -implicitDefEqProofs (disch:=omega) [go_sem,Tryd.f31]
 · cases ack
   · rw [show answerF 4 false = ([],4,true) by simp [answerF]]
     simp -implicitDefEqProofs (disch:=omega) [go_sem]
     refine .inl (call_data (stay_pc Γ 4) (by simp [go_sem]) ?_)
     unfold tri nums
     simp -implicitDefEqProofs (disch:=omega) [go_sem,Tryd.f31]
   · rw [show answerF 4 true = ([],4,true) by simp [answerF]]
     simp -implicitDefEqProofs (disch:=omega) [go_sem]
     refine .inl (call_data (stay_pc Γ 4) (by simp [go_sem]) ?_)
     unfold tri nums
     simp -implicitDefEqProofs (disch:=omega) [go_sem,Tryd.f31]
 · cases ack
   · rw [show answerF 5 false = ([],5,true) by simp [answerF]]
     simp -implicitDefEqProofs (disch:=omega) [go_sem]
     refine .inl (call_data (stay_pc Γ 5) (by simp [go_sem]) ?_)
     unfold tri nums
     simp -implicitDefEqProofs (disch:=omega) [go_sem,Tryd.f31]
   · rw [show answerF 5 true = ([],5,true) by simp [answerF]]
     simp -implicitDefEqProofs (disch:=omega) [go_sem]
     refine .inl (call_data (stay_pc Γ 5) (by simp [go_sem]) ?_)
     unfold tri nums
     simp -implicitDefEqProofs (disch:=omega) [go_sem,Tryd.f31]
 · cases ack
   · rw [show answerF 6 false = ([5,7],6,true) by simp [answerF]]
     simp -implicitDefEqProofs (disch:=omega) [go_sem]
     refine .inl (call_keep _ (to_pc Γ 6 [5,7]) (rw:=true) (cells:=([5,7]:List Int).map fun n=>D.data (.int .i64 n)) (by simp [Hp.upd,Hp.set]) (fun H' hg=>frzL_c (.data _) (frzL_c (frz_nums (rw:=false) hg (.inr rfl) rfl) frzL_n)) ?_)
     unfold tri nums
     simp -implicitDefEqProofs (disch:=omega) [go_sem,Tryd.f31]
   · rw [show answerF 6 true = ([5],7,true) by simp [answerF]]
     simp -implicitDefEqProofs (disch:=omega) [go_sem]
     refine .inl (call_keep _ (to_pc Γ 7 [5]) (rw:=true) (cells:=([5]:List Int).map fun n=>D.data (.int .i64 n)) (by simp [Hp.upd,Hp.set]) (fun H' hg=>frzL_c (.data _) (frzL_c (frz_nums (rw:=false) hg (.inr rfl) rfl) frzL_n)) ?_)
     unfold tri nums
     simp -implicitDefEqProofs (disch:=omega) [go_sem,Tryd.f31]
 · cases ack
   · rw [show answerF 7 false = ([7],6,true) by simp [answerF]]
     simp -implicitDefEqProofs (disch:=omega) [go_sem]
     refine .inl (call_keep _ (to_pc Γ 6 [7]) (rw:=true) (cells:=([7]:List Int).map fun n=>D.data (.int .i64 n)) (by simp [Hp.upd,Hp.set]) (fun H' hg=>frzL_c (.data _) (frzL_c (frz_nums (rw:=false) hg (.inr rfl) rfl) frzL_n)) ?_)
     unfold tri nums
     simp -implicitDefEqProofs (disch:=omega) [go_sem,Tryd.f31]
   · rw [show answerF 7 true = ([7],6,true) by simp [answerF]]
     simp -implicitDefEqProofs (disch:=omega) [go_sem]
     refine .inl (call_keep _ (to_pc Γ 6 [7]) (rw:=true) (cells:=([7]:List Int).map fun n=>D.data (.int .i64 n)) (by simp [Hp.upd,Hp.set]) (fun H' hg=>frzL_c (.data _) (frzL_c (frz_nums (rw:=false) hg (.inr rfl) rfl) frzL_n)) ?_)
     unfold tri nums
     simp -implicitDefEqProofs (disch:=omega) [go_sem,Tryd.f31]
 · cases ack
   · rw [show answerF 8 false = ([5,7],8,true) by simp [answerF]]
     simp -implicitDefEqProofs (disch:=omega) [go_sem]
     refine .inl (call_keep _ (to_pc Γ 8 [5,7]) (rw:=true) (cells:=([5,7]:List Int).map fun n=>D.data (.int .i64 n)) (by simp [Hp.upd,Hp.set]) (fun H' hg=>frzL_c (.data _) (frzL_c (frz_nums (rw:=false) hg (.inr rfl) rfl) frzL_n)) ?_)
     unfold tri nums
     simp -implicitDefEqProofs (disch:=omega) [go_sem,Tryd.f31]
   · rw [show answerF 8 true = ([5,1],9,true) by simp [answerF]]
     simp -implicitDefEqProofs (disch:=omega) [go_sem]
     refine .inl (call_keep _ (to_pc Γ 9 [5,1]) (rw:=true) (cells:=([5,1]:List Int).map fun n=>D.data (.int .i64 n)) (by simp [Hp.upd,Hp.set]) (fun H' hg=>frzL_c (.data _) (frzL_c (frz_nums (rw:=false) hg (.inr rfl) rfl) frzL_n)) ?_)
     unfold tri nums
     simp -implicitDefEqProofs (disch:=omega) [go_sem,Tryd.f31]
 · cases ack
   · rw [show answerF 9 false = ([2,7],6,true) by simp [answerF]]
     simp -implicitDefEqProofs (disch:=omega) [go_sem]
     refine .inl (call_keep _ (to_pc Γ 6 [2,7]) (rw:=true) (cells:=([2,7]:List Int).map fun n=>D.data (.int .i64 n)) (by simp [Hp.upd,Hp.set]) (fun H' hg=>frzL_c (.data _) (frzL_c (frz_nums (rw:=false) hg (.inr rfl) rfl) frzL_n)) ?_)
     unfold tri nums
     simp -implicitDefEqProofs (disch:=omega) [go_sem,Tryd.f31]
   · rw [show answerF 9 true = ([2,7],6,true) by simp [answerF]]
     simp -implicitDefEqProofs (disch:=omega) [go_sem]
     refine .inl (call_keep _ (to_pc Γ 6 [2,7]) (rw:=true) (cells:=([2,7]:List Int).map fun n=>D.data (.int .i64 n)) (by simp [Hp.upd,Hp.set]) (fun H' hg=>frzL_c (.data _) (frzL_c (frz_nums (rw:=false) hg (.inr rfl) rfl) frzL_n)) ?_)
     unfold tri nums
     simp -implicitDefEqProofs (disch:=omega) [go_sem,Tryd.f31]
def endF (s:Int)  : R3:=if s = 9 then ([2,6,11],5,true) else if 6≤s then ([11],6,true) else ([11],s,true)
set_option maxHeartbeats 4000000 in
theorem end_pc (s:Int)  (h:0≤s∧s≤9):PC Tryd.prog Γ 32 [.int .i64 s] (tri (endF s)):=by
 refine pc_by mixed Tryd.func32 rfl (fun args w=>Tryd.call32 args w) ?_
 obtain ⟨h1,h2⟩:=h
 have hs:s = 0 ∨ s = 1 ∨ s = 2 ∨ s = 3 ∨ s = 4 ∨ s = 5 ∨ s = 6 ∨ s = 7 ∨ s = 8 ∨ s = 9:=by omega
 rcases hs with rfl | rfl | rfl | rfl | rfl | rfl | rfl | rfl | rfl | rfl
 · rw [show endF 0 = ([11],0,true) by simp [endF]]
   simp -implicitDefEqProofs (disch:=omega) [go_sem]
   refine .inl (call_keep _ (to_pc Γ 0 [11]) (rw:=true) (cells:=([11]:List Int).map fun n=>D.data (.int .i64 n)) (by simp [Hp.upd,Hp.set]) (fun H' hg=>frzL_c (.data _) (frzL_c (frz_nums (rw:=false) hg (.inr rfl) rfl) frzL_n)) ?_)
   unfold tri nums
   simp -implicitDefEqProofs (disch:=omega) [go_sem,Tryd.f32]
 · rw [show endF 1 = ([11],1,true) by simp [endF]]
   simp -implicitDefEqProofs (disch:=omega) [go_sem]
   refine .inl (call_keep _ (to_pc Γ 1 [11]) (rw:=true) (cells:=([11]:List Int).map fun n=>D.data (.int .i64 n)) (by simp [Hp.upd,Hp.set]) (fun H' hg=>frzL_c (.data _) (frzL_c (frz_nums (rw:=false) hg (.inr rfl) rfl) frzL_n)) ?_)
   unfold tri nums
   simp -implicitDefEqProofs (disch:=omega) [go_sem,Tryd.f32]
 · rw [show endF 2 = ([11],2,true) by simp [endF]]
   simp -implicitDefEqProofs (disch:=omega) [go_sem]
   refine .inl (call_keep _ (to_pc Γ 2 [11]) (rw:=true) (cells:=([11]:List Int).map fun n=>D.data (.int .i64 n)) (by simp [Hp.upd,Hp.set]) (fun H' hg=>frzL_c (.data _) (frzL_c (frz_nums (rw:=false) hg (.inr rfl) rfl) frzL_n)) ?_)
   unfold tri nums
   simp -implicitDefEqProofs (disch:=omega) [go_sem,Tryd.f32]
 · rw [show endF 3 = ([11],3,true) by simp [endF]]
   simp -implicitDefEqProofs (disch:=omega) [go_sem]
   refine .inl (call_keep _ (to_pc Γ 3 [11]) (rw:=true) (cells:=([11]:List Int).map fun n=>D.data (.int .i64 n)) (by simp [Hp.upd,Hp.set]) (fun H' hg=>frzL_c (.data _) (frzL_c (frz_nums (rw:=false) hg (.inr rfl) rfl) frzL_n)) ?_)
   unfold tri nums
   simp -implicitDefEqProofs (disch:=omega) [go_sem,Tryd.f32]
 · rw [show endF 4 = ([11],4,true) by simp [endF]]
   simp -implicitDefEqProofs (disch:=omega) [go_sem]
   refine .inl (call_keep _ (to_pc Γ 4 [11]) (rw:=true) (cells:=([11]:List Int).map fun n=>D.data (.int .i64 n)) (by simp [Hp.upd,Hp.set]) (fun H' hg=>frzL_c (.data _) (frzL_c (frz_nums (rw:=false) hg (.inr rfl) rfl) frzL_n)) ?_)
   unfold tri nums
   simp -implicitDefEqProofs (disch:=omega) [go_sem,Tryd.f32]
 · rw [show endF 5 = ([11],5,true) by simp [endF]]
   simp -implicitDefEqProofs (disch:=omega) [go_sem]
   refine .inl (call_keep _ (to_pc Γ 5 [11]) (rw:=true) (cells:=([11]:List Int).map fun n=>D.data (.int .i64 n)) (by simp [Hp.upd,Hp.set]) (fun H' hg=>frzL_c (.data _) (frzL_c (frz_nums (rw:=false) hg (.inr rfl) rfl) frzL_n)) ?_)
   unfold tri nums
   simp -implicitDefEqProofs (disch:=omega) [go_sem,Tryd.f32]
 · rw [show endF 6 = ([11],6,true) by simp [endF]]
   simp -implicitDefEqProofs (disch:=omega) [go_sem]
   refine .inl (call_keep _ (to_pc Γ 6 [11]) (rw:=true) (cells:=([11]:List Int).map fun n=>D.data (.int .i64 n)) (by simp [Hp.upd,Hp.set]) (fun H' hg=>frzL_c (.data _) (frzL_c (frz_nums (rw:=false) hg (.inr rfl) rfl) frzL_n)) ?_)
   unfold tri nums
   simp -implicitDefEqProofs (disch:=omega) [go_sem,Tryd.f32]
 · rw [show endF 7 = ([11],6,true) by simp [endF]]
   simp -implicitDefEqProofs (disch:=omega) [go_sem]
   refine .inl (call_keep _ (to_pc Γ 6 [11]) (rw:=true) (cells:=([11]:List Int).map fun n=>D.data (.int .i64 n)) (by simp [Hp.upd,Hp.set]) (fun H' hg=>frzL_c (.data _) (frzL_c (frz_nums (rw:=false) hg (.inr rfl) rfl) frzL_n)) ?_)
   unfold tri nums
   simp -implicitDefEqProofs (disch:=omega) [go_sem,Tryd.f32]
 · rw [show endF 8 = ([11],6,true) by simp [endF]]
   simp -implicitDefEqProofs (disch:=omega) [go_sem]
   refine .inl (call_keep _ (to_pc Γ 6 [11]) (rw:=true) (cells:=([11]:List Int).map fun n=>D.data (.int .i64 n)) (by simp [Hp.upd,Hp.set]) (fun H' hg=>frzL_c (.data _) (frzL_c (frz_nums (rw:=false) hg (.inr rfl) rfl) frzL_n)) ?_)
   unfold tri nums
   simp -implicitDefEqProofs (disch:=omega) [go_sem,Tryd.f32]
 · rw [show endF 9 = ([2,6,11],5,true) by simp [endF]]
   simp -implicitDefEqProofs (disch:=omega) [go_sem]
   refine .inl (call_keep _ (to_pc Γ 5 [2,6,11]) (rw:=true) (cells:=([2,6,11]:List Int).map fun n=>D.data (.int .i64 n)) (by simp [Hp.upd,Hp.set]) (fun H' hg=>frzL_c (.data _) (frzL_c (frz_nums (rw:=false) hg (.inr rfl) rfl) frzL_n)) ?_)
   unfold tri nums
   simp -implicitDefEqProofs (disch:=omega) [go_sem,Tryd.f32]
def endedF (s:Int)  : R3:=if s = 4 then ([4],2,true) else if s = 5 then ([4],3,true) else if s = 7 then ([],6,true) else if s = 9 then ([2,7],6,true) else ([],s,true)
set_option maxHeartbeats 4000000 in
theorem ended_pc (s:Int)  (h:0≤s∧s≤9):PC Tryd.prog Γ 33 [.int .i64 s] (tri (endedF s)):=by
 refine pc_by mixed Tryd.func33 rfl (fun args w=>Tryd.call33 args w) ?_
 obtain ⟨h1,h2⟩:=h
 have hs:s = 0 ∨ s = 1 ∨ s = 2 ∨ s = 3 ∨ s = 4 ∨ s = 5 ∨ s = 6 ∨ s = 7 ∨ s = 8 ∨ s = 9:=by omega
 rcases hs with rfl | rfl | rfl | rfl | rfl | rfl | rfl | rfl | rfl | rfl
 · rw [show endedF 0 = ([],0,true) by simp [endedF]]
   simp -implicitDefEqProofs (disch:=omega) [go_sem]
   refine .inl (call_data (stay_pc Γ 0) (by simp [go_sem]) ?_)
   unfold tri nums
   simp -implicitDefEqProofs (disch:=omega) [go_sem,Tryd.f33]
 · rw [show endedF 1 = ([],1,true) by simp [endedF]]
   simp -implicitDefEqProofs (disch:=omega) [go_sem]
   refine .inl (call_data (stay_pc Γ 1) (by simp [go_sem]) ?_)
   unfold tri nums
   simp -implicitDefEqProofs (disch:=omega) [go_sem,Tryd.f33]
 · rw [show endedF 2 = ([],2,true) by simp [endedF]]
   simp -implicitDefEqProofs (disch:=omega) [go_sem]
   refine .inl (call_data (stay_pc Γ 2) (by simp [go_sem]) ?_)
   unfold tri nums
   simp -implicitDefEqProofs (disch:=omega) [go_sem,Tryd.f33]
 · rw [show endedF 3 = ([],3,true) by simp [endedF]]
   simp -implicitDefEqProofs (disch:=omega) [go_sem]
   refine .inl (call_data (stay_pc Γ 3) (by simp [go_sem]) ?_)
   unfold tri nums
   simp -implicitDefEqProofs (disch:=omega) [go_sem,Tryd.f33]
 · rw [show endedF 4 = ([4],2,true) by simp [endedF]]
   simp -implicitDefEqProofs (disch:=omega) [go_sem]
   refine .inl (call_keep _ (to_pc Γ 2 [4]) (rw:=true) (cells:=([4]:List Int).map fun n=>D.data (.int .i64 n)) (by simp [Hp.upd,Hp.set]) (fun H' hg=>frzL_c (.data _) (frzL_c (frz_nums (rw:=false) hg (.inr rfl) rfl) frzL_n)) ?_)
   unfold tri nums
   simp -implicitDefEqProofs (disch:=omega) [go_sem,Tryd.f33]
 · rw [show endedF 5 = ([4],3,true) by simp [endedF]]
   simp -implicitDefEqProofs (disch:=omega) [go_sem]
   refine .inl (call_keep _ (to_pc Γ 3 [4]) (rw:=true) (cells:=([4]:List Int).map fun n=>D.data (.int .i64 n)) (by simp [Hp.upd,Hp.set]) (fun H' hg=>frzL_c (.data _) (frzL_c (frz_nums (rw:=false) hg (.inr rfl) rfl) frzL_n)) ?_)
   unfold tri nums
   simp -implicitDefEqProofs (disch:=omega) [go_sem,Tryd.f33]
 · rw [show endedF 6 = ([],6,true) by simp [endedF]]
   simp -implicitDefEqProofs (disch:=omega) [go_sem]
   refine .inl (call_data (stay_pc Γ 6) (by simp [go_sem]) ?_)
   unfold tri nums
   simp -implicitDefEqProofs (disch:=omega) [go_sem,Tryd.f33]
 · rw [show endedF 7 = ([],6,true) by simp [endedF]]
   simp -implicitDefEqProofs (disch:=omega) [go_sem]
   refine .inl (call_data (stay_pc Γ 6) (by simp [go_sem]) ?_)
   unfold tri nums
   simp -implicitDefEqProofs (disch:=omega) [go_sem,Tryd.f33]
 · rw [show endedF 8 = ([],8,true) by simp [endedF]]
   simp -implicitDefEqProofs (disch:=omega) [go_sem]
   refine .inl (call_data (stay_pc Γ 8) (by simp [go_sem]) ?_)
   unfold tri nums
   simp -implicitDefEqProofs (disch:=omega) [go_sem,Tryd.f33]
 · rw [show endedF 9 = ([2,7],6,true) by simp [endedF]]
   simp -implicitDefEqProofs (disch:=omega) [go_sem]
   refine .inl (call_keep _ (to_pc Γ 6 [2,7]) (rw:=true) (cells:=([2,7]:List Int).map fun n=>D.data (.int .i64 n)) (by simp [Hp.upd,Hp.set]) (fun H' hg=>frzL_c (.data _) (frzL_c (frz_nums (rw:=false) hg (.inr rfl) rfl) frzL_n)) ?_)
   unfold tri nums
   simp -implicitDefEqProofs (disch:=omega) [go_sem,Tryd.f33]
def rejectF (s:Int) (may:Bool):R3:=if may = true∧s = 7 then ([],6,true) else if may = true then ([],s,true) else if s = 9 then ([2,5,10],5,true) else if s = 2 ∨ s = 4 then ([4],2,true) else ([4],3,true)
set_option maxHeartbeats 4000000 in
theorem reject_pc (s:Int) (may:Bool) (h:0≤s∧s≤9):PC Tryd.prog Γ 35 [.int .i64 s,.bool may] (tri (rejectF s may)):=by
 refine pc_by mixed Tryd.func35 rfl (fun args w=>Tryd.call35 args w) ?_
 obtain ⟨h1,h2⟩:=h
 have hs:s = 0 ∨ s = 1 ∨ s = 2 ∨ s = 3 ∨ s = 4 ∨ s = 5 ∨ s = 6 ∨ s = 7 ∨ s = 8 ∨ s = 9:=by omega
 rcases hs with rfl | rfl | rfl | rfl | rfl | rfl | rfl | rfl | rfl | rfl
 · cases may
   · rw [show rejectF 0 false = ([4],3,true) by simp [rejectF]]
     simp -implicitDefEqProofs (disch:=omega) [go_sem]
     refine .inl (call_keep _ (to_pc Γ 3 [4]) (rw:=true) (cells:=([4]:List Int).map fun n=>D.data (.int .i64 n)) (by simp [Hp.upd,Hp.set]) (fun H' hg=>frzL_c (.data _) (frzL_c (frz_nums (rw:=false) hg (.inr rfl) rfl) frzL_n)) ?_)
     unfold tri nums
     simp -implicitDefEqProofs (disch:=omega) [go_sem,Tryd.f35]
   · rw [show rejectF 0 true = ([],0,true) by simp [rejectF]]
     simp -implicitDefEqProofs (disch:=omega) [go_sem]
     refine .inl (call_data (stay_pc Γ 0) (by simp [go_sem]) ?_)
     unfold tri nums
     simp -implicitDefEqProofs (disch:=omega) [go_sem,Tryd.f35]
 · cases may
   · rw [show rejectF 1 false = ([4],3,true) by simp [rejectF]]
     simp -implicitDefEqProofs (disch:=omega) [go_sem]
     refine .inl (call_keep _ (to_pc Γ 3 [4]) (rw:=true) (cells:=([4]:List Int).map fun n=>D.data (.int .i64 n)) (by simp [Hp.upd,Hp.set]) (fun H' hg=>frzL_c (.data _) (frzL_c (frz_nums (rw:=false) hg (.inr rfl) rfl) frzL_n)) ?_)
     unfold tri nums
     simp -implicitDefEqProofs (disch:=omega) [go_sem,Tryd.f35]
   · rw [show rejectF 1 true = ([],1,true) by simp [rejectF]]
     simp -implicitDefEqProofs (disch:=omega) [go_sem]
     refine .inl (call_data (stay_pc Γ 1) (by simp [go_sem]) ?_)
     unfold tri nums
     simp -implicitDefEqProofs (disch:=omega) [go_sem,Tryd.f35]
 · cases may
   · rw [show rejectF 2 false = ([4],2,true) by simp [rejectF]]
     simp -implicitDefEqProofs (disch:=omega) [go_sem]
     refine .inl (call_keep _ (to_pc Γ 2 [4]) (rw:=true) (cells:=([4]:List Int).map fun n=>D.data (.int .i64 n)) (by simp [Hp.upd,Hp.set]) (fun H' hg=>frzL_c (.data _) (frzL_c (frz_nums (rw:=false) hg (.inr rfl) rfl) frzL_n)) ?_)
     unfold tri nums
     simp -implicitDefEqProofs (disch:=omega) [go_sem,Tryd.f35]
   · rw [show rejectF 2 true = ([],2,true) by simp [rejectF]]
     simp -implicitDefEqProofs (disch:=omega) [go_sem]
     refine .inl (call_data (stay_pc Γ 2) (by simp [go_sem]) ?_)
     unfold tri nums
     simp -implicitDefEqProofs (disch:=omega) [go_sem,Tryd.f35]
 · cases may
   · rw [show rejectF 3 false = ([4],3,true) by simp [rejectF]]
     simp -implicitDefEqProofs (disch:=omega) [go_sem]
     refine .inl (call_keep _ (to_pc Γ 3 [4]) (rw:=true) (cells:=([4]:List Int).map fun n=>D.data (.int .i64 n)) (by simp [Hp.upd,Hp.set]) (fun H' hg=>frzL_c (.data _) (frzL_c (frz_nums (rw:=false) hg (.inr rfl) rfl) frzL_n)) ?_)
     unfold tri nums
     simp -implicitDefEqProofs (disch:=omega) [go_sem,Tryd.f35]
   · rw [show rejectF 3 true = ([],3,true) by simp [rejectF]]
     simp -implicitDefEqProofs (disch:=omega) [go_sem]
     refine .inl (call_data (stay_pc Γ 3) (by simp [go_sem]) ?_)
     unfold tri nums
     simp -implicitDefEqProofs (disch:=omega) [go_sem,Tryd.f35]
 · cases may
   · rw [show rejectF 4 false = ([4],2,true) by simp [rejectF]]
     simp -implicitDefEqProofs (disch:=omega) [go_sem]
     refine .inl (call_keep _ (to_pc Γ 2 [4]) (rw:=true) (cells:=([4]:List Int).map fun n=>D.data (.int .i64 n)) (by simp [Hp.upd,Hp.set]) (fun H' hg=>frzL_c (.data _) (frzL_c (frz_nums (rw:=false) hg (.inr rfl) rfl) frzL_n)) ?_)
     unfold tri nums
     simp -implicitDefEqProofs (disch:=omega) [go_sem,Tryd.f35]
   · rw [show rejectF 4 true = ([],4,true) by simp [rejectF]]
     simp -implicitDefEqProofs (disch:=omega) [go_sem]
     refine .inl (call_data (stay_pc Γ 4) (by simp [go_sem]) ?_)
     unfold tri nums
     simp -implicitDefEqProofs (disch:=omega) [go_sem,Tryd.f35]
 · cases may
   · rw [show rejectF 5 false = ([4],3,true) by simp [rejectF]]
     simp -implicitDefEqProofs (disch:=omega) [go_sem]
     refine .inl (call_keep _ (to_pc Γ 3 [4]) (rw:=true) (cells:=([4]:List Int).map fun n=>D.data (.int .i64 n)) (by simp [Hp.upd,Hp.set]) (fun H' hg=>frzL_c (.data _) (frzL_c (frz_nums (rw:=false) hg (.inr rfl) rfl) frzL_n)) ?_)
     unfold tri nums
     simp -implicitDefEqProofs (disch:=omega) [go_sem,Tryd.f35]
   · rw [show rejectF 5 true = ([],5,true) by simp [rejectF]]
     simp -implicitDefEqProofs (disch:=omega) [go_sem]
     refine .inl (call_data (stay_pc Γ 5) (by simp [go_sem]) ?_)
     unfold tri nums
     simp -implicitDefEqProofs (disch:=omega) [go_sem,Tryd.f35]
 · cases may
   · rw [show rejectF 6 false = ([4],3,true) by simp [rejectF]]
     simp -implicitDefEqProofs (disch:=omega) [go_sem]
     refine .inl (call_keep _ (to_pc Γ 3 [4]) (rw:=true) (cells:=([4]:List Int).map fun n=>D.data (.int .i64 n)) (by simp [Hp.upd,Hp.set]) (fun H' hg=>frzL_c (.data _) (frzL_c (frz_nums (rw:=false) hg (.inr rfl) rfl) frzL_n)) ?_)
     unfold tri nums
     simp -implicitDefEqProofs (disch:=omega) [go_sem,Tryd.f35]
   · rw [show rejectF 6 true = ([],6,true) by simp [rejectF]]
     simp -implicitDefEqProofs (disch:=omega) [go_sem]
     refine .inl (call_data (stay_pc Γ 6) (by simp [go_sem]) ?_)
     unfold tri nums
     simp -implicitDefEqProofs (disch:=omega) [go_sem,Tryd.f35]
 · cases may
   · rw [show rejectF 7 false = ([4],3,true) by simp [rejectF]]
     simp -implicitDefEqProofs (disch:=omega) [go_sem]
     refine .inl (call_keep _ (to_pc Γ 3 [4]) (rw:=true) (cells:=([4]:List Int).map fun n=>D.data (.int .i64 n)) (by simp [Hp.upd,Hp.set]) (fun H' hg=>frzL_c (.data _) (frzL_c (frz_nums (rw:=false) hg (.inr rfl) rfl) frzL_n)) ?_)
     unfold tri nums
     simp -implicitDefEqProofs (disch:=omega) [go_sem,Tryd.f35]
   · rw [show rejectF 7 true = ([],6,true) by simp [rejectF]]
     simp -implicitDefEqProofs (disch:=omega) [go_sem]
     refine .inl (call_data (stay_pc Γ 6) (by simp [go_sem]) ?_)
     unfold tri nums
     simp -implicitDefEqProofs (disch:=omega) [go_sem,Tryd.f35]
 · cases may
   · rw [show rejectF 8 false = ([4],3,true) by simp [rejectF]]
     simp -implicitDefEqProofs (disch:=omega) [go_sem]
     refine .inl (call_keep _ (to_pc Γ 3 [4]) (rw:=true) (cells:=([4]:List Int).map fun n=>D.data (.int .i64 n)) (by simp [Hp.upd,Hp.set]) (fun H' hg=>frzL_c (.data _) (frzL_c (frz_nums (rw:=false) hg (.inr rfl) rfl) frzL_n)) ?_)
     unfold tri nums
     simp -implicitDefEqProofs (disch:=omega) [go_sem,Tryd.f35]
   · rw [show rejectF 8 true = ([],8,true) by simp [rejectF]]
     simp -implicitDefEqProofs (disch:=omega) [go_sem]
     refine .inl (call_data (stay_pc Γ 8) (by simp [go_sem]) ?_)
     unfold tri nums
     simp -implicitDefEqProofs (disch:=omega) [go_sem,Tryd.f35]
 · cases may
   · rw [show rejectF 9 false = ([2,5,10],5,true) by simp [rejectF]]
     simp -implicitDefEqProofs (disch:=omega) [go_sem]
     refine .inl (call_keep _ (to_pc Γ 5 [2,5,10]) (rw:=true) (cells:=([2,5,10]:List Int).map fun n=>D.data (.int .i64 n)) (by simp [Hp.upd,Hp.set]) (fun H' hg=>frzL_c (.data _) (frzL_c (frz_nums (rw:=false) hg (.inr rfl) rfl) frzL_n)) ?_)
     unfold tri nums
     simp -implicitDefEqProofs (disch:=omega) [go_sem,Tryd.f35]
   · rw [show rejectF 9 true = ([],9,true) by simp [rejectF]]
     simp -implicitDefEqProofs (disch:=omega) [go_sem]
     refine .inl (call_data (stay_pc Γ 9) (by simp [go_sem]) ?_)
     unfold tri nums
     simp -implicitDefEqProofs (disch:=omega) [go_sem,Tryd.f35]
end
end Fs
namespace Fs
def Out (s e:Int):Prop:=s < 0 ∨ 9 < s ∨ e < 0 ∨ 15 < e ∨ (5 < e∧s < 2)
instance (s e:Int):Decidable (Out s e):=by unfold Out;infer_instance
def rowF (s e:Int):R3 :=
 if e = 0 then upF s else
 if e = 1 then downF s else
 if e = 2 then openedF s else
 if e = 3 then closedF s else
 if e = 4 then timeoutF s true else
 if e = 5 then timeoutF s false else
 if e = 6 then requestF s true 8 else
 if e = 7 then requestF s false 9 else
 if e = 8 then answerF s true else
 if e = 9 then answerF s false else
 if e = 10 then endF s else
 if e = 11 then endedF s else
 if e = 12 then ([12],s,true) else
 if e = 13 then rejectF s true else
 if e = 14 then rejectF s false else
 if s = 9 then ([13],9,true) else ([],s,true)
def nextF (s e:Int):R3:=if Out s e then ([],s,false) else rowF s e
section
variable (Γ:Nat->Option (List Data))
set_option maxHeartbeats 8000000 in
theorem rnext_pc (s e:Int):PC Tryd.prog Γ 13 [.int .i64 s,.int .i64 e] (tri (nextF s e)):=by
 refine pc_by mixed Tryd.func13 rfl (fun args w=>Tryd.call13 args w) ?_
 by_cases ho:Out s e
 · rw [show nextF s e = ([],s,false) from if_pos ho]
   have c:=never_pc Γ s
   unfold tri nums at c ⊢
   unfold Out at ho
   by_cases k0:s < 0
   · simp -implicitDefEqProofs (disch:=omega) [go_sem]
     refine .inl (call_data c (by simp [go_sem]) ?_)
     simp -implicitDefEqProofs (disch:=omega) [go_sem,Tryd.f13]
   by_cases k1:9 < s
   · simp -implicitDefEqProofs (disch:=omega) [go_sem]
     refine .inl (call_data c (by simp [go_sem]) ?_)
     simp -implicitDefEqProofs (disch:=omega) [go_sem,Tryd.f13]
   by_cases k2:e < 0
   · simp -implicitDefEqProofs (disch:=omega) [go_sem]
     refine .inl (call_data c (by simp [go_sem]) ?_)
     simp -implicitDefEqProofs (disch:=omega) [go_sem,Tryd.f13]
   by_cases k3:15 < e
   · simp -implicitDefEqProofs (disch:=omega) [go_sem]
     refine .inl (call_data c (by simp [go_sem]) ?_)
     simp -implicitDefEqProofs (disch:=omega) [go_sem,Tryd.f13]
   have k4:5 < e∧s < 2:=by omega
   obtain ⟨k5,k6⟩:=k4
   simp -implicitDefEqProofs (disch:=omega) [go_sem]
   refine .inl (call_data c (by simp [go_sem]) ?_)
   simp -implicitDefEqProofs (disch:=omega) [go_sem,Tryd.f13]
 rw [show nextF s e = rowF s e from if_neg ho]
 have h1:¬ s < 0:=fun k=>ho (.inl k)
 have h2:¬ 9 < s:=fun k=>ho (.inr (.inl k))
 have h3:¬ e < 0:=fun k=>ho (.inr (.inr (.inl k)))
 have h4:¬ 15 < e:=fun k=>ho (.inr (.inr (.inr (.inl k))))
 have h5:¬ (5 < e∧s < 2):=fun k=>ho (.inr (.inr (.inr (.inr k))))
 clear ho
 have he:e = 0 ∨ e = 1 ∨ e = 2 ∨ e = 3 ∨ e = 4 ∨ e = 5 ∨ e = 6 ∨ e = 7 ∨ e = 8 ∨ e = 9 ∨ e = 10 ∨ e = 11 ∨ e = 12 ∨ e = 13 ∨ e = 14 ∨ e = 15:=by omega
 rcases he with rfl | rfl | rfl | rfl | rfl | rfl | rfl | rfl | rfl | rfl | rfl | rfl | rfl | rfl | rfl | rfl
 · rw [show rowF s 0 = upF s by simp [rowF]]
   have c:=up_pc Γ s ⟨by omega,by omega⟩
   generalize upF s = r at *
   obtain ⟨l,t,b⟩:=r
   unfold tri nums at c ⊢
   simp -implicitDefEqProofs (disch:=omega) [go_sem]
   refine .inl (call_data c (by simp [go_sem]) ?_)
   simp -implicitDefEqProofs (disch:=omega) [go_sem,Tryd.f13]
 · rw [show rowF s 1 = downF s by simp [rowF]]
   have c:=down_pc Γ s ⟨by omega,by omega⟩
   generalize downF s = r at *
   obtain ⟨l,t,b⟩:=r
   unfold tri nums at c ⊢
   simp -implicitDefEqProofs (disch:=omega) [go_sem]
   refine .inl (call_data c (by simp [go_sem]) ?_)
   simp -implicitDefEqProofs (disch:=omega) [go_sem,Tryd.f13]
 · rw [show rowF s 2 = openedF s by simp [rowF]]
   have c:=opened_pc Γ s ⟨by omega,by omega⟩
   generalize openedF s = r at *
   obtain ⟨l,t,b⟩:=r
   unfold tri nums at c ⊢
   simp -implicitDefEqProofs (disch:=omega) [go_sem]
   refine .inl (call_data c (by simp [go_sem]) ?_)
   simp -implicitDefEqProofs (disch:=omega) [go_sem,Tryd.f13]
 · rw [show rowF s 3 = closedF s by simp [rowF]]
   have c:=closed_pc Γ s ⟨by omega,by omega⟩
   generalize closedF s = r at *
   obtain ⟨l,t,b⟩:=r
   unfold tri nums at c ⊢
   simp -implicitDefEqProofs (disch:=omega) [go_sem]
   refine .inl (call_data c (by simp [go_sem]) ?_)
   simp -implicitDefEqProofs (disch:=omega) [go_sem,Tryd.f13]
 · rw [show rowF s 4 = timeoutF s true by simp [rowF]]
   have c:=timeout_pc Γ s true ⟨by omega,by omega⟩
   generalize timeoutF s true = r at *
   obtain ⟨l,t,b⟩:=r
   unfold tri nums at c ⊢
   simp -implicitDefEqProofs (disch:=omega) [go_sem]
   refine .inl (call_data c (by simp [go_sem]) ?_)
   simp -implicitDefEqProofs (disch:=omega) [go_sem,Tryd.f13]
 · rw [show rowF s 5 = timeoutF s false by simp [rowF]]
   have c:=timeout_pc Γ s false ⟨by omega,by omega⟩
   generalize timeoutF s false = r at *
   obtain ⟨l,t,b⟩:=r
   unfold tri nums at c ⊢
   simp -implicitDefEqProofs (disch:=omega) [go_sem]
   refine .inl (call_data c (by simp [go_sem]) ?_)
   simp -implicitDefEqProofs (disch:=omega) [go_sem,Tryd.f13]
 · rw [show rowF s 6 = requestF s true 8 by simp [rowF]]
   have h6:¬ s < 2:=fun k=>h5 ⟨by omega,k⟩
   have c:=request_pc Γ s true 8 ⟨by omega,by omega⟩
   generalize requestF s true 8 = r at *
   obtain ⟨l,t,b⟩:=r
   unfold tri nums at c ⊢
   simp -implicitDefEqProofs (disch:=omega) [go_sem]
   refine .inl (call_data c (by simp [go_sem]) ?_)
   simp -implicitDefEqProofs (disch:=omega) [go_sem,Tryd.f13]
 · rw [show rowF s 7 = requestF s false 9 by simp [rowF]]
   have h6:¬ s < 2:=fun k=>h5 ⟨by omega,k⟩
   have c:=request_pc Γ s false 9 ⟨by omega,by omega⟩
   generalize requestF s false 9 = r at *
   obtain ⟨l,t,b⟩:=r
   unfold tri nums at c ⊢
   simp -implicitDefEqProofs (disch:=omega) [go_sem]
   refine .inl (call_data c (by simp [go_sem]) ?_)
   simp -implicitDefEqProofs (disch:=omega) [go_sem,Tryd.f13]
 · rw [show rowF s 8 = answerF s true by simp [rowF]]
   have h6:¬ s < 2:=fun k=>h5 ⟨by omega,k⟩
   have c:=answer_pc Γ s true ⟨by omega,by omega⟩
   generalize answerF s true = r at *
   obtain ⟨l,t,b⟩:=r
   unfold tri nums at c ⊢
   simp -implicitDefEqProofs (disch:=omega) [go_sem]
   refine .inl (call_data c (by simp [go_sem]) ?_)
   simp -implicitDefEqProofs (disch:=omega) [go_sem,Tryd.f13]
 · rw [show rowF s 9 = answerF s false by simp [rowF]]
   have h6:¬ s < 2:=fun k=>h5 ⟨by omega,k⟩
   have c:=answer_pc Γ s false ⟨by omega,by omega⟩
   generalize answerF s false = r at *
   obtain ⟨l,t,b⟩:=r
   unfold tri nums at c ⊢
   simp -implicitDefEqProofs (disch:=omega) [go_sem]
   refine .inl (call_data c (by simp [go_sem]) ?_)
   simp -implicitDefEqProofs (disch:=omega) [go_sem,Tryd.f13]
 · rw [show rowF s 10 = endF s by simp [rowF]]
   have h6:¬ s < 2:=fun k=>h5 ⟨by omega,k⟩
   have c:=end_pc Γ s ⟨by omega,by omega⟩
   generalize endF s = r at *
   obtain ⟨l,t,b⟩:=r
   unfold tri nums at c ⊢
   simp -implicitDefEqProofs (disch:=omega) [go_sem]
   refine .inl (call_data c (by simp [go_sem]) ?_)
   simp -implicitDefEqProofs (disch:=omega) [go_sem,Tryd.f13]
 · rw [show rowF s 11 = endedF s by simp [rowF]]
   have h6:¬ s < 2:=fun k=>h5 ⟨by omega,k⟩
   have c:=ended_pc Γ s ⟨by omega,by omega⟩
   generalize endedF s = r at *
   obtain ⟨l,t,b⟩:=r
   unfold tri nums at c ⊢
   simp -implicitDefEqProofs (disch:=omega) [go_sem]
   refine .inl (call_data c (by simp [go_sem]) ?_)
   simp -implicitDefEqProofs (disch:=omega) [go_sem,Tryd.f13]
 · rw [show rowF s 12 = ([12],s,true) by simp [rowF]]
   have h6:¬ s < 2:=fun k=>h5 ⟨by omega,k⟩
   simp -implicitDefEqProofs (disch:=omega) [go_sem]
   refine .inl (call_keep _ (to_pc Γ s [12]) (rw:=true) (cells:=([12]:List Int).map fun n=>D.data (.int .i64 n)) (by simp [Hp.upd,Hp.set]) (fun H' hg=>frzL_c (.data _) (frzL_c (frz_nums (rw:=false) hg (.inr rfl) rfl) frzL_n)) ?_)
   unfold tri nums
   simp -implicitDefEqProofs (disch:=omega) [go_sem,Tryd.f13]
 · rw [show rowF s 13 = rejectF s true by simp [rowF]]
   have h6:¬ s < 2:=fun k=>h5 ⟨by omega,k⟩
   have c:=reject_pc Γ s true ⟨by omega,by omega⟩
   generalize rejectF s true = r at *
   obtain ⟨l,t,b⟩:=r
   unfold tri nums at c ⊢
   simp -implicitDefEqProofs (disch:=omega) [go_sem]
   refine .inl (call_data c (by simp [go_sem]) ?_)
   simp -implicitDefEqProofs (disch:=omega) [go_sem,Tryd.f13]
 · rw [show rowF s 14 = rejectF s false by simp [rowF]]
   have h6:¬ s < 2:=fun k=>h5 ⟨by omega,k⟩
   have c:=reject_pc Γ s false ⟨by omega,by omega⟩
   generalize rejectF s false = r at *
   obtain ⟨l,t,b⟩:=r
   unfold tri nums at c ⊢
   simp -implicitDefEqProofs (disch:=omega) [go_sem]
   refine .inl (call_data c (by simp [go_sem]) ?_)
   simp -implicitDefEqProofs (disch:=omega) [go_sem,Tryd.f13]
 · rw [show rowF s 15 = (if s = 9 then ([13],9,true) else ([],s,true)) by simp [rowF]]
   have h6:¬ s < 2:=fun k=>h5 ⟨by omega,k⟩
   by_cases h9:s = 9
   · subst h9
     rw [if_pos rfl]
     simp -implicitDefEqProofs (disch:=omega) [go_sem]
     refine .inl (call_keep _ (to_pc Γ 9 [13]) (rw:=true) (cells:=([13]:List Int).map fun n=>D.data (.int .i64 n)) (by simp [Hp.upd,Hp.set]) (fun H' hg=>frzL_c (.data _) (frzL_c (frz_nums (rw:=false) hg (.inr rfl) rfl) frzL_n)) ?_)
     unfold tri nums
     simp -implicitDefEqProofs (disch:=omega) [go_sem,Tryd.f13]
   · rw [if_neg h9]
     have c:=stay_pc Γ s
     unfold tri nums at c ⊢
     simp -implicitDefEqProofs (disch:=omega) [go_sem,h9]
     refine .inl (call_data c (by simp [go_sem]) ?_)
     simp -implicitDefEqProofs (disch:=omega) [go_sem,Tryd.f13]
theorem rtimed_pc (s:Int):PC Tryd.prog Γ 16 [.int .i64 s] (.bool (decide (4≤s∧s≤8))):=by
 refine pc_by mixed Tryd.func16 rfl (fun args w=>Tryd.call16 args w) ?_
 by_cases h1:4≤s
 · by_cases h2:s≤8
   · rw [decide_eq_true ⟨h1,h2⟩]
     simp -implicitDefEqProofs (disch:=omega) [go_sem,Tryd.f16]
   · rw [decide_eq_false fun h=>h2 h.2]
     simp -implicitDefEqProofs (disch:=omega) [go_sem,Tryd.f16]
 · rw [decide_eq_false fun h=>h1 h.1]
   simp -implicitDefEqProofs (disch:=omega) [go_sem,Tryd.f16]
theorem rhas_pc (l:List Int) (n:Int) (hl:l.length≤1000000000):PC Tryd.prog Γ 19 [nums l,.int .i64 n] (.bool (decide (n∈l))):=by
 refine pc_by mixed Tryd.func19 rfl (fun args w=>Tryd.call19 args w) ?_
 unfold nums
 simp -implicitDefEqProofs (disch:=omega) [go_sem]
 refine loop_ren (σ:={ i:Nat // i≤l.length∧∀ (j:Nat) (h:j < l.length),j < i->l[j]≠n }) (fun i=>⟨envL [(0,.data (.sl 1 (l.map fun n=>Data.int .i64 n))),(1,.data (.int .i64 n)),(5,.data (.int .i64 i.1))],hpL [],0,0,18⟩) (fun i=>l.length - i.1) ⟨0,by omega,fun j _ h=>absurd h (Nat.not_lt_zero _)⟩ [] (rhoL []) ?_ ?_
 · apply ren_lists <;> simp -implicitDefEqProofs [go_sem]
 rintro ⟨i,hi,hall⟩
 by_cases h:i < l.length
 · by_cases e:l[i] = n
   · rw [decide_eq_true (e ▸ List.getElem_mem h)]
     simp -implicitDefEqProofs (disch:=omega) [go_sem,e,Tryd.f19]
   · simp -implicitDefEqProofs (disch:=omega) [go_sem,e]
     refine next_ren ⟨i + 1,by omega,fun j hj hji=>by
      by_cases q:j = i
      · subst q;exact e
      · exact hall j hj (by omega)⟩ (by simp only;omega) [] (rhoL []) ?_
     apply ren_lists <;> simp -implicitDefEqProofs [go_sem]
 · rw [decide_eq_false fun k=>by
    obtain ⟨j,hj,e⟩:=List.getElem_of_mem k
    exact hall j hj (by omega) e]
   simp -implicitDefEqProofs (disch:=omega) [go_sem,Tryd.f19]
theorem rints_pc (a b:List Int) (ha:a.length≤1000000000) (hb:b.length≤1000000000):PC Tryd.prog Γ 14 [nums a,nums b] (.bool (decide (a = b))):=by
 refine pc_by mixed Tryd.func14 rfl (fun args w=>Tryd.call14 args w) ?_
 unfold nums
 by_cases hn:a.length = b.length
 rotate_left
 · rw [decide_eq_false fun e=>hn (by rw [e])]
   simp -implicitDefEqProofs (disch:=omega) [go_sem,hn,Tryd.f14]
 simp -implicitDefEqProofs (disch:=omega) [go_sem,hn]
 refine loop_ren (σ:={ i:Nat // i≤b.length∧a.take i = b.take i }) (fun i=>⟨envL [(0,.data (.sl 1 (a.map fun n=>Data.int .i64 n))),(1,.data (.sl 1 (b.map fun n=>Data.int .i64 n))),(5,.data (.int .i64 i.1))],hpL [],0,0,26⟩) (fun i=>b.length - i.1) ⟨0,by omega,rfl⟩ [] (rhoL []) ?_ ?_
 · apply ren_lists <;> simp -implicitDefEqProofs [go_sem]
 rintro ⟨i,hi,hall⟩
 by_cases h:i < b.length
 · have h2:i < a.length:=by omega
   by_cases he:a[i] = b[i]
   · simp -implicitDefEqProofs (disch:=omega) [go_sem,he]
     refine side (by kernel_rfl) ?_
     simp -implicitDefEqProofs (disch:=omega) [go_sem,he]
     refine next_ren ⟨i + 1,by omega,by rw [List.take_add_one,List.take_add_one,hall,List.getElem?_eq_getElem h,List.getElem?_eq_getElem h2,he]⟩ (by simp only;omega) [] (rhoL []) ?_
     apply ren_lists <;> simp -implicitDefEqProofs [go_sem]
   · rw [decide_eq_false fun e=>he (by simp [e])]
     simp -implicitDefEqProofs (disch:=omega) [go_sem,he]
     refine side (by kernel_rfl) ?_
     simp -implicitDefEqProofs (disch:=omega) [go_sem,he,Tryd.f14]
 · have:i = b.length:=by omega
   subst this
   rw [List.take_length,List.take_of_length_le (by omega)] at hall
   rw [decide_eq_true hall]
   simp -implicitDefEqProofs (disch:=omega) [go_sem,hn,Tryd.f14]
end
end Fs
namespace Fs
def names:List ByteArray:=[⟨#[73,110,105,116,105,97,108]⟩,⟨#[83,116,97,114,116,105,110,103]⟩,⟨#[67,108,111,115,101,100]⟩,⟨#[83,116,111,112,112,101,100]⟩,⟨#[67,108,111,115,105,110,103]⟩,⟨#[83,116,111,112,112,105,110,103]⟩,⟨#[82,101,113,45,83,101,110,116]⟩,⟨#[65,99,107,45,82,99,118,100]⟩,⟨#[65,99,107,45,83,101,110,116]⟩,⟨#[79,112,101,110,101,100]⟩]
def nameF (s:Int):ByteArray:=if 0≤s∧s≤9 then names.getD s.toNat ByteArray.empty else ByteArray.empty
def namesD:List D:=names.map fun b=>.data (.str b)
theorem namesD_get (i:Nat) (h:i < 10):namesD[i]? = some (.data (.str (names.getD i ByteArray.empty))):=by
 have hl:names.length = 10:=rfl
 unfold namesD
 rw [List.getElem?_map,List.getD_eq_getElem?_getD,List.getElem?_eq_getElem (by omega)]
 rfl
section
variable (Γ:Nat->Option (List Data))
theorem rname_pc (s:Int):PC Tryd.prog Γ 18 [.int .i64 s] (.str (nameF s)):=by
 refine pc_by mixed Tryd.func18 rfl (fun args w=>Tryd.call18 args w) ?_
 simp -implicitDefEqProofs (disch:=omega) [go_sem]
 have hl:namesD.length = 10:=rfl
 refine loop_ren (σ:={ i:Nat // i≤10∧∀ j:Nat,j < i->s≠j }) (fun i=>⟨envL [(0,.data (.int .i64 s)),(3,.ref 0 0 10 1),(4,.data (.int .i64 i.1))],hpL [(0,.blk true namesD)],1,0,17⟩) (fun i=>10 - i.1) ⟨0,by omega,fun j h=>absurd h (Nat.not_lt_zero _)⟩ [] (rhoL [(0,some 1)]) ?_ ?_
 · apply ren_lists <;> simp -implicitDefEqProofs [go_sem]
   exact renCells_plain rfl (by decide)
 rintro ⟨i,hi,hall⟩
 by_cases h:i < 10
 · by_cases e:s = (i:Int)
   · have hg:=namesD_get i h
     rw [show nameF s = names.getD i ByteArray.empty by unfold nameF;rw [if_pos (by omega),e];rfl]
     simp -implicitDefEqProofs (disch:=omega) [-getElem?_pos,go_sem,e,hg,hl,Tryd.f18]
   · have e2:¬ ((i:Int) = s):=fun k=>e k.symm
     simp -implicitDefEqProofs (disch:=omega) [go_sem,e2]
     refine next_ren ⟨i + 1,by omega,fun j hj=>by
      by_cases q:j = i
      · subst q;exact e
      · exact hall j (by omega)⟩ (by simp only;omega) [] (rhoL [(0,some 0)]) ?_
     apply ren_lists <;> simp -implicitDefEqProofs [go_sem]
     all_goals exact renCells_plain rfl (by decide)
 · have ei:i = 10:=by omega
   subst ei
   rw [show nameF s = ByteArray.empty by
    unfold nameF
    rw [if_neg]
    intro k
    exact hall s.toNat (by omega) (by omega)]
   simp -implicitDefEqProofs (disch:=omega) [go_sem,Tryd.f18]
   rfl
end
end Fs
end Go.Proofs.YtnggelbagedlfaaDoor
namespace Go.Proofs.YtnggelbagedlfaaDoor
set_option linter.unusedSimpArgs false
set_option linter.unusedVariables false
set_option maxRecDepth 100000
namespace Fs
theorem dec_ascii {s:ByteArray} {p:Nat} (h:(s.get! p).toNat < 128):Utf8.decode s p = ((s.get! p).toNat,1):=by
 unfold Utf8.decode
 simp only [Nat.add_zero]
 rw [if_pos h]
/-- A string of such bytes. -/
def Ascii (s:ByteArray):Prop:=∀ p,p < s.size->(s.get! p).toNat < 128
theorem Ascii.dec {s:ByteArray} (h:Ascii s) {p:Nat} (hp:p < s.size):Utf8.decode s p = ((s.get! p).toNat,1):=dec_ascii (h p hp)
end Fs
end Go.Proofs.YtnggelbagedlfaaDoor
