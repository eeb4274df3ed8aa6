/- What the walk's simp goes by, second part: code, calls, loops. Functions that hand back rows of their own, which the caller may write: a contract of its own (OC), and its use in a call. Calls in operations whose order is open that hand back rows of their own, or that write rows of the caller's. Arrays of numbers, held against each other. What came in, read as plain data: the arguments of a law, the listed variables. Rows of bytes; what arguments are. Choices that the numbers at hand decide: by omega, in the walk's simp. (Import it where the walk should decide by itself.) Functions that may panic, on plain data; functions that are lent a row of the caller's. A row of the caller's, lent to a call: the call is looked at with this row alone. The closed facts on the types. The document's own comparison of rows. Frames on a line: bytes escaped, plain, fed: the mathematics. Frames on a line: how a byte is escaped. Frames on a line: what is plain, as the program tells it and as the document does. Frames on a line: rows joined, what is sent. Check sequences: the program's and the document's own functions, on plain data. Frames on a line: a line that is fed. Frames on a line: all frames of bytes, as the program tells them. Frames on a line: all frames of bytes, as the document tells them; the document's example. Frames on a line: the document's example. Frames on a line: StuffTells, StuffFeeds, StuffRight, StuffAnew. Frames on a line: StuffRight, StuffAnew, StuffLong. Frames on a line: StuffBack, StuffRow. Frames: the mathematics, the document's own functions. Packets: the mathematics, the document's own functions. Packets: what is cut, what stands behind, packets apart. Packets: the program's own functions. Packets: what comes in, the document's example, PackTells, PackCodes, PackApart. Packets: PackBack, PackLong. Packets: the laws. -/
import Derived.Test.YtmfhhlddpggenaaPk3
import Derived.Laws.Bits64
import Derived.Laws.BitsAllLaws
import Derived.DeepKeys
import Derived.Laws.StructEq
import Derived.OpenShut
import Derived.SizedLaws
import Derived.LaidMore
import Derived.KernelRfl
import Derived.Test.YtmfhhlddpggenaaChecked
namespace Go.Proofs.Ytmfhhlddpggenaa
open Go.RowKit
set_option linter.unusedSimpArgs false
set_option linter.unusedVariables false
set_option maxRecDepth 100000
theorem side {p q:Prop} (h:p) (k:q):sideK p q:=⟨h,k⟩
/-- Both sides of a choice that hangs on something open. -/
theorem ifW_of {b:Bool} {x y:Prop} (h:b = true->x) (k:b = false->y):ifW b x y:=by
 cases b
 · exact k rfl
 · exact h rfl
theorem ifW_dec {p:Prop} [Decidable p] {x y:Prop} (h:p->x) (k:¬ p->y):ifW (decide p) x y:=ifW_of (fun e=>h (of_decide_eq_true e)) (fun e=>k (of_decide_eq_false e))
theorem ifW_ndec {p:Prop} [Decidable p] {x y:Prop} (h:¬ p->x) (k:p->y):ifW (!decide p) x y:=ifW_of (fun e=>h (by simpa using e)) (fun e=>k (by simpa using e))
/- Numbers. -/
@[go_sem] theorem wrap64 {x:Int} (h:-9223372036854775808≤x∧x≤9223372036854775807):IntKind.i64.wrap x = x:=by rw [IntKind.wrap_i64];omega
@[go_sem] theorem wrapU8 (x:Int):IntKind.u8.wrap x = x % 256:=IntKind.wrap_u8 x
@[go_sem] theorem wrapU16 (x:Int):IntKind.u16.wrap x = x % 65536:=IntKind.wrap_u16 x
@[go_sem] theorem tdiv_pos {a b:Int} (h:0≤a):a.tdiv b = a / b:=Int.tdiv_eq_ediv_of_nonneg h
@[go_sem] theorem tmod_pos {a b:Int} (h:0≤a):a.tmod b = a % b:=Int.tmod_eq_emod_of_nonneg h
@[go_sem] theorem get_zero {α:Type} (x:α) (l:List α):(x :: l)[0]? = some x:=rfl
@[go_sem] theorem get_succ {α:Type} (x:α) (l:List α) (i:Nat):(x :: l)[i + 1]? = l[i]?:=rfl
def condK (d:D) (x y:Prop):Prop:=match d with
 | .data (.bool b)=>ifW b x y
 | _=>False
@[go_sem] theorem condK_bool (b:Bool) (x y:Prop):condK (.data (.bool b)) x y = ifW b x y:=rfl
@[congr] theorem condK_congr {n0:Nat} (tk:tick = n0) {d d':D} (h:d = d') (x y:Prop):condK d x y = condK d' x y:=by rw [h]
section
variable (P:Program) (Γ:Nat->Option (List Data))
@[go_sem] theorem wpF_skip (Q:Exit->St->Prop) (s:St):wpF P Γ .skip Q s = Q .normal s:=rfl
@[go_sem] theorem wpF_draw (i:Nat) (ops:List Oper) (Q:Exit->St->Prop) (s:St):wpF P Γ (.region i ops.toArray true) Q s = drawW P Γ ops.toArray ops s [] (fun s' tr=>sideK (drawOk2 ops.toArray tr s.nx s'.nx = true) (Q .normal s')):=rfl
@[go_sem] theorem wpF_row (i:Nat) (ops:List Oper) (Q:Exit->St->Prop) (s:St):wpF P Γ (.region i ops.toArray false) Q s = opsW P Γ ops.toArray ops s (Q .normal):=rfl
@[go_sem] theorem wpF_seq (x y:Code) (Q:Exit->St->Prop) (s:St):wpF P Γ (.seq x y) Q s = wpF P Γ x (thenW (wpF P Γ y Q) Q) s:=rfl
@[go_sem] theorem wpF_cond (c:Operand) (x y:Code) (Q:Exit->St->Prop) (s:St):wpF P Γ (.cond c x y) Q s = condK (evalD Γ s.env c) (wpF P Γ x Q s) (wpF P Γ y Q s):=rfl
@[go_sem] theorem wpF_block (id:Nat) (b:Code) (Q:Exit->St->Prop) (s:St):wpF P Γ (.block id b) Q s = wpF P Γ b (blockW id Q) s:=rfl
@[go_sem] theorem wpF_loop (b:Code) (Q:Exit->St->Prop) (s:St):wpF P Γ (.loop b) Q s = LoopW (wpF P Γ b) Q s:=rfl
@[go_sem] theorem wpF_exit (id:Nat) (Q:Exit->St->Prop) (s:St):wpF P Γ (.exit id) Q s = Q (.exit id) s:=rfl
@[go_sem] theorem wpF_ret (Q:Exit->St->Prop) (s:St):wpF P Γ .ret Q s = Q .ret s:=rfl
@[go_sem] theorem thenW_normal (n:St->Prop) (Q:Exit->St->Prop) (s:St):thenW n Q .normal s = n s:=rfl
@[go_sem] theorem thenW_exit (n:St->Prop) (Q:Exit->St->Prop) (s:St) (id:Nat):thenW n Q (.exit id) s = Q (.exit id) s:=rfl
@[go_sem] theorem thenW_ret (n:St->Prop) (Q:Exit->St->Prop) (s:St):thenW n Q .ret s = Q .ret s:=rfl
@[go_sem] theorem blockW_normal (id:Nat) (Q:Exit->St->Prop) (s:St):blockW id Q .normal s = Q .normal s:=rfl
@[go_sem] theorem blockW_exit (id i:Nat) (Q:Exit->St->Prop) (s:St):blockW id Q (.exit i) s = ifW (decide (i = id)) (Q .normal s) (Q (.exit i) s):=by
 by_cases h:i = id <;> simp [blockW,ifW,h]
@[go_sem] theorem blockW_ret (id:Nat) (Q:Exit->St->Prop) (s:St):blockW id Q .ret s = Q .ret s:=rfl
@[congr] theorem thenW_congr {n0:Nat} (tk:tick = n0) (n:St->Prop) (Q:Exit->St->Prop) (x:Exit) (s:St):thenW n Q x s = thenW n Q x s:=rfl
@[congr] theorem blockW_congr {n0:Nat} (tk:tick = n0) (id:Nat) (Q:Exit->St->Prop) (x:Exit) (s:St):blockW id Q x s = blockW id Q x s:=rfl
@[congr] theorem resK_congr {n0:Nat} (tk:tick = n0) {l l':List ResultVar} (h:l = l') (s:St) (K:List D->Prop):resK P l s K = resK P l' s K:=by rw [h]
@[congr] theorem retQ_congr {n0:Nat} (tk:tick = n0) (fn:Func) (r:Data) (x:Exit) (s:St):retQ P fn r x s = retQ P fn r x s:=rfl
@[congr] theorem retDQ_congr {n0:Nat} (tk:tick = n0) (fn:Func) (K:D->(Nat->Blk)->Nat->Prop) (x:Exit) (s:St):retDQ P fn K x s = retDQ P fn K x s:=rfl
@[go_sem] theorem retQ_ret (fn:Func) (r:Data) (s:St):retQ P fn r .ret s = resK P fn.results.toList s fun ds=>∃ xs,FrzL true s.hp ds xs∧r = tupD xs:=rfl
@[go_sem] theorem retQ_normal (fn:Func) (r:Data) (s:St):retQ P fn r .normal s = resK P fn.results.toList s fun ds=>∃ xs,FrzL true s.hp ds xs∧r = tupD xs:=rfl
@[go_sem] theorem retDQ_ret (fn:Func) (K:D->(Nat->Blk)->Nat->Prop) (s:St):retDQ P fn K .ret s = resK P fn.results.toList s fun ds=>∃ d,tupDD ds = some d∧K d s.hp s.nx:=rfl
@[go_sem] theorem retDQ_normal (fn:Func) (K:D->(Nat->Blk)->Nat->Prop) (s:St):retDQ P fn K .normal s = resK P fn.results.toList s fun ds=>∃ d,tupDD ds = some d∧K d s.hp s.nx:=rfl
@[go_sem] theorem tupDD_one (d:D):tupDD [d] = some d:=rfl
def mkTup (ds:List D):D:=match allData ds with
 | some xs=>.data (.tup xs)
 | none=>.tp ds
@[go_sem] theorem tupDD_two (a b:D) (l:List D):tupDD (a :: b :: l) = some (mkTup (a :: b :: l)):=rfl
@[go_sem] theorem mkTup_eq (ds:List D):mkTup ds = match allData ds with
 | some xs=>.data (.tup xs)
 | none=>.tp ds:=rfl
@[go_sem] theorem resK_nil (s:St) (K:List D->Prop):resK P [] s K = K []:=rfl
@[go_sem] theorem resK_tmp (t:Nat) (rest:List ResultVar) (s:St) (K:List D->Prop):resK P (.tmp t :: rest) s K = putK (s.env t) fun d=>resK P rest s fun ds=>K (d :: ds):=rfl
@[go_sem] theorem resK_cell (a:Nat) (t:TypeId) (rest:List ResultVar) (s:St) (K:List D->Prop):resK P (.cell a t :: rest) s K = loadK P t (s.env a) s.hp fun d _=>resK P rest s fun ds=>K (d :: ds):=rfl
@[go_sem] theorem extract_tup (vs:List Data) (i:Nat) (K:D->Prop):extractK (.data (.tup vs)) i K = someK (vs[i]?) fun v=>putK (.data v) K:=by
 unfold extractK someK putK
 apply propext
 constructor
 · rintro ⟨v,hv,hk⟩;rw [hv];exact hk
 · intro hk
   cases h:vs[i]? with
   | none=>rw [h] at hk;exact hk.elim
   | some v=>rw [h] at hk;exact ⟨v,h,hk⟩
@[congr] theorem extractK_congr {n0:Nat} (tk:tick = n0) {x x':D} (h:x = x') (i:Nat) (K:D->Prop):extractK x i K = extractK x' i K:=by rw [h]
@[go_sem] theorem partK_eq (t:TypeId) (cs:List D) (off:Nat) (K:D->Prop):partK P t cs off K = aggK (aggT P t) (someK (szT P t) fun n=>sideK (off + n≤cs.length) (putK (mkAgg ((cs.drop off).take n)) K)) (someK (cs[off]?) fun d=>K d):=by
 unfold partK aggK someK sideK putK
 cases aggT P t with
 | none=>cases szT P t <;> rfl
 | some b =>
   cases b
   · cases szT P t <;> simp only <;> cases cs[off]? <;> simp
   · cases szT P t <;> rfl
@[congr] theorem partK_congr {n0:Nat} (tk:tick = n0) (t:TypeId) {cs cs':List D} (h:cs = cs') {off off':Nat} (h2:off = off') (K:D->Prop):partK P t cs off K = partK P t cs' off' K:=by rw [h,h2]
@[go_sem] theorem field_data (t:TypeId) (cs:List Data) (f:Nat) (K:D->Prop):fieldK P t (.data (.agg cs)) f K = someK (fldT P t f) fun x=>partK P x.2 (cs.map .data) x.1 K:=by
 unfold fieldK aggD someK
 cases fldT P t f <;> rfl
@[congr] theorem fieldK_congr {n0:Nat} (tk:tick = n0) (t:TypeId) {x x':D} (h:x = x') (f:Nat) (K:D->Prop):fieldK P t x f K = fieldK P t x' f K:=by rw [h]
/-- A slice expression. -/
def slcK (t:TypeId) (x:D) (lo hi:Option D) (H:Nat->Blk) (K:D->List Nat->List (Nat × Blk)->Prop):Prop:=match x with
 | .ptr _ _ | .cptr _=>sliceArrK P t x lo hi none H fun d rd=>K d rd []
 | .cut g off len cp es=>cutK P t g off len cp es lo hi none fun d=>K d [] []
 | _=>sliceK P t x lo hi none fun d=>K d [] []
/-- A slice expression with three bounds. -/
def slc3K (t:TypeId) (x:D) (lo hi mx:Option D) (K:D->List Nat->List (Nat × Blk)->Prop):Prop:=match x with
 | .cut g off len cp es=>cutK P t g off len cp es lo hi mx fun d=>K d [] []
 | _=>False
@[congr] theorem slc3K_congr {n0:Nat} (tk:tick = n0) (t:TypeId) {x x':D} (h:x = x') {lo lo' hi hi' mx mx':Option D} (h2:lo = lo') (h3:hi = hi') (h4:mx = mx') (K:D->List Nat->List (Nat × Blk)->Prop):slc3K P t x lo hi mx K = slc3K P t x' lo' hi' mx' K:=by rw [h,h2,h3,h4]
@[congr] theorem boundsC_congr {n0:Nat} (tk:tick = n0) (n c:Nat) {lo lo' hi hi' mx mx':Option D} (h2:lo = lo') (h3:hi = hi') (h4:mx = mx') (K:Nat->Nat->Nat->Prop):boundsC n c lo hi mx K = boundsC n c lo' hi' mx' K:=by rw [h2,h3,h4]
@[go_sem] theorem cutK_eq (t:TypeId) (g off len cp es:Nat) (lo hi mx:Option D) (K:D->Prop):cutK P t g off len cp es lo hi mx K = someK (sliceT P t) fun e=>sideK (szT P e = some es) (boundsC len cp lo hi mx fun a b c=>natK (off + a * es) fun o=>natK (b - a) fun n=>natK (c - a) fun q=>K (.cut g o n q es)):=by
 unfold cutK someK sideK natK
 cases sliceT P t <;> rfl
@[go_sem] theorem slc_cut (t:TypeId) (g off len cp es:Nat) (lo hi:Option D) (H:Nat->Blk) (K:D->List Nat->List (Nat × Blk)->Prop):slcK P t (.cut g off len cp es) lo hi H K = cutK P t g off len cp es lo hi none fun d=>K d [] []:=rfl
@[congr] theorem sliceK_congr {n0:Nat} (tk:tick = n0) (t:TypeId) {x x':D} (h:x = x') {lo lo' hi hi' mx mx':Option D} (h2:lo = lo') (h3:hi = hi') (h4:mx = mx') (K:D->Prop):sliceK P t x lo hi mx K = sliceK P t x' lo' hi' mx' K:=by rw [h,h2,h3,h4]
@[go_sem] theorem slice3_sl (t:TypeId) (es:Nat) (l:List Data) (lo hi:Option D) (mx:D) (K:D->Prop):sliceK P t (.data (.sl es l)) lo hi (some mx) K = someK (sliceT P t) fun e=>sideK (szT P e = some es) (boundsC l.length l.length lo hi (some mx) fun a b c=>sideK (b = c) (K (.ful es ((l.take b).drop a)))):=by
 unfold sliceK someK sideK
 cases sliceT P t <;> rfl
@[go_sem] theorem boundsC_most (n c:Nat) (k' k2:IntKind) (h m:Int) (K:Nat->Nat->Nat->Prop):boundsC n c none (some (.data (.int k' h))) (some (.data (.int k2 m))) K = sideK (0≤h) (sideK (h≤m) (sideK (m≤c) (natK h.toNat fun b=>natK m.toNat fun q=>K 0 b q))):=by simp [boundsC,natD,sideK,natK]
@[go_sem] theorem slc3_cut (t:TypeId) (g off len cp es:Nat) (lo hi mx:Option D) (K:D->List Nat->List (Nat × Blk)->Prop):slc3K P t (.cut g off len cp es) lo hi mx K = cutK P t g off len cp es lo hi mx fun d=>K d [] []:=rfl
@[go_sem] theorem boundsC_hi (n c:Nat) (k:IntKind) (h:Int) (K:Nat->Nat->Nat->Prop):boundsC n c none (some (.data (.int k h))) none K = sideK (0≤h) (sideK (h≤c) (natK h.toNat fun b=>K 0 b c)):=by simp [boundsC,natD,sideK,natK]
@[go_sem] theorem boundsC_all (n c:Nat) (k k' k2:IntKind) (l h m:Int) (K:Nat->Nat->Nat->Prop):boundsC n c (some (.data (.int k l))) (some (.data (.int k' h))) (some (.data (.int k2 m))) K = sideK (0≤l) (sideK (l≤h) (sideK (h≤m) (sideK (m≤c) (natK l.toNat fun a=>natK h.toNat fun b=>natK m.toNat fun q=>K a b q)))):=by simp [boundsC,natD,sideK,natK]
@[congr] theorem slcK_congr {n0:Nat} (tk:tick = n0) (t:TypeId) {x x':D} (h:x = x') {lo lo' hi hi':Option D} (h2:lo = lo') (h3:hi = hi') (H:Nat->Blk) (K:D->List Nat->List (Nat × Blk)->Prop):slcK P t x lo hi H K = slcK P t x' lo' hi' H K:=by rw [h,h2,h3]
@[congr] theorem boundsK_congr {n0:Nat} (tk:tick = n0) (n:Nat) {lo lo' hi hi':Option D} (h2:lo = lo') (h3:hi = hi') (K:Nat->Nat->Prop):boundsK n lo hi K = boundsK n lo' hi' K:=by rw [h2,h3]
@[go_sem] theorem slc_sl (t:TypeId) (es:Nat) (l:List Data) (lo hi:Option D) (H:Nat->Blk) (K:D->List Nat->List (Nat × Blk)->Prop):slcK P t (.data (.sl es l)) lo hi H K = someK (sliceT P t) fun e=>sideK (szT P e = some es) (boundsK l.length lo hi fun a b=>putK (.data (.sl es ((l.take b).drop a))) fun d=>K d [] []):=by
 unfold slcK sliceK someK sideK putK
 cases sliceT P t <;> rfl
@[go_sem] theorem slc_emp (t:TypeId) (es:Nat) (lo hi:Option D) (H:Nat->Blk) (K:D->List Nat->List (Nat × Blk)->Prop):slcK P t (.emp es) lo hi H K = someK (sliceT P t) fun e=>sideK (szT P e = some es) (boundsK 0 lo hi fun a b=>K (.emp es) [] []):=by
 unfold slcK sliceK someK sideK
 cases sliceT P t <;> rfl
@[go_sem] theorem slc_str (t:TypeId) (s:ByteArray) (lo hi:Option D) (H:Nat->Blk) (K:D->List Nat->List (Nat × Blk)->Prop):slcK P t (.data (.str s)) lo hi H K = sideK (strT P t = true) (boundsK s.size lo hi fun a b=>putK (.data (.str (s.extract a b))) fun d=>K d [] []):=rfl
@[go_sem] theorem bounds_hi (n:Nat) (k:IntKind) (h:Int) (K:Nat->Nat->Prop):boundsK n none (some (.data (.int k h))) K = sideK (0≤h) (sideK (h≤n) (natK h.toNat fun b=>K 0 b)):=by simp [boundsK,natD,sideK,natK]
@[go_sem] theorem bounds_both (n:Nat) (k k':IntKind) (l h:Int) (K:Nat->Nat->Prop):boundsK n (some (.data (.int k l))) (some (.data (.int k' h))) K = sideK (0≤l) (sideK (l≤h) (sideK (h≤n) (natK l.toNat fun a=>natK h.toNat fun b=>K a b))):=by simp [boundsK,natD,sideK,natK]
/-- Plain data. -/
def datK (x:D) (K:Data->Prop):Prop:=match x with
 | .data d=>K d
 | _=>False
@[congr] theorem datK_congr {n0:Nat} (tk:tick = n0) {x x':D} (h:x = x') (K:Data->Prop):datK x K = datK x' K:=by rw [h]
@[go_sem] theorem datK_data (d:Data) (K:Data->Prop):datK (.data d) K = K d:=rfl
/-- What an interface holds. -/
def ifcK (x:D) (K:TypeId->Data->Prop):Prop:=match x with
 | .data (.ifc t d)=>K t d
 | _=>False
@[congr] theorem ifcK_congr {n0:Nat} (tk:tick = n0) {x x':D} (h:x = x') (K:TypeId->Data->Prop):ifcK x K = ifcK x' K:=by rw [h]
@[go_sem] theorem ifcK_ifc (t:TypeId) (d:Data) (K:TypeId->Data->Prop):ifcK (.data (.ifc t d)) K = K t d:=rfl
def invK (P:Program) (name:String) (t:TypeId) (K:FuncId->Prop):Prop:=∃ f,MethOk P name t f∧K f
@[congr] theorem invK_congr {n0:Nat} (tk:tick = n0) (name:String) (t:TypeId) (K:FuncId->Prop):invK P name t K = invK P name t K:=rfl
section
variable (dst:Option Nat) (ty:TypeId) (pos:String) (af:Array Edge) (gd:Option (Nat × Bool)) (e:Nat->D) (H:Nat->Blk) (fr:Nat) (K:D->List Nat->List (Nat × Blk)->Prop)
@[go_sem] theorem opK_slice (t:TypeId) (x:Operand) (lo hi:Option Operand):opK P Γ ⟨dst,.slice t x lo hi none,ty,pos,af,gd⟩ e H fr K = slcK P t (evalD Γ e x) (lo.map (evalD Γ e)) (hi.map (evalD Γ e)) H K:=by
 simp only [opK,slcK,Option.map_none]
 cases evalD Γ e x <;> rfl
@[go_sem] theorem opK_slice3 (t:TypeId) (x m:Operand) (lo hi:Option Operand):opK P Γ ⟨dst,.slice t x lo hi (some m),ty,pos,af,gd⟩ e H fr K = (match evalD Γ e x with
 | .ptr _ _ | .cptr _=>sliceArrK P t (evalD Γ e x) (lo.map (evalD Γ e)) (hi.map (evalD Γ e)) (some (evalD Γ e m)) H fun d rd=>K d rd []
 | .cut g off len cp es=>cutK P t g off len cp es (lo.map (evalD Γ e)) (hi.map (evalD Γ e)) (some (evalD Γ e m)) fun d=>K d [] []
 | _=>sliceK P t (evalD Γ e x) (lo.map (evalD Γ e)) (hi.map (evalD Γ e)) (some (evalD Γ e m)) fun d=>K d [] []):=rfl
@[go_sem] theorem opK_makeFunc (f:FuncId) (caps:Array Operand):opK P Γ ⟨dst,.makeFunc (.func f) #[] caps,ty,pos,af,gd⟩ e H fr K = putK (.fn f (caps.toList.map (evalD Γ e))) fun d=>K d [] []:=rfl
@[go_sem] theorem opK_call (x:Operand) (args:Array Operand) (ts:Array TypeId):opK P Γ ⟨dst,.call ⟨.value x,args,ts⟩,ty,pos,af,gd⟩ e H fr K = someK (fnD (evalD Γ e x)) fun fc=>callK P Γ fc.1 (fc.2.1++(args.toList.map (evalD Γ e)++fc.2.2)) H K:=by
 simp only [opK]
 cases fnD (evalD Γ e x)
 · rw [someK_none]
 · rw [someK_some]
@[go_sem] theorem effK_call (x:Operand) (args:Array Operand) (ts:Array TypeId) (K:D->List Nat->List (Nat × Blk)->Nat->Prop):effK P Γ ⟨dst,.call ⟨.value x,args,ts⟩,ty,pos,af,gd⟩ e H fr K = someK (fnD (evalD Γ e x)) fun fc=>effC P Γ fc.1 (fc.2.1++(args.toList.map (evalD Γ e)++fc.2.2)) H fr K:=by
 simp only [effK]
 cases fnD (evalD Γ e x)
 · rw [someK_none]
 · rw [someK_some]
@[congr] theorem clearK_congr {n0:Nat} (tk:tick = n0) (t:TypeId) {x x':D} (h:x = x') (H:Nat->Blk) (K:D->List Nat->List (Nat × Blk)->Prop):clearK P t x H K = clearK P t x' H K:=by rw [h]
@[go_sem] theorem opK_clear (x:Operand) (t:TypeId):opK P Γ ⟨dst,.call ⟨.builtin .clear,#[x],#[t]⟩,ty,pos,af,gd⟩ e H fr K = clearK P t (evalD Γ e x) H K:=rfl
@[congr] theorem capK_congr {n0:Nat} (tk:tick = n0) (t:TypeId) {x x':D} (h:x = x') (K:D->Prop):capK P t x K = capK P t x' K:=by rw [h]
@[congr] theorem lenK_congr {n0:Nat} (tk:tick = n0) (t:TypeId) {x x':D} (h:x = x') (K:D->Prop):lenK P t x K = lenK P t x' K:=by rw [h]
@[go_sem] theorem opK_len (x:Operand) (t:TypeId):opK P Γ ⟨dst,.call ⟨.builtin .len,#[x],#[t]⟩,ty,pos,af,gd⟩ e H fr K = lenK P t (evalD Γ e x) fun d=>K d [] []:=rfl
@[go_sem] theorem opK_cap (x:Operand) (t:TypeId):opK P Γ ⟨dst,.call ⟨.builtin .cap,#[x],#[t]⟩,ty,pos,af,gd⟩ e H fr K = capK P t (evalD Γ e x) fun d=>K d [] []:=rfl
@[go_sem] theorem opK_copy (x y:Operand) (t u:TypeId):opK P Γ ⟨dst,.call ⟨.builtin .copy,#[x,y],#[t,u]⟩,ty,pos,af,gd⟩ e H fr K = copyK P t (evalD Γ e x) (evalD Γ e y) H K:=rfl
@[go_sem] theorem opK_append (x y:Operand) (t u:TypeId):opK P Γ ⟨dst,.call ⟨.builtin .append,#[x,y],#[t,u]⟩,ty,pos,af,gd⟩ e H fr K = appendK P t u (evalD Γ e x) (evalD Γ e y) H fr K:=rfl
@[go_sem] theorem opK_min (x y:Operand) (ts:Array TypeId):opK P Γ ⟨dst,.call ⟨.builtin .min,#[x,y],ts⟩,ty,pos,af,gd⟩ e H fr K = minmaxK false [evalD Γ e x,evalD Γ e y] fun d=>K d [] []:=rfl
@[go_sem] theorem opK_max (x y:Operand) (ts:Array TypeId):opK P Γ ⟨dst,.call ⟨.builtin .max,#[x,y],ts⟩,ty,pos,af,gd⟩ e H fr K = minmaxK true [evalD Γ e x,evalD Γ e y] fun d=>K d [] []:=rfl
@[congr] theorem minmaxK_congr {n0:Nat} (tk:tick = n0) (b:Bool) {ds ds':List D} (h:ds = ds') (K:D->Prop):minmaxK b ds K = minmaxK b ds' K:=by rw [h]
@[congr] theorem copyK_congr {n0:Nat} (tk:tick = n0) (t:TypeId) {x x' y y':D} (h:x = x') (h2:y = y') (H:Nat->Blk) (K:D->List Nat->List (Nat × Blk)->Prop):copyK P t x y H K = copyK P t x' y' H K:=by rw [h,h2]
@[congr] theorem appendK_congr {n0:Nat} (tk:tick = n0) (t u:TypeId) {x x' y y':D} (h:x = x') (h2:y = y') (H:Nat->Blk) (fr:Nat) (K:D->List Nat->List (Nat × Blk)->Prop):appendK P t u x y H fr K = appendK P t u x' y' H fr K:=by rw [h,h2]
@[congr] theorem srcK_congr {n0:Nat} (tk:tick = n0) {x x':D} (h:x = x') (es:Nat) (H:Nat->Blk) (K:Nat->List D->List Nat->Prop):srcK x es H K = srcK x' es H K:=by rw [h]
@[go_sem] theorem len_str (t:TypeId) (s:ByteArray) (K:D->Prop):lenK P t (.data (.str s)) K = sideK (strT P t = true) (putK (.data (.int .i64 s.size)) K):=rfl
@[go_sem] theorem len_sl (t:TypeId) (es:Nat) (l:List Data) (K:D->Prop):lenK P t (.data (.sl es l)) K = sideK ((sliceT P t).isSome = true) (putK (.data (.int .i64 l.length)) K):=rfl
@[go_sem] theorem len_ref (t:TypeId) (g o n es:Nat) (K:D->Prop):lenK P t (.ref g o n es) K = sideK ((sliceT P t).isSome = true) (putK (.data (.int .i64 n)) K):=rfl
@[go_sem] theorem len_cut (t:TypeId) (g o n c es:Nat) (K:D->Prop):lenK P t (.cut g o n c es) K = sideK ((sliceT P t).isSome = true) (putK (.data (.int .i64 n)) K):=rfl
@[go_sem] theorem len_ful (t:TypeId) (es:Nat) (l:List Data) (K:D->Prop):lenK P t (.ful es l) K = sideK ((sliceT P t).isSome = true) (putK (.data (.int .i64 l.length)) K):=rfl
@[go_sem] theorem cap_emp (t:TypeId) (es:Nat) (K:D->Prop):capK P t (.emp es) K = sideK ((sliceT P t).isSome = true) (putK (.data (.int .i64 0)) K):=rfl
@[go_sem] theorem len_emp (t:TypeId) (es:Nat) (K:D->Prop):lenK P t (.emp es) K = sideK ((sliceT P t).isSome = true) (putK (.data (.int .i64 0)) K):=rfl
@[go_sem] theorem min_int (k k':IntKind) (a b:Int) (K:D->Prop):minmaxK false [.data (.int k a),.data (.int k' b)] K = sideK (k = k') (putK (.data (.int k (if b < a then b else a))) K):=rfl
@[go_sem] theorem max_int (k k':IntKind) (a b:Int) (K:D->Prop):minmaxK true [.data (.int k a),.data (.int k' b)] K = sideK (k = k') (putK (.data (.int k (if b > a then b else a))) K):=rfl
@[go_sem] theorem src_sl (es es':Nat) (l:List Data) (K:Nat->List D->List Nat->Prop):srcK (.data (.sl es' l)) es H K = sideK (es' = es) (natK l.length fun n=>cellsK ((flat l).map .data) fun cs=>K n cs []):=rfl
@[go_sem] theorem src_emp (es es':Nat) (K:Nat->List D->List Nat->Prop):srcK (.emp es') es H K = K 0 [] []:=rfl
@[go_sem] theorem src_str (s:ByteArray) (es:Nat) (K:Nat->List D->List Nat->Prop):srcK (.data (.str s)) es H K = sideK (es = 1) (natK s.size fun n=>cellsK (s.toList.map fun b=>.data (.int .u8 b.toNat)) fun cs=>K n cs []):=rfl
/-- What is put behind a row. -/
def appK (e xt:TypeId) (es by_ len:Nat) (y:D) (H:Nat->Blk) (K:Nat->List D->List Nat->Prop):Prop :=
 if (intT P xt).isSome then (match y with
  | .data (.int _ n)=>0≤n∧(len + n) * by_≤140737488355328∧len + n≤140737488355328∧zerosK P e n.toNat fun z=>K n.toNat z []
  | _=>False)
  else ((sliceT P xt).isSome || strT P xt) = true∧srcK y es H fun n cs rd=>cs.all D.cell = true∧(len + n) * by_≤140737488355328∧len + n≤140737488355328∧K n cs rd
@[congr] theorem appK_congr {n0:Nat} (tk:tick = n0) (el xt:TypeId) (es by_ len:Nat) {y y':D} (h:y = y') (H:Nat->Blk) (K:Nat->List D->List Nat->Prop):appK P el xt es by_ len y H K = appK P el xt es by_ len y' H K:=by rw [h]
@[go_sem] def appS (el xt:TypeId) (es by_ len:Nat) (y:D) (H:Nat->Blk) (K:Nat->List D->List Nat->Prop):Prop:=sideK ((intT P xt).isSome = false) (sideK (((sliceT P xt).isSome || strT P xt) = true) (srcK y es H fun n cs rd=>sideK (cs.all D.cell = true) (sideK ((len + n) * by_≤140737488355328) (sideK (len + n≤140737488355328) (K n cs rd)))))
theorem appK_src (el xt:TypeId) (es by_ len:Nat) (y:D) (hy:∀ k n,y≠.data (.int k n)) (H:Nat->Blk) (K:Nat->List D->List Nat->Prop):appK P el xt es by_ len y H K = appS P el xt es by_ len y H K:=by
 unfold appK appS sideK
 by_cases h:(intT P xt).isSome
 · simp only [h,if_true]
   cases y with
   | data x=>cases x <;> simp_all
   | _=>simp
 · simp [h]
@[go_sem] theorem appK_sl (el xt:TypeId) (es by_ len:Nat) (es':Nat) (l:List Data) (H:Nat->Blk) (K:Nat->List D->List Nat->Prop):appK P el xt es by_ len (.data (.sl es' l)) H K = appS P el xt es by_ len (.data (.sl es' l)) H K:=appK_src P el xt es by_ len _ (by simp) H K
theorem append_empS (t u:TypeId) (es:Nat) (y:D) (hy:∀ k n,y≠.data (.int k n)):appendK P t u (.emp es) y H fr K = someK (sliceT P t) fun el=>someK (szT P el) fun n=>someK (byT P el) fun by_=>sideK (0 < n) (sideK (zlT P el = some n) (appS P el u n by_ 0 y H fun m cs rd=>K (.ref fr 0 m n) rd [(fr,.blk true cs)])):=by
 unfold appendK someK sideK appS sideK
 simp only
 cases sliceT P t <;> simp only
 rename_i el
 cases szT P el <;> simp only
 cases byT P el <;> simp only
 by_cases h:(intT P u).isSome
 · simp only [h,if_true]
   cases y with
   | data x=>cases x <;> simp_all
   | _=>simp
 · simp [h]
@[go_sem] theorem append_emp_sl (t u:TypeId) (es es':Nat) (l:List Data):appendK P t u (.emp es) (.data (.sl es' l)) H fr K = someK (sliceT P t) fun el=>someK (szT P el) fun n=>someK (byT P el) fun by_=>sideK (0 < n) (sideK (zlT P el = some n) (appS P el u n by_ 0 (.data (.sl es' l)) H fun m cs rd=>K (.ref fr 0 m n) rd [(fr,.blk true cs)])):=append_empS P H fr K t u es _ (by simp)
/-- Room made,of zeros,where there was nothing. -/
@[go_sem] theorem append_room (t u:TypeId) (es:Nat) (k:IntKind) (i:Int):appendK P t u (.emp es) (.data (.int k i)) H fr K = someK (sliceT P t) fun el=>someK (szT P el) fun n=>someK (byT P el) fun by_=>sideK (0 < n) (sideK (zlT P el = some n) (sideK ((intT P u).isSome = true) (sideK (0 < i) (sideK (i * by_≤140737488355328) (sideK (i≤140737488355328) (zerosK P el i.toNat fun z=>natK i.toNat fun q=>K (.cut fr 0 q q n) [] [(fr,.blk true z)])))))):=by
 unfold appendK someK sideK natK
 simp only
 cases sliceT P t <;> simp only
 rename_i el
 cases szT P el <;> simp only
 cases byT P el <;> simp only
 by_cases h:(intT P u).isSome
 · simp only [h,if_true,true_and]
 · simp [h,srcK]
@[go_sem] theorem append_cut (t u:TypeId) (g off len cp es:Nat) (y:D):appendK P t u (.cut g off len cp es) y H fr K = someK (sliceT P t) fun el=>someK (szT P el) fun n=>someK (byT P el) fun by_=>sideK (0 < n) (sideK (zlT P el = some n) (sideK (es = n) (blkK (H g) fun rw cells=>ifW rw (sideK ((intT P u).isSome = false) (sideK (((sliceT P u).isSome || strT P u) = true) (sideK (off + cp * n≤cells.length)
 (srcK y n H fun m cs rd=>sideK (cs.all D.cell = true) (sideK (len + m≤cp) (natK (len + m) fun q=>cellsK (over cells (off + len * n) cs) fun nc=>K (.cut g off q cp n) (g :: rd) [(g,.blk true nc)])))))) False))):=by
 unfold appendK someK sideK blkK ifW cellsK natK
 simp only
 cases sliceT P t <;> simp only
 rename_i el
 cases szT P el <;> simp only
 rename_i n
 cases byT P el <;> simp only
 by_cases he:es = n
 · subst he
   simp only [true_and]
   cases H g with
   | dead=>rfl
   | obj o=>rfl
   | blk rw cells=>cases rw <;> rfl
 · simp [he]
@[go_sem] theorem append_ref (t u:TypeId) (g len es:Nat) (y:D):appendK P t u (.ref g 0 len es) y H fr K = someK (sliceT P t) fun el=>someK (szT P el) fun n=>someK (byT P el) fun by_=>sideK (0 < n) (sideK (zlT P el = some n) (sideK (es = n) (blkK (H g) fun rw cells=>ifW rw (sideK (cells.length = len * n) (appK P el u n by_ len y H fun m cs rd=>cellsK (cells++cs) fun nc=>K (.ref fr 0 (len + m) n) (g :: rd) [(g,.dead),(fr,.blk true nc)])) False))):=by
 unfold appendK someK sideK appK blkK ifW cellsK
 simp only
 cases sliceT P t <;> simp only
 rename_i el
 cases szT P el <;> simp only
 cases byT P el <;> simp only
 cases H g with
 | dead=>rfl
 | obj o=>rfl
 | blk rw cells =>
   cases rw
   · rfl
   · simp only
     by_cases h:(intT P u).isSome
     · simp only [h,if_true]
       cases y with
       | data x=>cases x <;> rfl
       | _=>rfl
     · simp [h]
end
@[go_sem] theorem dcK_eq (dst:Option Nat) (ty:TypeId) (pos:String) (af:Array Edge) (gd:Option (Nat × Bool)) (e:Nat->D) (H:Nat->Blk) (nx:Nat) (K:D->(Nat->Blk)->Nat->Prop) (x:Operand) (args:Array Operand) (ts:Array TypeId) :
 dcK P Γ ⟨dst,.call ⟨.value x,args,ts⟩,ty,pos,af,gd⟩ e H nx K = someK (fnD (evalD Γ e x)) fun fc=>DC P Γ fc.1 (fc.2.1++(args.toList.map (evalD Γ e)++fc.2.2)) H nx K:=by
 unfold dcK someK
 simp only
 cases fnD (evalD Γ e x) <;> rfl
@[go_sem] theorem fnD_data (f:FuncId) (c:List Data):fnD (.data (.fn f c)) = some (f,[],c.map toD):=rfl
@[go_sem] theorem fnD_bnd (f:FuncId) (r:D):fnD (.bnd f r) = some (f,[r],[]):=rfl
@[go_sem] theorem fnD_fn (f:FuncId) (c:List D):fnD (.fn f c) = some (f,[],c):=rfl
variable {P Γ}
/-- A call whose arguments are plain data. -/
theorem call_data {f:FuncId} {ds:List D} {xs:List Data} {r:Data} {H:Nat->Blk} {K:D->List Nat->List (Nat × Blk)->Prop} (h:PC P Γ f xs r) (hd:ds = xs.map toD) (k:K (.data r) [] []):callK P Γ f ds H K:=by
 subst hd
 refine ⟨[],xs,r,[],(fun g hg=>by cases hg),h,.inr fun H' _=>?_,k⟩
 refine ⟨by simp,fun i d x hd hx=>?_⟩
 rw [List.getElem?_map,hx] at hd
 cases hd
 cases x with
 | pc c=>exact .cptr c
 | _=>exact .data _
/-- A call that keeps rows of the caller's: nobody writes them from there on. -/
theorem call_frz {f:FuncId} {ds:List D} {H:Nat->Blk} {K:D->List Nat->List (Nat × Blk)->Prop} (F rd:List Nat) {xs:List Data} {r:Data} (hF:∀ g∈F,∃ rw cells,H g = .blk rw cells) (h:PC P Γ f xs r) (hf:∀ H',(∀ g∈rd,H' g = H g)->FrzL false (Hp.upd H' (F.map fun g=>(g,fz (H g)))) ds xs) (k:K (.data r) rd (F.map fun g=>(g,fz (H g)))):callK P Γ f ds H K :=
 ⟨F,xs,r,rd,hF,h,.inr hf,k⟩
end
/-- Behind a loop's round: a state of the family,nearer to the end. -/
def NextW {σ:Type} (st:σ->St) (μ:σ->Nat) (x:σ) (s:St):Prop:=∃ y,WeakX s (st y)∧μ y < μ x
@[congr] theorem NextW_congr {n0:Nat} (tk:tick = n0) {σ:Type} (st:σ->St) (μ:σ->Nat) (x:σ) (s:St):NextW st μ x s = NextW st μ x s:=rfl
theorem next_of {σ:Type} {st:σ->St} {μ:σ->Nat} {x:σ} {s:St} (y:σ) (h:Weak s (st y)) (hm:μ y < μ x):NextW st μ x s:=⟨y,.inl h,hm⟩
theorem next_ren {σ:Type} {st:σ->St} {μ:σ->Nat} {x:σ} {s:St} (y:σ) (hm:μ y < μ x) (F:List Nat) (ρ:Nat->Option Nat) (h:WeakR F ρ s (st y)):NextW st μ x s:=⟨y,.inr ⟨F,ρ,h⟩,hm⟩
theorem loop_of {body:(Exit->St->Prop)->St->Prop} {Q:Exit->St->Prop} {s:St} {σ:Type} (st:σ->St) (μ:σ->Nat) (x0:σ) (h0:Weak s (st x0)) (h:∀ x,body (thenW (NextW st μ x) Q) (st x)):LoopW body Q s:=⟨σ,st,μ,x0,.inl h0,h⟩
theorem loop_ren {body:(Exit->St->Prop)->St->Prop} {Q:Exit->St->Prop} {s:St} {σ:Type} (st:σ->St) (μ:σ->Nat) (x0:σ) (F:List Nat) (ρ:Nat->Option Nat) (h0:WeakR F ρ s (st x0)) (h:∀ x,body (thenW (NextW st μ x) Q) (st x)):LoopW body Q s:=⟨σ,st,μ,x0,.inr ⟨F,ρ,h0⟩,h⟩
def startK (ds:List D) (n:Nat) (K:List D->Nat->Prop):Prop:=K ds n
@[congr] theorem startK_congr {n0:Nat} (tk:tick = n0) {ds ds':List D} (h:ds = ds') {n n':Nat} (h2:n = n') (K:List D->Nat->Prop):startK ds n K = startK ds' n' K:=by rw [h,h2]
@[go_sem] theorem startK_eq (ds:List D) (n:Nat) (K:List D->Nat->Prop):startK ds n K = K ds n:=rfl
section
variable {P:Program} {Γ:Nat->Option (List Data)}
theorem pc_by (hm:P.follows .mixedOrders = true) {f:FuncId} {fn:Func} {c:Code} {xs:List Data} {r:Data} (hf:P.funcs[f]? = some fn) (hb:fn.body = some c) (hc:CallOk P f)
 (h:startK (xs.map toD) (xs.length + (fn.ntmps - xs.length)) fun ds n=>wpF P Γ c (retQ P fn r) ⟨envArgs ds,fun _=>.dead,0,0,n⟩):PC P Γ f xs r:=pc_of hm hf hb hc h
theorem dc_by (hm:P.follows .mixedOrders = true) {f:FuncId} {fn:Func} {c:Code} {ds:List D} {H:Nat->Blk} {nx:Nat} {K:D->(Nat->Blk)->Nat->Prop} (hf:P.funcs[f]? = some fn) (hb:fn.body = some c) (hc:CallOk P f)
 (h:startK ds (ds.length + (fn.ntmps - ds.length)) fun ds n=>wpF P Γ c (retDQ P fn K) ⟨envArgs ds,H,nx,nx,n⟩):DC P Γ f ds H nx K:=dc_of hm hf hb hc h
end
theorem frzL_c {ok:Bool} {H:Nat->Blk} {d:D} {x:Data} {ds:List D} {xs:List Data} (h:Frz ok H d x) (t:FrzL ok H ds xs):FrzL ok H (d :: ds) (x :: xs):=(frzL_cons ok H d ds (x :: xs)).2 ⟨x,xs,rfl,h,t⟩
theorem frzL_n {ok:Bool} {H:Nat->Blk}:FrzL ok H [] []:=(frzL_nil ok H []).2 rfl
/-- Slots by a list. -/
def envL:List (Nat × D)->Nat->D
 | [],_=>.junk
 | (k,d) :: l,t=>if t = k then d else envL l t
def hpL:List (Nat × Blk)->Nat->Blk
 | [],_=>.dead
 | (k,d) :: l,t=>if t = k then d else hpL l t
@[go_sem] theorem envL_nil (t:Nat):envL [] t = .junk:=rfl
@[go_sem] theorem envL_cons (k:Nat) (d:D) (l:List (Nat × D)) (t:Nat):envL ((k,d) :: l) t = if t = k then d else envL l t:=rfl
@[go_sem] theorem hpL_nil (t:Nat):hpL [] t = .dead:=rfl
@[go_sem] theorem hpL_cons (k:Nat) (d:Blk) (l:List (Nat × Blk)) (t:Nat):hpL ((k,d) :: l) t = if t = k then d else hpL l t:=rfl
/-- All that it holds lies below a number. -/
def below (k:Nat):D->Bool
 | .ref g _ _ _=>decide (g < k)
 | .ptr g _=>decide (g < k)
 | .cut g _ _ _ _=>decide (g < k)
 | .mref g=>decide (g < k)
 | .iref g=>decide (g < k)
 | .agg cs=>allBelow k cs
 | .fn _ cs=>allBelow k cs
 | .bnd _ r=>below k r
 | .tp cs=>allBelow k cs
 | _=>true
where allBelow (k:Nat):List D->Bool
 | []=>true
 | d :: l=>below k d && allBelow k l
mutual
theorem scoped_of {k:Nat}:∀ {d:D},below k d = true->Scoped k d
 | .ref g o n s,h=>.ref g o n s (by simpa [below] using h)
 | .ptr g o,h=>.ptr g o (by simpa [below] using h)
 | .cut g o n c s,h=>.cut g o n c s (by simpa [below] using h)
 | .mref g,h=>.mref g (by simpa [below] using h)
 | .iref g,h=>.iref g (by simpa [below] using h)
 | .agg cs,h=>.agg cs (scoped_all (by simpa [below] using h))
 | .fn f cs,h=>.fn f cs (scoped_all (by simpa [below] using h))
 | .bnd f r,h=>.bnd f r (scoped_of (by simpa [below] using h))
 | .tp cs,h=>.tp cs (scoped_all (by simpa [below] using h))
 | .data x,_=>.data x
 | .emp n,_=>.emp n
 | .cptr c,_=>.cptr c
 | .yld l,_=>.yld l
 | .ful n l,_=>.ful n l
 | .junk,_=>.junk
theorem scoped_all {k:Nat}:∀ {l:List D},below.allBelow k l = true->∀ (i:Nat) (x:D),l[i]? = some x->Scoped k x
 | d :: l,h,0,x,hx=>by
   simp only [below.allBelow,Bool.and_eq_true] at h
   simp only [List.getElem?_cons_zero,Option.some.injEq] at hx
   subst hx
   exact scoped_of h.1
 | d :: l,h,i + 1,x,hx=>by
   simp only [below.allBelow,Bool.and_eq_true] at h
   exact scoped_all h.2 i x (by simpa using hx)
end
@[go_sem] theorem below_data (k:Nat) (x:Data):below k (.data x) = true:=rfl
@[go_sem] theorem below_ref (k g o n s:Nat):below k (.ref g o n s) = decide (g < k):=rfl
@[go_sem] theorem below_ptr (k g o:Nat):below k (.ptr g o) = decide (g < k):=rfl
@[go_sem] theorem below_cut (k g o n c s:Nat):below k (.cut g o n c s) = decide (g < k):=rfl
@[go_sem] theorem below_mref (k g:Nat):below k (.mref g) = decide (g < k):=rfl
@[go_sem] theorem below_iref (k g:Nat):below k (.iref g) = decide (g < k):=rfl
@[go_sem] theorem below_emp (k n:Nat):below k (.emp n) = true:=rfl
@[go_sem] theorem below_cptr (k:Nat) (c:List Data):below k (.cptr c) = true:=rfl
@[go_sem] theorem below_fn (k:Nat) (f:FuncId) (c:List D):below k (.fn f c) = below.allBelow k c:=rfl
@[go_sem] theorem below_bnd (k:Nat) (f:FuncId) (r:D):below k (.bnd f r) = below k r:=rfl
@[go_sem] theorem below_yld (k l:Nat):below k (.yld l) = true:=rfl
@[go_sem] theorem below_ful (k n:Nat) (l:List Data):below k (.ful n l) = true:=rfl
@[go_sem] theorem below_tp (k:Nat) (c:List D):below k (.tp c) = below.allBelow k c:=rfl
@[go_sem] theorem below_agg (k:Nat) (c:List D):below k (.agg c) = below.allBelow k c:=rfl
@[go_sem] theorem allBelow_nil (k:Nat):below.allBelow k [] = true:=rfl
@[go_sem] theorem allBelow_cons (k:Nat) (d:D) (l:List D):below.allBelow k (d :: l) = (below k d && below.allBelow k l):=rfl
@[go_sem] def blkBelow (k:Nat):Blk->Bool
 | .blk _ cells=>below.allBelow k cells
 | .obj (.mp _ xs)=>below.allBelow k xs
 | .obj (.it _ _ _ _)=>true
 | .obj (.si _ _)=>true
 | .dead=>true
theorem weak_lists {e:Nat->D} {H:Nat->Blk} {nx lo nt:Nat} (L:List (Nat × D)) (M:List (Nat × Blk)) (n:Nat) (hL:∀ p∈L,e p.1 = p.2) (hM:∀ p∈M,H p.1 = p.2) (hn:n≤nx) (hlo:lo≤n) (hs:∀ p∈L,below n p.2 = true) (hb:∀ p∈M,p.1 < n∧blkBelow n p.2 = true) :
 Weak ⟨e,H,nx,lo,nt⟩ ⟨envL L,hpL M,n,lo,nt⟩:=by
 have env:∀ (L:List (Nat × D)),(∀ p∈L,e p.1 = p.2)->∀ t,envL L t = .junk ∨ (envL L t = e t∧(t,e t)∈L):=by
  intro L
  induction L with
  | nil=>exact fun _ t=>.inl rfl
  | cons p L ih =>
    intro h t
    obtain ⟨k,d⟩:=p
    by_cases ht:t = k
    · subst ht
      have:=h (t,d) (by simp)
      simp only at this
      exact .inr ⟨by simp [envL,this],by simp [this]⟩
    · rcases ih (fun p hp=>h p (by simp [hp])) t with q | q
      · exact .inl (by simp [envL,ht,q])
      · exact .inr ⟨by simp [envL,ht,q.1],by simp [q.2]⟩
 have hps:∀ (M:List (Nat × Blk)),(∀ p∈M,H p.1 = p.2)->∀ t,hpL M t = .dead ∨ (hpL M t = H t∧(t,H t)∈M):=by
  intro M
  induction M with
  | nil=>exact fun _ t=>.inl rfl
  | cons p M ih =>
    intro h t
    obtain ⟨k,d⟩:=p
    by_cases ht:t = k
    · subst ht
      have:=h (t,d) (by simp)
      simp only at this
      exact .inr ⟨by simp [hpL,this],by simp [this]⟩
    · rcases ih (fun p hp=>h p (by simp [hp])) t with q | q
      · exact .inl (by simp [hpL,ht,q])
      · exact .inr ⟨by simp [hpL,ht,q.1],by simp [q.2]⟩
 refine ⟨fun t=>?_,fun g=>?_,hn,rfl,hlo,rfl,fun g hg=>?_,.inr ⟨fun t=>?_,fun g rw cells hg d hd=>?_,fun g o hg=>?_⟩⟩
 · rcases env L hL t with q | q
   · exact .inr q
   · exact .inl q.1
 · rcases hps M hM g with q | q
   · exact .inr q
   · exact .inl q.1
 · rcases hps M hM g with q | q
   · exact q
   · have:=(hb _ q.2).1
     simp only at this hg
     omega
 · rcases env L hL t with q | q
   · simp only [q];exact .junk
   · simp only [q.1];exact scoped_of (hs _ q.2)
 · rcases hps M hM g with q | q
   · simp only [q] at hg;cases hg
   · have h2:=(hb _ q.2).2
     simp only [q.1] at hg
     simp only [hg,blkBelow] at h2
     obtain ⟨i,hi⟩:=List.getElem?_of_mem hd
     exact scoped_all h2 i d hi
 · rcases hps M hM g with q | q
   · simp only [q] at hg;cases hg
   · have h2:=(hb _ q.2).2
     simp only [q.1] at hg
     simp only [hg] at h2
     cases o with
     | it=>trivial
     | si=>trivial
     | mp ks xs =>
       intro d hd
       obtain ⟨i,hi⟩:=List.getElem?_of_mem hd
       exact scoped_all h2 i d hi
/-- New numbers by a list. -/
def rhoL:List (Nat × Option Nat)->Nat->Option Nat
 | [],g=>some g
 | (k,o) :: l,g=>if g = k then o else rhoL l g
@[go_sem] theorem rhoL_nil (g:Nat):rhoL [] g = some g:=rfl
@[go_sem] theorem rhoL_cons (k:Nat) (o:Option Nat) (l:List (Nat × Option Nat)) (g:Nat):rhoL ((k,o) :: l) g = if g = k then o else rhoL l g:=rfl
@[go_sem] theorem fzH_eq (H:Nat->Blk) (F:List Nat) (g:Nat):fzH H F g = if g∈F then fz (H g) else H g:=rfl
section
variable {n:Nat} {ρ:Nat->Option Nat} {H:Nat->Blk}
def RenCells (n:Nat) (ρ:Nat->Option Nat) (H:Nat->Blk) (cs ds:List D):Prop:=cs.length≤ds.length∧∀ (i:Nat) (c d:D),cs[i]? = some c->ds[i]? = some d->Ren n ρ H c d
theorem renCells_datas {cs:List D} (h:∀ c∈cs,∃ x,c = .data x):RenCells n ρ H cs cs:=⟨Nat.le_refl _,fun i c d hc hd=>by
 rw [hc] at hd;cases hd
 obtain ⟨x,rfl⟩:=h c (List.mem_of_getElem? hc)
 exact .data x⟩
theorem renCells_eq {l m:List Data} (h:l = m):RenCells n ρ H (l.map D.data) (m.map D.data):=by
 subst h
 exact renCells_datas fun c hc=>by obtain ⟨x,_,rfl⟩:=List.mem_map.1 hc;exact ⟨x,rfl⟩
@[go_sem] theorem renCells_map (l:List Data):RenCells n ρ H (l.map D.data) (l.map D.data) ↔ True:=iff_true_intro (renCells_eq rfl)
@[go_sem] theorem ren_data (x y:Data):Ren n ρ H (.data x) (.data y) ↔ x = y:=by
 constructor
 · intro h
   cases h with
   | data=>rfl
   | frz _ _ h=>cases h;rfl
 · rintro rfl;exact .data x
@[go_sem] theorem ren_cut (g off len cp es o off' len' cp' es':Nat):Ren n ρ H (.cut g off len cp es) (.cut o off' len' cp' es') ↔ g < n∧ρ g = some o∧off = off'∧len = len'∧cp = cp'∧es = es':=by
 constructor
 · intro h;cases h with | cut _ _ _ _ _ _ h1 h2=>exact ⟨h1,h2,rfl,rfl,rfl,rfl⟩
 · rintro ⟨h1,h2,rfl,rfl,rfl,rfl⟩;exact .cut _ _ _ _ _ _ h1 h2
@[go_sem] theorem ren_uncut (g off len es o off' len' cp' es':Nat):Ren n ρ H (.ref g off len es) (.cut o off' len' cp' es') ↔ g < n∧ρ g = some o∧off = off'∧len = len'∧es = es':=by
 constructor
 · intro h;cases h with | uncut _ _ _ _ _ _ h1 h2=>exact ⟨h1,h2,rfl,rfl,rfl⟩
 · rintro ⟨h1,h2,rfl,rfl,rfl⟩;exact .uncut _ _ _ _ _ _ h1 h2
end
/-- A row under its new number. -/
def RenK (n:Nat) (R:List (Nat × Option Nat)) (H:Nat->Blk) (rw:Bool) (cells:List D):Blk->Prop
 | .dead=>False
 | .obj _=>False
 | .blk rw' cells'=>rw = rw'∧RenCells n (rhoL R) H cells cells'
def RenO (n:Nat) (R:List (Nat × Option Nat)) (H:Nat->Blk) (rw:Bool) (cells:List D):Option Nat->Prop
 | some o=>RenK n R H rw cells (H o)
 | none=>cells = []
def RenS (n:Nat) (R:List (Nat × Option Nat)) (H:Nat->Blk) (o2:Ob):Blk->Prop
 | .obj o1=>RenOb n (rhoL R) H o2 o1
 | _=>False
def RenP (n:Nat) (R:List (Nat × Option Nat)) (H:Nat->Blk) (o2:Ob):Option Nat->Prop
 | some o=>RenS n R H o2 (H o)
 | none=>False
def RenB (n:Nat) (R:List (Nat × Option Nat)) (H:Nat->Blk) (g:Nat):Blk->Prop
 | .dead=>True
 | .blk rw cells=>g < n∧RenO n R H rw cells (rhoL R g)
 | .obj o=>g < n∧RenP n R H o (rhoL R g)
@[go_sem] theorem renB_obj (n:Nat) (R:List (Nat × Option Nat)) (H:Nat->Blk) (g:Nat) (o:Ob):RenB n R H g (.obj o) ↔ g < n∧RenP n R H o (rhoL R g):=Iff.rfl
@[go_sem] theorem renP_some (n:Nat) (R:List (Nat × Option Nat)) (H:Nat->Blk) (o2:Ob) (o:Nat):RenP n R H o2 (some o) ↔ RenS n R H o2 (H o):=Iff.rfl
@[go_sem] theorem renK_blk (n:Nat) (R:List (Nat × Option Nat)) (H:Nat->Blk) (rw:Bool) (cells:List D) (rw':Bool) (cells':List D):RenK n R H rw cells (.blk rw' cells') ↔ rw = rw'∧RenCells n (rhoL R) H cells cells':=Iff.rfl
@[go_sem] theorem renO_some (n:Nat) (R:List (Nat × Option Nat)) (H:Nat->Blk) (rw:Bool) (cells:List D) (o:Nat):RenO n R H rw cells (some o) ↔ RenK n R H rw cells (H o):=Iff.rfl
@[go_sem] theorem renO_none (n:Nat) (R:List (Nat × Option Nat)) (H:Nat->Blk) (rw:Bool) (cells:List D):RenO n R H rw cells none ↔ cells = []:=Iff.rfl
@[go_sem] theorem renB_dead (n:Nat) (R:List (Nat × Option Nat)) (H:Nat->Blk) (g:Nat):RenB n R H g .dead ↔ True:=Iff.rfl
@[go_sem] theorem renB_blk (n:Nat) (R:List (Nat × Option Nat)) (H:Nat->Blk) (g:Nat) (rw:Bool) (cells:List D):RenB n R H g (.blk rw cells) ↔ g < n∧RenO n R H rw cells (rhoL R g):=Iff.rfl
theorem nodup_inj {α:Type} (f:α->Option Nat) (k:α->Nat):∀ l:List α,(l.filterMap f).Nodup->∀ p∈l,∀ q∈l,∀ o,f p = some o->f q = some o->k p = k q
 | [],_,p,hp,_,_,_,_,_=>by simp at hp
 | a :: l,h,p,hp,q,hq,o,e1,e2=>by
   have ht:(l.filterMap f).Nodup:=by
    rw [List.filterMap_cons] at h
    split at h
    · exact h
    · exact (List.nodup_cons.1 h).2
   have hn:∀ x∈l,f a = some o->f x = some o->False:=fun x hx ea ex=>by
    rw [List.filterMap_cons_some ea] at h
    exact (List.nodup_cons.1 h).1 (List.mem_filterMap.2 ⟨x,hx,ex⟩)
   rcases List.mem_cons.1 hp with ep | hp <;> rcases List.mem_cons.1 hq with eq | hq
   · rw [ep,eq]
   · rw [ep] at e1;exact (hn q hq e1 e2).elim
   · rw [eq] at e2;exact (hn p hp e2 e1).elim
   · exact nodup_inj f k l ht p hp q hq o e1 e2
theorem ren_lists {e:Nat->D} {H:Nat->Blk} {nx lo nt:Nat} {F:List Nat} (R:List (Nat × Option Nat)) (L:List (Nat × D)) (M:List (Nat × Blk)) (n:Nat) (hL:∀ p∈L,Ren n (rhoL R) (fzH H F) p.2 (e p.1)) (hM:∀ p∈M,RenB n R (fzH H F) p.1 p.2)
 (hi:(M.filterMap fun p=>rhoL R p.1).Nodup) (hlo:lo≤n) (hf:∀ p∈R,lo≤p.1) :
 WeakR F (rhoL R) ⟨e,H,nx,lo,nt⟩ ⟨envL L,hpL M,n,lo,nt⟩:=by
 have env:∀ (L:List (Nat × D)),(∀ p∈L,Ren n (rhoL R) (fzH H F) p.2 (e p.1))->∀ t,Ren n (rhoL R) (fzH H F) (envL L t) (e t):=by
  intro L
  induction L with
  | nil=>exact fun _ t=>.junk _
  | cons p L ih =>
    intro h t
    obtain ⟨k,d⟩:=p
    by_cases ht:t = k
    · subst ht
      have:=h (t,d) (by simp)
      simpa [envL] using this
    · simp only [envL,ht,if_false]
      exact ih (fun p hp=>h p (by simp [hp])) t
 have blk:∀ (M:List (Nat × Blk)) (g:Nat) (b:Blk),hpL M g = b->b = .dead ∨ (g,b)∈M:=by
  intro M
  induction M with
  | nil=>intro g b h;exact .inl h.symm
  | cons p M ih =>
    intro g b h
    obtain ⟨k,d⟩:=p
    by_cases hg:g = k
    · subst hg
      simp only [hpL,if_true] at h
      subst h
      exact .inr (by simp)
    · simp only [hpL,hg,if_false] at h
      rcases ih g b h with h | h
      · exact .inl h
      · exact .inr (by simp [h])
 have fix:∀ (R:List (Nat × Option Nat)),(∀ p∈R,lo≤p.1)->∀ g,g < lo->rhoL R g = some g:=by
  intro R
  induction R with
  | nil=>exact fun _ g _=>rfl
  | cons p R ih =>
    intro h g hg
    obtain ⟨k,o⟩:=p
    have:=h (k,o) (by simp)
    simp only [rhoL,show ¬ g = k by simp only at this;omega,if_false]
    exact ih (fun p hp=>h p (by simp [hp])) g hg
 refine ⟨env L hL,fun g rw cells hg=>?_,fun g g' o cells rw cells' hg hg' ho ho'=>?_,fun g o2 hg=>?_,fun g g' o p p' hg hg' ho ho'=>?_,rfl,hlo,fun g hg=>fix R hf g hg,rfl⟩
 rotate_left 2
 · rcases blk M g _ hg with h | h
   · cases h
   · obtain ⟨h1,h2⟩:=hM _ h
     refine ⟨h1,?_⟩
     simp only at h2
     cases ho:rhoL R g with
     | some o =>
       rw [ho] at h2
       have h3:RenS n R (fzH H F) o2 (fzH H F o):=h2
       cases hb:fzH H F o with
       | dead=>rw [hb] at h3;exact h3.elim
       | blk=>rw [hb] at h3;exact h3.elim
       | obj o1 =>
         rw [hb] at h3
         refine ⟨o,o1,rfl,?_,h3⟩
         show H o = .obj o1
         unfold fzH at hb
         split at hb
         · cases hH:H o with
           | dead=>rw [hH] at hb;cases hb
           | blk=>rw [hH] at hb;cases hb
           | obj o3=>rw [hH] at hb;exact hb
         · exact hb
     | none=>rw [ho] at h2;exact h2.elim
 · rcases blk M g _ hg with h | h
   · cases h
   · rcases blk M g' _ hg' with h' | h'
     · cases h'
     · exact nodup_inj (fun p:Nat × Blk=>rhoL R p.1) (fun p=>p.1) M hi _ h _ h' o ho ho'
 · rcases blk M g _ hg with h | h
   · cases h
   · obtain ⟨h1,h2⟩:=hM _ h
     refine ⟨h1,?_⟩
     simp only at h2
     cases ho:rhoL R g with
     | some o =>
       rw [ho] at h2
       have h3:RenK n R (fzH H F) rw cells (fzH H F o):=h2
       cases hb:fzH H F o with
       | dead=>rw [hb] at h3;exact h3.elim
       | obj o=>rw [hb] at h3;exact h3.elim
       | blk rw' cells' =>
         rw [hb] at h3
         obtain ⟨rfl,h4,h5⟩:=h3
         exact .inl ⟨o,cells',rfl,hb,h4,h5⟩
     | none=>rw [ho] at h2;exact .inr ⟨rfl,h2⟩
 · rcases blk M g _ hg with h | h
   · cases h
   · rcases blk M g' _ hg' with h' | h'
     · cases h'
     · exact nodup_inj (fun p:Nat × Blk=>rhoL R p.1) (fun p=>p.1) M hi _ h _ h' o ho ho'
mutual
/-- Numbers moved up. -/
def shD (n:Nat):D->D
 | .ref g off len es=>.ref (g + n) off len es
 | .ptr g off=>.ptr (g + n) off
 | .cut g off len cp es=>.cut (g + n) off len cp es
 | .mref g=>.mref (g + n)
 | .iref g=>.iref (g + n)
 | .agg cs=>.agg (shL n cs)
 | .fn f caps=>.fn f (shL n caps)
 | .bnd f r=>.bnd f (shD n r)
 | .tp cs=>.tp (shL n cs)
 | .data x=>.data x
 | .emp es=>.emp es
 | .cptr cells=>.cptr cells
 | .yld l=>.yld l
 | .ful n l=>.ful n l
 | .junk=>.junk
def shL (n:Nat):List D->List D
 | []=>[]
 | d :: ds=>shD n d :: shL n ds
end
def shB (n:Nat):Blk->Blk
 | .dead=>.dead
 | .blk rw cells=>.blk rw (shL n cells)
 | .obj (.mp ks xs)=>.obj (.mp ks (shL n xs))
 | .obj o=>.obj o
@[go_sem] theorem shB_mp (n:Nat) (ks:List Data) (xs:List D):shB n (.obj (.mp ks xs)) = .obj (.mp ks (shL n xs)):=rfl
@[go_sem] theorem shB_it (n:Nat) (ks xs:List Data) (l:List Nat) (c:Option Nat):shB n (.obj (.it ks xs l c)) = .obj (.it ks xs l c):=rfl
@[go_sem] theorem shB_si (n:Nat) (s:ByteArray) (p:Nat):shB n (.obj (.si s p)) = .obj (.si s p):=rfl
@[go_sem] theorem shB_blk (n:Nat) (rw:Bool) (cells:List D):shB n (.blk rw cells) = .blk rw (shL n cells):=rfl
@[go_sem] theorem shB_dead (n:Nat):shB n .dead = .dead:=rfl
/-- The caller's rows,and above them those handed back. -/
def ownH (nx:Nat) (H:Nat->Blk) (M:List (Nat × Blk)):Nat->Blk:=fun g=>if g < nx then H g else shB nx (hpL M (g - nx))
@[go_sem] theorem ownH_eq (nx:Nat) (H:Nat->Blk) (M:List (Nat × Blk)) (g:Nat):ownH nx H M g = if g < nx then H g else shB nx (hpL M (g - nx)):=rfl
section
variable {P:Program} {Γ:Nat->Option (List Data)} {L0:Nat->Prop} {w0:W0}
/-- What a function hands back of its own. -/
def retOQ (P:Program) (fn:Func) (d:D) (M:List (Nat × Blk)) (k:Nat):Exit->St->Prop
 | .normal,s | .ret,s=>resK P fn.results.toList s fun ds=>∃ d0 F R,tupDD ds = some d0∧WeakR F (rhoL R) ⟨envL [(0,d0)],s.hp,s.nx,0,1⟩ ⟨envL [(0,d)],hpL M,k,0,1⟩
 | _,_=>False
@[congr] theorem retOQ_congr {n0:Nat} (tk:tick = n0) (P:Program) (fn:Func) (d:D) (M:List (Nat × Blk)) (k:Nat) (e:Exit) (s:St):retOQ P fn d M k e s = retOQ P fn d M k e s:=rfl
/-- The result,and the rows that it takes with it. -/
def ownK (H:Nat->Blk) (nx:Nat) (d:D) (M:List (Nat × Blk)) (k:Nat) (ds:List D):Prop:=∃ d0 F R,tupDD ds = some d0∧WeakR F (rhoL R) ⟨envL [(0,d0)],H,nx,0,1⟩ ⟨envL [(0,d)],hpL M,k,0,1⟩
@[congr] theorem ownK_congr {n0:Nat} (tk:tick = n0) (H:Nat->Blk) (nx:Nat) (d:D) (M:List (Nat × Blk)) (k:Nat) {ds ds':List D} (h:ds = ds'):ownK H nx d M k ds = ownK H nx d M k ds':=by rw [h]
@[go_sem] theorem retOQ_ret (fn:Func) (d:D) (M:List (Nat × Blk)) (k:Nat) (s:St):retOQ P fn d M k .ret s = resK P fn.results.toList s fun ds=>ownK s.hp s.nx d M k ds:=rfl
@[go_sem] theorem retOQ_normal (fn:Func) (d:D) (M:List (Nat × Blk)) (k:Nat) (s:St):retOQ P fn d M k .normal s = resK P fn.results.toList s fun ds=>ownK s.hp s.nx d M k ds:=rfl
end
@[go_sem] theorem coe_tp (P:Program) (t:TypeId) (cs:List D):coe P t (.tp cs) = .tp cs:=rfl
@[go_sem] theorem coe_yld (P:Program) (t:TypeId) (l:Nat):coe P t (.yld l) = .yld l:=rfl
/-- An element of a type,out of its cells. -/
def mkE (P:Program) (t:TypeId) (ds:List Data):Data:=match P.underlying t with
 | some (.struct _) | some (.array _ _)=>.agg ds
 | _=>ds.headD .nilp
/-- Types that are read as plain data. -/
def suppF (P:Program) (s:TypeId->Bool):Nat->List Field->Option Nat
 | o,[]=>some o
 | o,f :: fs=>if f.offset = o∧s f.type = true then suppF P s (o + P.cellsOf f.type) fs else none
def supp (P:Program):Nat->TypeId->Bool
 | 0,_=>false
 | n + 1,t=>match P.underlying t with
   | some .bool | some .string=>true
   | some (.int _)=>true
   | some (.slice e)=>supp P n e && decide (0 < P.cellsOf e) && decide (0 < P.bytesOf e)
   | some (.struct fs)=>suppF P (supp P n) 0 fs.toList == some (P.cellsOf t)
   | some (.array m e)=>supp P n e && decide (P.cellsOf t = m * P.cellsOf e)
   | _=>false
/-- The cells that a reading tells. -/
def dDF {H:Type} (r:TypeId->DataW H->List Data):List Field->List (DataW H)->List Data
 | f :: fs,d :: ds=>r f.type d++dDF r fs ds
 | _,_=>[]
def dD {H:Type} (P:Program):Nat->TypeId->DataW H->List Data
 | 0,_,_=>[]
 | n + 1,t,d=>match P.underlying t with
   | some (.slice e)=>(match d with
     | .slice elems _=>[.sl (P.cellsOf e) (elems.map fun x=>mkE P e (dD P n e x))]
     | _=>[.sl (P.cellsOf e) []])
   | some (.struct fs)=>(match d with
     | .agg parts=>dDF (dD P n) fs.toList parts
     | _=>[])
   | some (.array _ e)=>(match d with
     | .agg parts=>parts.flatMap (dD P n e)
     | _=>[])
   | _=>(match d with
     | .lit (.bool b)=>[.bool b]
     | .lit (.int k i)=>[.int k i]
     | .lit (.string s)=>[.str ⟨s.toArray⟩]
     | _=>[])
/-- The form of a type's cells. -/
def okF (o:TypeId->List Data->Prop):List Field->List Data->Prop
 | [],ds=>ds = []
 | f :: fs,ds=>∃ a b,ds = a++b∧o f.type a∧okF o fs b
def okA (o:List Data->Prop):Nat->List Data->Prop
 | 0,ds=>ds = []
 | n + 1,ds=>∃ a b,ds = a++b∧o a∧okA o n b
def okD (P:Program):Nat->TypeId->List Data->Prop
 | 0,_,_=>False
 | n + 1,t,ds=>match P.underlying t with
   | some .bool=>∃ b,ds = [.bool b]
   | some (.int k)=>∃ i,ds = [.int k i]∧(Lit.int k i).wf = true
   | some .string=>∃ s,ds = [.str s]∧s.size≤reachBytes
   | some (.slice e)=>∃ l,ds = [.sl (P.cellsOf e) l]∧l.length≤reachBytes∧∀ x∈l,∃ es,x = mkE P e es∧okD P n e es
   | some (.struct fs)=>okF (okD P n) fs.toList ds
   | some (.array m e)=>okA (okD P n e) m ds
   | _=>False
/-- Cells,one by one. -/
def VDs (w:World) (cs:List Value) (ds:List Data):Prop:=ds.length = cs.length∧∀ (i:Nat) (x:Data) (v:Value),ds[i]? = some x->cs[i]? = some v->VD (fun _=>False) w x v
theorem VDs.nil (w:World):VDs w [] []:=⟨rfl,fun i x v h=>by simp at h⟩
theorem VDs.one {w:World} {v:Value} {x:Data} (h:VD (fun _=>False) w x v):VDs w [v] [x]:=⟨rfl,fun i y u hy hu=>by
 match i with
 | 0=>simp at hy hu;subst hy;subst hu;exact h
 | i + 1=>simp at hy⟩
theorem VDs.append {w:World} {a b:List Value} {x y:List Data} (h:VDs w a x) (k:VDs w b y):VDs w (a++b) (x++y):=by
 refine ⟨by simp [h.1,k.1],fun i d v hd hv=>?_⟩
 rw [List.getElem?_append] at hd hv
 rw [h.1] at hd
 split at hd
 · rename_i hi;rw [if_pos hi] at hv;exact h.2 i d v hd hv
 · rename_i hi;rw [if_neg hi] at hv;exact k.2 _ d v hd hv
section
variable {H:Type} {enc:TypeId × Value->H} {P:Program} {w:World} {held:Bool} {spare:Nat->Bool}
theorem weights_each {ts:List TypeId} {ds:List (DataW H)} (hz:∀ x∈DataW.weightsEach P ts ds,x≤reachBytes):∀ (i:Nat) t d,ts[i]? = some t->ds[i]? = some d->∀ x∈DataW.weights P t d,x≤reachBytes:=by
 induction ts generalizing ds with
 | nil=>intro i t d h;simp at h
 | cons t ts ih =>
   cases ds with
   | nil=>intro i t d _ h;simp at h
   | cons d ds =>
     simp only [DataW.weightsEach,List.mem_append] at hz
     intro i t' d' ht hd x hx
     match i with
     | 0=>simp at ht hd;subst ht;subst hd;exact hz x (.inl hx)
     | i + 1=>exact ih (fun y hy=>hz y (.inr hy)) i t' d' (by simpa using ht) (by simpa using hd) x hx
theorem weights_all {e:TypeId} {ds:List (DataW H)} (hz:∀ x∈DataW.weightsAll P e ds,x≤reachBytes):∀ d∈ds,∀ x∈DataW.weights P e d,x≤reachBytes:=by
 induction ds with
 | nil=>intro d h;simp at h
 | cons d ds ih =>
   simp only [DataW.weightsAll,List.mem_append] at hz
   intro d' hd x hx
   rcases List.mem_cons.1 hd with rfl | hd
   · exact hz x (.inl hx)
   · exact ih (fun y hy=>hz y (.inr hy)) d' hd x hx
/-- The cells of a memory row. -/
theorem cells_get {b0:Nat} {a:Addr} {n:Nat} {cs:List Value} (h:w.cells? b0 a n = some cs):cs.length = n∧∀ i,i < n->w.cell? (a.add i) = cs[i]?:=by
 unfold World.cells? at h
 split at h
 · exact ⟨by simpa using mapM_some_length h,fun i hi=>mapM_some_get h i i (by simp [hi])⟩
 · cases h
theorem cell_lt {a:Addr} {v:Value} (h:w.cell? a = some v):a.block < w.heap.size∧a.spot = none:=by
 unfold World.cell? at h
 split at h
 · rename_i hb
   exact ⟨(Array.getElem?_eq_some_iff.1 hb).1,by cases hs:a.spot with
    | none=>rfl
    | some s=>rw [hs] at h;simp at h⟩
 · cases h
theorem mkE_cells {n:Nat} {t:TypeId} {es:List Data} (h:okD P n t es):(mkE P t es).cells = es:=by
 cases n with
 | zero=>exact h.elim
 | succ n =>
   unfold okD at h
   unfold mkE
   split at h
   all_goals rename_i hu;simp only [hu]
   · obtain ⟨b,rfl⟩:=h;rfl
   · obtain ⟨i,rfl,_⟩:=h;rfl
   · obtain ⟨s,rfl,_⟩:=h;rfl
   · obtain ⟨l,rfl,_⟩:=h;rfl
   · rfl
   · rfl
   · exact h.elim
/-- The reading of cells: plain data,of the type's form. -/
theorem read_ok:∀ (n:Nat) (fuel:Nat) (t:TypeId) (cs:List Value) (d:DataW H) (ps:List MemPlace),supp P n t = true->DataW.trod enc P w 0 spare held fuel t cs = some (d,ps)->(∀ x∈DataW.weights P t d,x≤reachBytes) →
 VDs w cs (dD P n t d)∧okD P n t (dD P n t d):=by
 intro n
 induction n with
 | zero=>intro fuel t cs d ps hs;simp [supp] at hs
 | succ n ih =>
   intro fuel t cs d ps hs h hz
   unfold supp at hs
   split at hs
   · rename_i hu
     obtain ⟨b,rfl,e⟩:=DataW.trod_bool hu h
     cases e
     simp only [dD,okD,hu]
     exact ⟨.one (.bool b),b,rfl⟩
   · rename_i hu
     obtain ⟨s,rfl,e,_⟩:=DataW.trod_string hu h
     cases e
     simp only [dD,okD,hu]
     refine ⟨.one (.str s),s,rfl,?_⟩
     have:=hz s.data.toList.length (by simp [DataW.weights])
     simpa using this
   · rename_i k hu
     obtain ⟨i,rfl,e,hw⟩:=DataW.trod_int hu h
     cases e
     simp only [dD,okD,hu]
     exact ⟨.one (.int k i),i,rfl,hw⟩
   · rename_i e hu
     simp only [Bool.and_eq_true,decide_eq_true_eq] at hs
     obtain ⟨⟨hse,hc⟩,hb⟩:=hs
     rcases DataW.trod_slice hu h with ⟨rfl,hx⟩ | ⟨a,len,cap,elems,rest,m,rfl,rfl,hx,_,hlc,hcm,hlen,hel,_,_⟩
     · cases hx
       simp only [dD,okD,hu]
       exact ⟨.one (.sl _ [] none 0 0 0 0 (fun _=>.nilIface) rfl (Nat.le_refl _) (by simp [maxLen]) (by simp) (.inr rfl) (fun i x hx=>by simp [flat] at hx) (fun i x hx=>by simp [flat] at hx)),[],rfl,by simp,by simp⟩
     · cases hx
       simp only [DataW.weights,hu,List.mem_cons,List.mem_append,List.length_map] at hz
       have hw1:=hz _ (.inl rfl)
       have hw2:=weights_all (P:=P) (e:=e) (ds:=elems.map (·.1)) (fun x hx=>hz x (.inr (.inl hx)))
       have hlen2:elems.length≤reachBytes:=by
        have:elems.length * 1≤(elems.length + rest.length) * P.bytesOf e:=Nat.mul_le_mul (by omega) hb
        omega
       have each:∀ (i:Nat) (y:DataW H × List MemPlace),elems[i]? = some y->∃ ec,w.cells? 0 (a.add (i * P.cellsOf e)) (P.cellsOf e) = some ec∧VDs w ec (dD P n e y.1)∧okD P n e (dD P n e y.1):=by
        intro i y hy
        have hi:i < len:=by rw [<- hlen];exact (List.getElem?_eq_some_iff.1 hy).1
        have h1:=hel i hi
        rw [hy,Option.bind_eq_some_iff] at h1
        obtain ⟨ec,h2,h3⟩:=h1
        exact ⟨ec,h2,ih m e ec y.1 y.2 hse h3 (hw2 y.1 (List.mem_map.2 ⟨y,List.mem_of_getElem? hy,rfl⟩))⟩
       have hcl:∀ (i:Nat) (y:DataW H × List MemPlace),elems[i]? = some y->(mkE P e (dD P n e y.1)).cells = dD P n e y.1∧(dD P n e y.1).length = P.cellsOf e:=by
        intro i y hy
        obtain ⟨ec,h2,h3,h4⟩:=each i y hy
        exact ⟨mkE_cells h4,by rw [h3.1];exact (cells_get h2).1⟩
       have hflat:∀ (l:List Data) (c:Nat),0 < c->(∀ x∈l,x.cells.length = c)->∀ (i:Nat) (x:Data),(flat l)[i]? = some x->∃ y,l[i / c]? = some y∧y.cells[i % c]? = some x:=by
        intro l c hc0
        induction l with
        | nil=>intro _ i x hx;simp [flat] at hx
        | cons y l ihl =>
          intro hall i x hx
          have hy:y.cells.length = c:=hall y (by simp)
          simp only [flat,List.flatMap_cons,List.getElem?_append] at hx
          rw [hy] at hx
          split at hx
          · rename_i hi
            rw [Nat.div_eq_of_lt hi,Nat.mod_eq_of_lt hi]
            exact ⟨y,rfl,hx⟩
          · rename_i hi
            obtain ⟨z,h1,h2⟩:=ihl (fun x hx=>hall x (by simp [hx])) (i - c) x hx
            obtain ⟨q,rfl⟩:∃ q,i = q + c:=⟨i - c,by omega⟩
            rw [Nat.add_div_right _ hc0,Nat.add_mod_right]
            rw [Nat.add_sub_cancel] at h1 h2
            exact ⟨z,by simpa using h1,h2⟩
       have hall:∀ x∈(elems.map fun y=>mkE P e (dD P n e y.1)),x.cells.length = P.cellsOf e:=by
        intro x hx
        obtain ⟨y,hy,rfl⟩:=List.mem_map.1 hx
        obtain ⟨i,hi⟩:=List.getElem?_of_mem hy
        rw [(hcl i y hi).1,(hcl i y hi).2]
       have key:∀ (i:Nat) (x:Data),(flat (elems.map fun y=>mkE P e (dD P n e y.1)))[i]? = some x->∃ v,w.cell? (a.add i) = some v∧VD (fun _=>False) w x v:=by
        intro i x hx
        obtain ⟨y,h1,h2⟩:=hflat _ _ hc hall i x hx
        rw [List.getElem?_map,Option.map_eq_some_iff] at h1
        obtain ⟨z,h3,rfl⟩:=h1
        rw [(hcl _ z h3).1] at h2
        obtain ⟨ec,h4,h5,_⟩:=each _ z h3
        obtain ⟨h6,h7⟩:=cells_get h4
        have hlt:i % P.cellsOf e < P.cellsOf e:=Nat.mod_lt _ hc
        have hv:ec[i % P.cellsOf e]? = some ec[i % P.cellsOf e]:=List.getElem?_eq_getElem (by omega)
        refine ⟨ec[i % P.cellsOf e],?_,h5.2 _ x _ h2 hv⟩
        have h8:=h7 _ hlt
        rw [hv] at h8
        rw [<- h8]
        congr 1
        have hi:=Nat.div_add_mod i (P.cellsOf e)
        rw [Nat.mul_comm] at hi
        generalize i / P.cellsOf e * P.cellsOf e = q at hi
        generalize i % P.cellsOf e = r at hi
        subst hi
        unfold Addr.add
        by_cases hq:q = 0
        · subst hq;simp
        · by_cases hr:r = 0
          · subst hr;simp
          · simp [hq,hr,Nat.add_assoc]
       have hdd:dD P (n + 1) t (DataW.slice (elems.map (·.1)) (rest.map (·.1))) = [.sl (P.cellsOf e) (elems.map fun y=>mkE P e (dD P n e y.1))]:=by
        simp [dD,hu,Function.comp_def]
       rw [hdd]
       refine ⟨.one ?_,?_⟩
       · have spot:∀ (i:Nat) (x:Data),(flat (elems.map fun y=>mkE P e (dD P n e y.1)))[i]? = some x->a.spot = none:=by
          intro i x hx
          have h0:0 < (flat (elems.map fun y=>mkE P e (dD P n e y.1))).length:=by
           have:=(List.getElem?_eq_some_iff.1 hx).1;omega
          obtain ⟨v,hv,_⟩:=key 0 _ (List.getElem?_eq_getElem h0)
          simpa [Addr.add] using (cell_lt hv).2
         refine .sl _ _ (some a) len cap a.block a.off (fun i=>(w.cell? ⟨a.block,a.off + i,none⟩).getD .nilIface) (by simp [hlen]) hlc hcm hall ?_ ?_ ?_
         · by_cases he:elems = []
           · exact .inr (by simp [he])
           · refine .inl ?_
             have h0:0 < elems.length:=List.length_pos_iff.2 he
             obtain ⟨ec,h4,_,_⟩:=each 0 elems[0] (List.getElem?_eq_getElem h0)
             obtain ⟨h6,h7⟩:=cells_get h4
             have h8:=h7 0 hc
             rw [List.getElem?_eq_getElem (by omega)] at h8
             have h9:=cell_lt h8
             simp [Addr.add] at h9
             obtain ⟨ab,ao,az⟩:=a
             simp at h9
             exact ⟨by rw [h9.2],h9.1,fun h=>h⟩
         · intro i x hx
           obtain ⟨v,hv,_⟩:=key i x hx
           have hsp:=spot i x hx
           have:a.add i = ⟨a.block,a.off + i,none⟩:=by
            unfold Addr.add
            split
            · rename_i e0;subst e0;obtain ⟨ab,ao,az⟩:=a;simp at hsp ⊢;exact hsp
            · rfl
           rw [this] at hv
           simp only [hv,Option.getD_some]
         · intro i x hx
           obtain ⟨v,hv,hvd⟩:=key i x hx
           have hsp:=spot i x hx
           have:a.add i = ⟨a.block,a.off + i,none⟩:=by
            unfold Addr.add
            split
            · rename_i e0;subst e0;obtain ⟨ab,ao,az⟩:=a;simp at hsp ⊢;exact hsp
            · rfl
           rw [this] at hv
           simp only [hv,Option.getD_some]
           exact hvd
       · simp only [okD,hu]
         refine ⟨_,rfl,by simpa using hlen2,fun x hx=>?_⟩
         obtain ⟨y,hy,rfl⟩:=List.mem_map.1 hx
         obtain ⟨i,hi⟩:=List.getElem?_of_mem hy
         obtain ⟨ec,_,_,h4⟩:=each i y hi
         exact ⟨_,rfl,h4⟩
   · rename_i fs hu
     obtain ⟨xs,m,rfl,hx,hcl,hxl,hf⟩:=DataW.trod_struct hu h
     cases hx
     simp only [DataW.weights,hu] at hz
     have hw:=weights_each hz
     have hdd:dD P (n + 1) t (DataW.agg (xs.map (·.1))) = dDF (dD P n) fs.toList (xs.map (·.1)):=by simp [dD,hu]
     rw [hdd]
     have hs2:suppF P (supp P n) 0 fs.toList = some (P.cellsOf t):=by simpa using hs
     have go:∀ (l:List Field) (ys:List (DataW H × List MemPlace)) (o:Nat),l.length = ys.length->suppF P (supp P n) o l = some (P.cellsOf t) →
      (∀ (i:Nat) (f:Field),l[i]? = some f->DataW.trod enc P w 0 spare held m f.type ((cs.drop f.offset).take (P.cellsOf f.type)) = ys[i]?) →
      (∀ (i:Nat) (f:Field) (y:DataW H × List MemPlace),l[i]? = some f->ys[i]? = some y->∀ x∈DataW.weights P f.type y.1,x≤reachBytes)->o≤P.cellsOf t∧VDs w (cs.drop o) (dDF (dD P n) l (ys.map (·.1)))∧okF (okD P n) l (dDF (dD P n) l (ys.map (·.1))):=by
      intro l
      induction l with
      | nil =>
        intro ys o hl hs3 _ _
        simp only [suppF,Option.some.injEq] at hs3
        subst hs3
        rw [<- hcl]
        simp only [List.drop_length,dDF]
        exact ⟨Nat.le_refl _,.nil w,rfl⟩
      | cons f l ihl =>
        intro ys o hl hs3 hf3 hw3
        cases ys with
        | nil=>simp at hl
        | cons y ys =>
          simp only [suppF] at hs3
          split at hs3
          · rename_i ho
            obtain ⟨rfl,hsf⟩:=ho
            have h0:=hf3 0 f rfl
            simp only [List.getElem?_cons_zero] at h0
            obtain ⟨h1,h2⟩:=ih m f.type _ y.1 y.2 hsf h0 (hw3 0 f y rfl rfl)
            obtain ⟨h3,h4,h5⟩:=ihl ys (f.offset + P.cellsOf f.type) (by simpa using hl) hs3 (fun i g hg=>by simpa using hf3 (i + 1) g (by simpa using hg)) (fun i g z hg hz'=>hw3 (i + 1) g z (by simpa using hg) (by simpa using hz'))
            refine ⟨by omega,?_,_,_,rfl,h2,h5⟩
            have:cs.drop f.offset = (cs.drop f.offset).take (P.cellsOf f.type)++cs.drop (f.offset + P.cellsOf f.type):=by
             rw [<- List.drop_drop,List.take_append_drop]
            rw [this]
            exact h1.append h4
          · cases hs3
     obtain ⟨_,h1,h2⟩:=go fs.toList xs 0 (by simp [hxl]) hs2 (fun i f hg=>hf i f (by simpa using hg)) (fun i f y hg hy=>hw i f.type y.1 (by simp at hg ⊢;exact ⟨f,hg,rfl⟩) (by simp [hy]))
     refine ⟨by simpa using h1,?_⟩
     simp only [okD,hu]
     exact h2
   · rename_i m e hu
     simp only [Bool.and_eq_true,decide_eq_true_eq] at hs
     obtain ⟨hse,hsz⟩:=hs
     obtain ⟨xs,k,rfl,hx,hcl,hxl,hf⟩:=DataW.trod_array hu h
     cases hx
     simp only [DataW.weights,hu] at hz
     have hw:=weights_all hz
     have hdd:dD P (n + 1) t (DataW.agg (xs.map (·.1))) = (xs.map (·.1)).flatMap (dD P n e):=by simp [dD,hu]
     rw [hdd]
     have go:∀ (j:Nat),j≤m->VDs w (cs.drop ((m - j) * P.cellsOf e)) (((xs.drop (m - j)).map (·.1)).flatMap (dD P n e))∧okA (okD P n e) j (((xs.drop (m - j)).map (·.1)).flatMap (dD P n e)):=by
      intro j
      induction j with
      | zero =>
        intro _
        rw [Nat.sub_zero,<- hsz,<- hcl,<- hxl]
        simp only [List.drop_length,List.map_nil,List.flatMap_nil]
        exact ⟨.nil w,rfl⟩
      | succ j ihj =>
        intro hj
        obtain ⟨h1,h2⟩:=ihj (by omega)
        have hi:m - (j + 1) < m:=by omega
        have hxi:m - (j + 1) < xs.length:=by omega
        have h0:=hf (m - (j + 1)) hi
        rw [List.getElem?_eq_getElem hxi] at h0
        obtain ⟨h3,h4⟩:=ih k e _ xs[m - (j + 1)].1 xs[m - (j + 1)].2 hse h0 (hw _ (List.mem_map.2 ⟨_,List.getElem_mem hxi,rfl⟩))
        have e1:m - (j + 1) + 1 = m - j:=by omega
        rw [List.drop_eq_getElem_cons hxi,e1]
        simp only [List.map_cons,List.flatMap_cons]
        refine ⟨?_,_,_,rfl,h4,h2⟩
        have e2:cs.drop ((m - (j + 1)) * P.cellsOf e) = (cs.drop ((m - (j + 1)) * P.cellsOf e)).take (P.cellsOf e)++cs.drop ((m - j) * P.cellsOf e):=by
         have:(m - j) * P.cellsOf e = (m - (j + 1)) * P.cellsOf e + P.cellsOf e:=by rw [<- e1,Nat.add_mul,Nat.one_mul]
         rw [this,<- List.drop_drop,List.take_append_drop]
        rw [e2]
        exact h3.append h1
     have:=go m (Nat.le_refl _)
     simp only [Nat.sub_self,Nat.zero_mul,List.drop_zero] at this
     refine ⟨this.1,?_⟩
     simp only [okD,hu]
     exact this.2
   · cases hs
/-- An argument. -/
def argD (P:Program) (n:Nat) (t:TypeId) (x:Data):Prop:=∃ ds,x = mkE P t ds∧okD P n t ds
theorem read_arg {n:Nat} {base:Nat} {t:TypeId} {v:Value} {d:DataW H} {ps:List MemPlace} (hs:supp P n t = true) (hv:Value.okWide P w .any base t v) (k:DataW.Trod enc P w 0 spare held t v d ps) (hz:(DataW.weights P t d).all (fun x=>decide (x≤reachBytes)) = true) :
 ∃ x,VD (fun _=>False) w x v∧argD P n t x:=by
 obtain ⟨fuel,hf⟩:=k
 obtain ⟨h1,h2⟩:=read_ok n fuel t _ d ps hs hf (fun x hx=>by simpa using List.all_eq_true.1 hz x hx)
 refine ⟨mkE P t (dD P n t d),?_,_,rfl,h2⟩
 generalize dD P n t d = ds at h1 h2
 cases n with
 | zero=>exact h2.elim
 | succ n =>
   have one:∀ x,(∀ cs,v≠.agg cs)->ds = [x]->VD (fun _=>False) w x v:=by
    intro x hna hds
    subst hds
    have:v.cells.toList = [v]:=by
     cases v with
     | agg cs=>exact absurd rfl (hna cs)
     | _=>rfl
    rw [this] at h1
    exact h1.2 0 x v rfl rfl
   unfold Value.okWide at hv
   unfold okD at h2
   unfold mkE
   split at h2
   all_goals rename_i hu;simp only [hu] at hv ⊢
   · obtain ⟨b,rfl⟩:=h2
     exact one _ (fun cs e=>by subst e;simp [Cell.okWide,Cell.ok,hu] at hv) rfl
   · obtain ⟨i,rfl,_⟩:=h2
     exact one _ (fun cs e=>by subst e;simp [Cell.okWide,Cell.ok,hu] at hv) rfl
   · obtain ⟨s,rfl,_⟩:=h2
     exact one _ (fun cs e=>by subst e;simp [Cell.okWide,Cell.ok,hu] at hv) rfl
   · obtain ⟨l,rfl,_⟩:=h2
     exact one _ (fun cs e=>by subst e;simp [Cell.okWide,Cell.ok,hu] at hv) rfl
   · obtain ⟨cs,rfl,_⟩:=hv
     exact .agg _ _ (by simpa [Value.cells] using h1.1) (fun i x u hx hu=>h1.2 i x u hx (by simpa [Value.cells] using hu))
   · obtain ⟨cs,rfl,_⟩:=hv
     exact .agg _ _ (by simpa [Value.cells] using h1.1) (fun i x u hx hu=>h1.2 i x u hx (by simpa [Value.cells] using hu))
   · exact h2.elim
/-- A law by its contract on plain data. -/
theorem calls_of_pc {Γ:Nat->Option (List Data)} {f:FuncId} {xs:List Data} {vs:Array Value} (hg:Glob Γ (fun _=>False) w) (h:PC P Γ f xs (.bool true)) (hl:xs.length = vs.size)
 (hv:∀ (i:Nat) (x:Data) (v:Value),xs[i]? = some x->vs[i]? = some v->VD (fun _=>False) w x v) :
 Calls P f vs w fun e w'=>e = .returned (.bool true)∧Below w.heap.size w w':=by
 refine (h.2 (fun _=>False) w vs hg (fun b hb=>hb.elim) hl hv).mono fun e w' ⟨v,he,hvd,hb⟩=>?_
 cases hvd
 exact ⟨he,hb⟩
theorem vdl {x0:Data} {v0:Value} {xs:List Data} {vs:List Value} (h0:VD (fun _=>False) w x0 v0) (h:∀ (i:Nat) (x:Data) (v:Value),xs[i]? = some x->vs[i]? = some v->VD (fun _=>False) w x v) :
 ∀ (i:Nat) (x:Data) (v:Value),(x0 :: xs)[i]? = some x->(v0 :: vs)[i]? = some v->VD (fun _=>False) w x v:=fun i x v hx hv=>by
 match i with
 | 0=>simp at hx hv;subst hx;subst hv;exact h0
 | i + 1=>exact h i x v (by simpa using hx) (by simpa using hv)
end
def u8 (n:Nat):Data:=.int .u8 n
/-- A row of bytes. -/
def bys (l:List Nat):List Data:=l.map u8
@[go_sem] theorem flat_bys (l:List Nat):flat (bys l) = bys l:=by
 induction l with
 | nil=>rfl
 | cons x l ih=>simp [bys,flat,u8,Data.cells] at ih ⊢;simpa [u8] using ih
@[go_sem] theorem bys_nil:bys [] = []:=rfl
@[go_sem] theorem bys_length (l:List Nat):(bys l).length = l.length:=by simp [bys]
theorem bys_cell' (l:List Nat):∀ x∈bys l,x.cell = true:=fun x hx=>by
 obtain ⟨n,_,rfl⟩:=List.mem_map.1 hx
 rfl
@[go_sem] theorem bys_cell (l:List Nat):(∀ x∈bys l,x.cell = true) ↔ True:=iff_true_intro (bys_cell' l)
theorem bys_cells (l:List Nat):∀ x∈bys l,x.cells.length = 1:=fun x hx=>by
 obtain ⟨n,_,rfl⟩:=List.mem_map.1 hx
 rfl
@[go_sem] theorem bys_take (l:List Nat) (n:Nat):(bys l).take n = bys (l.take n):=by simp [bys,List.map_take]
@[go_sem] theorem bys_drop (l:List Nat) (n:Nat):(bys l).drop n = bys (l.drop n):=by simp [bys,List.map_drop]
@[go_sem] theorem bys_get (l:List Nat) (i:Nat):(bys l)[i]? = (l[i]?).map u8:=by simp [bys]
@[go_sem] theorem bysd_append (a b:List Nat):(bys a).map D.data++(bys b).map D.data = (bys (a++b)).map D.data:=by simp [bys]
@[go_sem] theorem bysd_rep (n:Nat):List.replicate n (D.data (.int .u8 0)) = (bys (List.replicate n 0)).map D.data:=by simp [bys,u8]
@[go_sem] theorem data_u8 (n:Nat):D.data (u8 n) = .data (.int .u8 n):=rfl
@[go_sem] theorem u8_cell (n:Nat):(u8 n).cell = true:=rfl
@[go_sem] theorem u8_cells (n:Nat):(u8 n).cells = [u8 n]:=rfl
/-- A row of bytes of the call's own,handed to a callee that keeps it. -/
theorem call_kept {P:Program} {Γ:Nat->Option (List Data)} {f:FuncId} {H:Nat->Blk} {K:D->List Nat->List (Nat × Blk)->Prop} (g n:Nat) (l:List Nat) {r:Data} (h:PC P Γ f [.sl 1 (bys l)] r) (hg:H g = .blk true ((bys l).map D.data)) (hn:l.length = n)
 (k:K (.data r) [g] [(g,.blk false ((bys l).map D.data))]):callK P Γ f [.ref g 0 n 1] H K:=by
 refine call_frz [g] [g] (fun q hq=>⟨true,_,by simp at hq;subst hq;exact hg⟩) h (fun H' hH'=>?_) ?_
 · refine frzL_c (frz_ref (rw:=false) (cells:=(bys l).map D.data) ?_ (.inr rfl) (by rw [bys_length,hn]) (bys_cells _) (by rw [flat_bys])) frzL_n
   simp [Hp.upd,Hp.set,hg,fz]
 · simp only [List.map_cons,List.map_nil,hg,fz]
   exact k
theorem frz_bys {ok:Bool} {H:Nat->Blk} {g n:Nat} {l:List Nat} {rw:Bool} (hg:H g = .blk rw ((bys l).map D.data)) (hrw:ok = true ∨ rw = false) (hn:l.length = n):Frz ok H (.ref g 0 n 1) (.sl 1 (bys l)) :=
 frz_ref hg hrw (by rw [bys_length,hn]) (bys_cells l) (by rw [flat_bys])
theorem over_mid {A old new rest:List D} (h:old.length = new.length):over (A++(old++rest)) A.length new = A++(new++rest):=by
 have gen:(A++(old++rest)).take A.length++new++(A++(old++rest)).drop (A.length + new.length) = A++(new++rest):=by
  rw [List.take_left,<- h,<- List.drop_drop,List.drop_left,List.drop_left,List.append_assoc]
 match new,h with
 | [],h=>exact gen
 | [d],h =>
   match old,h with
   | [o],_=>simp [over]
 | a :: b :: new,h=>exact gen
def plainD:D->Bool
 | .data _ | .emp _=>true
 | _=>false
theorem renCells_plain {n:Nat} {ρ:Nat->Option Nat} {H:Nat->Blk} {cs ds:List D} (e:cs = ds) (h:cs.all plainD = true):RenCells n ρ H cs ds:=by
 subst e
 refine ⟨Nat.le_refl _,fun i c d hc hd=>?_⟩
 rw [hc] at hd;cases hd
 have:=List.all_eq_true.1 h c (List.mem_of_getElem? hc)
 cases c with
 | data x=>exact .data x
 | emp es=>exact .emp es es
 | _=>cases this
theorem frz_aggL {ok:Bool} {H:Nat->Blk} {cs:List D} {xs:List Data} (h:FrzL ok H cs xs):Frz ok H (.agg cs) (.agg xs):=.agg cs xs h.1 h.2
/-- A row of the call's own,handed to a callee that keeps it. -/
theorem call_keep {P:Program} {Γ:Nat->Option (List Data)} {f:FuncId} {ds:List D} {H:Nat->Blk} {K:D->List Nat->List (Nat × Blk)->Prop} (g:Nat) {rw:Bool} {cells:List D} {xs:List Data} {r:Data} (h:PC P Γ f xs r) (hg:H g = .blk rw cells)
 (hx:∀ H':Nat->Blk,H' g = .blk false cells->FrzL false H' ds xs) (k:K (.data r) [g] [(g,.blk false cells)]):callK P Γ f ds H K:=by
 refine call_frz [g] [g] (fun q hq=>⟨rw,cells,by simp at hq;subst hq;exact hg⟩) h (fun H' hH'=>?_) ?_
 · exact hx _ (by simp [Hp.upd,Hp.set,hg,fz])
 · simp only [List.map_cons,List.map_nil,hg,fz]
   exact k
/-- Bytes as a string. -/
def toStr (l:List Nat):ByteArray:=⟨(l.map UInt8.ofNat).toArray⟩
theorem bys_u8 {l:List Nat} (h:∀ x∈l,x < 256):bys l = (l.map UInt8.ofNat).map (fun b=>Data.int .u8 (b.toNat:Int)):=by
 unfold bys u8
 rw [List.map_map]
 refine List.map_congr_left fun x hx=>?_
 have:=h x hx
 simp only [Function.comp,UInt8.toNat_ofNat']
 congr 1
 omega
theorem toStr_inj {l m:List Nat} (hl:∀ x∈l,x < 256) (hm:∀ x∈m,x < 256):toStr l = toStr m ↔ l = m:=by
 constructor
 · intro e
   have e2:l.map UInt8.ofNat = m.map UInt8.ofNat:=by simpa [toStr] using e
   have e3:=congrArg (List.map fun b:UInt8=>b.toNat) e2
   rw [List.map_map,List.map_map] at e3
   have k:∀ q:List Nat,(∀ x∈q,x < 256)->q.map ((fun b:UInt8=>b.toNat) ∘ UInt8.ofNat) = q:=fun q hq=>by
    have:q.map ((fun b:UInt8=>b.toNat) ∘ UInt8.ofNat) = q.map id:=List.map_congr_left fun x hx=>by
     have:=hq x hx
     simp only [Function.comp,UInt8.toNat_ofNat',id]
     omega
    rw [this,List.map_id]
   rwa [k l hl,k m hm] at e3
 · rintro rfl;rfl
theorem conv_bys {P:Program} {s d e:TypeId} {l:List Nat} {K:D->Prop} (hb:∀ x∈l,x < 256) (ht:strT P d = true) (hs:sliceT P s = some e) (he:intT P e = some .u8) (k:K (.data (.str (toStr l)))):convK P s d (.data (.sl 1 (bys l))) K :=
 ⟨rfl,ht,by simp only [hs];exact he,_,bys_u8 hb,k⟩
theorem wf_nat {k:IntKind} {i:Int} (h:(Lit.int k i).wf = true):k.min≤i∧i≤k.max:=by simpa [Lit.wf] using h
section
variable {P:Program} {n:Nat} {t e:TypeId} {x:Data}
theorem arg_int {k:IntKind} (hu:P.underlying t = some (.int k)) (a:argD P (n + 1) t x):∃ i:Int,k.min≤i∧i≤k.max∧x = .int k i:=by
 obtain ⟨ds,rfl,h⟩:=a
 simp only [okD,hu] at h
 obtain ⟨i,rfl,hw⟩:=h
 have:=wf_nat hw
 exact ⟨i,this.1,this.2,by simp [mkE,hu]⟩
theorem arg_nat {k:IntKind} (hk:k.signed = false) (hu:P.underlying t = some (.int k)) (a:argD P (n + 1) t x):∃ i:Nat,i < 2 ^ k.bits∧x = .int k i:=by
 obtain ⟨i,h1,h2,rfl⟩:=arg_int hu a
 simp [IntKind.min,IntKind.max,hk] at h1 h2
 obtain ⟨j,rfl⟩:=Int.eq_ofNat_of_zero_le h1
 have:((2 ^ k.bits:Nat):Int) = 2 ^ k.bits:=by simp
 exact ⟨j,by omega,rfl⟩
theorem arg_u8 (hu:P.underlying t = some (.int .u8)) (a:argD P (n + 1) t x):∃ i:Nat,i < 256∧x = .int .u8 i:=arg_nat rfl hu a
theorem arg_u16 (hu:P.underlying t = some (.int .u16)) (a:argD P (n + 1) t x):∃ i:Nat,i < 65536∧x = .int .u16 i:=arg_nat rfl hu a
theorem nums_of {k:IntKind} (hk:k.signed = false) (hu:P.underlying e = some (.int k)):∀ l:List Data,(∀ x∈l,∃ es,x = mkE P e es∧okD P (n + 1) e es)->∃ m:List Nat,l = m.map (fun i:Nat=>Data.int k i)∧∀ b∈m,b < 2 ^ k.bits
 | [],_=>⟨[],rfl,by simp⟩
 | y :: l,h=>by
   obtain ⟨m,rfl,hm⟩:=nums_of hk hu l fun x hx=>h x (by simp [hx])
   obtain ⟨i,hi,rfl⟩:=arg_nat hk hu (h y (by simp))
   exact ⟨i :: m,rfl,by simpa using ⟨hi,hm⟩⟩
theorem arg_bytes (hu:P.underlying t = some (.slice e)) (he:P.underlying e = some (.int .u8)) (hc:P.cellsOf e = 1) (a:argD P (n + 2) t x):∃ l:List Nat,(∀ b∈l,b < 256)∧l.length≤140737488351232∧x = .sl 1 (bys l):=by
 obtain ⟨ds,rfl,h⟩:=a
 simp only [okD,hu,hc] at h
 obtain ⟨l,rfl,hl,hx⟩:=h
 obtain ⟨m,rfl,hm⟩:=nums_of (n:=n) (k:=.u8) rfl he l hx
 exact ⟨m,hm,by simpa [reachBytes] using hl,by simp [mkE,hu,bys];intro a _;rfl⟩
theorem arg_struct {fs:Array Field} (hu:P.underlying t = some (.struct fs)) (a:argD P (n + 1) t x):∃ ds,x = .agg ds∧okF (okD P n) fs.toList ds:=by
 obtain ⟨ds,rfl,h⟩:=a
 simp only [okD,hu] at h
 exact ⟨ds,by simp [mkE,hu],h⟩
theorem okF_cons {o:TypeId->List Data->Prop} {f:Field} {fs:List Field} {ds:List Data} (h:okF o (f :: fs) ds):∃ a b,ds = a++b∧o f.type a∧okF o fs b:=h
theorem okF_nil {o:TypeId->List Data->Prop} {ds:List Data} (h:okF o [] ds):ds = []:=h
theorem ok_bytes {ds:List Data} (hu:P.underlying t = some (.slice e)) (he:P.underlying e = some (.int .u8)) (hc:P.cellsOf e = 1) (h:okD P (n + 2) t ds):∃ l:List Nat,(∀ b∈l,b < 256)∧l.length≤140737488351232∧ds = [.sl 1 (bys l)]:=by
 unfold okD at h
 simp only [hu,hc] at h
 obtain ⟨l,rfl,hl,hx⟩:=h
 obtain ⟨m,rfl,hm⟩:=nums_of (n:=n) (k:=.u8) rfl he l hx
 exact ⟨m,hm,by simpa [reachBytes] using hl,by simp [bys];intro a _;rfl⟩
theorem ok_int {k:IntKind} {ds:List Data} (hu:P.underlying t = some (.int k)) (h:okD P (n + 1) t ds):∃ i:Int,k.min≤i∧i≤k.max∧ds = [.int k i]:=by
 unfold okD at h
 simp only [hu] at h
 obtain ⟨i,rfl,hw⟩:=h
 have:=wf_nat hw
 exact ⟨i,this.1,this.2,rfl⟩
end
@[go_sem] theorem dec_yes {p:Prop} [Decidable p] (h:p):decide p = true:=decide_eq_true h
@[go_sem] theorem dec_no {p:Prop} [Decidable p] (h:¬ p):decide p = false:=decide_eq_false h
section
variable (P:Program) (Γ:Nat->Option (List Data))
/- Regions of more than 64 operations: their list is put together of two. -/
@[go_sem] theorem opsW_app (ops:Array Oper) (o:Oper) (l r:List Oper) (s:St) (K:St->Prop):opsW P Γ ops (List.append (o :: l) r) s K = opsW P Γ ops (o :: List.append l r) s K:=rfl
@[go_sem] theorem opsW_app_nil (ops:Array Oper) (r:List Oper) (s:St) (K:St->Prop):opsW P Γ ops (List.append [] r) s K = opsW P Γ ops r s K:=rfl
@[go_sem] theorem drawW_app (ops:Array Oper) (o:Oper) (l r:List Oper) (s:St) (tr:List Tr) (K:St->List Tr->Prop):drawW P Γ ops (List.append (o :: l) r) s tr K = drawW P Γ ops (o :: List.append l r) s tr K:=rfl
@[go_sem] theorem drawW_app_nil (ops:Array Oper) (r:List Oper) (s:St) (tr:List Tr) (K:St->List Tr->Prop):drawW P Γ ops (List.append [] r) s tr K = drawW P Γ ops r s tr K:=rfl
end
/-- What a panic brings. -/
def pan (x:Value):List PanicEntry:=[{ v:=x,recovered:=false }]
/-- A call on the caller's own numbered rows: it hands back,or it panics. -/
def DX (P:Program) (Γ:Nat->Option (List Data)) (f:FuncId) (ds:List D) (H:Nat->Blk) (nx:Nat) (K:D->(Nat->Blk)->Nat->Prop) (X:Value->(Nat->Blk)->Nat->Prop):Prop :=
 CallOk P f∧∀ (L0:Nat->Prop) (w0:W0) (m:Nat->MB) (w:World) (vs:Array Value),WR Γ L0 w0 m H w->(∀ g,nx≤g->m g = .res)->(∀ g,nx≤g->H g = .dead)->ds.length = vs.size->(∀ (i:Nat) (d:D) (v:Value),ds[i]? = some d->vs[i]? = some v->VV (Live L0 m H) w m d v) →
  Calls P f vs w fun e w'=>∃ H' nx' m',WR Γ L0 w0 m' H' w'∧Grow (Live L0 m H) w (Live L0 m' H') w'∧(∀ g,g < nx->m' g = m g)∧(∀ g,nx'≤g->m' g = .res)∧nx≤nx' ∧
   ((∃ v d,e = .returned v∧VV (Live L0 m' H') w' m' d v∧K d H' nx') ∨ ∃ x,e = .panicked (pan x)∧X x H' nx')
theorem DX.mono {P:Program} {Γ:Nat->Option (List Data)} {f:FuncId} {ds:List D} {H:Nat->Blk} {nx:Nat} {K K':D->(Nat->Blk)->Nat->Prop} {X X':Value->(Nat->Blk)->Nat->Prop} (h:DX P Γ f ds H nx K X) (hk:∀ d H' nx',K d H' nx'->K' d H' nx') (hx:∀ v H' nx',X v H' nx'->X' v H' nx'):DX P Γ f ds H nx K' X' :=
 ⟨h.1,fun L0 w0 m w vs a b c d e=>(h.2 L0 w0 m w vs a b c d e).mono fun e w' ⟨H',nx',m',k1,k2,k3,k4,k5,k6⟩=>⟨H',nx',m',k1,k2,k3,k4,k5,k6.imp (fun ⟨v,d,a,b,c⟩=>⟨v,d,a,b,hk _ _ _ c⟩) (fun ⟨x,a,b⟩=>⟨x,a,hx _ _ _ b⟩)⟩⟩
end Go.Proofs.Ytmfhhlddpggenaa
namespace Go.Proofs.Ytmfhhlddpggenaa
@[go_sem] theorem ty_in3:intT Try.prog 3 = some .i64:=by kernel_rfl
@[go_sem] theorem ty_bo4:boolT Try.prog 4 = true:=by kernel_rfl
@[go_sem] theorem ty_sz5:szT Try.prog 5 = some 1:=by kernel_rfl
@[go_sem] theorem ty_by5:byT Try.prog 5 = some 1:=by kernel_rfl
@[go_sem] theorem ty_ag5:aggT Try.prog 5 = some false:=by kernel_rfl
@[go_sem] theorem ty_ze5:zeT Try.prog 5 = some [.data (.int .u8 0)]:=by kernel_rfl
@[go_sem] theorem ty_zl5:zlT Try.prog 5 = some 1:=by kernel_rfl
@[go_sem] theorem ty_in5:intT Try.prog 5 = some .u8:=by kernel_rfl
@[go_sem] theorem ty_st9:strT Try.prog 9 = true:=by kernel_rfl
@[go_sem] theorem ty_sz22:szT Try.prog 22 = some 1:=by kernel_rfl
@[go_sem] theorem ty_ag22:aggT Try.prog 22 = some false:=by kernel_rfl
@[go_sem] theorem ty_ze22:zeT Try.prog 22 = some [.emp 0]:=by kernel_rfl
@[go_sem] theorem ty_sl22:sliceT Try.prog 22 = some 5:=by kernel_rfl
@[go_sem] theorem ty_in22:intT Try.prog 22 = none:=by kernel_rfl
@[go_sem] theorem ty_st22:strT Try.prog 22 = false:=by kernel_rfl
@[go_sem] theorem ty_sz24:szT Try.prog 24 = some 3:=by kernel_rfl
@[go_sem] theorem ty_ag24:aggT Try.prog 24 = some true:=by kernel_rfl
@[go_sem] theorem ty_ze24:zeT Try.prog 24 = some [.data (.int .u8 0),.data (.int .u8 0),.emp 0]:=by kernel_rfl
@[go_sem] theorem ty_ar24:arrT Try.prog 24 = none:=by kernel_rfl
@[go_sem] theorem ty_fl24_0:fldT Try.prog 24 0 = some (0,5):=by kernel_rfl
@[go_sem] theorem ty_fl24_1:fldT Try.prog 24 1 = some (1,5):=by kernel_rfl
@[go_sem] theorem ty_fl24_2:fldT Try.prog 24 2 = some (2,22):=by kernel_rfl
@[go_sem] theorem ty_pl24:plT Try.prog 24 = some [(0,1),(1,1),(2,1)]:=by kernel_rfl
@[go_sem] theorem ty_sz39:szT Try.prog 39 = some 1:=by kernel_rfl
@[go_sem] theorem ty_ag39:aggT Try.prog 39 = some false:=by kernel_rfl
@[go_sem] theorem ty_in39:intT Try.prog 39 = some .u16:=by kernel_rfl
@[go_sem] theorem ty_ki39  (n:Int):keyT Try.prog 39 (.int .u16 n) = true:=by kernel_rfl
@[go_sem] theorem ty_ze46:zeT Try.prog 46 = some [.data (.int .u16 0),.emp 0]:=by kernel_rfl
@[go_sem] theorem ty_ar46:arrT Try.prog 46 = none:=by kernel_rfl
@[go_sem] theorem ty_fl46_0:fldT Try.prog 46 0 = some (0,39):=by kernel_rfl
@[go_sem] theorem ty_fl46_1:fldT Try.prog 46 1 = some (1,22):=by kernel_rfl
@[go_sem] theorem ty_pl46:plT Try.prog 46 = some [(0,1),(1,1)]:=by kernel_rfl
@[go_sem] theorem ty_sz50:szT Try.prog 50 = some 2:=by kernel_rfl
@[go_sem] theorem ty_ze50:zeT Try.prog 50 = some [.data (.int .u8 0),.data (.int .u8 0)]:=by kernel_rfl
@[go_sem] theorem ty_ar50:arrT Try.prog 50 = some (2,5):=by kernel_rfl
@[go_sem] theorem ty_zv50:zvT Try.prog 50 = some (.data (.agg [(.int .u8 0),(.int .u8 0)])):=by kernel_rfl
@[go_sem] theorem ty_mp52:mapT Try.prog 52 = some (39,50):=by kernel_rfl
@[go_sem] theorem ty_sl56:sliceT Try.prog 56 = some 22:=by kernel_rfl
theorem mixed:Try.prog.follows .mixedOrders = true:=by kernel_rfl
end Go.Proofs.Ytmfhhlddpggenaa
namespace Go.Proofs.Ytmfhhlddpggenaa
open Go.RowKit
set_option linter.unusedSimpArgs false
set_option linter.unusedVariables false
set_option maxRecDepth 100000
set_option maxRecDepth 100000 in
theorem row_pc (Γ:Nat->Option (List Data)) (a b:List Nat) (ha:a.length≤100000000000) (hb:b.length≤100000000000):PC Try.prog Γ 13 [.sl 1 (bys a),.sl 1 (bys b)] (.bool (decide (a = b))):=by
 refine pc_by mixed Try.func13 rfl (fun args w=>Try.call13 args w) ?_
 simp -implicitDefEqProofs (disch:=omega) [go_sem,Try.f13]
 refine ifW_ndec (fun h=>?_) (fun h=>?_)
 · have hne:a≠b:=fun e=>h (by rw [e])
   simp -implicitDefEqProofs (disch:=omega) [go_sem,Try.f13,hne]
 · have hl:a.length = b.length:=by omega
   simp -implicitDefEqProofs (disch:=omega) [go_sem]
   refine loop_of (σ:={ i:Nat // i≤a.length∧∀ j,j < i->a[j]? = b[j]? }) (fun i=>⟨envL [(0,.data (.sl 1 (bys a))),(1,.data (.sl 1 (bys b))),(5,.data (.int .i64 i.1))],hpL [],0,0,26⟩) (fun i=>a.length - i.1) ⟨0,by omega,by omega⟩ ?_ ?_
   · apply weak_lists <;> simp -implicitDefEqProofs [go_sem]
   · rintro ⟨i,hi,heq⟩
     simp -implicitDefEqProofs (disch:=omega) [go_sem]
     refine ifW_dec (fun h=>?_) (fun h=>?_)
     · have hia:i < a.length:=by omega
       simp -implicitDefEqProofs (disch:=omega) [go_sem]
       refine side (by kernel_rfl) ?_
       simp -implicitDefEqProofs (disch:=omega) [go_sem]
       refine ifW_ndec (fun h2=>?_) (fun h2=>?_)
       · have hne:a≠b:=fun e=>h2 (by subst e;rfl)
         simp -implicitDefEqProofs (disch:=omega) [go_sem,Try.f13,hne]
       · simp -implicitDefEqProofs (disch:=omega) [go_sem]
         refine next_of ⟨i + 1,by omega,fun j hj=>?_⟩ ?_ (by simp only;omega)
         · by_cases e:j = i
           · subst e
             rw [List.getElem?_eq_getElem hia,List.getElem?_eq_getElem (by omega)]
             congr 1
             omega
           · exact heq j (by omega)
         apply weak_lists <;> simp -implicitDefEqProofs [go_sem]
     · have hab:a = b:=List.ext_getElem? fun j=>by
        by_cases hj:j < a.length
        · exact heq j (by omega)
        · rw [List.getElem?_eq_none (by omega),List.getElem?_eq_none (by omega)]
       simp -implicitDefEqProofs (disch:=omega) [go_sem,Try.f13,hab]
namespace Sf
/-- A byte that is escaped. -/
def escd (accm c:Nat):Prop:=c = 126 ∨ c = 125 ∨ (c < 32∧accm / 2 ^ c % 2 = 1)
instance (accm c:Nat):Decidable (escd accm c):=by unfold escd;infer_instance
/-- What is plain,of bytes of which the first is turned by t. -/
def plT:Nat->List Nat->Option (List Nat)
 | t,[]=>if t = 0 then some [] else none
 | t,c :: l=>if c = 126 then none else if c = 125∧t = 0 then plT 32 l else (plT 0 l).map ((c ^^^ t) :: ·)
def plain (b:List Nat):Option (List Nat):=plT 0 b
end Sf
namespace Sf
end Sf
namespace Sf
end Sf
theorem frz_rows {ok:Bool} {H:Nat->Blk} {g len es:Nat} {rw:Bool} {cells:List D} {l:List Data} (hg:H g = .blk rw cells) (hrw:ok = true ∨ rw = false) (hl:l.length = len) (hes:∀ x∈l,x.cells.length = es) (h:FrzL ok H cells (flat l)):Frz ok H (.ref g 0 len es) (.sl es l):=by
 obtain ⟨h1,h2⟩:=h
 have hfl:(flat l).length = l.length * es:=flat_length hes
 refine .ref g 0 len es rw cells l (fun i=>cells.getD i .junk) hg hrw hl hes (by rw [<- hl];omega) (fun i x hx=>?_) (fun i x hx=>?_)
 · have hi:=(List.getElem?_eq_some_iff.1 hx).1
   have hi2:i < cells.length:=by omega
   simp [List.getD_eq_getElem?_getD,hi2]
 · have hi:=(List.getElem?_eq_some_iff.1 hx).1
   have hi2:i < cells.length:=by omega
   refine h2 i _ x ?_ hx
   simp [List.getD_eq_getElem?_getD,hi2]
theorem over_bys {p f:List Nat} {k:Nat} (h:f.length≤k):over ((bys (p++List.replicate k 0)).map D.data) p.length ((bys f).map D.data) = (bys (p++f++List.replicate (k - f.length) 0)).map D.data:=by
 have e:List.replicate k 0 = List.replicate f.length 0++List.replicate (k - f.length) 0:=by rw [List.replicate_append_replicate];congr 1;omega
 rw [e]
 have h1:∀ a b:List Nat,(bys (a++b)).map D.data = (bys a).map D.data++(bys b).map D.data:=fun a b=>(bysd_append a b).symm
 rw [h1,h1,List.append_assoc,h1,h1]
 have:=over_mid (A:=(bys p).map D.data) (old:=(bys (List.replicate f.length 0)).map D.data) (new:=(bys f).map D.data) (rest:=(bys (List.replicate (k - f.length) 0)).map D.data) (by simp [bys])
 rw [show ((bys p).map D.data).length = p.length by simp [bys]] at this
 exact this
namespace Sf
section
variable (Γ:Nat->Option (List Data))
def rws (l:List (List Nat)):List Data:=l.map fun b=>.sl 1 (bys b)
@[go_sem] theorem rws_length (l:List (List Nat)):(rws l).length = l.length:=by simp [rws]
@[go_sem] theorem rws_get (l:List (List Nat)) (i:Nat):(rws l)[i]? = (l[i]?).map fun b=>.sl 1 (bys b):=by simp [rws]
theorem rws_cells (l:List (List Nat)):∀ x∈rws l,x.cells.length = 1:=fun x hx=>by
 obtain ⟨p,_,rfl⟩:=List.mem_map.1 hx
 rfl
theorem flat_rws (l:List (List Nat)):flat (rws l) = rws l:=by
 induction l with
 | nil=>rfl
 | cons b l ih =>
   show (Data.sl 1 (bys b)).cells++flat (rws l) = _
   rw [ih];rfl
theorem join_take (l:List (List Nat)) (i:Nat) (h:i < l.length):(l.take (i + 1)).flatten = (l.take i).flatten++l[i]:=by
 rw [List.take_add_one,List.getElem?_eq_getElem h,Option.toList_some,List.flatten_append]
 simp
theorem join_le (l:List (List Nat)) (i:Nat):(l.take i).flatten.length≤l.flatten.length:=by
 have:l.flatten = (l.take i).flatten++(l.drop i).flatten:=by rw [<- List.flatten_append,List.take_append_drop]
 rw [this,List.length_append];omega
theorem plain_bys (l:List Nat):((bys l).map D.data).all plainD = true:=by simp [bys,plainD]
set_option maxHeartbeats 4000000 in
theorem concat_pc (l:List (List Nat)) (h0:0 < l.flatten.length) (hn:l.flatten.length≤1000000000) (hl:l.length≤1000000):PC Try.prog Γ 24 [.sl 1 (rws l)] (.sl 1 (bys l.flatten)):=by
 refine pc_by mixed Try.func24 rfl (fun args w=>Try.call24 args w) ?_
 have hpos:0 < l.length:=by
  rcases Nat.eq_zero_or_pos l.length with e | e
  · rw [List.eq_nil_of_length_eq_zero e] at h0;simp at h0
  · exact e
 simp -implicitDefEqProofs (disch:=omega) [-List.length_flatten,go_sem]
 refine loop_ren (σ:={ i:Nat // i≤l.length }) (fun i=>⟨envL [(0,.data (.sl 1 (rws l))),(3,.data (.int .i64 (l.take i.1).flatten.length)),(9,.data (.sl 1 (rws l))),(10,.data (.int .i64 l.length)),(11,.data (.int .i64 i.1))],hpL [],0,0,36⟩) (fun i=>l.length - i.1) ⟨0,by omega⟩ [] (rhoL []) ?_ ?_
 · apply ren_lists <;> simp -implicitDefEqProofs [-List.length_flatten,go_sem]
 rintro ⟨i,hi⟩
 by_cases h:i < l.length
 · have hj:=join_take l i h
   have hle:=join_le l (i + 1)
   rw [hj,List.length_append] at hle
   simp -implicitDefEqProofs (disch:=omega) [-List.length_flatten,go_sem]
   refine next_ren ⟨i + 1,by omega⟩ (by simp only;omega) [] (rhoL []) ?_
   apply ren_lists <;> simp -implicitDefEqProofs [-List.length_flatten,go_sem,hj]
 · have:i = l.length:=by omega
   subst this
   have ht:l.take l.length = l:=List.take_length
   generalize hT:l.flatten.length = T at *
   simp -implicitDefEqProofs (disch:=omega) [-List.length_flatten,go_sem,ht,hT]
   refine .inr (dc_by mixed Try.func26 rfl (fun args w=>Try.call26 args w) ?_)
   simp -implicitDefEqProofs (disch:=omega) [-List.length_flatten,go_sem,Try.f26]
   refine loop_ren (σ:={ i:Nat // i≤l.length }) (fun i=>⟨envL [(6,if i.1 < l.length then .cut 0 0 (l.take i.1).flatten.length T 1 else .ref 0 0 T 1),(25,.data (.sl 1 (rws l))),(26,.data (.int .i64 l.length)),(27,.data (.int .i64 i.1))],hpL [(0,.blk true ((bys ((l.take i.1).flatten++List.replicate (T - (l.take i.1).flatten.length) 0)).map .data))],1,0,36⟩) (fun i=>l.length - i.1) ⟨0,by omega⟩ [] (rhoL [(0,some 20)]) ?_ ?_
   · apply ren_lists <;> simp -implicitDefEqProofs [-List.length_flatten,go_sem,hpos]
   rintro ⟨i,hi⟩
   by_cases h:i < l.length
   · have hj:=join_take l i h
     have hle:=join_le l (i + 1)
     rw [hj,List.length_append,hT] at hle
     have hov:=over_bys (p:=(l.take i).flatten) (f:=l[i]) (k:=T - (l.take i).flatten.length) (by omega)
     have hjl:(l.take (i + 1)).flatten.length = (l.take i).flatten.length + l[i].length:=by rw [hj,List.length_append]
     have hsub:T - (l.take (i + 1)).flatten.length = T - (l.take i).flatten.length - l[i].length:=by omega
     simp -implicitDefEqProofs (disch:=omega) [-List.length_flatten,go_sem,h]
     refine next_ren ⟨i + 1,by omega⟩ (by simp only;omega) [] (rhoL [(0,some 0)]) ?_
     by_cases h2:i + 1 < l.length
     · apply ren_lists <;> simp -implicitDefEqProofs [-List.length_flatten,go_sem,h2,hj,hsub]
       rw [hov]
       exact renCells_plain (by congr 2;rw [List.append_assoc];congr 3;omega) (plain_bys _)
     · apply ren_lists <;> simp -implicitDefEqProofs [-List.length_flatten,go_sem,h2,hj,hsub]
       · have:=hjl
         rw [List.take_of_length_le (by omega),hT] at this
         exact this
       · rw [hov]
         exact renCells_plain (by congr 2;rw [List.append_assoc];congr 3;omega) (plain_bys _)
   · have:i = l.length:=by omega
     subst this
     simp -implicitDefEqProofs (disch:=omega) [-List.length_flatten,go_sem,ht,hT,Try.f24]
     exact ⟨_,⟨_,rfl,frz_bys (rw:=true) (by simp [go_sem]) (.inl rfl) hT⟩,rfl⟩
end
end Sf
namespace Fc
end Fc
namespace Sf
section
variable (Γ:Nat->Option (List Data))
/-- A line that is right. -/
def Rl (b:List Nat) (lg:Bool):Prop:=b.length≤1508∧(lg = true->b = [])∧126 ∉ b
instance (b:List Nat) (lg:Bool):Decidable (Rl b lg):=by unfold Rl;infer_instance
end
end Sf
namespace Sf
section
variable (Γ:Nat->Option (List Data))
theorem sequal_pc (a b:List Nat) (ha:∀ x∈a,x < 256) (hb:∀ x∈b,x < 256):PC Try.prog Γ 21 [.sl 1 (bys a),.sl 1 (bys b)] (.bool (decide (a = b))):=by
 refine pc_by mixed Try.func21 rfl (fun args w=>Try.call21 args w) ?_
 have hd:decide (toStr a = toStr b) = decide (a = b):=decide_eq_decide.2 (toStr_inj ha hb)
 simp -implicitDefEqProofs (disch:=omega) [go_sem,Try.f21]
 refine conv_bys (e:=5) ha (by simp [go_sem]) (by simp [go_sem]) (by simp [go_sem]) ?_
 simp -implicitDefEqProofs (disch:=omega) [go_sem]
 refine conv_bys (e:=5) hb (by simp [go_sem]) (by simp [go_sem]) (by simp [go_sem]) ?_
 simp -implicitDefEqProofs (disch:=omega) [go_sem,Try.f21,hd]
end
end Sf
namespace Sf
end Sf
namespace Sf
end Sf
namespace Sf
section
variable (Γ:Nat->Option (List Data))
theorem row_same (a:List Nat) (ha:a.length≤100000000000):PC Try.prog Γ 13 [.sl 1 (bys a),.sl 1 (bys a)] (.bool true):=by
 have:=row_pc Γ a a ha ha
 rwa [decide_eq_true rfl] at this
end
end Sf
namespace Sf
end Sf
namespace Sf
end Sf
namespace Fc
structure Fr where
 p:Nat
 i:List Nat
deriving DecidableEq
def fr (f:Fr):Data:=.agg [.int .u16 f.p,.sl 1 (bys f.i)]
def noF:Fr:=⟨0,[]⟩
def MayP (p:Nat):Prop:=p % 2 = 1∧p / 256 % 2 = 0∧p≠255
instance (p:Nat):Decidable (MayP p):=by unfold MayP;infer_instance
/-- A frame that may be. -/
def Ok (f:Fr):Prop:=MayP f.p∧f.i.length≤1500
instance (f:Fr):Decidable (Ok f):=by unfold Ok;infer_instance
def fin (p:Nat) (i:List Nat):Fr × Int:=if MayP p then if i.length≤1500 then (⟨p,i⟩,0) else (noF,4) else (noF,2)
end Fc
namespace Pa
open Fc
structure Pk where
 c:Nat
 i:Nat
 d:List Nat
deriving DecidableEq
/-- A packet of bytes. -/
structure Pk.Ty (p:Pk):Prop where
 c:p.c < 256
 i:p.i < 256
 d:∀ x∈p.d,x < 256
def pk (p:Pk):Data:=.agg [.int .u8 p.c,.int .u8 p.i,.sl 1 (bys p.d)]
def noP:Pk:=⟨0,0,[]⟩
def pkB (p:Pk):List Nat:=if 4 + p.d.length≤1500 then p.c :: p.i :: ((4 + p.d.length) / 256) :: ((4 + p.d.length) % 256) :: p.d else []
def pkE (p:Pk):Int:=if 4 + p.d.length≤1500 then 0 else 1
def readP:List Nat->Option Pk
 | c :: i :: x :: y :: r=>if 4≤x * 256 + y∧x * 256 + y≤r.length + 4∧x * 256 + y≤1500 then some ⟨c,i,r.take (x * 256 + y - 4)⟩ else none
 | _=>none
def gotP (b:List Nat):Pk:=(readP b).getD noP
def errP (b:List Nat):Int:=if (readP b).isSome then 0 else 2
def known (proto code:Nat):Bool:=if proto = 49185 then decide (1≤code∧code≤11) else if proto = 49699 then decide (1≤code∧code≤4) else if proto = 32801 then decide (1≤code∧code≤7) else false
def rejP (p:Pk) (id:Nat):Pk:=⟨7,id,(pkB p).take 1496⟩
def refP (f:Fr) (id:Nat):Pk:=⟨8,id,((f.p / 256) :: (f.p % 256) :: f.i).take 1496⟩
theorem pkB_le (p:Pk):(pkB p).length≤1500:=by
 unfold pkB
 split
 · simp;omega
 · simp
theorem pkB_lt {p:Pk} (h:p.Ty):∀ x∈pkB p,x < 256:=by
 intro x hx
 unfold pkB at hx
 split at hx
 · rename_i hn
   simp only [List.mem_cons] at hx
   rcases hx with rfl | rfl | rfl | rfl | hx
   · exact h.c
   · exact h.i
   · omega
   · omega
   · exact h.d x hx
 · cases hx
/-- What is told as bytes is told back,whatever stands behind. -/
theorem read_pkB {p:Pk} (h:4 + p.d.length≤1500) (r:List Nat):readP (pkB p++r) = some p:=by
 unfold pkB
 rw [if_pos h]
 simp only [List.cons_append,readP]
 have e:(4 + p.d.length) / 256 * 256 + (4 + p.d.length) % 256 = 4 + p.d.length:=by omega
 rw [e,if_pos ⟨by omega,by rw [List.length_append];omega,h⟩,show 4 + p.d.length - 4 = p.d.length by omega,List.take_left]
/-- What is read has these bytes ahead. -/
theorem readP_iff {b:List Nat} (hb:∀ x∈b,x < 256) {p:Pk}:readP b = some p ↔ 4 + p.d.length≤1500∧∃ r,b = pkB p++r:=by
 constructor
 · intro h
   rcases b with _ | ⟨c,_ | ⟨i,_ | ⟨x,_ | ⟨y,r⟩⟩⟩⟩ <;> try (simp [readP] at h;done)
   simp only [readP] at h
   split at h
   · rename_i hn
     have hx:=hb x (by simp)
     have hy:=hb y (by simp)
     cases h
     have hl:(r.take (x * 256 + y - 4)).length = x * 256 + y - 4:=by rw [List.length_take];omega
     refine ⟨by simp only [hl];omega,r.drop (x * 256 + y - 4),?_⟩
     unfold pkB
     simp only [hl]
     rw [if_pos (by omega),show (4 + (x * 256 + y - 4)) / 256 = x by omega,show (4 + (x * 256 + y - 4)) % 256 = y by omega]
     simp only [List.cons_append,List.take_append_drop]
   · cases h
 · rintro ⟨h,r,rfl⟩
   exact read_pkB h r
theorem readP_ty {b:List Nat} (hb:∀ x∈b,x < 256) {p:Pk} (h:readP b = some p):p.Ty:=by
 rcases b with _ | ⟨c,_ | ⟨i,_ | ⟨x,_ | ⟨y,r⟩⟩⟩⟩ <;> try (simp [readP] at h;done)
 simp only [readP] at h
 split at h
 · cases h
   exact ⟨hb _ (by simp),hb _ (by simp),fun z hz=>hb z (by simp [List.mem_of_mem_take hz])⟩
 · cases h
theorem noP_ty:noP.Ty:=⟨by decide,by decide,by simp [noP]⟩
theorem gotP_ty {b:List Nat} (hb:∀ x∈b,x < 256):(gotP b).Ty:=by
 unfold gotP
 cases h:readP b with
 | none=>exact noP_ty
 | some p=>exact readP_ty hb h
section
variable (Γ:Nat->Option (List Data))
theorem rpsame_pc (p q:Pk) (hp:p.d.length≤1000000000) (hq:q.d.length≤1000000000):PC Try.prog Γ 14 [pk p,pk q] (.bool (decide (p = q))):=by
 refine pc_by mixed Try.func14 rfl (fun args w=>Try.call14 args w) ?_
 have c1:=row_pc Γ p.d q.d (by omega) (by omega)
 have e:decide (p = q) = (decide (p.d = q.d) && (decide (p.c = q.c) && decide (p.i = q.i))):=by
  obtain ⟨c,i,d⟩:=p;obtain ⟨c',i',d'⟩:=q
  simp only [Pk.mk.injEq,<- Bool.decide_and]
  congr 1
  simp only [eq_iff_iff]
  constructor
  · rintro ⟨a,b,c⟩;exact ⟨c,a,b⟩
  · rintro ⟨a,b,c⟩;exact ⟨b,c,a⟩
 rw [e]
 simp -implicitDefEqProofs (disch:=omega) [go_sem,pk]
 refine .inl (call_data c1 (by simp [go_sem]) ?_)
 by_cases h1:p.d = q.d
 · by_cases h2:p.c = q.c
   · by_cases h3:p.i = q.i
     · simp -implicitDefEqProofs (disch:=omega) [go_sem,h1,h2,h3,Try.f14]
     · have h4:¬ ((p.i:Int) = q.i):=by omega
       simp -implicitDefEqProofs (disch:=omega) [go_sem,h1,h2,h3,h4,Try.f14]
   · have h4:¬ ((p.c:Int) = q.c):=by omega
     simp -implicitDefEqProofs (disch:=omega) [go_sem,h1,h2,h4,Try.f14]
 · simp -implicitDefEqProofs (disch:=omega) [go_sem,h1,Try.f14]
theorem rpbytes_pc (p:Pk) (hn:p.d.length≤140737488351232):PC Try.prog Γ 10 [pk p] (.tup [.sl 1 (bys (pkB p)),.int .i64 (pkE p)]):=by
 refine pc_by mixed Try.func10 rfl (fun args w=>Try.call10 args w) ?_
 unfold pkB pkE
 by_cases h:4 + p.d.length≤1500
 · rw [if_pos h,if_pos h]
   simp -implicitDefEqProofs (disch:=omega) [go_sem,pk,Try.f10]
   refine ⟨_,⟨_,rfl,frz_bys (rw:=true) ?_ (.inl rfl) (by simp;omega)⟩,rfl⟩
   simp [go_sem,bys,u8]
   omega
 · rw [if_neg h,if_neg h]
   simp -implicitDefEqProofs (disch:=omega) [go_sem,pk,Try.f10]
   exact ⟨_,⟨_,rfl,.emp _ _⟩,rfl⟩
set_option maxHeartbeats 2000000 in
theorem rpread_pc (b:List Nat) (hb:∀ x∈b,x < 256) (hn:b.length≤1000000000):PC Try.prog Γ 12 [.sl 1 (bys b)] (.tup [pk (gotP b),.int .i64 (errP b)]):=by
 refine pc_by mixed Try.func12 rfl (fun args w=>Try.call12 args w) ?_
 have ex:∀ (H:Nat->Blk),∃ xs,(∃ y,xs = [y,Data.int .i64 2]∧Frz true H (D.agg [D.data (.int .u8 0),D.data (.int .u8 0),D.emp 0]) y)∧Data.tup [pk noP,.int .i64 2] = tupD xs:=fun H=>⟨_,⟨_,rfl,frz_aggL (frzL_c (.data _) (frzL_c (.data _) (frzL_c (.emp 0 1) frzL_n)))⟩,rfl⟩
 have none:readP b = none->gotP b = noP∧errP b = 2:=fun h=>by unfold gotP errP;rw [h];exact ⟨rfl,rfl⟩
 by_cases h4:b.length < 4
 · obtain ⟨e1,e2⟩:=none (by
    rcases b with _ | ⟨c,_ | ⟨i,_ | ⟨x,_ | ⟨y,r⟩⟩⟩⟩ <;> try rfl
    simp at h4;omega)
   rw [e1,e2]
   simp -implicitDefEqProofs (disch:=omega) [go_sem,Try.f12]
   exact ex _
 obtain ⟨c,i,x,y,r,rfl⟩:∃ c i x y r,b = c :: i :: x :: y :: r:=by
  rcases b with _ | ⟨c,_ | ⟨i,_ | ⟨x,_ | ⟨y,r⟩⟩⟩⟩
  · simp at h4
  · simp at h4
  · simp at h4
  · simp at h4
  · exact ⟨_,_,_,_,_,rfl⟩
 have hx:=hb x (by simp)
 have hy:=hb y (by simp)
 simp only [List.length_cons] at hn
 by_cases ho:4≤x * 256 + y∧x * 256 + y≤r.length + 4∧x * 256 + y≤1500
 · have e0:readP (c :: i :: x :: y :: r) = some ⟨c,i,r.take (x * 256 + y - 4)⟩:=if_pos ho
   have e1:gotP (c :: i :: x :: y :: r) = ⟨c,i,r.take (x * 256 + y - 4)⟩:=by unfold gotP;rw [e0];rfl
   have e2:errP (c :: i :: x :: y :: r) = 0:=by unfold errP;rw [e0];rfl
   rw [e1,e2]
   obtain ⟨h1,h2,h3⟩:=ho
   simp -implicitDefEqProofs (disch:=omega) [go_sem]
   refine side (by kernel_rfl) ?_
   simp -implicitDefEqProofs (disch:=omega) [go_sem]
   refine side (by kernel_rfl) ?_
   simp -implicitDefEqProofs (disch:=omega) [go_sem,pk,Try.f12]
   have et:((x:Int) * 256 + y).toNat = (x * 256 + y - 4) + 1 + 1 + 1 + 1:=by omega
   rw [et]
   simp
 · obtain ⟨e1,e2⟩:=none (if_neg ho)
   rw [e1,e2]
   simp -implicitDefEqProofs (disch:=omega) [go_sem]
   refine side (by kernel_rfl) ?_
   by_cases h1:4≤x * 256 + y
   · by_cases h2:x * 256 + y≤r.length + 4
     · simp -implicitDefEqProofs (disch:=omega) [go_sem,Try.f12]
       exact ex _
     · simp -implicitDefEqProofs (disch:=omega) [go_sem,Try.f12]
       exact ex _
   · simp -implicitDefEqProofs (disch:=omega) [go_sem,Try.f12]
     exact ex _
end
end Pa
namespace Pa
theorem pkB_len {p:Pk} (h:4 + p.d.length≤1500):(pkB p).length = 4 + p.d.length:=by
 unfold pkB
 rw [if_pos h]
 simp only [List.length_cons]
 omega
theorem pkB_inj {p q:Pk} (hp:4 + p.d.length≤1500) (hq:4 + q.d.length≤1500):pkB p = pkB q ↔ p = q:=by
 constructor
 · intro e
   have h1:=read_pkB hp []
   have h2:=read_pkB hq []
   rw [List.append_nil] at h1 h2
   rw [e,h2] at h1
   exact (Option.some.inj h1).symm
 · intro e;rw [e]
theorem readP_shape {b:List Nat} {p:Pk} (h:readP b = some p):∃ c i x y r,b = c :: i :: x :: y :: r∧x * 256 + y = 4 + p.d.length∧x * 256 + y≤r.length + 4∧x * 256 + y≤1500∧p = ⟨c,i,r.take (x * 256 + y - 4)⟩:=by
 rcases b with _ | ⟨c,_ | ⟨i,_ | ⟨x,_ | ⟨y,r⟩⟩⟩⟩ <;> try (simp [readP] at h;done)
 simp only [readP] at h
 split at h
 · rename_i hn
   cases h
   refine ⟨c,i,x,y,r,rfl,?_,hn.2.1,hn.2.2,rfl⟩
   simp only [List.length_take]
   omega
 · cases h
theorem read_cut {b:List Nat} {p:Pk} (h:readP b = some p) {k:Nat} (hk:k < 4 + p.d.length):readP (b.take k) = none:=by
 obtain ⟨c,i,x,y,r,rfl,h1,h2,h3,-⟩:=readP_shape h
 rcases k with _ | _ | _ | _ | k
 · rfl
 · rfl
 · rfl
 · rfl
 · simp only [List.take_succ_cons,readP]
   rw [if_neg (by rw [List.length_take];omega)]
theorem read_behind {b:List Nat} (hb:∀ x∈b,x < 256) {p:Pk} (h:readP b = some p) (r:List Nat):b.take (4 + p.d.length) = pkB p∧readP (b.take (4 + p.d.length)++r) = some p:=by
 obtain ⟨h1,q,e⟩:=(readP_iff hb).1 h
 have hl:=pkB_len h1
 have e2:b.take (4 + p.d.length) = pkB p:=by rw [e,<- hl,List.take_left]
 exact ⟨e2,by rw [e2];exact read_pkB h1 r⟩
theorem rej_read {p:Pk} (h:p.d.length≤1492) (id:Nat):readP (rejP p id).d = some p:=by
 have hl:=pkB_len (p:=p) (by omega)
 unfold rejP
 simp only
 rw [List.take_of_length_le (by omega)]
 have:=read_pkB (p:=p) (by omega) []
 rwa [List.append_nil] at this
end Pa
namespace Pa
open Fc
theorem high16p (a:Nat):(a:Int).fdiv 256 = ((a / 256:Nat):Int):=by rw [Int.fdiv_eq_ediv_of_nonneg _ (by decide)];omega
theorem or64 {a b:Nat} (ha:a < 256) (hb:b < 256):orI .i64 ((a:Int) * 256) (b:Int) = ((a * 256 + b:Nat):Int):=by
 have h:=Nat.two_pow_add_eq_or_of_lt (i:=8) (b:=b) (by omega) a
 have e1:((a:Int) * 256) = ((a * 256:Nat):Int):=by omega
 have hw:a * 256 + b < 65536:=by omega
 rw [e1]
 unfold orI
 rw [BitVec.ofInt_natCast,BitVec.ofInt_natCast,BitVec.toNat_or,BitVec.toNat_ofNat,BitVec.toNat_ofNat,Nat.mod_eq_of_lt (show a * 256 < 2 ^ IntKind.i64.bits from by show a * 256 < 18446744073709551616;omega),Nat.mod_eq_of_lt (show b < 2 ^ IntKind.i64.bits from by show b < 18446744073709551616;omega)]
 rw [show a * 256 = 2 ^ 8 * a by omega,<- h,IntKind.wrap_i64]
 omega
section
variable (Γ:Nat->Option (List Data))
theorem pclone_pc (b:List Nat) (hl:b.length≤1000000000):PC Try.prog Γ 20 [.sl 1 (bys b)] (.sl 1 (bys b)):=by
 refine pc_by mixed Try.func20 rfl (fun args w=>Try.call20 args w) ?_
 simp -implicitDefEqProofs (disch:=omega) [go_sem]
 refine fun q hq=>?_
 cases q
 · simp -implicitDefEqProofs (disch:=omega) [go_sem,Try.f20]
   exact ⟨_,⟨_,rfl,frz_bys (rw:=true) (by simp [go_sem]) (.inl rfl) (by simp [bys_length])⟩,rfl⟩
 · have h0:b = []:=by simpa [bys] using hq rfl
   subst h0
   simp -implicitDefEqProofs (disch:=omega) [go_sem,Try.f20]
   exact ⟨_,⟨_,rfl,.emp ..⟩,rfl⟩
theorem two_pc (n:Nat) (h:n < 65536):PC Try.prog Γ 25 [.int .u16 n] (.sl 1 (bys [n / 256,n % 256])):=by
 refine pc_by mixed Try.func25 rfl (fun args w=>Try.call25 args w) ?_
 simp -implicitDefEqProofs (disch:=omega) [go_sem,high16p,Try.f25]
 refine ⟨_,⟨_,rfl,frz_bys (rw:=true) (l:=[n / 256,n % 256]) ?_ (.inl rfl) rfl⟩,rfl⟩
 simp [go_sem,bys,u8]
 omega
theorem fitting_pc (b:List Nat) (h:b.length≤140737488351232):PC Try.prog Γ 23 [.sl 1 (bys b)] (.sl 1 (bys (b.take 1496))):=by
 refine pc_by mixed Try.func23 rfl (fun args w=>Try.call23 args w) ?_
 by_cases h1:b.length≤1496
 · have h2:¬ (1496:Int) < b.length:=by omega
   rw [List.take_of_length_le h1]
   simp -implicitDefEqProofs (disch:=omega) [go_sem,h2,Try.f23]
   exact ⟨_,⟨_,rfl,.ful _ _⟩,rfl⟩
 · have h2:(1496:Int) < b.length:=by omega
   simp -implicitDefEqProofs (disch:=omega) [go_sem,h2,Try.f23]
   exact ⟨_,⟨_,rfl,.ful _ _⟩,rfl⟩
def codesD:Data:=.mp [.int .u16 49185,.int .u16 49699,.int .u16 32801] [.agg [.int .u8 1,.int .u8 11],.agg [.int .u8 1,.int .u8 4],.agg [.int .u8 1,.int .u8 7]]
theorem codes_pc:PC Try.prog Γ 22 [] codesD:=by
 refine pc_by mixed Try.func22 rfl (fun args w=>Try.call22 args w) ?_
 simp -implicitDefEqProofs (disch:=omega) [go_sem,Try.f22]
 refine ⟨_,⟨_,rfl,.mref _ [.int .u16 49185,.int .u16 49699,.int .u16 32801] [.agg [.int .u8 1,.int .u8 11],.agg [.int .u8 1,.int .u8 4],.agg [.int .u8 1,.int .u8 7]] _ rfl rfl rfl ?_⟩,rfl⟩
 intro i d x hd hx
 rcases i with _ | _ | _ | i
 all_goals simp at hd hx
 all_goals subst hd hx
 all_goals exact .data _
theorem known_pc (p c:Nat) (hp:p < 65536) (hc:c < 256):PC Try.prog Γ 16 [.int .u16 p,.int .u8 c] (.bool (known p c)):=by
 refine pc_by mixed Try.func16 rfl (fun args w=>Try.call16 args w) ?_
 have c1:=codes_pc Γ
 unfold codesD at c1
 simp -implicitDefEqProofs (disch:=omega) [go_sem]
 refine .inl (call_data c1 (by simp [go_sem]) ?_)
 unfold known
 by_cases h1:p = 49185
 · have e1:(p:Int) = 49185:=by omega
   rw [if_pos h1]
   by_cases k1:1≤c
   · by_cases k2:c≤11
     · rw [decide_eq_true ⟨k1,k2⟩]
       simp -implicitDefEqProofs (disch:=omega) [go_sem,e1,Try.f16]
     · rw [decide_eq_false fun h=>k2 h.2]
       simp -implicitDefEqProofs (disch:=omega) [go_sem,e1,Try.f16]
   · rw [decide_eq_false fun h=>k1 h.1]
     simp -implicitDefEqProofs (disch:=omega) [go_sem,e1,Try.f16]
 rw [if_neg h1]
 have e1:((p:Int) == 49185) = false:=beq_eq_false_iff_ne.2 (by omega)
 by_cases h2:p = 49699
 · have e2:(p:Int) = 49699:=by omega
   rw [if_pos h2]
   by_cases k1:1≤c
   · by_cases k2:c≤4
     · rw [decide_eq_true ⟨k1,k2⟩]
       simp -implicitDefEqProofs (disch:=omega) [go_sem,e2,Try.f16]
     · rw [decide_eq_false fun h=>k2 h.2]
       simp -implicitDefEqProofs (disch:=omega) [go_sem,e2,Try.f16]
   · rw [decide_eq_false fun h=>k1 h.1]
     simp -implicitDefEqProofs (disch:=omega) [go_sem,e2,Try.f16]
 rw [if_neg h2]
 have e2:((p:Int) == 49699) = false:=beq_eq_false_iff_ne.2 (by omega)
 by_cases h3:p = 32801
 · have e3:(p:Int) = 32801:=by omega
   rw [if_pos h3]
   by_cases k1:1≤c
   · by_cases k2:c≤7
     · rw [decide_eq_true ⟨k1,k2⟩]
       simp -implicitDefEqProofs (disch:=omega) [go_sem,e3,Try.f16]
     · rw [decide_eq_false fun h=>k2 h.2]
       simp -implicitDefEqProofs (disch:=omega) [go_sem,e3,Try.f16]
   · rw [decide_eq_false fun h=>k1 h.1]
     simp -implicitDefEqProofs (disch:=omega) [go_sem,e3,Try.f16]
 rw [if_neg h3]
 have e3:((p:Int) == 32801) = false:=beq_eq_false_iff_ne.2 (by omega)
 simp -implicitDefEqProofs (disch:=omega) [go_sem,e1,e2,e3,Try.f16]
theorem psame_pc (p q:Pk) (hp:∀ x∈p.d,x < 256) (hq:∀ x∈q.d,x < 256):PC Try.prog Γ 15 [pk p,pk q] (.bool (decide (p = q))):=by
 refine pc_by mixed Try.func15 rfl (fun args w=>Try.call15 args w) ?_
 have c1:=Sf.sequal_pc Γ p.d q.d hp hq
 have e:decide (p = q) = (decide (p.c = q.c) && (decide (p.i = q.i) && decide (p.d = q.d))):=by
  obtain ⟨c,i,d⟩:=p;obtain ⟨c',i',d'⟩:=q
  simp only [Pk.mk.injEq,<- Bool.decide_and]
 rw [e]
 generalize decide (p.d = q.d) = v at *
 by_cases h2:p.c = q.c
 · by_cases h3:p.i = q.i
   · simp -implicitDefEqProofs (disch:=omega) [go_sem,pk,h2,h3]
     refine .inl (call_data c1 (by simp [go_sem]) ?_)
     simp -implicitDefEqProofs (disch:=omega) [go_sem,h2,h3,Try.f15]
   · have h4:¬ ((p.i:Int) = q.i):=by omega
     simp -implicitDefEqProofs (disch:=omega) [go_sem,pk,h2,h3,h4,Try.f15]
 · have h4:¬ ((p.c:Int) = q.c):=by omega
   simp -implicitDefEqProofs (disch:=omega) [go_sem,pk,h2,h4,Try.f15]
/-- A packet's bytes,of whatever length. -/
def rawB (p:Pk):List Nat:=p.c :: p.i :: ((4 + p.d.length) % 65536 / 256) :: ((4 + p.d.length) % 256) :: p.d
theorem rawB_eq {p:Pk} (h:4 + p.d.length≤1500):rawB p = pkB p:=by
 unfold rawB pkB
 rw [if_pos h,Nat.mod_eq_of_lt (show 4 + p.d.length < 65536 by omega)]
theorem laid_pc (p:Pk) (h:p.d.length≤999999900):PC Try.prog Γ 19 [pk p] (.sl 1 (bys (rawB p))):=by
 refine pc_by mixed Try.func19 rfl (fun args w=>Try.call19 args w) ?_
 have c1:=two_pc Γ ((4 + p.d.length) % 65536) (by omega)
 have em:(4 + p.d.length) % 65536 % 256 = (4 + p.d.length) % 256:=by omega
 rw [em] at c1
 generalize hh:(4 + p.d.length) % 65536 / 256 = hi at *
 generalize hl:(4 + p.d.length) % 256 = lo at *
 have c2:=Sf.concat_pc Γ [[p.c,p.i],[hi,lo],p.d] (by simp) (by simp;omega) (by simp)
 rw [show [[p.c,p.i],[hi,lo],p.d].flatten = rawB p by simp [rawB,hh,hl]] at c2
 simp -implicitDefEqProofs (disch:=omega) [go_sem,pk]
 refine .inl (call_data c1 (by simp [go_sem]) ?_)
 simp -implicitDefEqProofs (disch:=omega) [go_sem]
 refine .inl (call_frz [6,15] [6,15] (fun g hg=>?_) c2 (fun H' hH'=>?_) ?_)
 · simp only [List.mem_cons,List.not_mem_nil,or_false] at hg
   rcases hg with rfl | rfl <;> exact ⟨true,_,by simp [Hp.upd,Hp.set];rfl⟩
 · refine frzL_c (frz_rows (rw:=false) (cells:=[.ref 6 0 2 1,.data (.sl 1 (bys [hi,lo])),.data (.sl 1 (bys p.d))]) (by simp [Hp.upd,Hp.set,fz]) (.inr rfl) rfl (Sf.rws_cells _) ?_) frzL_n
   rw [Sf.flat_rws]
   exact frzL_c (frz_bys (rw:=false) (by simp [Hp.upd,Hp.set,fz,bys,u8]) (.inr rfl) rfl) (frzL_c (.data _) (frzL_c (.data _) frzL_n))
 simp -implicitDefEqProofs (disch:=omega) [go_sem]
 refine side (by kernel_rfl) ?_
 simp -implicitDefEqProofs (disch:=omega) [go_sem,Try.f19]
theorem pbytes_pc (p:Pk) (hn:p.d.length≤140737488351232):PC Try.prog Γ 9 [pk p] (.tup [.sl 1 (bys (pkB p)),.int .i64 (pkE p)]):=by
 refine pc_by mixed Try.func9 rfl (fun args w=>Try.call9 args w) ?_
 by_cases h:4 + p.d.length≤1500
 · have c1:=laid_pc Γ p (by omega)
   rw [rawB_eq h] at c1
   unfold pkE
   rw [if_pos h]
   generalize pkB p = q at *
   unfold pk at *
   simp -implicitDefEqProofs (disch:=omega) [go_sem]
   refine .inl (call_data c1 (by simp [go_sem]) ?_)
   simp -implicitDefEqProofs (disch:=omega) [go_sem,Try.f9]
 · unfold pkB pkE
   rw [if_neg h,if_neg h]
   simp -implicitDefEqProofs (disch:=omega) [go_sem,pk,Try.f9]
   exact ⟨_,⟨_,rfl,.emp _ _⟩,rfl⟩
set_option maxHeartbeats 2000000 in
theorem pread_pc (b:List Nat) (hb:∀ x∈b,x < 256) (hn:b.length≤1000000000):PC Try.prog Γ 11 [.sl 1 (bys b)] (.tup [pk (gotP b),.int .i64 (errP b)]):=by
 refine pc_by mixed Try.func11 rfl (fun args w=>Try.call11 args w) ?_
 have ex:∀ (H:Nat->Blk),∃ xs,(∃ y,xs = [y,Data.int .i64 2]∧Frz true H (D.agg [D.data (.int .u8 0),D.data (.int .u8 0),D.emp 0]) y)∧Data.tup [pk noP,.int .i64 2] = tupD xs:=fun H=>⟨_,⟨_,rfl,frz_aggL (frzL_c (.data _) (frzL_c (.data _) (frzL_c (.emp 0 1) frzL_n)))⟩,rfl⟩
 have none:readP b = none->gotP b = noP∧errP b = 2:=fun h=>by unfold gotP errP;rw [h];exact ⟨rfl,rfl⟩
 by_cases h4:b.length < 4
 · obtain ⟨e1,e2⟩:=none (by
    rcases b with _ | ⟨c,_ | ⟨i,_ | ⟨x,_ | ⟨y,r⟩⟩⟩⟩ <;> try rfl
    simp at h4;omega)
   rw [e1,e2]
   simp -implicitDefEqProofs (disch:=omega) [go_sem,Try.f11]
   exact ex _
 obtain ⟨c,i,x,y,r,rfl⟩:∃ c i x y r,b = c :: i :: x :: y :: r:=by
  rcases b with _ | ⟨c,_ | ⟨i,_ | ⟨x,_ | ⟨y,r⟩⟩⟩⟩
  · simp at h4
  · simp at h4
  · simp at h4
  · simp at h4
  · exact ⟨_,_,_,_,_,rfl⟩
 have hx:=hb x (by simp)
 have hy:=hb y (by simp)
 have ho16:=or64 hx hy
 simp only [List.length_cons] at hn
 by_cases ho:4≤x * 256 + y∧x * 256 + y≤r.length + 4∧x * 256 + y≤1500
 · have e0:readP (c :: i :: x :: y :: r) = some ⟨c,i,r.take (x * 256 + y - 4)⟩:=if_pos ho
   have e1:gotP (c :: i :: x :: y :: r) = ⟨c,i,r.take (x * 256 + y - 4)⟩:=by unfold gotP;rw [e0];rfl
   have e2:errP (c :: i :: x :: y :: r) = 0:=by unfold errP;rw [e0];rfl
   rw [e1,e2]
   obtain ⟨h1,h2,h3⟩:=ho
   generalize hn2:x * 256 + y = n at *
   have c1:=pclone_pc Γ (r.take (n - 4)) (by rw [List.length_take];omega)
   have ed:List.drop 4 (List.take n (c :: i :: x :: y :: r)) = r.take (n - 4):=by
    obtain ⟨k,rfl⟩:∃ k,n = k + 4:=⟨n - 4,by omega⟩
    simp
   have hr:¬ ((r.length:Int) + 1 + 1 + 1 + 1 < n):=by omega
   generalize r.take (n - 4) = z at *
   simp -implicitDefEqProofs (disch:=omega) [go_sem,ho16]
   refine side (by kernel_rfl) ?_
   simp -implicitDefEqProofs (disch:=omega) [go_sem,ho16]
   refine .inl (call_frz [] [] (by simp) c1 (fun H' hH'=>by rw [ed];exact frzL_c (.ful _ _) frzL_n) ?_)
   simp -implicitDefEqProofs (disch:=omega) [go_sem]
   refine side (by kernel_rfl) ?_
   simp -implicitDefEqProofs (disch:=omega) [go_sem,pk,Try.f11]
 · obtain ⟨e1,e2⟩:=none (if_neg ho)
   rw [e1,e2]
   simp -implicitDefEqProofs (disch:=omega) [go_sem,ho16]
   refine side (by kernel_rfl) ?_
   by_cases h1:4≤x * 256 + y
   · by_cases h2:x * 256 + y≤r.length + 4
     · by_cases h3:r.length + 4≤1500
       · omega
       have h4:¬ ((r.length:Int) + 1 + 1 + 1 + 1≤1500):=by omega
       simp -implicitDefEqProofs (disch:=omega) [go_sem,h4,Try.f11]
       exact ex _
     · by_cases h3:r.length + 4≤1500
       · have h4:((r.length:Int) + 1 + 1 + 1 + 1≤1500):=by omega
         simp -implicitDefEqProofs (disch:=omega) [go_sem,h4,Try.f11]
         exact ex _
       · have h4:¬ ((r.length:Int) + 1 + 1 + 1 + 1≤1500):=by omega
         simp -implicitDefEqProofs (disch:=omega) [go_sem,h4,Try.f11]
         exact ex _
   · simp -implicitDefEqProofs (disch:=omega) [go_sem,Try.f11]
     exact ex _
theorem reject_pc (p:Pk) (id:Nat) (hn:p.d.length≤1496):PC Try.prog Γ 17 [pk p,.int .u8 id] (pk (rejP p id)):=by
 refine pc_by mixed Try.func17 rfl (fun args w=>Try.call17 args w) ?_
 have c1:=laid_pc Γ p (by omega)
 rw [rawB_eq (by omega)] at c1
 have hle:=pkB_le p
 have c2:=fitting_pc Γ (pkB p) (by omega)
 unfold rejP
 generalize pkB p = q at *
 unfold pk at *
 simp -implicitDefEqProofs (disch:=omega) [go_sem]
 refine .inl (call_data c1 (by simp [go_sem]) ?_)
 simp -implicitDefEqProofs (disch:=omega) [go_sem]
 refine .inl (call_data c2 (by simp [go_sem]) ?_)
 simp -implicitDefEqProofs (disch:=omega) [go_sem,Try.f17]
theorem refuse_pc (f:Fr) (id:Nat) (hp:f.p < 65536) (hn:f.i.length≤999999900):PC Try.prog Γ 18 [fr f,.int .u8 id] (pk (refP f id)):=by
 refine pc_by mixed Try.func18 rfl (fun args w=>Try.call18 args w) ?_
 have c1:=two_pc Γ f.p hp
 have c2:=Sf.concat_pc Γ [[f.p / 256,f.p % 256],f.i] (by simp) (by simp;omega) (by simp)
 rw [show [[f.p / 256,f.p % 256],f.i].flatten = f.p / 256 :: f.p % 256 :: f.i by simp] at c2
 have c3:=fitting_pc Γ (f.p / 256 :: f.p % 256 :: f.i) (by simp;omega)
 unfold refP
 simp -implicitDefEqProofs (disch:=omega) [go_sem,fr]
 refine .inl (call_data c1 (by simp [go_sem]) ?_)
 simp -implicitDefEqProofs (disch:=omega) [go_sem]
 refine .inl (call_keep 8 c2 (rw:=true) (cells:=[.data (.sl 1 (bys [f.p / 256,f.p % 256])),.data (.sl 1 (bys f.i))]) (by simp [Hp.upd,Hp.set]) (fun H' hg=>?_) ?_)
 · refine frzL_c (frz_rows (rw:=false) hg (.inr rfl) rfl (Sf.rws_cells _) ?_) frzL_n
   rw [Sf.flat_rws]
   exact frzL_c (.data _) (frzL_c (.data _) frzL_n)
 simp -implicitDefEqProofs (disch:=omega) [go_sem]
 refine .inl (call_data c3 (by simp [go_sem]) ?_)
 simp -implicitDefEqProofs (disch:=omega) [go_sem]
 refine side (by kernel_rfl) ?_
 simp -implicitDefEqProofs (disch:=omega) [go_sem,pk,Try.f18]
end
end Pa
namespace Pa
open Fc
theorem arg_pkt {n:Nat} {x:Data} (a:argD Try.prog (n + 3) 24 x):∃ p:Pk,(p.Ty∧p.d.length≤140737488351232)∧x = pk p:=by
 obtain ⟨ds,rfl,h⟩:=arg_struct Try.underlying24 a
 obtain ⟨d1,r1,rfl,h1,h⟩:=okF_cons h
 obtain ⟨d2,r2,rfl,h2,h⟩:=okF_cons h
 obtain ⟨d3,r3,rfl,h3,h⟩:=okF_cons h
 obtain rfl:=okF_nil h
 obtain ⟨i,hi0,hi1,rfl⟩:=ok_int Try.underlying5 h1
 obtain ⟨j,hj0,hj1,rfl⟩:=ok_int Try.underlying5 h2
 obtain ⟨b,lb,hb,rfl⟩:=ok_bytes Try.underlying22 Try.underlying5 (by kernel_rfl) h3
 have e1:IntKind.u8.min = 0:=by decide
 have e2:IntKind.u8.max = 255:=by decide
 obtain ⟨c,rfl⟩:=Int.eq_ofNat_of_zero_le (show 0≤i by omega)
 obtain ⟨k,rfl⟩:=Int.eq_ofNat_of_zero_le (show 0≤j by omega)
 exact ⟨⟨c,k,b⟩,⟨⟨by show c < 256;omega,by show k < 256;omega,lb⟩,hb⟩,rfl⟩
theorem gotP_le {b:List Nat}:(gotP b).d.length≤1496:=by
 unfold gotP
 cases h:readP b with
 | none=>simp [noP]
 | some p =>
   obtain ⟨c,i,x,y,r,rfl,h1,h2,h3,h4⟩:=readP_shape h
   simp only [Option.getD_some]
   omega
section
variable (Γ:Nat->Option (List Data))
set_option maxHeartbeats 4000000 in
theorem shown9_pc:PC Try.prog Γ 8 [] (.bool true):=by
 refine pc_by mixed Try.func8 rfl (fun args w=>Try.call8 args w) ?_
 have c1:=pbytes_pc Γ ⟨1,7,[]⟩ (by decide)
 rw [show pkB ⟨1,7,[]⟩ = [1,7,0,4] by kernel_rfl,show pkE ⟨1,7,[]⟩ = 0 by kernel_rfl] at c1
 have c2:=pread_pc Γ [5,8,0,5,9,10] (by decide) (by decide)
 rw [show gotP [5,8,0,5,9,10] = ⟨5,8,[9]⟩ by kernel_rfl,show errP [5,8,0,5,9,10] = 0 by kernel_rfl] at c2
 have c3:=reject_pc Γ ⟨5,8,[9]⟩ 3 (by decide)
 rw [show rejP ⟨5,8,[9]⟩ 3 = ⟨7,3,[5,8,0,5,9]⟩ by kernel_rfl] at c3
 have c4:=known_pc Γ 49699 4 (by decide) (by decide)
 rw [show known 49699 4 = true by kernel_rfl] at c4
 have c5:=psame_pc Γ ⟨5,8,[9]⟩ ⟨5,8,[9]⟩ (by simp) (by simp)
 rw [decide_eq_true rfl] at c5
 have c6:=refuse_pc Γ ⟨3,[]⟩ 1 (by decide) (by decide)
 rw [show refP ⟨3,[]⟩ 1 = ⟨8,1,[0,3]⟩ by kernel_rfl] at c6
 unfold pk at *
 simp -implicitDefEqProofs (disch:=omega) [go_sem]
 refine .inl (call_frz [] [] (by simp) c1 (fun H' hH'=>frzL_c (frz_aggL (frzL_c (.data _) (frzL_c (.data _) (frzL_c (.emp 0 1) frzL_n)))) frzL_n) ?_)
 simp -implicitDefEqProofs (disch:=omega) [go_sem]
 refine .inl (call_kept 8 6 [5,8,0,5,9,10] c2 (by simp [Hp.upd,Hp.set,bys,u8]) rfl ?_)
 simp -implicitDefEqProofs (disch:=omega) [go_sem]
 refine .inl (call_data c3 (by simp [go_sem,bys,u8]) ?_)
 simp -implicitDefEqProofs (maxSteps:=4000000) (disch:=omega) [go_sem]
 refine .inl (call_data c4 (by simp [go_sem]) ?_)
 simp -implicitDefEqProofs (maxSteps:=4000000) (disch:=omega) [go_sem]
 refine .inl (call_data c5 (by simp [go_sem,bys,u8]) ?_)
 simp -implicitDefEqProofs (maxSteps:=4000000) (disch:=omega) [go_sem]
 refine .inl (call_frz [] [] (by simp) c6 (fun H' hH'=>frzL_c (frz_aggL (frzL_c (.data _) (frzL_c (.emp 0 1) frzL_n))) (frzL_c (.data _) frzL_n)) ?_)
 simp -implicitDefEqProofs (maxSteps:=4000000) (disch:=omega) [go_sem,Try.f8]
set_option maxHeartbeats 8000000 in
theorem ptells_pc (p:Pk) (b:List Nat) (tp:p.Ty) (hp:p.d.length≤140737488351232) (hl:∀ x∈b,x < 256) (hb:b.length≤140737488351232):PC Try.prog Γ 3 [pk p,.sl 1 (bys b)] (.bool true):=by
 refine pc_by mixed Try.func3 rfl (fun args w=>Try.call3 args w) ?_
 simp -implicitDefEqProofs (disch:=omega) [go_sem,pk]
 refine .inl (call_data (shown9_pc Γ) (by simp [go_sem]) ?_)
 by_cases h1:2000 < p.d.length
 · simp -implicitDefEqProofs (disch:=omega) [go_sem,h1,Try.f3]
 by_cases h2:2000 < b.length
 · simp -implicitDefEqProofs (disch:=omega) [go_sem,h1,h2,Try.f3]
 have c1:=pbytes_pc Γ p hp
 have c2:=rpbytes_pc Γ p hp
 have c3:=pread_pc Γ b hl (by omega)
 have c4:=rpread_pc Γ b hl (by omega)
 have hle:=pkB_le p
 have hg:=gotP_ty hl
 have hgl:=gotP_le (b:=b)
 generalize gotP b = g at *
 generalize errP b = e at *
 generalize pkE p = e2 at *
 have c5:=Sf.row_same Γ (pkB p) (by omega)
 generalize pkB p = x at *
 have c6:=rpsame_pc Γ g g (by omega) (by omega)
 rw [decide_eq_true rfl] at c6
 have c7:=psame_pc Γ p g tp.d hg.d
 have c8:=rpsame_pc Γ p g (by omega) (by omega)
 generalize decide (p = g) = v at *
 unfold pk at *
 simp -implicitDefEqProofs (disch:=omega) [go_sem,h1,h2]
 refine .inl (call_data c1 (by simp [go_sem]) ?_)
 simp -implicitDefEqProofs (disch:=omega) [go_sem]
 refine .inl (call_data c2 (by simp [go_sem]) ?_)
 simp -implicitDefEqProofs (disch:=omega) [go_sem]
 refine .inl (call_data c3 (by simp [go_sem]) ?_)
 simp -implicitDefEqProofs (disch:=omega) [go_sem]
 refine .inl (call_data c4 (by simp [go_sem]) ?_)
 simp -implicitDefEqProofs (disch:=omega) [go_sem]
 refine .inl (call_data c5 (by simp [go_sem]) ?_)
 simp -implicitDefEqProofs (disch:=omega) [go_sem]
 refine .inl (call_data c6 (by simp [go_sem]) ?_)
 simp -implicitDefEqProofs (disch:=omega) [go_sem]
 refine .inl (call_data c7 (by simp [go_sem]) ?_)
 simp -implicitDefEqProofs (disch:=omega) [go_sem]
 refine .inl (call_data c8 (by simp [go_sem]) ?_)
 simp -implicitDefEqProofs (disch:=omega) [go_sem]
 refine side (by kernel_rfl) ?_
 simp -implicitDefEqProofs (disch:=omega) [go_sem,Try.f3]
theorem law_PackTells {x0 x1:Data} (a0:argD Try.prog 8 24 x0) (a1:argD Try.prog 8 22 x1):PC Try.prog Γ 3 [x0,x1] (.bool true):=by
 obtain ⟨p,⟨h1,h2⟩,rfl⟩:=arg_pkt a0
 obtain ⟨b,lb,hb,rfl⟩:=arg_bytes Try.underlying22 Try.underlying5 (by kernel_rfl) a1
 exact ptells_pc Γ p b h1 h2 lb hb
theorem known_facts (p c:Nat):known p 0 = false∧(1 < c->known p c = true->known p (c - 1) = true)∧(known 32801 c = true->known 49185 c = true)∧(¬ (p = 49185 ∨ p = 49699 ∨ p = 32801)->known p c = false)∧((p = 49185 ∨ p = 49699 ∨ p = 32801)->known p 1 = true):=by
 unfold known
 refine ⟨?_,?_,?_,?_,?_⟩
 · split <;> try rfl
   split <;> try rfl
   split <;> rfl
 · intro h
   split
   · simp only [decide_eq_true_eq];omega
   split
   · simp only [decide_eq_true_eq];omega
   split
   · simp only [decide_eq_true_eq];omega
   · exact fun h=>h
 · simp only [Nat.reduceEqDiff,if_false,if_true,decide_eq_true_eq]
   omega
 · intro h
   rw [if_neg (by omega),if_neg (by omega),if_neg (by omega)]
 · rintro (rfl | rfl | rfl) <;> rfl
set_option maxHeartbeats 8000000 in
theorem pcodes_pc (p c:Nat) (hp:p < 65536) (hc:c < 256):PC Try.prog Γ 6 [.int .u16 p,.int .u8 c] (.bool true):=by
 refine pc_by mixed Try.func6 rfl (fun args w=>Try.call6 args w) ?_
 obtain ⟨k0,k1,k2,k3,k4⟩:=known_facts p c
 have c1:=known_pc Γ p c hp hc
 have c2:=known_pc Γ p 0 hp (by omega)
 rw [k0] at c2
 have c3:=known_pc Γ p (c - 1) hp (by omega)
 have c4:=known_pc Γ 32801 c (by omega) hc
 have c5:=known_pc Γ 49185 c (by omega) hc
 have c6:=known_pc Γ p 1 hp (by omega)
 generalize known p c = v at *
 generalize known p (c - 1) = v1 at *
 generalize known 32801 c = v2 at *
 generalize known 49185 c = v3 at *
 generalize known p 1 = v4 at *
 simp -implicitDefEqProofs (disch:=omega) [go_sem]
 refine .inl (call_data (shown9_pc Γ) (by simp [go_sem]) ?_)
 simp -implicitDefEqProofs (disch:=omega) [go_sem]
 refine .inl (call_data c1 (by simp [go_sem]) ?_)
 simp -implicitDefEqProofs (disch:=omega) [go_sem]
 refine .inl (call_data c2 (by simp [go_sem]) ?_)
 by_cases g:1 < c
 · have g2:(1:Int) < c:=by omega
   cases v
   · cases v2
     · simp -implicitDefEqProofs (disch:=omega) [go_sem,g2]
       refine .inl (call_data c4 (by simp [go_sem]) ?_)
       by_cases o0:p = 49185
       · have e0:(p:Int) = 49185:=by omega
         obtain rfl:v4 = true:=k4 (by omega)
         simp -implicitDefEqProofs (disch:=omega) [go_sem,e0]
         refine .inl (call_data (by rwa [e0] at c6) (by simp [go_sem]) ?_)
         simp -implicitDefEqProofs (disch:=omega) [go_sem,Try.f6]
       by_cases o1:p = 49699
       · have e1:(p:Int) = 49699:=by omega
         obtain rfl:v4 = true:=k4 (by omega)
         simp -implicitDefEqProofs (disch:=omega) [go_sem,e1]
         refine .inl (call_data (by rwa [e1] at c6) (by simp [go_sem]) ?_)
         simp -implicitDefEqProofs (disch:=omega) [go_sem,Try.f6]
       by_cases o2:p = 32801
       · have e2:(p:Int) = 32801:=by omega
         obtain rfl:v4 = true:=k4 (by omega)
         simp -implicitDefEqProofs (disch:=omega) [go_sem,e2]
         refine .inl (call_data (by rwa [e2] at c6) (by simp [go_sem]) ?_)
         simp -implicitDefEqProofs (disch:=omega) [go_sem,Try.f6]
       have e0:¬ (p:Int) = 49185:=by omega
       have e1:¬ (p:Int) = 49699:=by omega
       have e2:¬ (p:Int) = 32801:=by omega
       have k5:=k3 (by omega)
       first
       | (exfalso;revert k5;decide)
       | (try subst k5);simp -implicitDefEqProofs (disch:=omega) [go_sem,e0,e1,e2,Try.f6]
     · obtain rfl:v3 = true:=k2 rfl
       simp -implicitDefEqProofs (disch:=omega) [go_sem,g2]
       refine .inl (call_data c4 (by simp [go_sem]) ?_)
       simp -implicitDefEqProofs (disch:=omega) [go_sem]
       refine .inl (call_data c5 (by simp [go_sem]) ?_)
       by_cases o0:p = 49185
       · have e0:(p:Int) = 49185:=by omega
         obtain rfl:v4 = true:=k4 (by omega)
         simp -implicitDefEqProofs (disch:=omega) [go_sem,e0]
         refine .inl (call_data (by rwa [e0] at c6) (by simp [go_sem]) ?_)
         simp -implicitDefEqProofs (disch:=omega) [go_sem,Try.f6]
       by_cases o1:p = 49699
       · have e1:(p:Int) = 49699:=by omega
         obtain rfl:v4 = true:=k4 (by omega)
         simp -implicitDefEqProofs (disch:=omega) [go_sem,e1]
         refine .inl (call_data (by rwa [e1] at c6) (by simp [go_sem]) ?_)
         simp -implicitDefEqProofs (disch:=omega) [go_sem,Try.f6]
       by_cases o2:p = 32801
       · have e2:(p:Int) = 32801:=by omega
         obtain rfl:v4 = true:=k4 (by omega)
         simp -implicitDefEqProofs (disch:=omega) [go_sem,e2]
         refine .inl (call_data (by rwa [e2] at c6) (by simp [go_sem]) ?_)
         simp -implicitDefEqProofs (disch:=omega) [go_sem,Try.f6]
       have e0:¬ (p:Int) = 49185:=by omega
       have e1:¬ (p:Int) = 49699:=by omega
       have e2:¬ (p:Int) = 32801:=by omega
       have k5:=k3 (by omega)
       first
       | (exfalso;revert k5;decide)
       | (try subst k5);simp -implicitDefEqProofs (disch:=omega) [go_sem,e0,e1,e2,Try.f6]
   · obtain rfl:v1 = true:=k1 g rfl
     have ec:((c - 1:Nat):Int) = (c:Int) - 1:=by omega
     rw [ec] at c3
     simp -implicitDefEqProofs (disch:=omega) [go_sem,g2]
     refine .inl (call_data c3 (by simp [go_sem];omega) ?_)
     cases v2
     · simp -implicitDefEqProofs (disch:=omega) [go_sem,g2]
       refine .inl (call_data c4 (by simp [go_sem]) ?_)
       by_cases o0:p = 49185
       · have e0:(p:Int) = 49185:=by omega
         obtain rfl:v4 = true:=k4 (by omega)
         simp -implicitDefEqProofs (disch:=omega) [go_sem,e0]
         refine .inl (call_data (by rwa [e0] at c6) (by simp [go_sem]) ?_)
         simp -implicitDefEqProofs (disch:=omega) [go_sem,Try.f6]
       by_cases o1:p = 49699
       · have e1:(p:Int) = 49699:=by omega
         obtain rfl:v4 = true:=k4 (by omega)
         simp -implicitDefEqProofs (disch:=omega) [go_sem,e1]
         refine .inl (call_data (by rwa [e1] at c6) (by simp [go_sem]) ?_)
         simp -implicitDefEqProofs (disch:=omega) [go_sem,Try.f6]
       by_cases o2:p = 32801
       · have e2:(p:Int) = 32801:=by omega
         obtain rfl:v4 = true:=k4 (by omega)
         simp -implicitDefEqProofs (disch:=omega) [go_sem,e2]
         refine .inl (call_data (by rwa [e2] at c6) (by simp [go_sem]) ?_)
         simp -implicitDefEqProofs (disch:=omega) [go_sem,Try.f6]
       have e0:¬ (p:Int) = 49185:=by omega
       have e1:¬ (p:Int) = 49699:=by omega
       have e2:¬ (p:Int) = 32801:=by omega
       have k5:=k3 (by omega)
       first
       | (exfalso;revert k5;decide)
       | (try subst k5);simp -implicitDefEqProofs (disch:=omega) [go_sem,e0,e1,e2,Try.f6]
     · obtain rfl:v3 = true:=k2 rfl
       simp -implicitDefEqProofs (disch:=omega) [go_sem,g2]
       refine .inl (call_data c4 (by simp [go_sem]) ?_)
       simp -implicitDefEqProofs (disch:=omega) [go_sem]
       refine .inl (call_data c5 (by simp [go_sem]) ?_)
       by_cases o0:p = 49185
       · have e0:(p:Int) = 49185:=by omega
         obtain rfl:v4 = true:=k4 (by omega)
         simp -implicitDefEqProofs (disch:=omega) [go_sem,e0]
         refine .inl (call_data (by rwa [e0] at c6) (by simp [go_sem]) ?_)
         simp -implicitDefEqProofs (disch:=omega) [go_sem,Try.f6]
       by_cases o1:p = 49699
       · have e1:(p:Int) = 49699:=by omega
         obtain rfl:v4 = true:=k4 (by omega)
         simp -implicitDefEqProofs (disch:=omega) [go_sem,e1]
         refine .inl (call_data (by rwa [e1] at c6) (by simp [go_sem]) ?_)
         simp -implicitDefEqProofs (disch:=omega) [go_sem,Try.f6]
       by_cases o2:p = 32801
       · have e2:(p:Int) = 32801:=by omega
         obtain rfl:v4 = true:=k4 (by omega)
         simp -implicitDefEqProofs (disch:=omega) [go_sem,e2]
         refine .inl (call_data (by rwa [e2] at c6) (by simp [go_sem]) ?_)
         simp -implicitDefEqProofs (disch:=omega) [go_sem,Try.f6]
       have e0:¬ (p:Int) = 49185:=by omega
       have e1:¬ (p:Int) = 49699:=by omega
       have e2:¬ (p:Int) = 32801:=by omega
       have k5:=k3 (by omega)
       first
       | (exfalso;revert k5;decide)
       | (try subst k5);simp -implicitDefEqProofs (disch:=omega) [go_sem,e0,e1,e2,Try.f6]
 · have g2:¬ (1:Int) < c:=by omega
   cases v2
   · simp -implicitDefEqProofs (disch:=omega) [go_sem,g2]
     refine .inl (call_data c4 (by simp [go_sem]) ?_)
     by_cases o0:p = 49185
     · have e0:(p:Int) = 49185:=by omega
       obtain rfl:v4 = true:=k4 (by omega)
       simp -implicitDefEqProofs (disch:=omega) [go_sem,e0]
       refine .inl (call_data (by rwa [e0] at c6) (by simp [go_sem]) ?_)
       simp -implicitDefEqProofs (disch:=omega) [go_sem,Try.f6]
     by_cases o1:p = 49699
     · have e1:(p:Int) = 49699:=by omega
       obtain rfl:v4 = true:=k4 (by omega)
       simp -implicitDefEqProofs (disch:=omega) [go_sem,e1]
       refine .inl (call_data (by rwa [e1] at c6) (by simp [go_sem]) ?_)
       simp -implicitDefEqProofs (disch:=omega) [go_sem,Try.f6]
     by_cases o2:p = 32801
     · have e2:(p:Int) = 32801:=by omega
       obtain rfl:v4 = true:=k4 (by omega)
       simp -implicitDefEqProofs (disch:=omega) [go_sem,e2]
       refine .inl (call_data (by rwa [e2] at c6) (by simp [go_sem]) ?_)
       simp -implicitDefEqProofs (disch:=omega) [go_sem,Try.f6]
     have e0:¬ (p:Int) = 49185:=by omega
     have e1:¬ (p:Int) = 49699:=by omega
     have e2:¬ (p:Int) = 32801:=by omega
     have k5:=k3 (by omega)
     first
     | (exfalso;revert k5;decide)
     | (try subst k5);simp -implicitDefEqProofs (disch:=omega) [go_sem,e0,e1,e2,Try.f6]
   · obtain rfl:v3 = true:=k2 rfl
     simp -implicitDefEqProofs (disch:=omega) [go_sem,g2]
     refine .inl (call_data c4 (by simp [go_sem]) ?_)
     simp -implicitDefEqProofs (disch:=omega) [go_sem]
     refine .inl (call_data c5 (by simp [go_sem]) ?_)
     by_cases o0:p = 49185
     · have e0:(p:Int) = 49185:=by omega
       obtain rfl:v4 = true:=k4 (by omega)
       simp -implicitDefEqProofs (disch:=omega) [go_sem,e0]
       refine .inl (call_data (by rwa [e0] at c6) (by simp [go_sem]) ?_)
       simp -implicitDefEqProofs (disch:=omega) [go_sem,Try.f6]
     by_cases o1:p = 49699
     · have e1:(p:Int) = 49699:=by omega
       obtain rfl:v4 = true:=k4 (by omega)
       simp -implicitDefEqProofs (disch:=omega) [go_sem,e1]
       refine .inl (call_data (by rwa [e1] at c6) (by simp [go_sem]) ?_)
       simp -implicitDefEqProofs (disch:=omega) [go_sem,Try.f6]
     by_cases o2:p = 32801
     · have e2:(p:Int) = 32801:=by omega
       obtain rfl:v4 = true:=k4 (by omega)
       simp -implicitDefEqProofs (disch:=omega) [go_sem,e2]
       refine .inl (call_data (by rwa [e2] at c6) (by simp [go_sem]) ?_)
       simp -implicitDefEqProofs (disch:=omega) [go_sem,Try.f6]
     have e0:¬ (p:Int) = 49185:=by omega
     have e1:¬ (p:Int) = 49699:=by omega
     have e2:¬ (p:Int) = 32801:=by omega
     have k5:=k3 (by omega)
     first
     | (exfalso;revert k5;decide)
     | (try subst k5);simp -implicitDefEqProofs (disch:=omega) [go_sem,e0,e1,e2,Try.f6]
theorem law_PackCodes {x0 x1:Data} (a0:argD Try.prog 8 39 x0) (a1:argD Try.prog 8 5 x1):PC Try.prog Γ 6 [x0,x1] (.bool true):=by
 obtain ⟨p,hp,rfl⟩:=arg_u16 Try.underlying39 a0
 obtain ⟨c,hc,rfl⟩:=arg_u8 Try.underlying5 a1
 exact pcodes_pc Γ p c hp hc
set_option maxHeartbeats 8000000 in
theorem papart_pc (p q:Pk) (id:Nat) (tp:p.Ty) (hp:p.d.length≤140737488351232) (tq:q.Ty) (hq:q.d.length≤140737488351232) (hi:id < 256):PC Try.prog Γ 7 [pk p,pk q,.int .u8 id] (.bool true):=by
 refine pc_by mixed Try.func7 rfl (fun args w=>Try.call7 args w) ?_
 simp -implicitDefEqProofs (disch:=omega) [go_sem,pk]
 refine .inl (call_data (shown9_pc Γ) (by simp [go_sem]) ?_)
 by_cases h1:1492 < p.d.length
 · simp -implicitDefEqProofs (disch:=omega) [go_sem,h1,Try.f7]
 by_cases h2:1492 < q.d.length
 · simp -implicitDefEqProofs (disch:=omega) [go_sem,h1,h2,Try.f7]
 have c1:=pbytes_pc Γ p hp
 have c2:=pbytes_pc Γ q hq
 rw [show pkE p = 0 from if_pos (by omega)] at c1
 rw [show pkE q = 0 from if_pos (by omega)] at c2
 have c3:=reject_pc Γ p id (by omega)
 have hrr:=rej_read (p:=p) (by omega) id
 have hlt:∀ x∈(rejP p id).d,x < 256:=fun x hx=>pkB_lt tp x (List.mem_of_mem_take hx)
 have hln:(rejP p id).d.length≤1496:=by unfold rejP;simp only [List.length_take];omega
 have c4:=pread_pc Γ (rejP p id).d hlt (by omega)
 rw [show gotP (rejP p id).d = p by unfold gotP;rw [hrr];rfl,show errP (rejP p id).d = 0 by unfold errP;rw [hrr];rfl] at c4
 have hpl:=pkB_le p
 have hql:=pkB_le q
 have c5:=row_pc Γ (pkB p) (pkB q) (by omega) (by omega)
 have c6:=rpsame_pc Γ p q (by omega) (by omega)
 rw [show decide (pkB p = pkB q) = decide (p = q) from decide_eq_decide.2 (pkB_inj (by omega) (by omega))] at c5
 have c7:=rpsame_pc Γ p p (by omega) (by omega)
 rw [decide_eq_true rfl] at c7
 generalize decide (p = q) = v at *
 generalize rejP p id = r at *
 generalize pkB p = x at *
 generalize pkB q = y at *
 unfold pk at *
 simp -implicitDefEqProofs (disch:=omega) [go_sem,h1,h2]
 refine .inl (call_data c1 (by simp [go_sem]) ?_)
 simp -implicitDefEqProofs (disch:=omega) [go_sem]
 refine .inl (call_data c2 (by simp [go_sem]) ?_)
 simp -implicitDefEqProofs (disch:=omega) [go_sem]
 refine .inl (call_data c3 (by simp [go_sem]) ?_)
 simp -implicitDefEqProofs (disch:=omega) [go_sem]
 refine .inl (call_data c4 (by simp [go_sem]) ?_)
 simp -implicitDefEqProofs (disch:=omega) [go_sem]
 refine .inl (call_data c5 (by simp [go_sem]) ?_)
 simp -implicitDefEqProofs (disch:=omega) [go_sem]
 refine .inl (call_data c6 (by simp [go_sem]) ?_)
 simp -implicitDefEqProofs (disch:=omega) [go_sem]
 refine .inl (call_data c7 (by simp [go_sem]) ?_)
 simp -implicitDefEqProofs (disch:=omega) [go_sem]
 refine side (by kernel_rfl) ?_
 simp -implicitDefEqProofs (disch:=omega) [go_sem,Try.f7]
theorem law_PackApart {x0 x1 x2:Data} (a0:argD Try.prog 8 24 x0) (a1:argD Try.prog 8 24 x1) (a2:argD Try.prog 8 5 x2):PC Try.prog Γ 7 [x0,x1,x2] (.bool true):=by
 obtain ⟨p,⟨h1,h2⟩,rfl⟩:=arg_pkt a0
 obtain ⟨q,⟨h3,h4⟩,rfl⟩:=arg_pkt a1
 obtain ⟨c,hc,rfl⟩:=arg_u8 Try.underlying5 a2
 exact papart_pc Γ p q c h1 h2 h3 h4 hc
end
end Pa
namespace Pa
open Fc
section
variable (Γ:Nat->Option (List Data))
theorem rpsame_same (p:Pk) (h:p.d.length≤1000000000):PC Try.prog Γ 14 [pk p,pk p] (.bool true):=by
 have:=rpsame_pc Γ p p h h
 rwa [decide_eq_true rfl] at this
set_option maxHeartbeats 8000000 in
theorem pback_pc (p:Pk) (q b:List Nat) (tp:p.Ty) (hp:p.d.length≤140737488351232) (hq:∀ x∈q,x < 256) (hqn:q.length≤140737488351232) (hl:∀ x∈b,x < 256) (hb:b.length≤140737488351232):PC Try.prog Γ 4 [pk p,.sl 1 (bys q),.sl 1 (bys b)] (.bool true):=by
 refine pc_by mixed Try.func4 rfl (fun args w=>Try.call4 args w) ?_
 simp -implicitDefEqProofs (disch:=omega) [go_sem,pk]
 refine .inl (call_data (shown9_pc Γ) (by simp [go_sem]) ?_)
 by_cases h1:2000 < p.d.length
 · simp -implicitDefEqProofs (disch:=omega) [go_sem,h1,Try.f4]
 by_cases h2:300 < q.length
 · simp -implicitDefEqProofs (disch:=omega) [go_sem,h1,h2,Try.f4]
 by_cases h3:2000 < b.length
 · simp -implicitDefEqProofs (disch:=omega) [go_sem,h1,h2,h3,Try.f4]
 have c1:=pbytes_pc Γ p hp
 have hpl:=pkB_le p
 have c3:=pread_pc Γ b hl (by omega)
 simp -implicitDefEqProofs (disch:=omega) [go_sem,h1,h2,h3]
 unfold pk at c1
 refine .inl (call_data c1 (by simp [go_sem]) ?_)
 by_cases h4:4 + p.d.length≤1500
 · have c2:=pread_pc Γ (pkB p++q) (fun x hx=>by
    rcases List.mem_append.1 hx with hx | hx
    · exact pkB_lt tp x hx
    · exact hq x hx) (by simp;omega)
   rw [show gotP (pkB p++q) = p by unfold gotP;rw [read_pkB h4];rfl,show errP (pkB p++q) = 0 by unfold errP;rw [read_pkB h4];rfl] at c2
   have c4:=rpsame_same Γ p (by omega)
   have hpb:=pkB_len h4
   rw [show pkE p = 0 from if_pos h4] at *
   generalize pkB p = x at *
   unfold pk at c2 c4
   simp -implicitDefEqProofs (disch:=omega) [go_sem]
   refine .inl (call_kept 31 (x.length + q.length) (x++q) c2 (by simp [Hp.upd,Hp.set,bys]) (by simp) ?_)
   simp -implicitDefEqProofs (disch:=omega) [go_sem]
   refine .inl (call_data c4 (by simp [go_sem]) ?_)
   cases hr:readP b with
   | none =>
     rw [show gotP b = noP by unfold gotP;rw [hr];rfl,show errP b = 2 by unfold errP;rw [hr];rfl] at c3
     have c5:=rpsame_same Γ noP (by simp [noP])
     unfold pk noP at c3 c5
     simp -implicitDefEqProofs (disch:=omega) [go_sem]
     refine .inl (call_data c3 (by simp [go_sem]) ?_)
     simp -implicitDefEqProofs (disch:=omega) [go_sem]
     refine .inl (call_frz [] [] (by simp) c5 (fun H' hH'=>frzL_c (.data _) (frzL_c (frz_aggL (frzL_c (.data _) (frzL_c (.data _) (frzL_c (.emp 0 1) frzL_n)))) frzL_n)) ?_)
     simp -implicitDefEqProofs (disch:=omega) [go_sem,Try.f4]
   | some g =>
     rw [show gotP b = g by unfold gotP;rw [hr];rfl,show errP b = 0 by unfold errP;rw [hr];rfl] at c3
     obtain ⟨hg,r,rb⟩:=(readP_iff hl).1 hr
     have c5:=pbytes_pc Γ g (by omega)
     rw [show pkE g = 0 from if_pos hg] at c5
     have hgl:=pkB_le g
     have c6:=Sf.row_same Γ (pkB g) (by omega)
     generalize pkB g = y at *
     have hy:y.length≤b.length:=by rw [rb,List.length_append];omega
     have ey:b.take y.length = y:=by rw [rb,List.take_left]
     unfold pk at c3 c5
     simp -implicitDefEqProofs (disch:=omega) [go_sem]
     refine .inl (call_data c3 (by simp [go_sem]) ?_)
     simp -implicitDefEqProofs (disch:=omega) [go_sem]
     refine .inl (call_data c5 (by simp [go_sem]) ?_)
     simp -implicitDefEqProofs (disch:=omega) [go_sem,ey]
     refine .inl (call_data c6 (by simp [go_sem]) ?_)
     simp -implicitDefEqProofs (disch:=omega) [go_sem,Try.f4]
 · rw [show pkE p = 1 from if_neg h4] at *
   generalize pkB p = x at *
   cases hr:readP b with
   | none =>
     rw [show gotP b = noP by unfold gotP;rw [hr];rfl,show errP b = 2 by unfold errP;rw [hr];rfl] at c3
     have c5:=rpsame_same Γ noP (by simp [noP])
     unfold pk noP at c3 c5
     simp -implicitDefEqProofs (disch:=omega) [go_sem]
     refine .inl (call_data c3 (by simp [go_sem]) ?_)
     simp -implicitDefEqProofs (disch:=omega) [go_sem]
     refine .inl (call_frz [] [] (by simp) c5 (fun H' hH'=>frzL_c (.data _) (frzL_c (frz_aggL (frzL_c (.data _) (frzL_c (.data _) (frzL_c (.emp 0 1) frzL_n)))) frzL_n)) ?_)
     simp -implicitDefEqProofs (disch:=omega) [go_sem,Try.f4]
   | some g =>
     rw [show gotP b = g by unfold gotP;rw [hr];rfl,show errP b = 0 by unfold errP;rw [hr];rfl] at c3
     obtain ⟨hg,r,rb⟩:=(readP_iff hl).1 hr
     have c5:=pbytes_pc Γ g (by omega)
     rw [show pkE g = 0 from if_pos hg] at c5
     have hgl:=pkB_le g
     have c6:=Sf.row_same Γ (pkB g) (by omega)
     generalize pkB g = y at *
     have hy:y.length≤b.length:=by rw [rb,List.length_append];omega
     have ey:b.take y.length = y:=by rw [rb,List.take_left]
     unfold pk at c3 c5
     simp -implicitDefEqProofs (disch:=omega) [go_sem]
     refine .inl (call_data c3 (by simp [go_sem]) ?_)
     simp -implicitDefEqProofs (disch:=omega) [go_sem]
     refine .inl (call_data c5 (by simp [go_sem]) ?_)
     simp -implicitDefEqProofs (disch:=omega) [go_sem,ey]
     refine .inl (call_data c6 (by simp [go_sem]) ?_)
     simp -implicitDefEqProofs (disch:=omega) [go_sem,Try.f4]
theorem law_PackBack {x0 x1 x2:Data} (a0:argD Try.prog 8 24 x0) (a1:argD Try.prog 8 22 x1) (a2:argD Try.prog 8 22 x2):PC Try.prog Γ 4 [x0,x1,x2] (.bool true):=by
 obtain ⟨p,⟨h1,h2⟩,rfl⟩:=arg_pkt a0
 obtain ⟨q,lq,hq,rfl⟩:=arg_bytes Try.underlying22 Try.underlying5 (by kernel_rfl) a1
 obtain ⟨b,lb,hb,rfl⟩:=arg_bytes Try.underlying22 Try.underlying5 (by kernel_rfl) a2
 exact pback_pc Γ p q b h1 h2 lq hq lb hb
set_option maxHeartbeats 8000000 in
theorem plong_pc (b:List Nat) (cut:Nat) (q:List Nat) (hl:∀ x∈b,x < 256) (hb:b.length≤140737488351232) (hc:cut < 65536) (hq:∀ x∈q,x < 256) (hqn:q.length≤140737488351232):PC Try.prog Γ 5 [.sl 1 (bys b),.int .u16 cut,.sl 1 (bys q)] (.bool true):=by
 refine pc_by mixed Try.func5 rfl (fun args w=>Try.call5 args w) ?_
 simp -implicitDefEqProofs (disch:=omega) [go_sem]
 refine .inl (call_data (shown9_pc Γ) (by simp [go_sem]) ?_)
 by_cases h1:1500 < b.length
 · simp -implicitDefEqProofs (disch:=omega) [go_sem,h1,Try.f5]
 by_cases h2:200 < q.length
 · simp -implicitDefEqProofs (disch:=omega) [go_sem,h1,h2,Try.f5]
 have c1:=pread_pc Γ b hl (by omega)
 cases hr:readP b with
 | none =>
   rw [show gotP b = noP by unfold gotP;rw [hr];rfl,show errP b = 2 by unfold errP;rw [hr];rfl] at c1
   unfold pk at c1
   simp -implicitDefEqProofs (disch:=omega) [go_sem,h1,h2]
   refine .inl (call_data c1 (by simp [go_sem]) ?_)
   simp -implicitDefEqProofs (disch:=omega) [go_sem,Try.f5]
 | some p =>
   rw [show gotP b = p by unfold gotP;rw [hr];rfl,show errP b = 0 by unfold errP;rw [hr];rfl] at c1
   have tp:=readP_ty hl hr
   obtain ⟨k1,k2⟩:=read_behind hl hr q
   have k3:cut % (4 + p.d.length) < 4 + p.d.length:=Nat.mod_lt _ (by omega)
   have k4:=read_cut hr k3
   have c2:=pread_pc Γ (b.take (cut % (4 + p.d.length))) (fun x hx=>hl x (List.mem_of_mem_take hx)) (by rw [List.length_take];omega)
   rw [show gotP (b.take (cut % (4 + p.d.length))) = noP by unfold gotP;rw [k4];rfl,show errP (b.take (cut % (4 + p.d.length))) = 2 by unfold errP;rw [k4];rfl] at c2
   have c3:=pread_pc Γ (b.take (4 + p.d.length)++q) (fun x hx=>by
    rcases List.mem_append.1 hx with hx | hx
    · exact hl x (List.mem_of_mem_take hx)
    · exact hq x hx) (by simp;omega)
   rw [show gotP (b.take (4 + p.d.length)++q) = p by unfold gotP;rw [k2];rfl,show errP (b.take (4 + p.d.length)++q) = 0 by unfold errP;rw [k2];rfl] at c3
   have c4:=rpsame_same Γ p (by have:=(readP_iff hl).1 hr;omega)
   obtain ⟨c,i,x,y,r,rfl,m1,m2,m3,m4⟩:=readP_shape hr
   have c5:=Sf.row_same Γ p.d (by omega)
   simp only [List.length_cons] at *
   have hrl:(r.length:Int) + 1 + 1 + 1 + 1≤1500:=by omega
   have hnl:(4:Int) + p.d.length≤r.length + 1 + 1 + 1 + 1:=by omega
   have hxy:(x:Int) * 256 + y = 4 + p.d.length:=by omega
   have hx:=hl x (by simp)
   have hy:=hl y (by simp)
   have em:(cut:Int) % (4 + p.d.length) = ((cut % (4 + p.d.length):Nat):Int):=by
    rw [Int.natCast_emod];rfl
   have pd:p.d = r.take p.d.length:=by
    rw [m4];simp only [List.length_take]
    rw [show min (x * 256 + y - 4) r.length = x * 256 + y - 4 by omega]
   unfold pk at *
   simp -implicitDefEqProofs (disch:=omega) [go_sem,h1,h2]
   refine .inl (call_data c1 (by simp [go_sem]) ?_)
   have et:((4:Int) + p.d.length).toNat = 4 + p.d.length:=by omega
   have ed:List.drop 4 (List.take (4 + p.d.length) (c :: i :: x :: y :: r)) = p.d:=by
    rw [show 4 + p.d.length = p.d.length + 4 by omega]
    simp only [List.take_succ_cons,List.drop_succ_cons,List.drop_zero]
    exact pd.symm
   have hms:cut % (4 + p.d.length)≤r.length + 1 + 1 + 1 + 1:=by omega
   simp -implicitDefEqProofs (disch:=omega) [go_sem,hxy]
   refine .inl (call_data c5 (by simp only [et,ed];simp [go_sem]) ?_)
   generalize hm:cut % (4 + p.d.length) = m at *
   simp -implicitDefEqProofs (disch:=omega) [go_sem]
   refine side (by kernel_rfl) ?_
   simp -implicitDefEqProofs (disch:=omega) [go_sem,em]
   refine .inl (call_data c2 (by simp [go_sem]) ?_)
   have hpb:=pkB_len (p:=p) (by omega)
   rw [k1] at c3
   simp -implicitDefEqProofs (disch:=omega) [go_sem,et,k1]
   refine .inl (call_kept 72 ((pkB p).length + q.length) (pkB p++q) c3 (by simp [Hp.upd,Hp.set,bys]) (by simp) ?_)
   simp -implicitDefEqProofs (disch:=omega) [go_sem]
   refine .inl (call_data c4 (by simp [go_sem]) ?_)
   simp -implicitDefEqProofs (disch:=omega) [go_sem,Try.f5]
theorem law_PackLong {x0 x1 x2:Data} (a0:argD Try.prog 8 22 x0) (a1:argD Try.prog 8 39 x1) (a2:argD Try.prog 8 22 x2):PC Try.prog Γ 5 [x0,x1,x2] (.bool true):=by
 obtain ⟨b,lb,hb,rfl⟩:=arg_bytes Try.underlying22 Try.underlying5 (by kernel_rfl) a0
 obtain ⟨c,hc,rfl⟩:=arg_u16 Try.underlying39 a1
 obtain ⟨q,lq,hq,rfl⟩:=arg_bytes Try.underlying22 Try.underlying5 (by kernel_rfl) a2
 exact plong_pc Γ b c q lb hb hc lq hq
end
end Pa
theorem law_PackTells (Γ:Nat->Option (List Data)) {x0 x1:Data} (a0:argD Try.prog 8 24 x0) (a1:argD Try.prog 8 22 x1):PC Try.prog Γ 3 [x0,x1] (.bool true):=Pa.law_PackTells Γ a0 a1
theorem law_PackBack (Γ:Nat->Option (List Data)) {x0 x1 x2:Data} (a0:argD Try.prog 8 24 x0) (a1:argD Try.prog 8 22 x1) (a2:argD Try.prog 8 22 x2):PC Try.prog Γ 4 [x0,x1,x2] (.bool true):=Pa.law_PackBack Γ a0 a1 a2
theorem law_PackLong (Γ:Nat->Option (List Data)) {x0 x1 x2:Data} (a0:argD Try.prog 8 22 x0) (a1:argD Try.prog 8 39 x1) (a2:argD Try.prog 8 22 x2):PC Try.prog Γ 5 [x0,x1,x2] (.bool true):=Pa.law_PackLong Γ a0 a1 a2
theorem law_PackCodes (Γ:Nat->Option (List Data)) {x0 x1:Data} (a0:argD Try.prog 8 39 x0) (a1:argD Try.prog 8 5 x1):PC Try.prog Γ 6 [x0,x1] (.bool true):=Pa.law_PackCodes Γ a0 a1
theorem law_PackApart (Γ:Nat->Option (List Data)) {x0 x1 x2:Data} (a0:argD Try.prog 8 24 x0) (a1:argD Try.prog 8 24 x1) (a2:argD Try.prog 8 5 x2):PC Try.prog Γ 7 [x0,x1,x2] (.bool true):=Pa.law_PackApart Γ a0 a1 a2
end Go.Proofs.Ytmfhhlddpggenaa
