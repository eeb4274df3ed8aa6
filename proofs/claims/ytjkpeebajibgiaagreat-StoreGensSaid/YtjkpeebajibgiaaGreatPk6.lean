/- Ranges over functions: what the walk needs. The closed facts on the types. The document's own comparison of rows. Disks: sectors copied, writes done. Disks: what is copied, what stands behind writes. Disks: a write, a crash, a new one. Stores: disks copied, steps of a snapshot. Structs of numbers, truth values and strings, held against each other. Books: the domain; the document's own small functions. Books: a line more. Books: what is done to one, and what closes all, of the document Books: the program's own small functions; what is found among sessions and users. -/
import Derived.Test.YtjkpeebajibgiaaGreatPk5
import Derived.Test.YtjkpeebajibgiaaGreatChecked
import Derived.KernelRfl
import Derived.DeepKeys
import Derived.Laws.StructEq
namespace Go.Proofs.YtjkpeebajibgiaaGreat
open Go.RowKit
set_option linter.unusedSimpArgs false
set_option linter.unusedVariables false
set_option maxRecDepth 100000
/-- A call of a value that rounds are handed to. -/
def yldK (d:D) (l:Nat) (ds:List D) (ys:List Data) (k:Nat) (K:Prop):Prop:=match d with
 | .yld l'=>l' = l∧(match ds with
   | [.data y]=>ys[k]? = some y∧K
   | _=>False)
 | _=>False
@[congr] theorem yldK_congr {n0:Nat} (tk:tick = n0) {d d':D} (h:d = d') (l:Nat) {ds ds':List D} (h2:ds = ds') (ys:List Data) {k k':Nat} (h3:k = k') (K:Prop):yldK d l ds ys k K = yldK d' l ds' ys k' K:=by rw [h,h2,h3]
@[go_sem] theorem yldK_yes (l:Nat) (y:Data) (ys:List Data) (k:Nat) (K:Prop):yldK (.yld l) l [.data y] ys k K = sideK (ys[k]? = some y) K:=by simp [yldK,sideK]
@[go_sem] theorem yldK_data (x:Data) (l:Nat) (ds:List D) (ys:List Data) (k:Nat) (K:Prop):yldK (.data x) l ds ys k K = False:=rfl
@[go_sem] theorem yldK_fn (f:FuncId) (c:List D) (l:Nat) (ds:List D) (ys:List Data) (k:Nat) (K:Prop):yldK (.fn f c) l ds ys k K = False:=rfl
@[go_sem] theorem fn_cells (f:FuncId) (c:List Data):Data.cells (.fn f c) = [.fn f c]:=rfl
@[go_sem] theorem fnD_yld (l:Nat):fnD (.yld l) = none:=rfl
section
variable (P:Program) (Γ:Nat->Option (List Data)) (l:Nat) (ys:List Data)
@[go_sem] theorem yieldK_eq (dst:Option Nat) (ty:TypeId) (pos:String) (af:Array Edge) (gd:Option (Nat × Bool)) (e:Nat->D) (k:Nat) (K:Prop) (x:Operand) (args:Array Operand) (ts:Array TypeId) :
 yieldK Γ l ys ⟨dst,.call ⟨.value x,args,ts⟩,ty,pos,af,gd⟩ e k K = yldK (evalD Γ e x) l (args.toList.map (evalD Γ e)) ys k K:=by
 unfold yieldK yldK
 simp only
 cases evalD Γ e x <;> rfl
@[congr] theorem yieldK_congr {n0:Nat} (tk:tick = n0) (o:Oper) (e:Nat->D) (k:Nat) (K:Prop):yieldK Γ l ys o e k K = yieldK Γ l ys o e k K:=rfl
@[go_sem] theorem wpY_skip (Q:Exit->St->Nat->Prop) (s:St) (k:Nat):wpY P Γ l ys .skip Q s k = Q .normal s k:=rfl
@[go_sem] theorem wpY_row (i:Nat) (ops:List Oper) (Q:Exit->St->Nat->Prop) (s:St) (k:Nat):wpY P Γ l ys (.region i ops.toArray false) Q s k = opsY P Γ l ys ops.toArray ops s k (Q .normal):=rfl
@[go_sem] theorem wpY_seq (x y:Code) (Q:Exit->St->Nat->Prop) (s:St) (k:Nat):wpY P Γ l ys (.seq x y) Q s k = wpY P Γ l ys x (thenY (wpY P Γ l ys y Q) Q) s k:=rfl
@[go_sem] theorem wpY_cond (c:Operand) (x y:Code) (Q:Exit->St->Nat->Prop) (s:St) (k:Nat):wpY P Γ l ys (.cond c x y) Q s k = condK (evalD Γ s.env c) (wpY P Γ l ys x Q s k) (wpY P Γ l ys y Q s k):=rfl
@[go_sem] theorem wpY_block (id:Nat) (b:Code) (Q:Exit->St->Nat->Prop) (s:St) (k:Nat):wpY P Γ l ys (.block id b) Q s k = wpY P Γ l ys b (blockY id Q) s k:=rfl
@[go_sem] theorem wpY_loop (b:Code) (Q:Exit->St->Nat->Prop) (s:St) (k:Nat):wpY P Γ l ys (.loop b) Q s k = LoopY (wpY P Γ l ys b) Q s k:=rfl
@[go_sem] theorem wpY_exit (id:Nat) (Q:Exit->St->Nat->Prop) (s:St) (k:Nat):wpY P Γ l ys (.exit id) Q s k = Q (.exit id) s k:=rfl
@[go_sem] theorem wpY_ret (Q:Exit->St->Nat->Prop) (s:St) (k:Nat):wpY P Γ l ys .ret Q s k = Q .ret s k:=rfl
@[go_sem] theorem thenY_normal (n:St->Nat->Prop) (Q:Exit->St->Nat->Prop) (s:St) (k:Nat):thenY n Q .normal s k = n s k:=rfl
@[go_sem] theorem thenY_exit (n:St->Nat->Prop) (Q:Exit->St->Nat->Prop) (s:St) (k id:Nat):thenY n Q (.exit id) s k = Q (.exit id) s k:=rfl
@[go_sem] theorem thenY_ret (n:St->Nat->Prop) (Q:Exit->St->Nat->Prop) (s:St) (k:Nat):thenY n Q .ret s k = Q .ret s k:=rfl
@[go_sem] theorem blockY_normal (id:Nat) (Q:Exit->St->Nat->Prop) (s:St) (k:Nat):blockY id Q .normal s k = Q .normal s k:=rfl
@[go_sem] theorem blockY_exit (id i:Nat) (Q:Exit->St->Nat->Prop) (s:St) (k:Nat):blockY id Q (.exit i) s k = ifW (decide (i = id)) (Q .normal s k) (Q (.exit i) s k):=by
 by_cases h:i = id <;> simp [blockY,ifW,h]
@[go_sem] theorem blockY_ret (id:Nat) (Q:Exit->St->Nat->Prop) (s:St) (k:Nat):blockY id Q .ret s k = Q .ret s k:=rfl
@[go_sem] theorem endY_normal (n:Nat) (s:St) (k:Nat):endY n .normal s k = (k = n):=rfl
@[go_sem] theorem endY_ret (n:Nat) (s:St) (k:Nat):endY n .ret s k = (k = n):=rfl
@[congr] theorem thenY_congr {n0:Nat} (tk:tick = n0) (n:St->Nat->Prop) (Q:Exit->St->Nat->Prop) (x:Exit) (s:St) (k:Nat):thenY n Q x s k = thenY n Q x s k:=rfl
@[congr] theorem blockY_congr {n0:Nat} (tk:tick = n0) (id:Nat) (Q:Exit->St->Nat->Prop) (x:Exit) (s:St) (k:Nat):blockY id Q x s k = blockY id Q x s k:=rfl
@[congr] theorem wpY_congr {n0:Nat} (tk:tick = n0) (c:Code) (Q:Exit->St->Nat->Prop) (s:St) (k:Nat):wpY P Γ l ys c Q s k = wpY P Γ l ys c Q s k:=rfl
@[congr] theorem opsY_congr {n0:Nat} (tk:tick = n0) (ops:Array Oper) (ls:List Oper) (s:St) (k:Nat) (Q:St->Nat->Prop):opsY P Γ l ys ops ls s k Q = opsY P Γ l ys ops ls s k Q:=rfl
@[congr] theorem LoopY_congr {n0:Nat} (tk:tick = n0) (body:(Exit->St->Nat->Prop)->St->Nat->Prop) (Q:Exit->St->Nat->Prop) {s s':St} (h:s = s') {k k':Nat} (h2:k = k'):LoopY body Q s k = LoopY body Q s' k':=by rw [h,h2]
@[go_sem] theorem opsY_nil (ops:Array Oper) (s:St) (k:Nat) (Q:St->Nat->Prop):opsY P Γ l ys ops [] s k Q = Q s k:=rfl
@[go_sem] theorem opsY_cons (ops:Array Oper) (o:Oper) (rest:List Oper) (e:Nat->D) (H:Nat->Blk) (nx lo nt:Nat) (k:Nat) (Q:St->Nat->Prop):opsY P Γ l ys ops (o :: rest) ⟨e,H,nx,lo,nt⟩ k Q =
 sideK (dstOk o nt = true) (someK (wantedD ops e o) fun b=>ifW b (ifW (isCall o)
  ((opK P Γ o e H nx fun d _ u=>opsY P Γ l ys ops rest ⟨Env.dst e o.dst d,Hp.upd H u,nx + 1,lo,nt⟩ k Q) ∨ yieldK Γ l ys o e k (opsY P Γ l ys ops rest ⟨Env.dst e o.dst (.data (.bool true)),H,nx + 1,lo,nt⟩ (k + 1) Q))
  (opK P Γ o e H nx fun d _ u=>opsY P Γ l ys ops rest ⟨Env.dst e o.dst d,Hp.upd H u,nx + 1,lo,nt⟩ k Q)) (opsY P Γ l ys ops rest ⟨Env.dst e o.dst undefD,H,nx + 1,lo,nt⟩ k Q)):=by
 unfold sideK someK
 rw [opsY]
 congr 1
 simp only
 cases wantedD ops e o <;> rfl
@[go_sem] theorem wpG_skip (Q:Exit->St->Bool->Prop) (s:St) (b:Bool):wpG P Γ .skip Q s b = Q .normal s b:=rfl
@[go_sem] theorem wpG_before (i:Nat) (ops:Array Oper) (draw:Bool) (Q:Exit->St->Bool->Prop) (s:St):wpG P Γ (.region i ops draw) Q s false = wpF P Γ (.region i ops draw) (fun e s'=>Q e s' false) s:=rfl
@[go_sem] theorem wpG_behind (i:Nat) (ops:List Oper) (Q:Exit->St->Bool->Prop) (s:St):wpG P Γ (.region i ops.toArray false) Q s true = opsW P Γ ops.toArray ops s (fun s'=>Q .normal s' true):=rfl
@[go_sem] theorem wpG_seq (x y:Code) (Q:Exit->St->Bool->Prop) (s:St) (b:Bool):wpG P Γ (.seq x y) Q s b = wpG P Γ x (thenG (wpG P Γ y Q) Q) s b:=rfl
@[go_sem] theorem wpG_cond (c:Operand) (x y:Code) (Q:Exit->St->Bool->Prop) (s:St) (b:Bool):wpG P Γ (.cond c x y) Q s b = condK (evalD Γ s.env c) (wpG P Γ x Q s b) (wpG P Γ y Q s b):=rfl
@[go_sem] theorem wpG_block (id:Nat) (c:Code) (Q:Exit->St->Bool->Prop) (s:St) (b:Bool):wpG P Γ (.block id c) Q s b = wpG P Γ c (blockG id Q) s b:=rfl
@[go_sem] theorem wpG_rng (g:Operand) (ps:Array Tmp) (assign body:Code) (Q:Exit->St->Bool->Prop) (s:St):wpG P Γ (.rangeFunc g ps assign body) Q s false = RngW P Γ g ps assign body (fun s'=>Q .normal s' true) s:=by simp [wpG]
@[go_sem] theorem wpG_exit (id:Nat) (Q:Exit->St->Bool->Prop) (s:St) (b:Bool):wpG P Γ (.exit id) Q s b = Q (.exit id) s b:=rfl
@[go_sem] theorem wpG_ret (Q:Exit->St->Bool->Prop) (s:St) (b:Bool):wpG P Γ .ret Q s b = Q .ret s b:=rfl
@[go_sem] theorem thenG_normal (n:St->Bool->Prop) (Q:Exit->St->Bool->Prop) (s:St) (b:Bool):thenG n Q .normal s b = n s b:=rfl
@[go_sem] theorem thenG_exit (n:St->Bool->Prop) (Q:Exit->St->Bool->Prop) (s:St) (b:Bool) (id:Nat):thenG n Q (.exit id) s b = Q (.exit id) s b:=rfl
@[go_sem] theorem thenG_ret (n:St->Bool->Prop) (Q:Exit->St->Bool->Prop) (s:St) (b:Bool):thenG n Q .ret s b = Q .ret s b:=rfl
@[go_sem] theorem blockG_normal (id:Nat) (Q:Exit->St->Bool->Prop) (s:St) (b:Bool):blockG id Q .normal s b = Q .normal s b:=rfl
@[go_sem] theorem blockG_ret (id:Nat) (Q:Exit->St->Bool->Prop) (s:St) (b:Bool):blockG id Q .ret s b = Q .ret s b:=rfl
@[go_sem] theorem retG_ret (fn:Func) (r:Data) (s:St) (b:Bool):retG P fn r .ret s b = resK P fn.results.toList s fun ds=>∃ xs,FrzL true s.hp ds xs∧r = tupD xs:=rfl
@[go_sem] theorem retG_normal (fn:Func) (r:Data) (s:St) (b:Bool):retG P fn r .normal s b = resK P fn.results.toList s fun ds=>∃ xs,FrzL true s.hp ds xs∧r = tupD xs:=rfl
@[congr] theorem thenG_congr {n0:Nat} (tk:tick = n0) (n:St->Bool->Prop) (Q:Exit->St->Bool->Prop) (x:Exit) (s:St) (b:Bool):thenG n Q x s b = thenG n Q x s b:=rfl
@[congr] theorem blockG_congr {n0:Nat} (tk:tick = n0) (id:Nat) (Q:Exit->St->Bool->Prop) (x:Exit) (s:St) (b:Bool):blockG id Q x s b = blockG id Q x s b:=rfl
@[congr] theorem wpG_congr {n0:Nat} (tk:tick = n0) (c:Code) (Q:Exit->St->Bool->Prop) (s:St) (b:Bool):wpG P Γ c Q s b = wpG P Γ c Q s b:=rfl
@[congr] theorem retG_congr {n0:Nat} (tk:tick = n0) (fn:Func) (r:Data) (x:Exit) (s:St) (b:Bool):retG P fn r x s b = retG P fn r x s b:=rfl
@[congr] theorem RngW_congr {n0:Nat} (tk:tick = n0) (g:Operand) (ps:Array Tmp) (assign body:Code) (K:St->Prop) {s s':St} (h:s = s'):RngW P Γ g ps assign body K s = RngW P Γ g ps assign body K s':=by rw [h]
end
/-- Behind a round of an iterator's own loop. -/
def NextY {σ:Type} (st:σ->St) (κ μ:σ->Nat) (x:σ) (s:St) (k:Nat):Prop:=∃ y,WeakX s (st y)∧κ y = k∧μ y < μ x
@[congr] theorem NextY_congr {n0:Nat} (tk:tick = n0) {σ:Type} (st:σ->St) (κ μ:σ->Nat) (x:σ) (s:St) (k:Nat):NextY st κ μ x s k = NextY st κ μ x s k:=rfl
theorem nextY_ren {σ:Type} {st:σ->St} {κ μ:σ->Nat} {x:σ} {s:St} {k:Nat} (y:σ) (hk:κ y = k) (hm:μ y < μ x) (F:List Nat) (ρ:Nat->Option Nat) (h:WeakR F ρ s (st y)):NextY st κ μ x s k:=⟨y,.inr ⟨F,ρ,h⟩,hk,hm⟩
theorem loopY_ren {body:(Exit->St->Nat->Prop)->St->Nat->Prop} {Q:Exit->St->Nat->Prop} {s:St} {k:Nat} {σ:Type} (st:σ->St) (κ μ:σ->Nat) (x0:σ) (hk:κ x0 = k) (F:List Nat) (ρ:Nat->Option Nat) (h0:WeakR F ρ s (st x0)) (h:∀ x,body (thenY (NextY st κ μ x) Q) (st x) (κ x)):LoopY body Q s k :=
 ⟨σ,st,κ,μ,x0,.inr ⟨F,ρ,h0⟩,hk,h⟩
/-- Behind a round of a range over a function. -/
def RoundW (st:Nat->St) (k:Nat) (s:St):Prop:=WeakX ⟨(st k).env,s.hp,s.nx,(st k).lo,(st k).nt⟩ (st (k + 1))
@[congr] theorem RoundW_congr {n0:Nat} (tk:tick = n0) (st:Nat->St) (k:Nat) (s:St):RoundW st k s = RoundW st k s:=rfl
theorem round_ren {st:Nat->St} {k:Nat} {s:St} (F:List Nat) (ρ:Nat->Option Nat) (h:WeakR F ρ ⟨(st k).env,s.hp,s.nx,(st k).lo,(st k).nt⟩ (st (k + 1))):RoundW st k s:=.inr ⟨F,ρ,h⟩
section
variable {P:Program} {Γ:Nat->Option (List Data)}
theorem rng_ren {f:FuncId} {caps ys:List Data} {g:Operand} {p:Tmp} {assign body:Code} {K:St->Prop} {s:St} (st:Nat->St) (hit:IT P Γ f caps ys) (hg:evalD Γ s.env g = .data (.fn f caps)) (hp:p < s.nt) (F:List Nat) (ρ:Nat->Option Nat) (h0:WeakR F ρ s (st 0))
 (hst:∀ k,(st k).env = (st 0).env∧(st k).lo = s.lo∧(st k).nt = s.nt)
 (hr:∀ k y,ys[k]? = some y->wpY P Γ 0 [] assign (fun e s1 _=>e = .normal∧wpY P Γ 0 [] body (fun e s2 _=>e = .normal∧RoundW st k s2) s1 0) ⟨Env.set (st k).env p (.data y),(st k).hp,(st k).nx,(st k).nx,(st k).nt⟩ 0) (hK:K (st ys.length)):RngW P Γ g #[p] assign body K s :=
 ⟨f,caps,ys,p,st,hg,hit,rfl,hp,.inr ⟨F,ρ,h0⟩,hst,hr,hK⟩
theorem it_by {f:FuncId} {fn:Func} {c:Code} {caps ys:List Data} (hf:P.funcs[f]? = some fn) (hb:fn.body = some c) (hres:fn.results = #[]) (hc:CallOk P f)
 (h:∀ l,startK (.yld l :: caps.map toD) ((caps.length + 1) + (fn.ntmps - (caps.length + 1))) fun ds n=>wpY P Γ l ys c (endY ys.length) ⟨envArgs ds,fun _=>.dead,0,0,n⟩ 0):IT P Γ f caps ys:=it_of hf hb hres hc h
end
end Go.Proofs.YtjkpeebajibgiaaGreat
namespace Go.Proofs.YtjkpeebajibgiaaGreat
@[go_sem] theorem ty_sz3:szT Tryz.prog 3 = some 1:=by kernel_rfl
@[go_sem] theorem ty_ag3:aggT Tryz.prog 3 = some false:=by kernel_rfl
@[go_sem] theorem ty_in3:intT Tryz.prog 3 = some .i64:=by kernel_rfl
@[go_sem] theorem ty_ki3  (n:Int):keyT Tryz.prog 3 (.int .i64 n) = true:=by kernel_rfl
@[go_sem] theorem ty_sz4:szT Tryz.prog 4 = some 1:=by kernel_rfl
@[go_sem] theorem ty_ag4:aggT Tryz.prog 4 = some false:=by kernel_rfl
@[go_sem] theorem ty_ze4:zeT Tryz.prog 4 = some [.data (.bool false)]:=by kernel_rfl
@[go_sem] theorem ty_bo4:boolT Tryz.prog 4 = true:=by kernel_rfl
@[go_sem] theorem ty_sz5:szT Tryz.prog 5 = some 1:=by kernel_rfl
@[go_sem] theorem ty_by5:byT Tryz.prog 5 = some 1:=by kernel_rfl
@[go_sem] theorem ty_ag5:aggT Tryz.prog 5 = some false:=by kernel_rfl
@[go_sem] theorem ty_ze5:zeT Tryz.prog 5 = some [.data (.int .u8 0)]:=by kernel_rfl
@[go_sem] theorem ty_zl5:zlT Tryz.prog 5 = some 1:=by kernel_rfl
@[go_sem] theorem ty_in5:intT Tryz.prog 5 = some .u8:=by kernel_rfl
@[go_sem] theorem ty_sz9:szT Tryz.prog 9 = some 1:=by kernel_rfl
@[go_sem] theorem ty_ag9:aggT Tryz.prog 9 = some false:=by kernel_rfl
@[go_sem] theorem ty_st9:strT Tryz.prog 9 = true:=by kernel_rfl
@[go_sem] theorem ty_sz22:szT Tryz.prog 22 = some 1:=by kernel_rfl
@[go_sem] theorem ty_ag22:aggT Tryz.prog 22 = some false:=by kernel_rfl
@[go_sem] theorem ty_sl22:sliceT Tryz.prog 22 = some 73:=by kernel_rfl
@[go_sem] theorem ty_sz23:szT Tryz.prog 23 = some 1:=by kernel_rfl
@[go_sem] theorem ty_ag23:aggT Tryz.prog 23 = some false:=by kernel_rfl
@[go_sem] theorem ty_in23:intT Tryz.prog 23 = some .u32:=by kernel_rfl
@[go_sem] theorem ty_sz24:szT Tryz.prog 24 = some 1:=by kernel_rfl
@[go_sem] theorem ty_ag24:aggT Tryz.prog 24 = some false:=by kernel_rfl
@[go_sem] theorem ty_in24:intT Tryz.prog 24 = some .u64:=by kernel_rfl
@[go_sem] theorem ty_sz26:szT Tryz.prog 26 = some 9:=by kernel_rfl
@[go_sem] theorem ty_ag26:aggT Tryz.prog 26 = some true:=by kernel_rfl
@[go_sem] theorem ty_ze26:zeT Tryz.prog 26 = some [.data (.int .i64 0),.data (.int .i64 0),.data (.int .i64 0),.data (.int .u32 0),.data (.str ByteArray.empty),.data (.int .u64 0),.data (.int .u64 0),.data (.int .i64 0),.data (.int .i64 0)]:=by kernel_rfl
@[go_sem] theorem ty_ar26:arrT Tryz.prog 26 = none:=by kernel_rfl
@[go_sem] theorem ty_fl26_0:fldT Tryz.prog 26 0 = some (0,3):=by kernel_rfl
@[go_sem] theorem ty_fl26_1:fldT Tryz.prog 26 1 = some (1,3):=by kernel_rfl
@[go_sem] theorem ty_fl26_2:fldT Tryz.prog 26 2 = some (2,3):=by kernel_rfl
@[go_sem] theorem ty_fl26_3:fldT Tryz.prog 26 3 = some (3,23):=by kernel_rfl
@[go_sem] theorem ty_fl26_4:fldT Tryz.prog 26 4 = some (4,9):=by kernel_rfl
@[go_sem] theorem ty_fl26_5:fldT Tryz.prog 26 5 = some (5,24):=by kernel_rfl
@[go_sem] theorem ty_fl26_6:fldT Tryz.prog 26 6 = some (6,24):=by kernel_rfl
@[go_sem] theorem ty_fl26_7:fldT Tryz.prog 26 7 = some (7,3):=by kernel_rfl
@[go_sem] theorem ty_fl26_8:fldT Tryz.prog 26 8 = some (8,3):=by kernel_rfl
@[go_sem] theorem ty_pl26:plT Tryz.prog 26 = some [(0,1),(1,1),(2,1),(3,1),(4,1),(5,1),(6,1),(7,1),(8,1)]:=by kernel_rfl
@[go_sem] theorem ty_sz29:szT Tryz.prog 29 = some 1:=by kernel_rfl
@[go_sem] theorem ty_ag29:aggT Tryz.prog 29 = some false:=by kernel_rfl
@[go_sem] theorem ty_sl29:sliceT Tryz.prog 29 = some 77:=by kernel_rfl
@[go_sem] theorem ty_in29:intT Tryz.prog 29 = none:=by kernel_rfl
@[go_sem] theorem ty_st29:strT Tryz.prog 29 = false:=by kernel_rfl
@[go_sem] theorem ty_sz30:szT Tryz.prog 30 = some 1:=by kernel_rfl
@[go_sem] theorem ty_ag30:aggT Tryz.prog 30 = some false:=by kernel_rfl
@[go_sem] theorem ty_sl30:sliceT Tryz.prog 30 = some 99:=by kernel_rfl
@[go_sem] theorem ty_in30:intT Tryz.prog 30 = none:=by kernel_rfl
@[go_sem] theorem ty_st30:strT Tryz.prog 30 = false:=by kernel_rfl
@[go_sem] theorem ty_sz32:szT Tryz.prog 32 = some 2:=by kernel_rfl
@[go_sem] theorem ty_by32:byT Tryz.prog 32 = some 48:=by kernel_rfl
@[go_sem] theorem ty_ag32:aggT Tryz.prog 32 = some true:=by kernel_rfl
@[go_sem] theorem ty_ze32:zeT Tryz.prog 32 = some [.emp 0,.emp 0]:=by kernel_rfl
@[go_sem] theorem ty_zl32:zlT Tryz.prog 32 = some 2:=by kernel_rfl
@[go_sem] theorem ty_ar32:arrT Tryz.prog 32 = none:=by kernel_rfl
@[go_sem] theorem ty_fl32_0:fldT Tryz.prog 32 0 = some (0,29):=by kernel_rfl
@[go_sem] theorem ty_fl32_1:fldT Tryz.prog 32 1 = some (1,30):=by kernel_rfl
@[go_sem] theorem ty_pl32:plT Tryz.prog 32 = some [(0,1),(1,1)]:=by kernel_rfl
@[go_sem] theorem ty_sz33:szT Tryz.prog 33 = some 1:=by kernel_rfl
@[go_sem] theorem ty_ag33:aggT Tryz.prog 33 = some false:=by kernel_rfl
@[go_sem] theorem ty_sl33:sliceT Tryz.prog 33 = some 110:=by kernel_rfl
@[go_sem] theorem ty_in33:intT Tryz.prog 33 = none:=by kernel_rfl
@[go_sem] theorem ty_st33:strT Tryz.prog 33 = false:=by kernel_rfl
@[go_sem] theorem ty_sz34:szT Tryz.prog 34 = some 1:=by kernel_rfl
@[go_sem] theorem ty_ag34:aggT Tryz.prog 34 = some false:=by kernel_rfl
@[go_sem] theorem ty_sl34:sliceT Tryz.prog 34 = some 112:=by kernel_rfl
@[go_sem] theorem ty_in34:intT Tryz.prog 34 = none:=by kernel_rfl
@[go_sem] theorem ty_st34:strT Tryz.prog 34 = false:=by kernel_rfl
@[go_sem] theorem ty_sz35:szT Tryz.prog 35 = some 1:=by kernel_rfl
@[go_sem] theorem ty_ag35:aggT Tryz.prog 35 = some false:=by kernel_rfl
@[go_sem] theorem ty_sl35:sliceT Tryz.prog 35 = some 114:=by kernel_rfl
@[go_sem] theorem ty_in35:intT Tryz.prog 35 = none:=by kernel_rfl
@[go_sem] theorem ty_st35:strT Tryz.prog 35 = false:=by kernel_rfl
@[go_sem] theorem ty_sz37:szT Tryz.prog 37 = some 4:=by kernel_rfl
@[go_sem] theorem ty_by37:byT Tryz.prog 37 = some 80:=by kernel_rfl
@[go_sem] theorem ty_ag37:aggT Tryz.prog 37 = some true:=by kernel_rfl
@[go_sem] theorem ty_ze37:zeT Tryz.prog 37 = some [.data (.int .i64 0),.emp 0,.emp 0,.emp 0]:=by kernel_rfl
@[go_sem] theorem ty_zl37:zlT Tryz.prog 37 = some 4:=by kernel_rfl
@[go_sem] theorem ty_ar37:arrT Tryz.prog 37 = none:=by kernel_rfl
@[go_sem] theorem ty_fl37_0:fldT Tryz.prog 37 0 = some (0,3):=by kernel_rfl
@[go_sem] theorem ty_fl37_1:fldT Tryz.prog 37 1 = some (1,33):=by kernel_rfl
@[go_sem] theorem ty_fl37_2:fldT Tryz.prog 37 2 = some (2,34):=by kernel_rfl
@[go_sem] theorem ty_fl37_3:fldT Tryz.prog 37 3 = some (3,35):=by kernel_rfl
@[go_sem] theorem ty_pl37:plT Tryz.prog 37 = some [(0,1),(1,1),(2,1),(3,1)]:=by kernel_rfl
@[go_sem] theorem ty_sz39:szT Tryz.prog 39 = some 12:=by kernel_rfl
@[go_sem] theorem ty_ag39:aggT Tryz.prog 39 = some true:=by kernel_rfl
@[go_sem] theorem ty_ze39:zeT Tryz.prog 39 = some [.emp 0,.emp 0,.data (.int .i64 0),.data (.int .i64 0),.data (.int .i64 0),.emp 0,.emp 0,.emp 0,.data (.int .i64 0),.emp 0,.emp 0,.emp 0]:=by kernel_rfl
@[go_sem] theorem ty_ar39:arrT Tryz.prog 39 = none:=by kernel_rfl
@[go_sem] theorem ty_fl39_0:fldT Tryz.prog 39 0 = some (0,32):=by kernel_rfl
@[go_sem] theorem ty_fl39_1:fldT Tryz.prog 39 1 = some (2,3):=by kernel_rfl
@[go_sem] theorem ty_fl39_2:fldT Tryz.prog 39 2 = some (3,3):=by kernel_rfl
@[go_sem] theorem ty_fl39_3:fldT Tryz.prog 39 3 = some (4,37):=by kernel_rfl
@[go_sem] theorem ty_fl39_4:fldT Tryz.prog 39 4 = some (8,37):=by kernel_rfl
@[go_sem] theorem ty_pl39:plT Tryz.prog 39 = some [(0,2),(2,1),(3,1),(4,4),(8,4)]:=by kernel_rfl
@[go_sem] theorem ty_sz41:szT Tryz.prog 41 = some 1:=by kernel_rfl
@[go_sem] theorem ty_ag41:aggT Tryz.prog 41 = some false:=by kernel_rfl
@[go_sem] theorem ty_ze41:zeT Tryz.prog 41 = some [.data (.int .i64 0)]:=by kernel_rfl
@[go_sem] theorem ty_co41:concT Tryz.prog 41 = true:=by kernel_rfl
@[go_sem] theorem ty_sz50:szT Tryz.prog 50 = some 1:=by kernel_rfl
@[go_sem] theorem ty_ag50:aggT Tryz.prog 50 = some false:=by kernel_rfl
@[go_sem] theorem ty_ze50:zeT Tryz.prog 50 = some [.emp 0]:=by kernel_rfl
@[go_sem] theorem ty_sl50:sliceT Tryz.prog 50 = some 32:=by kernel_rfl
@[go_sem] theorem ty_in50:intT Tryz.prog 50 = none:=by kernel_rfl
@[go_sem] theorem ty_st50:strT Tryz.prog 50 = false:=by kernel_rfl
@[go_sem] theorem ty_sl58:sliceT Tryz.prog 58 = some 26:=by kernel_rfl
@[go_sem] theorem ty_sz59:szT Tryz.prog 59 = some 1:=by kernel_rfl
@[go_sem] theorem ty_ag59:aggT Tryz.prog 59 = some false:=by kernel_rfl
@[go_sem] theorem ty_sl59:sliceT Tryz.prog 59 = some 4:=by kernel_rfl
@[go_sem] theorem ty_sl60:sliceT Tryz.prog 60 = some 37:=by kernel_rfl
@[go_sem] theorem ty_in60:intT Tryz.prog 60 = none:=by kernel_rfl
@[go_sem] theorem ty_st60:strT Tryz.prog 60 = false:=by kernel_rfl
@[go_sem] theorem ty_fl67_0:fldT Tryz.prog 67 0 = some (0,22):=by kernel_rfl
@[go_sem] theorem ty_fl67_1:fldT Tryz.prog 67 1 = some (1,59):=by kernel_rfl
@[go_sem] theorem ty_fl67_2:fldT Tryz.prog 67 2 = some (2,3):=by kernel_rfl
@[go_sem] theorem ty_fl67_3:fldT Tryz.prog 67 3 = some (3,59):=by kernel_rfl
@[go_sem] theorem ty_sz73:szT Tryz.prog 73 = some 11:=by kernel_rfl
@[go_sem] theorem ty_ag73:aggT Tryz.prog 73 = some true:=by kernel_rfl
@[go_sem] theorem ty_fl73_0:fldT Tryz.prog 73 0 = some (0,3):=by kernel_rfl
@[go_sem] theorem ty_fl73_1:fldT Tryz.prog 73 1 = some (1,26):=by kernel_rfl
@[go_sem] theorem ty_fl73_2:fldT Tryz.prog 73 2 = some (10,59):=by kernel_rfl
@[go_sem] theorem ty_sz77:szT Tryz.prog 77 = some 1:=by kernel_rfl
@[go_sem] theorem ty_by77:byT Tryz.prog 77 = some 24:=by kernel_rfl
@[go_sem] theorem ty_ag77:aggT Tryz.prog 77 = some false:=by kernel_rfl
@[go_sem] theorem ty_ze77:zeT Tryz.prog 77 = some [.emp 0]:=by kernel_rfl
@[go_sem] theorem ty_zl77:zlT Tryz.prog 77 = some 1:=by kernel_rfl
@[go_sem] theorem ty_sl77:sliceT Tryz.prog 77 = some 5:=by kernel_rfl
@[go_sem] theorem ty_in77:intT Tryz.prog 77 = none:=by kernel_rfl
@[go_sem] theorem ty_bt77:bytT Tryz.prog 77 = true:=by kernel_rfl
@[go_sem] theorem ty_st77:strT Tryz.prog 77 = false:=by kernel_rfl
@[go_sem] theorem ty_ag89:aggT Tryz.prog 89 = some false:=by kernel_rfl
@[go_sem] theorem ty_sl89:sliceT Tryz.prog 89 = some 139:=by kernel_rfl
@[go_sem] theorem ty_in89:intT Tryz.prog 89 = none:=by kernel_rfl
@[go_sem] theorem ty_st89:strT Tryz.prog 89 = false:=by kernel_rfl
@[go_sem] theorem ty_sz99:szT Tryz.prog 99 = some 2:=by kernel_rfl
@[go_sem] theorem ty_by99:byT Tryz.prog 99 = some 32:=by kernel_rfl
@[go_sem] theorem ty_ag99:aggT Tryz.prog 99 = some true:=by kernel_rfl
@[go_sem] theorem ty_ze99:zeT Tryz.prog 99 = some [.data (.int .i64 0),.emp 0]:=by kernel_rfl
@[go_sem] theorem ty_zl99:zlT Tryz.prog 99 = some 2:=by kernel_rfl
@[go_sem] theorem ty_ar99:arrT Tryz.prog 99 = none:=by kernel_rfl
@[go_sem] theorem ty_fl99_0:fldT Tryz.prog 99 0 = some (0,3):=by kernel_rfl
@[go_sem] theorem ty_fl99_1:fldT Tryz.prog 99 1 = some (1,77):=by kernel_rfl
@[go_sem] theorem ty_pl99:plT Tryz.prog 99 = some [(0,1),(1,1)]:=by kernel_rfl
@[go_sem] theorem ty_sz110:szT Tryz.prog 110 = some 6:=by kernel_rfl
@[go_sem] theorem ty_by110:byT Tryz.prog 110 = some 56:=by kernel_rfl
@[go_sem] theorem ty_ag110:aggT Tryz.prog 110 = some true:=by kernel_rfl
@[go_sem] theorem ty_ze110:zeT Tryz.prog 110 = some [.data (.int .i64 0),.data (.int .i64 0),.data (.int .u32 0),.data (.str ByteArray.empty),.data (.int .u64 0),.data (.int .u64 0)]:=by kernel_rfl
@[go_sem] theorem ty_zl110:zlT Tryz.prog 110 = some 6:=by kernel_rfl
@[go_sem] theorem ty_ar110:arrT Tryz.prog 110 = none:=by kernel_rfl
@[go_sem] theorem ty_fl110_0:fldT Tryz.prog 110 0 = some (0,3):=by kernel_rfl
@[go_sem] theorem ty_fl110_1:fldT Tryz.prog 110 1 = some (1,3):=by kernel_rfl
@[go_sem] theorem ty_fl110_2:fldT Tryz.prog 110 2 = some (2,23):=by kernel_rfl
@[go_sem] theorem ty_fl110_3:fldT Tryz.prog 110 3 = some (3,9):=by kernel_rfl
@[go_sem] theorem ty_fl110_4:fldT Tryz.prog 110 4 = some (4,24):=by kernel_rfl
@[go_sem] theorem ty_fl110_5:fldT Tryz.prog 110 5 = some (5,24):=by kernel_rfl
@[go_sem] theorem ty_pl110:plT Tryz.prog 110 = some [(0,1),(1,1),(2,1),(3,1),(4,1),(5,1)]:=by kernel_rfl
@[go_sem] theorem ty_sz112:szT Tryz.prog 112 = some 5:=by kernel_rfl
@[go_sem] theorem ty_by112:byT Tryz.prog 112 = some 40:=by kernel_rfl
@[go_sem] theorem ty_ag112:aggT Tryz.prog 112 = some true:=by kernel_rfl
@[go_sem] theorem ty_ze112:zeT Tryz.prog 112 = some [.data (.int .i64 0),.data (.int .i64 0),.data (.int .u64 0),.data (.int .u64 0),.data (.int .i64 0)]:=by kernel_rfl
@[go_sem] theorem ty_zl112:zlT Tryz.prog 112 = some 5:=by kernel_rfl
@[go_sem] theorem ty_ar112:arrT Tryz.prog 112 = none:=by kernel_rfl
@[go_sem] theorem ty_zv112:zvT Tryz.prog 112 = some (.data (.agg [(.int .i64 0),(.int .i64 0),(.int .u64 0),(.int .u64 0),(.int .i64 0)])):=by kernel_rfl
@[go_sem] theorem ty_fl112_0:fldT Tryz.prog 112 0 = some (0,3):=by kernel_rfl
@[go_sem] theorem ty_fl112_1:fldT Tryz.prog 112 1 = some (1,3):=by kernel_rfl
@[go_sem] theorem ty_fl112_2:fldT Tryz.prog 112 2 = some (2,24):=by kernel_rfl
@[go_sem] theorem ty_fl112_3:fldT Tryz.prog 112 3 = some (3,24):=by kernel_rfl
@[go_sem] theorem ty_fl112_4:fldT Tryz.prog 112 4 = some (4,3):=by kernel_rfl
@[go_sem] theorem ty_pl112:plT Tryz.prog 112 = some [(0,1),(1,1),(2,1),(3,1),(4,1)]:=by kernel_rfl
@[go_sem] theorem ty_sz114:szT Tryz.prog 114 = some 3:=by kernel_rfl
@[go_sem] theorem ty_by114:byT Tryz.prog 114 = some 32:=by kernel_rfl
@[go_sem] theorem ty_ag114:aggT Tryz.prog 114 = some true:=by kernel_rfl
@[go_sem] theorem ty_ze114:zeT Tryz.prog 114 = some [.data (.str ByteArray.empty),.data (.int .i64 0),.data (.int .i64 0)]:=by kernel_rfl
@[go_sem] theorem ty_zl114:zlT Tryz.prog 114 = some 3:=by kernel_rfl
@[go_sem] theorem ty_ar114:arrT Tryz.prog 114 = none:=by kernel_rfl
@[go_sem] theorem ty_fl114_0:fldT Tryz.prog 114 0 = some (0,9):=by kernel_rfl
@[go_sem] theorem ty_fl114_1:fldT Tryz.prog 114 1 = some (1,3):=by kernel_rfl
@[go_sem] theorem ty_fl114_2:fldT Tryz.prog 114 2 = some (2,3):=by kernel_rfl
@[go_sem] theorem ty_pl114:plT Tryz.prog 114 = some [(0,1),(1,1),(2,1)]:=by kernel_rfl
@[go_sem] theorem ty_sz117:szT Tryz.prog 117 = some 13:=by kernel_rfl
@[go_sem] theorem ty_ze117:zeT Tryz.prog 117 = some [.data (.int .i64 0),.emp 0,.emp 0,.emp 0,.data (.int .i64 0),.data (.int .i64 0),.data (.int .i64 0),.data (.int .u32 0),.data (.str ByteArray.empty),.data (.int .u64 0),.data (.int .u64 0),.data (.int .i64 0),.data (.int .i64 0)]:=by kernel_rfl
@[go_sem] theorem ty_ar117:arrT Tryz.prog 117 = none:=by kernel_rfl
@[go_sem] theorem ty_fl117_0:fldT Tryz.prog 117 0 = some (0,37):=by kernel_rfl
@[go_sem] theorem ty_fl117_1:fldT Tryz.prog 117 1 = some (4,26):=by kernel_rfl
@[go_sem] theorem ty_pl117:plT Tryz.prog 117 = some [(0,4),(4,9)]:=by kernel_rfl
@[go_sem] theorem ty_mp120:mapT Tryz.prog 120 = some (3,119):=by kernel_rfl
@[go_sem] theorem ty_sz123:szT Tryz.prog 123 = some 11:=by kernel_rfl
@[go_sem] theorem ty_ag123:aggT Tryz.prog 123 = some true:=by kernel_rfl
@[go_sem] theorem ty_ze123:zeT Tryz.prog 123 = some [.data (.int .i64 0),.data (.int .i64 0),.data (.int .i64 0),.data (.int .i64 0),.data (.int .i64 0),.data (.int .u32 0),.data (.str ByteArray.empty),.data (.int .u64 0),.data (.int .u64 0),.data (.int .i64 0),.data (.int .i64 0)]:=by kernel_rfl
@[go_sem] theorem ty_ar123:arrT Tryz.prog 123 = none:=by kernel_rfl
@[go_sem] theorem ty_fl123_0:fldT Tryz.prog 123 0 = some (0,3):=by kernel_rfl
@[go_sem] theorem ty_fl123_1:fldT Tryz.prog 123 1 = some (1,3):=by kernel_rfl
@[go_sem] theorem ty_fl123_2:fldT Tryz.prog 123 2 = some (2,26):=by kernel_rfl
@[go_sem] theorem ty_pl123:plT Tryz.prog 123 = some [(0,1),(1,1),(2,9)]:=by kernel_rfl
@[go_sem] theorem ty_sl125:sliceT Tryz.prog 125 = some 164:=by kernel_rfl
@[go_sem] theorem ty_in125:intT Tryz.prog 125 = none:=by kernel_rfl
@[go_sem] theorem ty_st125:strT Tryz.prog 125 = false:=by kernel_rfl
@[go_sem] theorem ty_sz139:szT Tryz.prog 139 = some 1:=by kernel_rfl
@[go_sem] theorem ty_by139:byT Tryz.prog 139 = some 8:=by kernel_rfl
@[go_sem] theorem ty_ag139:aggT Tryz.prog 139 = some false:=by kernel_rfl
@[go_sem] theorem ty_ze139:zeT Tryz.prog 139 = some [.data .nilf]:=by kernel_rfl
@[go_sem] theorem ty_zl139:zlT Tryz.prog 139 = some 1:=by kernel_rfl
@[go_sem] theorem ty_ag162:aggT Tryz.prog 162 = some false:=by kernel_rfl
@[go_sem] theorem ty_sz164:szT Tryz.prog 164 = some 1:=by kernel_rfl
@[go_sem] theorem ty_by164:byT Tryz.prog 164 = some 16:=by kernel_rfl
@[go_sem] theorem ty_ag164:aggT Tryz.prog 164 = some false:=by kernel_rfl
@[go_sem] theorem ty_ze164:zeT Tryz.prog 164 = some [.data .nili]:=by kernel_rfl
@[go_sem] theorem ty_zl164:zlT Tryz.prog 164 = some 1:=by kernel_rfl
@[go_sem] theorem ty_sz168:szT Tryz.prog 168 = some 2:=by kernel_rfl
@[go_sem] theorem ty_ag168:aggT Tryz.prog 168 = some true:=by kernel_rfl
@[go_sem] theorem ty_ze168:zeT Tryz.prog 168 = some [.data (.int .i64 0),.data (.int .u64 0)]:=by kernel_rfl
@[go_sem] theorem ty_ar168:arrT Tryz.prog 168 = none:=by kernel_rfl
@[go_sem] theorem ty_co168:concT Tryz.prog 168 = true:=by kernel_rfl
@[go_sem] theorem ty_zv168:zvT Tryz.prog 168 = some (.data (.agg [(.int .i64 0),(.int .u64 0)])):=by kernel_rfl
@[go_sem] theorem ty_fl168_0:fldT Tryz.prog 168 0 = some (0,3):=by kernel_rfl
@[go_sem] theorem ty_fl168_1:fldT Tryz.prog 168 1 = some (1,24):=by kernel_rfl
@[go_sem] theorem ty_pl168:plT Tryz.prog 168 = some [(0,1),(1,1)]:=by kernel_rfl
@[go_sem] theorem ty_co172:concT Tryz.prog 172 = true:=by kernel_rfl
@[go_sem] theorem ty_st172:strT Tryz.prog 172 = true:=by kernel_rfl
@[go_sem] theorem ty_ze200:zeT Tryz.prog 200 = some [.emp 0]:=by kernel_rfl
@[go_sem] theorem ty_ar200:arrT Tryz.prog 200 = none:=by kernel_rfl
@[go_sem] theorem ty_fl200_0:fldT Tryz.prog 200 0 = some (0,77):=by kernel_rfl
@[go_sem] theorem ty_pl200:plT Tryz.prog 200 = some [(0,1)]:=by kernel_rfl
@[go_sem] theorem ty_mp219:mapT Tryz.prog 219 = some (3,112):=by kernel_rfl
theorem mixed:Tryz.prog.follows .mixedOrders = true:=by kernel_rfl
end Go.Proofs.YtjkpeebajibgiaaGreat
namespace Go.Proofs.YtjkpeebajibgiaaGreat
open Go.RowKit
set_option linter.unusedSimpArgs false
set_option linter.unusedVariables false
set_option maxRecDepth 100000
set_option maxRecDepth 100000 in
theorem row_pc (Γ:Nat->Option (List Data)) (a b:List Nat) (ha:a.length≤100000000000) (hb:b.length≤100000000000):PC Tryz.prog Γ 52 [.sl 1 (bys a),.sl 1 (bys b)] (.bool (decide (a = b))):=by
 refine pc_by mixed Tryz.func52 rfl (fun args w=>Tryz.call52 args w) ?_
 simp -implicitDefEqProofs (disch:=omega) [go_sem,Tryz.f52]
 refine ifW_ndec (fun h=>?_) (fun h=>?_)
 · have hne:a≠b:=fun e=>h (by rw [e])
   simp -implicitDefEqProofs (disch:=omega) [go_sem,Tryz.f52,hne]
 · have hl:a.length = b.length:=by omega
   simp -implicitDefEqProofs (disch:=omega) [go_sem]
   refine loop_of (σ:={ i:Nat // i≤a.length∧∀ j,j < i->a[j]? = b[j]? }) (fun i=>⟨envL [(0,.data (.sl 1 (bys a))),(1,.data (.sl 1 (bys b))),(5,.data (.int .i64 i.1))],hpL [],0,0,26⟩) (fun i=>a.length - i.1) ⟨0,by omega,by omega⟩ ?_ ?_
   · apply weak_lists <;> simp -implicitDefEqProofs [go_sem]
   · rintro ⟨i,hi,heq⟩
     simp -implicitDefEqProofs (disch:=omega) [go_sem]
     refine ifW_dec (fun h=>?_) (fun h=>?_)
     · have hia:i < a.length:=by omega
       simp -implicitDefEqProofs (disch:=omega) [go_sem]
       refine side (by kernel_rfl) ?_
       simp -implicitDefEqProofs (disch:=omega) [go_sem]
       refine ifW_ndec (fun h2=>?_) (fun h2=>?_)
       · have hne:a≠b:=fun e=>h2 (by subst e;rfl)
         simp -implicitDefEqProofs (disch:=omega) [go_sem,Tryz.f52,hne]
       · simp -implicitDefEqProofs (disch:=omega) [go_sem]
         refine next_of ⟨i + 1,by omega,fun j hj=>?_⟩ ?_ (by simp only;omega)
         · by_cases e:j = i
           · subst e
             rw [List.getElem?_eq_getElem hia,List.getElem?_eq_getElem (by omega)]
             congr 1
             omega
           · exact heq j (by omega)
         apply weak_lists <;> simp -implicitDefEqProofs [go_sem]
     · have hab:a = b:=List.ext_getElem? fun j=>by
        by_cases hj:j < a.length
        · exact heq j (by omega)
        · rw [List.getElem?_eq_none (by omega),List.getElem?_eq_none (by omega)]
       simp -implicitDefEqProofs (disch:=omega) [go_sem,Tryz.f52,hab]
abbrev Wr:=Int × List Nat
def sec (b:List Nat):Data:=.sl 1 (bys b)
def wr (p:Wr):Data:=.agg [.int .i64 p.1,.sl 1 (bys p.2)]
def secs (l:List (List Nat)):List Data:=l.map sec
def wrs (l:List Wr):List Data:=l.map wr
@[go_sem] theorem secs_length (l:List (List Nat)):(secs l).length = l.length:=by simp [secs]
@[go_sem] theorem wrs_length (l:List Wr):(wrs l).length = l.length:=by simp [wrs]
@[go_sem] theorem secs_get (l:List (List Nat)) (i:Nat):(secs l)[i]? = (l[i]?).map sec:=by simp [secs]
@[go_sem] theorem wrs_get (l:List Wr) (i:Nat):(wrs l)[i]? = (l[i]?).map wr:=by simp [wrs]
@[go_sem] theorem sec_cells (b:List Nat):(sec b).cells = [.sl 1 (bys b)]:=rfl
@[go_sem] theorem wr_cells (p:Wr):(wr p).cells = [.int .i64 p.1,.sl 1 (bys p.2)]:=rfl
/-- What stands in a sector where b stood,when the writes are done. -/
def std (at_:Int) (b:List Nat):List Wr->List Nat
 | ws=>ws.foldl (fun o p=>if p.1 = at_ then p.2 else o) b
theorem std_succ (at_:Int) (b:List Nat) (ws:List Wr) (i:Nat) (h:i < ws.length):std at_ b (ws.take (i + 1)) = if ws[i].1 = at_ then ws[i].2 else std at_ b (ws.take i):=by
 unfold std
 rw [List.take_add_one,List.getElem?_eq_getElem h,Option.toList_some,List.foldl_append]
 simp only [List.foldl_cons,List.foldl_nil]
theorem std_len {at_:Int} {b:List Nat} {ws:List Wr} (hb:b.length = 128) (hw:∀ p∈ws,p.2.length = 128):(std at_ b ws).length = 128:=by
 unfold std
 induction ws generalizing b with
 | nil=>exact hb
 | cons p ws ih =>
   simp only [List.foldl_cons]
   refine ih ?_ fun q hq=>hw q (by simp [hq])
   split
   · exact hw p (by simp)
   · exact hb
theorem std_lt {at_:Int} {b:List Nat} {ws:List Wr} (hb:∀ x∈b,x < 256) (hw:∀ p∈ws,∀ x∈p.2,x < 256):∀ x∈std at_ b ws,x < 256:=by
 unfold std
 induction ws generalizing b with
 | nil=>exact hb
 | cons p ws ih =>
   simp only [List.foldl_cons]
   refine ih ?_ fun q hq=>hw q (by simp [hq])
   split
   · exact hw p (by simp)
   · exact hb
set_option maxRecDepth 100000 in
theorem copied_oc (Γ:Nat->Option (List Data)) (b:List Nat) (hb:b.length≤100000000):OC Tryz.prog Γ 126 [.sl 1 (bys b)] (.ref 0 0 b.length 1) [(0,.blk true ((bys b).map .data))] 1:=by
 refine oc_by mixed Tryz.func126 rfl (fun args w=>Tryz.call126 args w) ?_
 have ht:List.take b.length (List.map D.data (bys b)) = List.map D.data (bys b):=List.take_of_length_le (by simp [bys_length])
 simp -implicitDefEqProofs (disch:=omega) [go_sem,Tryz.f126]
 refine own_of [] [(0,some 3)] ?_
 apply ren_lists <;> simp -implicitDefEqProofs [go_sem]
theorem isSector_pc (Γ:Nat->Option (List Data)) (a:Int):PC Tryz.prog Γ 127 [.int .i64 a] (.bool (decide (0≤a∧a < 64))):=by
 refine pc_by mixed Tryz.func127 rfl (fun args w=>Tryz.call127 args w) ?_
 by_cases h:0≤a
 · by_cases h2:a < 64
   · simp -implicitDefEqProofs (disch:=omega) [go_sem,Tryz.f127]
   · simp -implicitDefEqProofs (disch:=omega) [go_sem,Tryz.f127]
 · simp -implicitDefEqProofs (disch:=omega) [go_sem,Tryz.f127]
theorem copied_pc (Γ:Nat->Option (List Data)) (b:List Nat) (hb:b.length≤100000000):PC Tryz.prog Γ 126 [.sl 1 (bys b)] (.sl 1 (bys b)) :=
 pc_of_oc (copied_oc Γ b hb) (frz_ref (rw:=true) (cells:=(bys b).map D.data) rfl (.inl rfl) (bys_length b) (bys_cells b) (by rw [flat_bys]))
def wrOk (p:Wr):Bool:=decide (0≤p.1∧p.1 < 64) && decide (p.2.length = 128)
theorem fits_pc (Γ:Nat->Option (List Data)) (p:Wr):PC Tryz.prog Γ 76 [wr p] (.bool (wrOk p)):=by
 refine pc_by mixed Tryz.func76 rfl (fun args w=>Tryz.call76 args w) ?_
 by_cases h:0≤p.1∧p.1 < 64
 · have hs:=isSector_pc Γ p.1
   rw [decide_eq_true h] at hs
   simp -implicitDefEqProofs (disch:=omega) [go_sem,Tryz.f76,wr,wrOk]
   refine .inl (call_data hs (by simp [go_sem]) ?_)
   simp -implicitDefEqProofs (disch:=omega) [go_sem,Tryz.f76,h.1,h.2]
   simp [wrOk,h]
   omega
 · have hs:=isSector_pc Γ p.1
   rw [decide_eq_false h] at hs
   simp -implicitDefEqProofs (disch:=omega) [go_sem,Tryz.f76,wr,wrOk]
   refine .inl (call_data hs (by simp [go_sem]) ?_)
   simp -implicitDefEqProofs (disch:=omega) [go_sem,Tryz.f76]
   simp only [wrOk,decide_eq_false h,Bool.false_and]
theorem cpy128 {o b:List Nat} (ho:o.length = 128) (hb:b.length = 128):over ((bys o).map D.data) 0 ((bys b).map D.data) = (bys b).map D.data:=over_map _ _ (by simp [bys_length,ho,hb])
theorem take128 {b:List Nat} (hb:b.length = 128):List.take 128 b = b:=List.take_of_length_le (by omega)
set_option maxRecDepth 100000 in
theorem stands_pc (Γ:Nat->Option (List Data)) (b:List Nat) (a:Int) (ws:List Wr) (hb:b.length = 128) (hw:∀ p∈ws,p.2.length = 128) (hl:ws.length≤1000):PC Tryz.prog Γ 125 [.sl 1 (bys b),.int .i64 a,.sl 2 (wrs ws)] (.sl 1 (bys (std a b ws))):=by
 refine pc_by mixed Tryz.func125 rfl (fun args w=>Tryz.call125 args w) ?_
 simp -implicitDefEqProofs (disch:=omega) [go_sem,Tryz.f125]
 refine .inr (dc_own [] (by simp) (copied_oc Γ b (by omega)) (by simp [go_sem]) ?_)
 simp -implicitDefEqProofs (disch:=omega) [go_sem]
 refine loop_ren (σ:={ i:Nat // i≤ws.length }) (fun i=>⟨envL [(1,.data (.int .i64 a)),(7,.ref 0 0 128 1),(12,.data (.sl 2 (wrs ws))),(13,.data (.int .i64 ws.length)),(14,.data (.int .i64 i.1))],hpL [(0,.blk true ((bys (std a b (ws.take i.1))).map .data))],1,0,28⟩) (fun i=>ws.length - i.1) ⟨0,by omega⟩ [] (rhoL [(0,some 2)]) ?_ ?_
 · apply ren_lists <;> simp -implicitDefEqProofs [go_sem,std]
   omega
 · rintro ⟨i,hi⟩
   by_cases h:i < ws.length
   · have hsl:(std a b (ws.take i)).length = 128:=std_len hb fun p hp=>hw p (List.mem_of_mem_take hp)
     have hss:=std_succ a b ws i h
     have hwl:=hw _ (List.getElem_mem h)
     by_cases he:ws[i].1 = a
     · rw [if_pos he] at hss
       simp -implicitDefEqProofs (disch:=omega) [go_sem,he,cpy128,take128]
       refine next_ren ⟨i + 1,by omega⟩ (by simp only;omega) [] (rhoL []) ?_
       apply ren_lists <;> simp -implicitDefEqProofs [go_sem,hss]
     · rw [if_neg he] at hss
       simp -implicitDefEqProofs (disch:=omega) [go_sem]
       refine next_ren ⟨i + 1,by omega⟩ (by simp only;omega) [] (rhoL []) ?_
       apply ren_lists <;> simp -implicitDefEqProofs [go_sem,hss]
   · have:i = ws.length:=by omega
     subst this
     have hsl:(std a b ws).length = 128:=std_len hb hw
     simp -implicitDefEqProofs (disch:=omega) [go_sem,Tryz.f125]
     exact ⟨_,⟨_,rfl,frz_bys (rw:=true) (by simp [go_sem]) (.inl rfl) hsl⟩,rfl⟩
theorem wrs_cells (ws:List Wr):∀ x∈wrs ws,x.cells.length = 2:=fun x hx=>by
 obtain ⟨p,_,rfl⟩:=List.mem_map.1 hx
 rfl
theorem secs_cells (l:List (List Nat)):∀ x∈secs l,x.cells.length = 1:=fun x hx=>by
 obtain ⟨p,_,rfl⟩:=List.mem_map.1 hx
 rfl
def dWr:List D:=[.data (.int .i64 0),.emp 0]
theorem wrs_at {ws:List Wr} {i:Nat} (h:i < ws.length):(wrs ws)[i]'(by simpa [wrs] using h) = wr ws[i]:=by simp [wrs]
theorem secs_at {l:List (List Nat)} {i:Nat} (h:i < l.length):(secs l)[i]'(by simpa [secs] using h) = sec l[i]:=by simp [secs]
set_option maxRecDepth 100000 in
theorem copiedPuts_oc (Γ:Nat->Option (List Data)) (ws:List Wr) (hw:∀ p∈ws,p.2.length≤1000) (hl:ws.length≤1000):OC Tryz.prog Γ 75 [.sl 2 (wrs ws)] (.ref 0 0 ws.length 2) [(0,.blk true ((flat (wrs ws)).map .data))] 1:=by
 refine oc_by mixed Tryz.func75 rfl (fun args w=>Tryz.call75 args w) ?_
 have hF:∀ x∈wrs ws,x.cells.length = dWr.length:=wrs_cells ws
 have r0:=rowc_zero (wrs ws) dWr
 rw [wrs_length] at r0
 simp -implicitDefEqProofs (disch:=omega) [go_sem,Tryz.f75]
 refine loop_ren (σ:={ i:Nat // i≤ws.length }) (fun i=>⟨envL [(3,.ref 0 0 ws.length 2),(9,.data (.sl 2 (wrs ws))),(10,.data (.int .i64 ws.length)),(11,.data (.int .i64 i.1))],hpL [(0,.blk true (rowc (wrs ws) dWr i.1))],1,0,27⟩) (fun i=>ws.length - i.1) ⟨0,by omega⟩ [] (rhoL [(0,some 3)]) ?_ ?_
 · apply ren_lists <;> simp -implicitDefEqProofs [go_sem]
   exact renCells_rowc rfl r0
 · rintro ⟨i,hi⟩
   have hrl:(rowc (wrs ws) dWr i).length = ws.length * 2:=by rw [rowc_length hF i (by rw [wrs_length];exact hi),wrs_length];rfl
   by_cases h:i < ws.length
   · have hwl:=hw _ (List.getElem_mem h)
     have hov:=rowc_over hF (i:=i) (by rw [wrs_length];exact h)
     rw [wrs_at h] at hov
     have hov2:=(over2 _ _ _ _).symm.trans hov
     have hcp:=copied_pc Γ ws[i].2 (by omega)
     simp -implicitDefEqProofs (disch:=omega) [go_sem]
     refine .inl (call_data hcp (by simp [go_sem]) ?_)
     simp -implicitDefEqProofs (disch:=omega) [go_sem]
     refine side (by kernel_rfl) ?_
     simp -implicitDefEqProofs (disch:=omega) [go_sem]
     refine next_ren ⟨i + 1,by omega⟩ (by simp only;omega) [] (rhoL []) ?_
     apply ren_lists <;> simp -implicitDefEqProofs [go_sem]
     exact renCells_rowc rfl hov2.symm
   · have:i = ws.length:=by omega
     subst this
     simp -implicitDefEqProofs (disch:=omega) [go_sem,Tryz.f75]
     refine own_of [] [(0,some 0)] ?_
     have re:=rowc_end (wrs ws) dWr
     rw [wrs_length] at re
     apply ren_lists <;> simp -implicitDefEqProofs [go_sem,re]
def flush (s:List (List Nat)) (ws:List Wr):List (List Nat):=(List.range s.length).map fun i:Nat=>std (i:Int) (s.getD i []) ws
theorem flush_length (s:List (List Nat)) (ws:List Wr):(flush s ws).length = s.length:=by simp [flush]
theorem flush_at (s:List (List Nat)) (ws:List Wr) (i:Nat) (h:i < s.length):(flush s ws)[i]'(by rw [flush_length];exact h) = std (i:Int) s[i] ws:=by
 simp [flush,List.getD_eq_getElem?_getD,h]
theorem flush_nil (s:List (List Nat)):flush s [] = s:=by
 apply List.ext_getElem?
 intro i
 by_cases h:i < s.length
 · simp [flush,std,h]
 · simp [flush,h]
def dSec:List D:=[.emp 0]
def dk (s:List (List Nat)) (w:List Wr):Data:=.agg [.sl 1 (secs s),.sl 2 (wrs w)]
set_option maxRecDepth 100000 in
theorem behind_pc (Γ:Nat->Option (List Data)) (s:List (List Nat)) (w ws:List Wr) (hs:∀ b∈s,b.length = 128) (hn:s.length≤1000) (hw:∀ p∈ws,p.2.length = 128) (hl:ws.length≤1000):PC Tryz.prog Γ 74 [dk s w,.sl 2 (wrs ws)] (dk (flush s ws) []):=by
 refine pc_by mixed Tryz.func74 rfl (fun args w=>Tryz.call74 args w) ?_
 have hF:∀ x∈secs (flush s ws),x.cells.length = dSec.length:=secs_cells _
 have r0:=rowc_zero (secs (flush s ws)) dSec
 have re:=rowc_end (secs (flush s ws)) dSec
 rw [secs_length,flush_length] at r0 re
 have r0':rowc (secs (flush s ws)) dSec 0 = List.replicate s.length (D.emp 0):=by rw [r0];simp [dSec]
 simp -implicitDefEqProofs (disch:=omega) [go_sem,Tryz.f74,dk]
 refine loop_ren (σ:={ i:Nat // i≤s.length }) (fun i=>⟨envL [(1,.data (.sl 2 (wrs ws))),(4,.ptr 0 0),(5,.ref 1 0 s.length 1),(13,.data (.sl 1 (secs s))),(14,.data (.int .i64 s.length)),(15,.data (.int .i64 i.1))],hpL [(0,.blk true [.emp 0,.emp 0]),(1,.blk true (rowc (secs (flush s ws)) dSec i.1))],2,0,30⟩) (fun i=>s.length - i.1) ⟨0,by omega⟩ [] (rhoL [(0,some 1),(1,some 5)]) ?_ ?_
 · apply ren_lists <;> simp -implicitDefEqProofs [go_sem]
   exact renCells_rowc rfl r0'
 · rintro ⟨i,hi⟩
   have hrl:(rowc (secs (flush s ws)) dSec i).length = s.length:=by rw [rowc_length hF i (by rw [secs_length,flush_length];exact hi),secs_length,flush_length];simp [dSec]
   by_cases h:i < s.length
   · have hov:=rowc_over hF (i:=i) (by rw [secs_length,flush_length];exact h)
     rw [secs_at (by rw [flush_length];exact h),flush_at s ws i h] at hov
     have hov1:(rowc (secs (flush s ws)) dSec i).set i (.data (.sl 1 (bys (std (i:Int) s[i] ws)))) = rowc (secs (flush s ws)) dSec (i + 1):=by
      have:=(over1 _ _ _).symm.trans hov
      simpa [dSec,sec] using this
     have hst:=stands_pc Γ s[i] i ws (hs _ (List.getElem_mem h)) hw hl
     simp -implicitDefEqProofs (disch:=omega) [go_sem,sec]
     refine .inl (call_data hst (by simp [go_sem]) ?_)
     simp -implicitDefEqProofs (disch:=omega) [go_sem]
     refine next_ren ⟨i + 1,by omega⟩ (by simp only;omega) [] (rhoL []) ?_
     apply ren_lists <;> simp -implicitDefEqProofs [go_sem]
     exact renCells_rowc rfl hov1.symm
   · have:i = s.length:=by omega
     subst this
     simp -implicitDefEqProofs (disch:=omega) [go_sem,Tryz.f74,re]
     exact ⟨_,⟨_,rfl,frz_aggL (frzL_c (frz_ref (rw:=true) (cells:=(flat (secs (flush s ws))).map D.data) (by simp [go_sem]) (.inl rfl) (by rw [secs_length,flush_length]) (secs_cells _) rfl) (frzL_c (.emp 0 2) frzL_n))⟩,rfl⟩
structure Dok (s:List (List Nat)) (w:List Wr):Prop where
 n:s.length = 64
 len:∀ b∈s,b.length = 128
 lt:∀ b∈s,∀ x∈b,x < 256
 wlen:∀ p∈w,p.2.length = 128
 wat:∀ p∈w,0≤p.1∧p.1 < 64
 wlt:∀ p∈w,∀ x∈p.2,x < 256
 wn:w.length≤200
theorem flush_ok {s:List (List Nat)} {w ws:List Wr} (h:Dok s w) (hs:∀ p∈ws,p∈w):Dok (flush s ws) [] where
 n:=by rw [flush_length];exact h.n
 len:=fun b hb=>by
  obtain ⟨i,hi,rfl⟩:=List.getElem_of_mem hb
  rw [flush_at s ws i (by rw [flush_length] at hi;exact hi)]
  exact std_len (h.len _ (List.getElem_mem _)) fun p hp=>h.wlen p (hs p hp)
 lt:=fun b hb=>by
  obtain ⟨i,hi,rfl⟩:=List.getElem_of_mem hb
  rw [flush_at s ws i (by rw [flush_length] at hi;exact hi)]
  exact std_lt (h.lt _ (List.getElem_mem _)) fun p hp=>h.wlt p (hs p hp)
 wlen:=fun p hp=>by cases hp
 wat:=fun p hp=>by cases hp
 wlt:=fun p hp=>by cases hp
 wn:=by simp
theorem flushes_pc (Γ:Nat->Option (List Data)) (s:List (List Nat)) (w:List Wr) (h:Dok s w):PC Tryz.prog Γ 49 [dk s w] (dk (flush s w) []):=by
 refine pc_by mixed Tryz.func49 rfl (fun args w=>Tryz.call49 args w) ?_
 have hb:=behind_pc Γ s w w h.len (by have:=h.n;omega) h.wlen (by have:=h.wn;omega)
 simp -implicitDefEqProofs (disch:=omega) [go_sem,Tryz.f49,dk]
 refine .inl (call_data hb (by simp [go_sem,dk]) ?_)
 simp -implicitDefEqProofs (disch:=omega) [go_sem,dk]
theorem read_pc (Γ:Nat->Option (List Data)) (s:List (List Nat)) (w:List Wr) (h:Dok s w) (a:Int):PC Tryz.prog Γ 101 [dk s w,.int .i64 a] (if 0≤a∧a < 64 then .tup [.sl 1 (bys (std a (s.getD a.toNat []) w)),.int .i64 0] else .tup [.sl 1 [],.int .i64 1]):=by
 refine pc_by mixed Tryz.func101 rfl (fun args w=>Tryz.call101 args w) ?_
 have hn:=h.n
 by_cases ha:0≤a∧a < 64
 · have his:=isSector_pc Γ a
   rw [decide_eq_true ha] at his
   rw [if_pos ha]
   have hlt:a.toNat < s.length:=by omega
   have hgd:s.getD a.toNat [] = s[a.toNat]:=by simp [List.getD_eq_getElem?_getD,hlt]
   have hst:=stands_pc Γ s[a.toNat] a w (h.len _ (List.getElem_mem hlt)) h.wlen (by have:=h.wn;omega)
   rw [hgd]
   simp -implicitDefEqProofs (disch:=omega) [go_sem,Tryz.f101,dk]
   refine .inl (call_data his (by simp [go_sem]) ?_)
   simp -implicitDefEqProofs (disch:=omega) [go_sem,sec]
   refine .inl (call_data hst (by simp [go_sem]) ?_)
   simp -implicitDefEqProofs (disch:=omega) [go_sem]
   refine side (by kernel_rfl) ?_
   simp -implicitDefEqProofs (disch:=omega) [go_sem,Tryz.f101]
 · have his:=isSector_pc Γ a
   rw [decide_eq_false ha] at his
   rw [if_neg ha]
   simp -implicitDefEqProofs (disch:=omega) [go_sem,Tryz.f101,dk]
   refine .inl (call_data his (by simp [go_sem]) ?_)
   simp -implicitDefEqProofs (disch:=omega) [go_sem,Tryz.f101]
   exact ⟨_,⟨_,rfl,.emp 1 1⟩,rfl⟩
theorem wrs_append (a b:List Wr):flat (wrs a)++flat (wrs b) = flat (wrs (a++b)):=by simp [wrs,flat]
theorem flat_wrs1 (p:Wr):flat (wrs [p]) = [.int .i64 p.1,.sl 1 (bys p.2)]:=rfl
theorem fz_wrs {ok:Bool} {H:Nat->Blk} {g n:Nat} {l:List Wr} {rw:Bool} (hg:H g = .blk rw ((flat (wrs l)).map D.data)) (hrw:ok = true ∨ rw = false) (hn:l.length = n):Frz ok H (.ref g 0 n 2) (.sl 2 (wrs l)) :=
 frz_ref hg hrw (by rw [wrs_length,hn]) (wrs_cells l) rfl
@[go_sem] theorem flat_wrs_length (l:List Wr):(flat (wrs l)).length = l.length * 2:=by rw [flat_len (wrs_cells l),wrs_length]
@[go_sem] theorem flat_wrs_cell (l:List Wr):(∀ x∈flat (wrs l),x.cell = true) ↔ True:=iff_true_intro fun x hx=>by
 obtain ⟨y,hy,hx⟩:=List.mem_flatMap.1 hx
 obtain ⟨p,_,rfl⟩:=List.mem_map.1 hy
 simp [wr,Data.cells] at hx
 rcases hx with rfl | rfl <;> rfl
@[go_sem] theorem flat_secs (l:List (List Nat)):flat (secs l) = secs l:=by
 induction l with
 | nil=>rfl
 | cons b l ih=>simp only [secs,flat,List.map_cons,List.flatMap_cons] at ih ⊢;rw [ih];rfl
def wrote (s:List (List Nat)) (w:List Wr) (a:Int) (b:List Nat):Data:=if wrOk (a,b) then .tup [dk s (w++[(a,b)]),.int .i64 0] else .tup [dk s w,.int .i64 1]
set_option maxRecDepth 100000 in
theorem write_pc (Γ:Nat->Option (List Data)) (s:List (List Nat)) (w:List Wr) (h:Dok s w) (a:Int) (b:List Nat) (hbl:b.length≤140737488351232):PC Tryz.prog Γ 41 [dk s w,.int .i64 a,.sl 1 (bys b)] (wrote s w a b):=by
 refine pc_by mixed Tryz.func41 rfl (fun args w=>Tryz.call41 args w) ?_
 have hb:=behind_pc Γ s w [] h.len (by have:=h.n;omega) (by simp) (by simp)
 rw [flush_nil] at hb
 have hwn:=h.wn
 have hc:=copiedPuts_oc Γ w (fun p hp=>by have:=h.wlen p hp;omega) (by have:=h.wn;omega)
 have hfit:=fits_pc Γ (a,b)
 simp -implicitDefEqProofs (disch:=omega) [go_sem,Tryz.f41,dk]
 refine .inl (call_frz [] [] (by simp) hb (fun H' _=>frzL_c ((frz_data _ _ _ _).2 rfl) (frzL_c (.emp _ _) frzL_n)) ?_)
 simp -implicitDefEqProofs (disch:=omega) [go_sem,dk]
 refine .inr (dc_own [] (by simp) hc (by simp [go_sem]) ?_)
 simp -implicitDefEqProofs (disch:=omega) [go_sem]
 refine .inl (call_data hfit (by simp [go_sem,wr]) ?_)
 by_cases hf:wrOk (a,b) = true
 · rw [hf]
   have hb1:b.length = 128:=by simp [wrOk] at hf;omega
   have hc1:=copiedPuts_oc Γ [(a,b)] (fun p hp=>by simp at hp;subst hp;show b.length≤1000;omega) (by simp)
   have hp1:=pc_of_oc hc1 (fz_wrs (rw:=true) (l:=[(a,b)]) rfl (.inl rfl) rfl)
   simp -implicitDefEqProofs (disch:=omega) [go_sem,wrote,hf]
   refine .inl (call_keep 23 (rw:=true) (cells:=[D.data (.int .i64 a),.data (.sl 1 (bys b))]) hp1 (by simp [go_sem]) (fun H' hH'=>frzL_c (fz_wrs (rw:=false) (l:=[(a,b)]) hH' (.inr rfl) rfl) frzL_n) ?_)
   simp -implicitDefEqProofs (disch:=omega) [go_sem]
   refine side (by kernel_rfl) ?_
   simp -implicitDefEqProofs (disch:=omega) [go_sem,Tryz.f41]
   refine ⟨_,⟨_,rfl,frz_aggL (frzL_c ((frz_data _ _ _ _).2 rfl) (frzL_c (fz_wrs (rw:=true) (l:=w++[(a,b)]) (by simp [go_sem,<- wrs_append]) (.inl rfl) (by simp)) frzL_n))⟩,?_⟩
   simp only [wrote,hf,if_true];rfl
 · have hf':wrOk (a,b) = false:=by simpa using hf
   rw [hf']
   simp -implicitDefEqProofs (disch:=omega) [go_sem,wrote,hf',Tryz.f41]
   exact ⟨_,⟨_,rfl,frz_aggL (frzL_c ((frz_data _ _ _ _).2 rfl) (frzL_c (fz_wrs (rw:=true) (l:=w) (by simp [go_sem]) (.inl rfl) rfl) frzL_n))⟩,rfl⟩
def bools (l:List Bool):List Data:=l.map Data.bool
@[go_sem] theorem bools_length (l:List Bool):(bools l).length = l.length:=by simp [bools]
@[go_sem] theorem bools_get (l:List Bool) (i:Nat):(bools l)[i]? = (l[i]?).map Data.bool:=by simp [bools]
def keepAt (keep:List Bool) (i:Nat):Bool:=keep.getD i false
/-- The writes that are kept. -/
def kept (keep:List Bool):Nat->List Wr->List Wr
 | _,[]=>[]
 | i,p :: w=>if keepAt keep i then p :: kept keep (i + 1) w else kept keep (i + 1) w
theorem kept_append (keep:List Bool):∀ (a b:List Wr) (i:Nat),kept keep i (a++b) = kept keep i a++kept keep (i + a.length) b
 | [],b,i=>by simp [kept]
 | p :: a,b,i=>by
   have ih:=kept_append keep a b (i + 1)
   simp only [List.cons_append,kept,ih,List.length_cons]
   have e:i + 1 + a.length = i + (a.length + 1):=by omega
   rw [e]
   split <;> rfl
theorem kept_succ (keep:List Bool) (w:List Wr) (i:Nat) (h:i < w.length):kept keep 0 (w.take (i + 1)) = kept keep 0 (w.take i)++(if keepAt keep i then [w[i]] else []):=by
 rw [List.take_add_one,List.getElem?_eq_getElem h,Option.toList_some,kept_append,List.length_take,Nat.min_eq_left (by omega),Nat.zero_add]
 simp only [kept]
theorem kept_sub (keep:List Bool):∀ (w:List Wr) (i:Nat),∀ p∈kept keep i w,p∈w
 | [],_,p,h=>by cases h
 | q :: w,i,p,h=>by
   simp only [kept] at h
   split at h
   · rcases List.mem_cons.1 h with rfl | h
     · simp
     · exact List.mem_cons_of_mem _ (kept_sub keep w _ p h)
   · exact List.mem_cons_of_mem _ (kept_sub keep w _ p h)
theorem kept_le (keep:List Bool):∀ (w:List Wr) (i:Nat),(kept keep i w).length≤w.length
 | [],_=>by simp [kept]
 | q :: w,i=>by
   have:=kept_le keep w (i + 1)
   simp only [kept]
   split <;> simp <;> omega
def noughts:List Nat:=List.replicate 128 0
def zeroS:List (List Nat):=List.replicate 64 noughts
set_option maxRecDepth 100000 in
theorem new_pc (Γ:Nat->Option (List Data)):PC Tryz.prog Γ 53 [] (dk zeroS []):=by
 refine pc_by mixed Tryz.func53 rfl (fun args w=>Tryz.call53 args w) ?_
 have hF:∀ x∈secs zeroS,x.cells.length = dSec.length:=secs_cells _
 have r0:=rowc_zero (secs zeroS) dSec
 have re:=rowc_end (secs zeroS) dSec
 have h64:zeroS.length = 64:=rfl
 rw [secs_length,h64] at r0 re
 have r0':rowc (secs zeroS) dSec 0 = List.replicate 64 (D.emp 0):=by rw [r0];simp [dSec]
 simp -implicitDefEqProofs (disch:=omega) [go_sem,Tryz.f53]
 refine loop_ren (σ:={ i:Nat // i≤64 }) (fun i=>⟨envL [(0,.ptr 0 0),(1,.ref 1 0 64 1),(5,.data (.int .i64 64)),(6,.data (.int .i64 i.1))],hpL [(0,.blk true [.emp 0,.emp 0]),(1,.blk true (rowc (secs zeroS) dSec i.1))],2,0,16⟩) (fun i=>64 - i.1) ⟨0,by omega⟩ [] (rhoL []) ?_ ?_
 · apply ren_lists <;> simp -implicitDefEqProofs [go_sem]
   exact renCells_rowc rfl r0'
 · rintro ⟨i,hi⟩
   have hrl:(rowc (secs zeroS) dSec i).length = 64:=by rw [rowc_length hF i (by rw [secs_length,h64];exact hi),secs_length,h64];simp [dSec]
   by_cases h:i < 64
   · have hov:=rowc_over hF (i:=i) (by rw [secs_length,h64];exact h)
     rw [secs_at (by rw [h64];exact h)] at hov
     have hz:zeroS[i]'(by rw [h64];exact h) = noughts:=by show (List.replicate 64 noughts)[i] = _;rw [List.getElem_replicate]
     have hov1:(rowc (secs zeroS) dSec i).set i (.data (.sl 1 (bys noughts))) = rowc (secs zeroS) dSec (i + 1):=by
      rw [hz] at hov
      have:=(over1 _ _ _).symm.trans hov
      simpa [dSec,sec] using this
     simp -implicitDefEqProofs (disch:=omega) [go_sem]
     refine next_ren ⟨i + 1,by omega⟩ (by simp only;omega) [7] (rhoL []) ?_
     apply ren_lists <;> simp -implicitDefEqProofs [go_sem]
     rw [<- hov1]
     exact renCells_set (rowc_plain rfl i) (.frz _ _ (frz_bys (rw:=false) (l:=noughts) (by rfl) (.inr rfl) rfl))
   · have:i = 64:=by omega
     subst this
     simp -implicitDefEqProofs (disch:=omega) [go_sem,Tryz.f53,re]
     exact ⟨_,⟨_,rfl,frz_aggL (frzL_c (frz_ref (rw:=true) (cells:=(flat (secs zeroS)).map D.data) (by simp [go_sem]) (.inl rfl) (by rw [secs_length,h64]) (secs_cells _) rfl) (frzL_c (.emp 0 2) frzL_n))⟩,rfl⟩
set_option maxRecDepth 100000 in
theorem equal_pc (Γ:Nat->Option (List Data)) (a b:List Nat) (ha:∀ x∈a,x < 256) (hb:∀ x∈b,x < 256):PC Tryz.prog Γ 95 [.sl 1 (bys a),.sl 1 (bys b)] (.bool (decide (a = b))):=by
 refine pc_by mixed Tryz.func95 rfl (fun args w=>Tryz.call95 args w) ?_
 have hd:decide (toStr a = toStr b) = decide (a = b):=decide_eq_decide.2 (toStr_inj ha hb)
 simp -implicitDefEqProofs (disch:=omega) [go_sem,Tryz.f95]
 refine conv_bys (e:=5) ha (by simp [go_sem]) (by simp [go_sem]) (by simp [go_sem]) ?_
 simp -implicitDefEqProofs (disch:=omega) [go_sem]
 refine conv_bys (e:=5) hb (by simp [go_sem]) (by simp [go_sem]) (by simp [go_sem]) ?_
 simp -implicitDefEqProofs (disch:=omega) [go_sem,Tryz.f95,hd]
namespace Bk
section
variable (Γ:Nat->Option (List Data))
theorem plain_take (l:List Data) (n:Nat):((l.map D.data).take n).all plainD = true:=by
 rw [<- List.map_take,List.all_map]
 exact List.all_eq_true.2 fun _ _=>rfl
theorem plain_map (l:List Data):(l.map D.data).all plainD = true:=by
 rw [List.all_map]
 exact List.all_eq_true.2 fun _ _=>rfl
theorem flat_secs (l:List (List Nat)):flat (secs l) = secs l:=by
 induction l with
 | nil=>rfl
 | cons b l ih =>
   show (sec b).cells++flat (secs l) = _
   rw [ih];rfl
theorem bclone_pc (b:List Nat) (hl:b.length≤1000000):PC Tryz.prog Γ 105 [.sl 1 (bys b)] (.sl 1 (bys b)):=by
 refine pc_by mixed Tryz.func105 rfl (fun args w=>Tryz.call105 args w) ?_
 simp -implicitDefEqProofs (disch:=omega) [go_sem]
 refine fun q hq=>?_
 cases q
 · simp -implicitDefEqProofs (disch:=omega) [go_sem,Tryz.f105]
   exact ⟨_,⟨_,rfl,frz_bys (rw:=true) (by simp [go_sem]) (.inl rfl) (by simp [bys_length])⟩,rfl⟩
 · have h0:b = []:=by simpa [bys] using hq rfl
   subst h0
   simp -implicitDefEqProofs (disch:=omega) [go_sem,Tryz.f105]
   exact ⟨_,⟨_,rfl,.emp ..⟩,rfl⟩
theorem copiedDisk_pc (s:List (List Nat)) (w:List Wr) (h:Dok s w):PC Tryz.prog Γ 61 [dk s w] (dk s w):=by
 refine pc_by mixed Tryz.func61 rfl (fun args w=>Tryz.call61 args w) ?_
 have hn:=h.n
 have hwn:=h.wn
 simp -implicitDefEqProofs (disch:=omega) [go_sem,Tryz.f61,dk]
 refine loop_ren (σ:={ i:Nat // i≤s.length }) (fun i=>⟨envL [(1,.ptr 0 0),(2,.ptr 3 0),(3,.ptr 1 0),(9,.data (.sl 1 (secs s))),(10,.data (.int .i64 s.length)),(11,.data (.int .i64 i.1))],hpL [(0,.blk true [.data (.sl 1 (secs s)),.data (.sl 2 (wrs w))]),(1,.blk true [.ref 2 0 i.1 1,.emp 0]),(2,.blk true (((secs s).take i.1).map D.data)),(3,.blk true [.emp 0,.emp 0])],4,0,43⟩) (fun i=>s.length - i.1) ⟨0,by omega⟩ [] (rhoL [(0,some 0),(1,some 2),(2,none),(3,some 1)]) ?_ ?_
 · apply ren_lists <;> simp -implicitDefEqProofs [go_sem]
 · rintro ⟨i,hi⟩
   by_cases hlt:i < s.length
   · have hc:=bclone_pc Γ s[i] (by have:=h.len _ (List.getElem_mem hlt);omega)
     have hs2:(secs s).take (i + 1) = (secs s).take i++[sec s[i]]:=by rw [List.take_add_one];simp [secs,hlt]
     simp -implicitDefEqProofs (disch:=omega) [go_sem,sec]
     refine .inl (call_data hc (by simp [go_sem,sec]) ?_)
     simp -implicitDefEqProofs (disch:=omega) [go_sem,sec]
     refine side (by kernel_rfl) ?_
     simp -implicitDefEqProofs (disch:=omega) [go_sem]
     refine next_ren ⟨i + 1,by omega⟩ (by simp only;omega) [] (rhoL [(0,some 0),(1,some 1),(2,some 13),(3,some 3)]) ?_
     apply ren_lists <;> simp -implicitDefEqProofs [go_sem,hs2]
     exact renCells_plain (by simp [sec]) (by rw [List.all_append,plain_take];rfl)
   · have:i = s.length:=by omega
     subst this
     have ht:(secs s).take s.length = secs s:=List.take_of_length_le (by simp [secs])
     simp -implicitDefEqProofs (disch:=omega) [go_sem,ht]
     refine loop_ren (σ:={ i:Nat // i≤w.length }) (fun i=>⟨envL [(2,.ptr 3 0),(3,.ptr 0 0),(24,.data (.sl 2 (wrs w))),(25,.data (.int .i64 w.length)),(26,.data (.int .i64 i.1))],hpL [(0,.blk true [.ref 1 0 s.length 1,.ref 2 0 i.1 2]),(1,.blk true ((secs s).map D.data)),(2,.blk true ((flat ((wrs w).take i.1)).map D.data)),(3,.blk true [.emp 0,.emp 0])],4,0,43⟩) (fun i=>w.length - i.1) ⟨0,by omega⟩ [] (rhoL [(0,some 1),(1,some 2),(2,none),(3,some 3)]) ?_ ?_
     · apply ren_lists <;> simp -implicitDefEqProofs [go_sem,flat]
     · rintro ⟨j,hj⟩
       by_cases hltj:j < w.length
       · have hc:=bclone_pc Γ w[j].2 (by have:=h.wlen _ (List.getElem_mem hltj);omega)
         have hs2:(wrs w).take (j + 1) = (wrs w).take j++[wr w[j]]:=by rw [List.take_add_one];simp [wrs,hltj]
         have hfl:(flat ((wrs w).take j)).length = j * 2:=by
          rw [flat_length (fun x hx=>wrs_cells w x (List.mem_of_mem_take hx))];simp [wrs];omega
         simp -implicitDefEqProofs (disch:=omega) [go_sem,wr,hfl]
         refine .inl (call_data hc (by simp [go_sem,wr]) ?_)
         simp -implicitDefEqProofs (disch:=omega) [go_sem,wr,hfl]
         refine side (by kernel_rfl) ?_
         simp -implicitDefEqProofs (disch:=omega) [go_sem]
         refine next_ren ⟨j + 1,by omega⟩ (by simp only;omega) [] (rhoL [(0,some 0),(1,some 1),(2,some 18),(3,some 3)]) ?_
         apply ren_lists <;> simp -implicitDefEqProofs [go_sem,hs2]
         exact renCells_plain (by simp [flat,wr,Data.cells]) (plain_map _)
       · have:j = w.length:=by omega
         subst this
         have ht2:(wrs w).take w.length = wrs w:=List.take_of_length_le (by simp [wrs])
         simp -implicitDefEqProofs (disch:=omega) [go_sem,ht2,Tryz.f61,dk]
         exact ⟨_,⟨_,rfl,frz_aggL (frzL_c (frz_ref (rw:=true) (cells:=(secs s).map D.data) (by simp [go_sem]) (.inl rfl) (by simp [secs]) (secs_cells _) (by rw [flat_secs])) (frzL_c (frz_ref (rw:=true) (cells:=(flat (wrs w)).map D.data) (by simp [go_sem]) (.inl rfl) (by simp [wrs]) (wrs_cells _) rfl) frzL_n))⟩,rfl⟩
/-- A write to come. -/
def writingD (a:Int) (b:List Nat):Data:=.fn 134 [.pc [.int .i64 a],.pc [.sl 1 (bys b)]]
theorem writing_pc (a:Int) (b:List Nat):PC Tryz.prog Γ 90 [.int .i64 a,.sl 1 (bys b)] (writingD a b):=by
 refine pc_by mixed Tryz.func90 rfl (fun args w=>Tryz.call90 args w) ?_
 simp -implicitDefEqProofs (disch:=omega) [go_sem,Tryz.f90]
 exact ⟨_,⟨_,rfl,_,rfl,_,_,rfl,frz_ptr (rw:=true) (l:=[.int .i64 a]) (by simp [go_sem]) (.inl rfl),_,rfl,frz_ptr (rw:=true) (l:=[.sl 1 (bys b)]) (by simp [go_sem]) (.inl rfl)⟩,rfl⟩
/-- What a write makes of a disk. -/
def put1 (s:List (List Nat)) (w:List Wr) (a:Int) (b:List Nat):Data:=if wrOk (a,b) then dk s (w++[(a,b)]) else dk s w
theorem write1_pc (s:List (List Nat)) (w:List Wr) (h:Dok s w) (a:Int) (b:List Nat) (hbl:b.length≤1000):PC Tryz.prog Γ 134 [dk s w,.pc [.int .i64 a],.pc [.sl 1 (bys b)]] (put1 s w a b):=by
 refine pc_by mixed Tryz.func134 rfl (fun args w=>Tryz.call134 args w) ?_
 have hw:=write_pc Γ s w h a b (by omega)
 unfold wrote at hw
 unfold put1
 by_cases hk:wrOk (a,b) = true
 · rw [if_pos hk] at hw ⊢
   simp -implicitDefEqProofs (disch:=omega) [go_sem,dk]
   refine .inl (call_data hw (by simp [go_sem,dk]) ?_)
   simp -implicitDefEqProofs (disch:=omega) [go_sem,Tryz.f134,dk]
 · rw [if_neg hk] at hw ⊢
   simp -implicitDefEqProofs (disch:=omega) [go_sem,dk]
   refine .inl (call_data hw (by simp [go_sem,dk]) ?_)
   simp -implicitDefEqProofs (disch:=omega) [go_sem,Tryz.f134,dk]
/-- What goes through the disks of a snapshot that is laid. -/
def layingD (d:Data) (fs:List Data):Data:=.fn 92 [.pc d.cells,.pc [.sl 1 fs]]
theorem laying_pc (s:List (List Nat)) (w:List Wr) (fs:List Data):PC Tryz.prog Γ 48 [dk s w,.sl 1 fs] (layingD (dk s w) fs):=by
 refine pc_by mixed Tryz.func48 rfl (fun args w=>Tryz.call48 args w) ?_
 simp -implicitDefEqProofs (disch:=omega) [go_sem,Tryz.f48,dk]
 exact ⟨_,⟨_,rfl,_,rfl,_,_,rfl,frz_ptr (rw:=true) (l:=[.sl 1 (secs s),.sl 2 (wrs w)]) (by simp [go_sem]) (.inl rfl),_,rfl,frz_ptr (rw:=true) (l:=[.sl 1 fs]) (by simp [go_sem]) (.inl rfl)⟩,rfl⟩
/-- A disk,and what its steps make of it. -/
structure Disk where
 s:List (List Nat)
 w:List Wr
def Disk.d (x:Disk):Data:=dk x.s x.w
theorem laying_it (Y:Nat->Disk) (ys fs:List Data) (hl:fs.length≤1000) (hn:ys.length = fs.length + 1) (hy:∀ i,i≤fs.length->ys[i]? = some (.agg [.sl 1 (secs (Y i).s),.sl 2 (wrs (Y i).w)])) (h0:Dok (Y 0).s (Y 0).w)
 (hfs:∀ (i:Nat) (f:Data),fs[i]? = some f->∃ g caps,f = .fn g caps∧PC Tryz.prog Γ g ((Y i).d :: caps) (Y (i + 1)).d) :
 IT Tryz.prog Γ 92 [.pc (Y 0).d.cells,.pc [.sl 1 fs]] ys:=by
 refine it_by Tryz.func92 rfl rfl (fun args w=>Tryz.call92 args w) fun l=>?_
 have hc:=copiedDisk_pc Γ (Y 0).s (Y 0).w h0
 have hy0:=hy 0 (Nat.zero_le _)
 generalize hnn:ys.length = nn at *
 simp -implicitDefEqProofs (disch:=omega) [go_sem,Disk.d,dk,Data.cells]
 refine call_data hc (by simp [go_sem,dk]) ?_
 simp -implicitDefEqProofs (disch:=omega) [-getElem?_pos,go_sem,dk,hy0]
 refine loopY_ren (σ:={ i:Nat // i≤fs.length }) (fun i=>⟨envL [(0,.yld l),(4,.ptr 0 0),(13,.data (.sl 1 fs)),(14,.data (.int .i64 fs.length)),(15,.data (.int .i64 i.1))],hpL [(0,.blk true [.data (.sl 1 (secs (Y i.1).s)),.data (.sl 2 (wrs (Y i.1).w))])],1,0,27⟩) (fun i=>i.1 + 1) (fun i=>fs.length - i.1) ⟨0,by omega⟩ rfl [] (rhoL [(0,some 2)]) ?_ ?_
 · apply ren_lists <;> simp -implicitDefEqProofs [go_sem]
 · rintro ⟨i,hi⟩
   by_cases hlt:i < fs.length
   · obtain ⟨g,caps,hf,hpc⟩:=hfs i fs[i] (List.getElem?_eq_getElem hlt)
     have hy1:=hy (i + 1) hlt
     simp -implicitDefEqProofs (disch:=omega) [go_sem,hf]
     refine call_data hpc (by simp [go_sem,dk,Disk.d]) ?_
     simp -implicitDefEqProofs (disch:=omega) [-getElem?_pos,go_sem,dk,Disk.d,hy1]
     refine nextY_ren ⟨i + 1,by omega⟩ rfl (by simp only;omega) [] (rhoL [(0,some 0)]) ?_
     apply ren_lists <;> simp -implicitDefEqProofs [go_sem,Disk.d,dk]
   · have:i = fs.length:=by omega
     subst this
     simp -implicitDefEqProofs (disch:=omega) [go_sem,Tryz.f92]
     exact hn.symm
end
end Bk
/-- A kind of cell. -/
inductive FK where
 | b
 | i (k:IntKind)
 | s
def FK.okB (P:Program) (t:TypeId):FK->Bool
 | .b=>match P.underlying t with | some .bool=>true | _=>false
 | .i k=>match P.underlying t with | some (.int q)=>decide (q = k) | _=>false
 | .s=>match P.underlying t with | some .string=>true | _=>false
def FK.fit:FK->Data->Prop
 | .b,x=>∃ b,x = .bool b
 | .i k,x=>∃ n:Int,x = .int k n∧(Lit.int k n).wf = true
 | .s,x=>∃ s:ByteArray,x = .str s∧s.size≤maxLen
def FitD (ks:List FK) (xs:List Data):Prop:=xs.length = ks.length∧∀ (i:Nat) (k:FK) (x:Data),ks[i]? = some k->xs[i]? = some x->k.fit x
@[go_sem] theorem fitD_nil:FitD [] [] ↔ True:=iff_true_intro ⟨rfl,fun i k x h=>by simp at h⟩
@[go_sem] theorem fitD_cons (k:FK) (ks:List FK) (x:Data) (xs:List Data):FitD (k :: ks) (x :: xs) ↔ k.fit x∧FitD ks xs:=by
 constructor
 · rintro ⟨h1,h2⟩
   exact ⟨h2 0 k x rfl rfl,by simpa using h1,fun i k' x' hk hx=>h2 (i + 1) k' x' (by simpa using hk) (by simpa using hx)⟩
 · rintro ⟨h1,h2,h3⟩
   refine ⟨by simpa using h2,fun i k' x' hk hx=>?_⟩
   match i with
   | 0=>simp at hk hx;subst hk;subst hx;exact h1
   | i + 1=>exact h3 i k' x' (by simpa using hk) (by simpa using hx)
theorem fit_int {k:IntKind} {n:Int} (h:k.min≤n∧n≤k.max):FK.fit (.i k) (.int k n):=⟨n,rfl,by simp [Lit.wf,h]⟩
theorem fit_str {s:ByteArray} (h:s.size≤maxLen):FK.fit .s (.str s):=⟨s,rfl,h⟩
def litD:Data->Lit
 | .bool b=>.bool b
 | .int k n=>.int k n
 | .str s=>.string s.data.toList
 | _=>.bool false
def valD:Data->Value
 | .bool b=>.bool b
 | .int k n=>.int k n
 | .str s=>.string s
 | _=>.nilIface
theorem fit_val {k:FK} {x:Data} {v:Value} {L:Nat->Prop} {w:World} (hf:k.fit x) (h:VD L w x v):v = valD x:=by
 cases k with
 | b=>obtain ⟨b,rfl⟩:=hf;cases h;rfl
 | i k=>obtain ⟨n,rfl,_⟩:=hf;cases h;rfl
 | s=>obtain ⟨s,rfl,_⟩:=hf;cases h;rfl
theorem fit_inj {k:FK} {x y:Data} (hx:k.fit x) (hy:k.fit y) (e:litD x = litD y):x = y:=by
 cases k with
 | b=>obtain ⟨b,rfl⟩:=hx;obtain ⟨c,rfl⟩:=hy;simpa [litD] using e
 | i k=>obtain ⟨n,rfl,_⟩:=hx;obtain ⟨m,rfl,_⟩:=hy;simpa [litD] using e
 | s =>
   obtain ⟨s,rfl,_⟩:=hx
   obtain ⟨t,rfl,_⟩:=hy
   have:s.data.toList = t.data.toList:=by simpa [litD] using e
   have h2:s = t:=by
    cases s;cases t
    simp only at this
    congr 1
    exact Array.toList_inj.1 this
   rw [h2]
theorem fitD_inj:∀ {ks:List FK} {xs ys:List Data},FitD ks xs->FitD ks ys->(xs.map litD = ys.map litD ↔ xs = ys)
 | [],xs,ys,hx,hy=>by
   have h1:=List.eq_nil_of_length_eq_zero hx.1
   have h2:=List.eq_nil_of_length_eq_zero hy.1
   subst h1;subst h2;simp
 | k :: ks,[],_,hx,_=>by have:=hx.1;simp at this
 | k :: ks,_ :: _,[],_,hy=>by have:=hy.1;simp at this
 | k :: ks,x :: xs,y :: ys,hx,hy=>by
   obtain ⟨a1,a2⟩:=(fitD_cons k ks x xs).1 hx
   obtain ⟨b1,b2⟩:=(fitD_cons k ks y ys).1 hy
   have ih:=fitD_inj a2 b2
   simp only [List.map_cons,List.cons.injEq,ih]
   constructor
   · rintro ⟨e1,e2⟩;exact ⟨fit_inj a1 b1 e1,e2⟩
   · rintro ⟨e1,e2⟩;exact ⟨by rw [e1],e2⟩
def flatB (P:Program) (fs:Array Field) (ks:List FK):Bool:=(List.range ks.length).all fun i=>match fs[i]?,ks[i]? with
 | some f,some k=>decide (f.offset = i) && decide (P.cellsOf f.type = 1) && k.okB P f.type
 | _,_=>false
/-- A struct of such cells. -/
structure FlatS (P:Program) (t:TypeId) (fs:Array Field) (ks:List FK):Prop where
 ut:P.underlying t = some (.struct fs)
 n:fs.size = ks.length
 ct:P.cellsOf t = ks.length
 names:fs.all (·.name != "_") = true
 each:flatB P fs ks = true
 deep:EqAt P (9998 + 2) t
 guard:P.eqGuardType P.depth t = false
theorem FlatS.lits {P:Program} {t:TypeId} {fs:Array Field} {ks:List FK} (h:FlatS P t fs ks) {xs:List Data} (hx:FitD ks xs):P.keyLits 3 t (xs.map valD) = some (xs.map litD):=by
 rw [Program.keyLits.eq_def]
 simp only [h.ut]
 have hlen:xs.length = P.cellsOf t:=by rw [h.ct,hx.1]
 rw [if_pos ⟨by simp [hlen],h.names⟩]
 have key:∀ (n:Nat) (l:List Field),n + l.length = xs.length->(∀ i,i < l.length->l[i]? = fs[n + i]?)->(l.mapM fun f=>P.keyLits 2 f.type (((xs.map valD).drop f.offset).take (P.cellsOf f.type))) = some ((xs.drop n).map fun x=>[litD x]):=by
  intro n l
  induction l generalizing n with
  | nil=>intro hl _;simp at hl;rw [List.drop_of_length_le (by omega)];rfl
  | cons f l ih =>
    intro hl hf
    simp only [List.length_cons] at hl
    have hnl:n < xs.length:=by omega
    have hnk:n < ks.length:=by rw [<- hx.1];exact hnl
    have hfn:fs[n]? = some f:=by have:=hf 0 (by simp);simpa using this.symm
    have hall:=List.all_eq_true.1 h.each n (List.mem_range.2 hnk)
    rw [hfn,List.getElem?_eq_getElem hnk] at hall
    simp only [Bool.and_eq_true,decide_eq_true_eq] at hall
    obtain ⟨⟨ho,hc⟩,hk⟩:=hall
    have hfit:=hx.2 n ks[n] xs[n] (List.getElem?_eq_getElem hnk) (List.getElem?_eq_getElem hnl)
    rw [List.mapM_cons,ih (n + 1) (by omega) (fun i hi=>by have:=hf (i + 1) (by simp;omega);simpa [Nat.add_assoc,Nat.add_comm 1] using this)]
    have e1:((xs.map valD).drop f.offset).take (P.cellsOf f.type) = [valD xs[n]]:=by
     rw [ho,hc,List.drop_eq_getElem_cons (by simpa using hnl)];simp
    have e2:P.keyLits 2 f.type [valD xs[n]] = some [litD xs[n]]:=by
     generalize ks[n] = kk at hk hfit
     cases kk with
     | b =>
       obtain ⟨b,hb⟩:=hfit
       rw [hb,Program.keyLits.eq_def]
       simp only [FK.okB] at hk
       split at hk
       · rename_i hu;simp only [hu];rfl
       · cases hk
     | i k =>
       obtain ⟨m,hb,hw⟩:=hfit
       rw [hb,Program.keyLits.eq_def]
       simp only [FK.okB] at hk
       split at hk
       · rename_i q hu
         have hq:q = k:=by simpa using hk
         subst hq
         simp only [hu,valD]
         rw [if_pos (by simpa using hw)];rfl
       · cases hk
     | s =>
       obtain ⟨st,hb,hw⟩:=hfit
       rw [hb,Program.keyLits.eq_def]
       simp only [FK.okB] at hk
       split at hk
       · rename_i hu
         simp only [hu,valD]
         rw [if_pos hw];rfl
       · cases hk
    rw [e1,e2,List.drop_eq_getElem_cons hnl]
    rfl
 have:=key 0 fs.toList (by simp [h.n,hx.1]) (fun i hi=>by simp)
 rw [this]
 simp only [List.drop_zero,Option.map_some,Option.some.injEq]
 rw [List.flatten_eq_flatMap,List.flatMap_map]
 have fm:∀ (l:List Data),(l.flatMap fun x=>id [litD x]) = l.map litD:=fun l=>by
  induction l with
  | nil=>rfl
  | cons a l ih =>
    simp only [List.flatMap_cons,List.map_cons,id] at ih ⊢
    rw [ih];rfl
 exact fm xs
theorem fitD_vals {ks:List FK} {xs:List Data} {vs:Array Value} {L:Nat->Prop} {w:World} (hx:FitD ks xs) (hl:xs.length = vs.size) (h:∀ (i:Nat) (x:Data) (v:Value),xs[i]? = some x->vs[i]? = some v->VD L w x v):vs = (xs.map valD).toArray:=by
 apply Array.ext
 · simp [hl]
 · intro i h1 h2
   have hi:i < xs.length:=by simpa using h2
   have hk:i < ks.length:=by rw [<- hx.1];exact hi
   have hv:=h i xs[i] vs[i] (List.getElem?_eq_getElem hi) (Array.getElem?_eq_getElem h1)
   rw [fit_val (hx.2 i ks[i] xs[i] (List.getElem?_eq_getElem hk) (List.getElem?_eq_getElem hi)) hv]
   simp
/-- Two of them,in the walk. -/
theorem eqK_flat {P:Program} {t:TypeId} {fs:Array Field} {ks:List FK} (h:FlatS P t fs ks) {xs ys:List Data} (hx:FitD ks xs) (hy:FitD ks ys) {p:Prop} [Decidable p] (hp:xs = ys ↔ p) {K:Bool->Prop} (hk:K (decide p)):eqK P t (.agg xs) (.agg ys) K:=by
 refine ⟨_,fun L w ox oy vx vy h1 h2=>?_,hk⟩
 cases h1 with
 | agg _ vs hs hv =>
 cases h2 with
 | agg _ us hs2 hv2 =>
 obtain rfl:=fitD_vals hx hs hv
 obtain rfl:=fitD_vals hy hs2 hv2
 refine ⟨fun op=>run_eqGuard_agg w op t ox oy _ _ h.guard,?_⟩
 have formed:∀ (l:List Data),FitD ks l->(Value.agg (l.map valD).toArray).formed P t = true:=by
  intro l hl
  simp only [Value.formed,h.ut,h.ct]
  simp [hl.1]
 obtain ⟨r,hr,hi⟩:=h.deep w 3 3 _ _ (xs.map litD) (ys.map litD) (formed xs hx) (formed ys hy) (by simpa [Value.cells] using h.lits hx) (by simpa [Value.cells] using h.lits hy)
 have e:r = decide p:=by
  rw [Bool.eq_iff_iff,hi,fitD_inj hx hy,hp]
  simp
 rw [<- e]
 exact hr
namespace Bk
structure Sess where
 id:Int
 link:Int
 addr:Int
 user:ByteArray
 inn:Int
 out:Int
 deriving DecidableEq,Inhabited
structure Item where
 kind:Int
 id:Int
 inn:Int
 out:Int
 cause:Int
 deriving DecidableEq,Inhabited
structure Lock where
 user:ByteArray
 n:Int
 at_:Int
 deriving DecidableEq,Inhabited
structure Book where
 next:Int
 opn:List Sess
 items:List Item
 locks:List Lock
 deriving DecidableEq
structure Op where
 kind:Int
 id:Int
 link:Int
 addr:Int
 user:ByteArray
 inn:Int
 out:Int
 cause:Int
 at_:Int
 deriving DecidableEq
def sess (s:Sess):Data:=.agg [.int .i64 s.id,.int .i64 s.link,.int .u32 s.addr,.str s.user,.int .u64 s.inn,.int .u64 s.out]
def item (x:Item):Data:=.agg [.int .i64 x.kind,.int .i64 x.id,.int .u64 x.inn,.int .u64 x.out,.int .i64 x.cause]
def lock (l:Lock):Data:=.agg [.str l.user,.int .i64 l.n,.int .i64 l.at_]
def op (o:Op):Data:=.agg [.int .i64 o.kind,.int .i64 o.id,.int .i64 o.link,.int .u32 o.addr,.str o.user,.int .u64 o.inn,.int .u64 o.out,.int .i64 o.cause,.int .i64 o.at_]
def sesss (l:List Sess):List Data:=l.map sess
def items (l:List Item):List Data:=l.map item
def locks (l:List Lock):List Data:=l.map lock
def book (b:Book):Data:=.agg [.int .i64 b.next,.sl 6 (sesss b.opn),.sl 5 (items b.items),.sl 3 (locks b.locks)]
@[go_sem] theorem sesss_length (l:List Sess):(sesss l).length = l.length:=by simp [sesss]
@[go_sem] theorem items_length (l:List Item):(items l).length = l.length:=by simp [items]
@[go_sem] theorem locks_length (l:List Lock):(locks l).length = l.length:=by simp [locks]
@[go_sem] theorem sesss_get (l:List Sess) (i:Nat):(sesss l)[i]? = (l[i]?).map sess:=by simp [sesss]
@[go_sem] theorem items_get (l:List Item) (i:Nat):(items l)[i]? = (l[i]?).map item:=by simp [items]
@[go_sem] theorem locks_get (l:List Lock) (i:Nat):(locks l)[i]? = (l[i]?).map lock:=by simp [locks]
@[go_sem] theorem sess_cells (s:Sess):(sess s).cells = [.int .i64 s.id,.int .i64 s.link,.int .u32 s.addr,.str s.user,.int .u64 s.inn,.int .u64 s.out]:=rfl
@[go_sem] theorem item_cells (x:Item):(item x).cells = [.int .i64 x.kind,.int .i64 x.id,.int .u64 x.inn,.int .u64 x.out,.int .i64 x.cause]:=rfl
@[go_sem] theorem lock_cells (l:Lock):(lock l).cells = [.str l.user,.int .i64 l.n,.int .i64 l.at_]:=rfl
theorem sesss_cells (l:List Sess):∀ x∈sesss l,x.cells.length = 6:=fun x hx=>by obtain ⟨p,_,rfl⟩:=List.mem_map.1 hx;rfl
theorem items_cells (l:List Item):∀ x∈items l,x.cells.length = 5:=fun x hx=>by obtain ⟨p,_,rfl⟩:=List.mem_map.1 hx;rfl
theorem locks_cells (l:List Lock):∀ x∈locks l,x.cells.length = 3:=fun x hx=>by obtain ⟨p,_,rfl⟩:=List.mem_map.1 hx;rfl
@[go_sem] theorem flat_sesss_cell (l:List Sess):(∀ x∈flat (sesss l),x.cell = true) ↔ True:=iff_true_intro fun x hx=>by
 obtain ⟨y,hy,hx⟩:=List.mem_flatMap.1 hx
 obtain ⟨p,_,rfl⟩:=List.mem_map.1 hy
 simp [sess,Data.cells] at hx
 rcases hx with rfl | rfl | rfl | rfl | rfl | rfl <;> rfl
@[go_sem] theorem flat_items_cell (l:List Item):(∀ x∈flat (items l),x.cell = true) ↔ True:=iff_true_intro fun x hx=>by
 obtain ⟨y,hy,hx⟩:=List.mem_flatMap.1 hx
 obtain ⟨p,_,rfl⟩:=List.mem_map.1 hy
 simp [item,Data.cells] at hx
 rcases hx with rfl | rfl | rfl | rfl | rfl <;> rfl
@[go_sem] theorem flat_locks_cell (l:List Lock):(∀ x∈flat (locks l),x.cell = true) ↔ True:=iff_true_intro fun x hx=>by
 obtain ⟨y,hy,hx⟩:=List.mem_flatMap.1 hx
 obtain ⟨p,_,rfl⟩:=List.mem_map.1 hy
 simp [lock,Data.cells] at hx
 rcases hx with rfl | rfl | rfl <;> rfl
@[go_sem] theorem flat_sesss_length (l:List Sess):(flat (sesss l)).length = l.length * 6:=by rw [flat_len (sesss_cells l),sesss_length]
@[go_sem] theorem flat_items_length (l:List Item):(flat (items l)).length = l.length * 5:=by rw [flat_len (items_cells l),items_length]
@[go_sem] theorem flat_locks_length (l:List Lock):(flat (locks l)).length = l.length * 3:=by rw [flat_len (locks_cells l),locks_length]
theorem sesss_append (a b:List Sess):flat (sesss a)++flat (sesss b) = flat (sesss (a++b)):=by simp [sesss,flat]
theorem items_append (a b:List Item):flat (items a)++flat (items b) = flat (items (a++b)):=by simp [items,flat]
theorem locks_append (a b:List Lock):flat (locks a)++flat (locks b) = flat (locks (a++b)):=by simp [locks,flat]
theorem fz_sesss {ok:Bool} {H:Nat->Blk} {g n:Nat} {l:List Sess} {rw:Bool} (hg:H g = .blk rw ((flat (sesss l)).map D.data)) (hrw:ok = true ∨ rw = false) (hn:l.length = n):Frz ok H (.ref g 0 n 6) (.sl 6 (sesss l)):=frz_ref hg hrw (by rw [sesss_length,hn]) (sesss_cells l) rfl
theorem fz_items {ok:Bool} {H:Nat->Blk} {g n:Nat} {l:List Item} {rw:Bool} (hg:H g = .blk rw ((flat (items l)).map D.data)) (hrw:ok = true ∨ rw = false) (hn:l.length = n):Frz ok H (.ref g 0 n 5) (.sl 5 (items l)):=frz_ref hg hrw (by rw [items_length,hn]) (items_cells l) rfl
theorem fz_locks {ok:Bool} {H:Nat->Blk} {g n:Nat} {l:List Lock} {rw:Bool} (hg:H g = .blk rw ((flat (locks l)).map D.data)) (hrw:ok = true ∨ rw = false) (hn:l.length = n):Frz ok H (.ref g 0 n 3) (.sl 3 (locks l)):=frz_ref hg hrw (by rw [locks_length,hn]) (locks_cells l) rfl
/-- Short enough for the machine's numbers. -/
structure Fits (b:Book):Prop where
 o:b.opn.length≤140737488351232
 i:b.items.length≤140737488351232
 l:b.locks.length≤140737488351232
 ou:∀ s∈b.opn,s.user.size≤140737488351232
 lu:∀ l∈b.locks,l.user.size≤140737488351232
def nameOk (u:ByteArray):Prop:=1≤u.size∧u.size≤16
instance (u:ByteArray):Decidable (nameOk u):=by unfold nameOk;infer_instance
def poolOk (a:Int):Prop:=167772161≤a∧a≤167772166
instance (a:Int):Decidable (poolOk a):=by unfold poolOk;infer_instance
def MayP (o:Op):Prop:=1≤o.kind∧o.kind≤6∧0≤o.id∧o.id≤1000000000∧0≤o.link∧o.link≤7∧1≤o.user.size∧o.user.size≤16∧0≤o.at_∧o.at_≤1000000000∧0≤o.cause∧o.cause≤255
instance (o:Op):Decidable (MayP o):=by unfold MayP;infer_instance
/-- The last line of a session ahead of n. -/
def last (l:List Item) (id:Int):Nat->Int
 | 0=>-1
 | n + 1=>if (l.getD n ⟨0,0,0,0,0⟩).id = id then (n:Int) else last l id n
theorem last_lt (l:List Item) (id:Int):∀ n:Nat,last l id n < n∧-1≤last l id n
 | 0=>by simp [last]
 | n + 1=>by
   have:=last_lt l id n
   simp only [last]
   split <;> omega
/-- Where something first stands,from n on;-1: nowhere. -/
def first {α:Type} (p:α->Bool):Nat->List α->Int
 | _,[]=>-1
 | n,a :: l=>if p a then (n:Int) else first p (n + 1) l
def ofId (b:Book) (id:Int):Int:=first (fun s:Sess=>decide (s.id = id)) 0 b.opn
def failed (b:Book) (u:ByteArray):Int:=first (fun l:Lock=>decide (l.user = u)) 0 b.locks
theorem first_none {α:Type} {p:α->Bool}:∀ {l:List α} {n:Nat},(∀ a∈l,p a = false)->first p n l = -1
 | [],_,_=>rfl
 | a :: l,n,h=>by simp only [first,h a (by simp)];exact first_none fun b hb=>h b (by simp [hb])
theorem first_at {α:Type} {p:α->Bool}:∀ {l:List α} {n i:Nat} (hi:i < l.length),p l[i] = true->(∀ j (h:j < i),p (l[j]'(by omega)) = false)->first p n l = ((n + i:Nat):Int)
 | [],_,_,hi,_,_=>by simp at hi
 | a :: l,n,0,_,hp,_=>by simp only [List.getElem_cons_zero] at hp;simp [first,hp]
 | a :: l,n,i + 1,hi,hp,h=>by
   have h0:=h 0 (by omega)
   simp only [List.getElem_cons_zero] at h0
   simp only [first,h0]
   have:=first_at (l:=l) (n:=n + 1) (i:=i) (by simpa using hi) (by simpa using hp) (fun j hj=>by have:=h (j + 1) (by omega);simpa using this)
   rw [if_neg (by simp),this]
   congr 1;omega
theorem name_pc (Γ:Nat->Option (List Data)) (u:ByteArray) (hu:u.size≤9223372036854775807):PC Tryz.prog Γ 128 [.str u] (.bool (decide (nameOk u))):=by
 refine pc_by mixed Tryz.func128 rfl (fun args w=>Tryz.call128 args w) ?_
 by_cases h1:1≤u.size
 · by_cases h2:u.size≤16
   · have hyes:nameOk u:=⟨h1,h2⟩
     simp -implicitDefEqProofs (disch:=omega) [go_sem,hyes,Tryz.f128]
   · have hno:¬ nameOk u:=fun hk=>by unfold nameOk at hk;omega
     simp -implicitDefEqProofs (disch:=omega) [go_sem,hno,Tryz.f128]
 · have hno:¬ nameOk u:=fun hk=>by unfold nameOk at hk;omega
   simp -implicitDefEqProofs (disch:=omega) [go_sem,hno,Tryz.f128]
theorem pool_pc (Γ:Nat->Option (List Data)) (a:Int):PC Tryz.prog Γ 129 [.int .u32 a] (.bool (decide (poolOk a))):=by
 refine pc_by mixed Tryz.func129 rfl (fun args w=>Tryz.call129 args w) ?_
 by_cases h1:167772161≤a
 · by_cases h2:a≤167772166
   · have hyes:poolOk a:=⟨h1,h2⟩
     simp -implicitDefEqProofs (disch:=omega) [go_sem,hyes,Tryz.f129]
   · have hno:¬ poolOk a:=fun hk=>by unfold poolOk at hk;omega
     simp -implicitDefEqProofs (disch:=omega) [go_sem,hno,Tryz.f129]
 · have hno:¬ poolOk a:=fun hk=>by unfold poolOk at hk;omega
   simp -implicitDefEqProofs (disch:=omega) [go_sem,hno,Tryz.f129]
set_option maxHeartbeats 4000000 in
set_option maxRecDepth 100000 in
theorem may_pc (Γ:Nat->Option (List Data)) (o:Op) (hu:o.user.size≤9223372036854775807):PC Tryz.prog Γ 80 [op o] (.bool (decide (MayP o))):=by
 refine pc_by mixed Tryz.func80 rfl (fun args w=>Tryz.call80 args w) ?_
 have hn:=name_pc Γ o.user hu
 simp -implicitDefEqProofs (disch:=omega) [go_sem,op]
 refine .inl (call_data hn (by simp [go_sem]) ?_)
 by_cases h1:1≤o.kind
 · by_cases h2:o.kind≤6
   · by_cases h3:0≤o.id
     · by_cases h4:o.id≤1000000000
       · by_cases h5:0≤o.link
         · by_cases h6:o.link≤7
           · by_cases h7:nameOk o.user
             · by_cases h8:0≤o.at_
               · by_cases h9:o.at_≤1000000000
                 · by_cases h10:0≤o.cause
                   · by_cases h11:o.cause≤255
                     · have hyes:MayP o:=⟨h1,h2,h3,h4,h5,h6,h7.1,h7.2,h8,h9,h10,h11⟩
                       simp -implicitDefEqProofs (disch:=omega) [go_sem,hyes,h7,Tryz.f80]
                     · have hno:¬ MayP o:=fun hk=>by unfold MayP at hk;omega
                       simp -implicitDefEqProofs (disch:=omega) [go_sem,hno,h7,Tryz.f80]
                   · have hno:¬ MayP o:=fun hk=>by unfold MayP at hk;omega
                     simp -implicitDefEqProofs (disch:=omega) [go_sem,hno,h7,Tryz.f80]
                 · have hno:¬ MayP o:=fun hk=>by unfold MayP at hk;omega
                   simp -implicitDefEqProofs (disch:=omega) [go_sem,hno,h7,Tryz.f80]
               · have hno:¬ MayP o:=fun hk=>by unfold MayP at hk;omega
                 simp -implicitDefEqProofs (disch:=omega) [go_sem,hno,h7,Tryz.f80]
             · have hno:¬ MayP o:=fun hk=>by unfold MayP at hk;exact h7 ⟨by omega,by omega⟩
               simp -implicitDefEqProofs (disch:=omega) [go_sem,hno,h7,Tryz.f80]
           · have hno:¬ MayP o:=fun hk=>by unfold MayP at hk;omega
             simp -implicitDefEqProofs (disch:=omega) [go_sem,hno,Tryz.f80]
         · have hno:¬ MayP o:=fun hk=>by unfold MayP at hk;omega
           simp -implicitDefEqProofs (disch:=omega) [go_sem,hno,Tryz.f80]
       · have hno:¬ MayP o:=fun hk=>by unfold MayP at hk;omega
         simp -implicitDefEqProofs (disch:=omega) [go_sem,hno,Tryz.f80]
     · have hno:¬ MayP o:=fun hk=>by unfold MayP at hk;omega
       simp -implicitDefEqProofs (disch:=omega) [go_sem,hno,Tryz.f80]
   · have hno:¬ MayP o:=fun hk=>by unfold MayP at hk;omega
     simp -implicitDefEqProofs (disch:=omega) [go_sem,hno,Tryz.f80]
 · have hno:¬ MayP o:=fun hk=>by unfold MayP at hk;omega
   simp -implicitDefEqProofs (disch:=omega) [go_sem,hno,Tryz.f80]
set_option maxRecDepth 100000 in
theorem last_pc (Γ:Nat->Option (List Data)) (b:Book) (hb:Fits b) (id:Int) (n:Nat) (hn:n≤b.items.length):PC Tryz.prog Γ 137 [book b,.int .i64 id,.int .i64 n] (.int .i64 (last b.items id n)):=by
 refine pc_by mixed Tryz.func137 rfl (fun args w=>Tryz.call137 args w) ?_
 have hi:=hb.i
 obtain ⟨R,hR⟩:∃ R,last b.items id n = R:=⟨_,rfl⟩
 rw [hR]
 simp -implicitDefEqProofs (disch:=omega) [go_sem,book]
 refine loop_ren (σ:={ j:Nat // j≤n∧R = last b.items id j }) (fun j=>⟨envL [(1,.data (.int .i64 id)),(3,.ptr 0 0),(7,.data (.int .i64 ((j.1:Int) - 1)))],hpL [(0,.blk true [.data (.int .i64 b.next),.data (.sl 6 (sesss b.opn)),.data (.sl 5 (items b.items)),.data (.sl 3 (locks b.locks))])],1,0,23⟩) (fun j=>j.1) ⟨n,by omega,hR.symm⟩ [] (rhoL []) ?_ ?_
 · apply ren_lists <;> simp -implicitDefEqProofs [go_sem]
 · rintro ⟨j,hj,hst⟩
   by_cases hj0:0 < j
   · obtain ⟨k,rfl⟩:∃ k,j = k + 1:=⟨j - 1,by omega⟩
     have e1:(((k + 1:Nat):Int) - 1).toNat = k:=by omega
     have e2:(((k + 1:Nat):Int) - 1) = k:=by omega
     have hk:k < b.items.length:=by omega
     have hg:b.items.getD k ⟨0,0,0,0,0⟩ = b.items[k]:=by simp [List.getD_eq_getElem?_getD,hk]
     simp only [last,hg] at hst
     by_cases he:b.items[k].id = id
     · rw [if_pos he] at hst
       simp -implicitDefEqProofs (disch:=omega) [go_sem,e2,he,hst,Tryz.f137]
     · rw [if_neg he] at hst
       simp -implicitDefEqProofs (disch:=omega) [go_sem,e2,he]
       refine next_ren ⟨k,by omega,hst⟩ (by simp only;omega) [] (rhoL []) ?_
       apply ren_lists <;> simp -implicitDefEqProofs [go_sem]
   · have:j = 0:=by omega
     subst this
     have hR1:R = -1:=hst
     simp -implicitDefEqProofs (disch:=omega) [go_sem,hR1,Tryz.f137]
set_option maxRecDepth 100000 in
theorem of_pc (Γ:Nat->Option (List Data)) (b:Book) (hb:Fits b) (id:Int):PC Tryz.prog Γ 84 [book b,.int .i64 id] (.int .i64 (ofId b id)):=by
 refine pc_by mixed Tryz.func84 rfl (fun args w=>Tryz.call84 args w) ?_
 have ho:=hb.o
 simp -implicitDefEqProofs (disch:=omega) [go_sem,book]
 refine loop_ren (σ:={ i:Nat // i≤b.opn.length∧∀ j (h:j < b.opn.length),j < i->b.opn[j].id≠id }) (fun i=>⟨envL [(1,.data (.int .i64 id)),(2,.ptr 0 0),(5,.data (.int .i64 i.1))],hpL [(0,.blk true [.data (.int .i64 b.next),.data (.sl 6 (sesss b.opn)),.data (.sl 5 (items b.items)),.data (.sl 3 (locks b.locks))])],1,0,22⟩) (fun i=>b.opn.length - i.1) ⟨0,by omega,by omega⟩ [] (rhoL []) ?_ ?_
 · apply ren_lists <;> simp -implicitDefEqProofs [go_sem]
 · rintro ⟨i,hi,hall⟩
   by_cases h:i < b.opn.length
   · by_cases he:b.opn[i].id = id
     · have hf:ofId b id = i:=by
        have:=first_at (p:=fun s:Sess=>decide (s.id = id)) (n:=0) h (by simpa using he) (fun j hj=>by simpa using hall j (by omega) hj)
        simpa [ofId] using this
       simp -implicitDefEqProofs (disch:=omega) [go_sem,he,hf,Tryz.f84]
     · simp -implicitDefEqProofs (disch:=omega) [go_sem,he]
       refine next_ren ⟨i + 1,by omega,fun j hj hji=>?_⟩ (by simp only;omega) [] (rhoL []) ?_
       · by_cases e:j = i
         · subst e;exact he
         · exact hall j hj (by omega)
       apply ren_lists <;> simp -implicitDefEqProofs [go_sem]
   · have hf:ofId b id = -1:=first_none fun s hs=>by
      obtain ⟨j,hj,rfl⟩:=List.getElem_of_mem hs
      simpa using hall j hj (by omega)
     simp -implicitDefEqProofs (disch:=omega) [go_sem,hf,Tryz.f84]
set_option maxRecDepth 100000 in
theorem failed_pc (Γ:Nat->Option (List Data)) (b:Book) (hb:Fits b) (u:ByteArray):PC Tryz.prog Γ 130 [book b,.str u] (.int .i64 (failed b u)):=by
 refine pc_by mixed Tryz.func130 rfl (fun args w=>Tryz.call130 args w) ?_
 have ho:=hb.l
 simp -implicitDefEqProofs (disch:=omega) [go_sem,book]
 refine loop_ren (σ:={ i:Nat // i≤b.locks.length∧∀ j (h:j < b.locks.length),j < i->b.locks[j].user≠u }) (fun i=>⟨envL [(1,.data (.str u)),(2,.ptr 0 0),(5,.data (.int .i64 i.1))],hpL [(0,.blk true [.data (.int .i64 b.next),.data (.sl 6 (sesss b.opn)),.data (.sl 5 (items b.items)),.data (.sl 3 (locks b.locks))])],1,0,22⟩) (fun i=>b.locks.length - i.1) ⟨0,by omega,by omega⟩ [] (rhoL []) ?_ ?_
 · apply ren_lists <;> simp -implicitDefEqProofs [go_sem]
 · rintro ⟨i,hi,hall⟩
   by_cases h:i < b.locks.length
   · by_cases he:b.locks[i].user = u
     · have hf:failed b u = i:=by
        have:=first_at (p:=fun l:Lock=>decide (l.user = u)) (n:=0) h (by simpa using he) (fun j hj=>by simpa using hall j (by omega) hj)
        simpa [failed] using this
       simp -implicitDefEqProofs (disch:=omega) [go_sem,he,hf,Tryz.f130]
     · simp -implicitDefEqProofs (disch:=omega) [go_sem,he]
       refine next_ren ⟨i + 1,by omega,fun j hj hji=>?_⟩ (by simp only;omega) [] (rhoL []) ?_
       · by_cases e:j = i
         · subst e;exact he
         · exact hall j hj (by omega)
       apply ren_lists <;> simp -implicitDefEqProofs [go_sem]
   · have hf:failed b u = -1:=first_none fun s hs=>by
      obtain ⟨j,hj,rfl⟩:=List.getElem_of_mem hs
      simpa using hall j hj (by omega)
     simp -implicitDefEqProofs (disch:=omega) [go_sem,hf,Tryz.f130]
end Bk
namespace Bk
def withLine (b:Book) (x:Item):Book:={ b with items:=b.items++[x] }
theorem flat_item1 (x:Item):flat (items [x]) = [.int .i64 x.kind,.int .i64 x.id,.int .u64 x.inn,.int .u64 x.out,.int .i64 x.cause]:=rfl
set_option maxRecDepth 100000 in
theorem with_pc (Γ:Nat->Option (List Data)) (b:Book) (hi:b.items.length≤1000000) (x:Item):PC Tryz.prog Γ 67 [book b,item x] (book (withLine b x)):=by
 refine pc_by mixed Tryz.func67 rfl (fun args w=>Tryz.call67 args w) ?_
 simp -implicitDefEqProofs (disch:=omega) [go_sem,book,item]
 refine side (by kernel_rfl) ?_
 simp -implicitDefEqProofs (disch:=omega) [go_sem,Tryz.f67]
 refine ⟨_,⟨_,rfl,frz_aggL (frzL_c ((frz_data _ _ _ _).2 rfl) (frzL_c ((frz_data _ _ _ _).2 rfl) (frzL_c (fz_items (rw:=true) (l:=b.items++[x]) (by simp [go_sem,<- items_append,flat_item1]) (.inl rfl) (by simp)) (frzL_c ((frz_data _ _ _ _).2 rfl) frzL_n))))⟩,?_⟩
 rfl
/-- May a line stand where the session's last one ahead is k? -/
def LineAt (b:Book) (x:Item) (k:Int):Prop:=0≤x.id∧x.id < b.next ∧
 ((k < 0∧x.kind = 1∧x.inn = 0∧x.out = 0∧x.cause = 0) ∨
  (0≤k∧(b.items.getD k.toNat default).kind≠3∧(b.items.getD k.toNat default).inn≤x.inn∧(b.items.getD k.toNat default).out≤x.out∧(x.kind = 2∧x.cause = 0 ∨ x.kind = 3∧0≤x.cause∧x.cause≤255)))
def LineOk (b:Book) (i:Nat) (x:Item):Prop:=LineAt b x (last b.items x.id i)
set_option maxHeartbeats 4000000 in
set_option maxRecDepth 100000 in
theorem line_pc (Γ:Nat->Option (List Data)) (b:Book) (hb:Fits b) (i:Nat) (h:i < b.items.length) {v:Bool} (hv:v = true ↔ LineOk b i b.items[i]):PC Tryz.prog Γ 136 [book b,.int .i64 i] (.bool v):=by
 refine pc_by mixed Tryz.func136 rfl (fun args w=>Tryz.call136 args w) ?_
 have hi:=hb.i
 have hl:=last_pc Γ b hb b.items[i].id i (by omega)
 obtain ⟨l1,l2⟩:=last_lt b.items b.items[i].id i
 unfold LineOk at hv
 generalize last b.items b.items[i].id i = k at *
 have yes:LineAt b b.items[i] k->v = true:=hv.2
 have no:¬ LineAt b b.items[i] k->v = false:=fun h=>by
  cases v
  · rfl
  · exact absurd (hv.1 rfl) h
 clear hv
 simp -implicitDefEqProofs (disch:=omega) [go_sem,book]
 refine .inl (call_data hl (by simp [go_sem,book]) ?_)
 simp -implicitDefEqProofs (disch:=omega) [go_sem]
 refine ifW_ndec (fun h1=>?_) (fun h1=>?_)
 · simp -implicitDefEqProofs (disch:=omega) [go_sem]
   refine ifW_dec (fun h2=>?_) (fun h2=>?_)
   · have hvf:v = false:=no fun e=>by unfold LineAt at e;omega
     simp -implicitDefEqProofs (disch:=omega) [go_sem,hvf,Tryz.results136]
   · simp -implicitDefEqProofs (disch:=omega) [go_sem]
     refine ifW_dec (fun h3=>?_) (fun h3=>?_)
     · by_cases a1:b.items[i].kind = 1
       · by_cases a2:b.items[i].inn = 0
         · by_cases a3:b.items[i].out = 0
           · by_cases a4:b.items[i].cause = 0
             · have hvt:v = true:=yes (by unfold LineAt;omega)
               simp -implicitDefEqProofs (disch:=omega) [go_sem,hvt,Tryz.results136]
             · have hvf:v = false:=no fun e=>by unfold LineAt at e;omega
               simp -implicitDefEqProofs (disch:=omega) [go_sem,hvf,Tryz.results136]
           · have hvf:v = false:=no fun e=>by unfold LineAt at e;omega
             simp -implicitDefEqProofs (disch:=omega) [go_sem,hvf,Tryz.results136]
         · have hvf:v = false:=no fun e=>by unfold LineAt at e;omega
           simp -implicitDefEqProofs (disch:=omega) [go_sem,hvf,Tryz.results136]
       · have hvf:v = false:=no fun e=>by unfold LineAt at e;omega
         simp -implicitDefEqProofs (disch:=omega) [go_sem,hvf,Tryz.results136]
     · have hk:k.toNat < b.items.length:=by omega
       have hgd:b.items.getD k.toNat default = b.items[k.toNat]:=by rw [List.getD_eq_getElem?_getD,List.getElem?_eq_getElem hk];rfl
       simp -implicitDefEqProofs (disch:=omega) [go_sem]
       refine ifW_ndec (fun b1=>?_) (fun b1=>?_)
       · simp -implicitDefEqProofs (disch:=omega) [go_sem]
         refine ifW_ndec (fun b2=>?_) (fun b2=>?_)
         · simp -implicitDefEqProofs (disch:=omega) [go_sem]
           refine ifW_dec (fun b3=>?_) (fun b3=>?_)
           · have hvf:v = false:=no fun e=>by unfold LineAt at e;rw [hgd] at e;omega
             simp -implicitDefEqProofs (disch:=omega) [go_sem,hvf,Tryz.results136]
           · by_cases k2:b.items[i].kind = 2
             · by_cases c0:b.items[i].cause = 0
               · have hvt:v = true:=yes (by unfold LineAt;rw [hgd];omega)
                 simp -implicitDefEqProofs (disch:=omega) [go_sem,hvt,Tryz.results136]
               · have hvf:v = false:=no fun e=>by unfold LineAt at e;rw [hgd] at e;omega
                 simp -implicitDefEqProofs (disch:=omega) [go_sem,hvf,Tryz.results136]
             · by_cases k3:b.items[i].kind = 3
               · by_cases c0:0≤b.items[i].cause
                 · by_cases c1:b.items[i].cause≤255
                   · have hvt:v = true:=yes (by unfold LineAt;rw [hgd];omega)
                     simp -implicitDefEqProofs (disch:=omega) [go_sem,hvt,Tryz.results136]
                   · have hvf:v = false:=no fun e=>by unfold LineAt at e;rw [hgd] at e;omega
                     simp -implicitDefEqProofs (disch:=omega) [go_sem,hvf,Tryz.results136]
                 · have hvf:v = false:=no fun e=>by unfold LineAt at e;rw [hgd] at e;omega
                   simp -implicitDefEqProofs (disch:=omega) [go_sem,hvf,Tryz.results136]
               · have hvf:v = false:=no fun e=>by unfold LineAt at e;rw [hgd] at e;omega
                 simp -implicitDefEqProofs (disch:=omega) [go_sem,hvf,Tryz.results136]
         · have hvf:v = false:=no fun e=>by unfold LineAt at e;rw [hgd] at e;omega
           simp -implicitDefEqProofs (disch:=omega) [go_sem,hvf,Tryz.results136]
       · have hvf:v = false:=no fun e=>by unfold LineAt at e;rw [hgd] at e;omega
         simp -implicitDefEqProofs (disch:=omega) [go_sem,hvf,Tryz.results136]
 · have hvf:v = false:=no fun e=>by unfold LineAt at e;omega
   simp -implicitDefEqProofs (disch:=omega) [go_sem,hvf,Tryz.results136]
end Bk
namespace Bk
theorem flat_sess1 (x:Sess):flat (sesss [x]) = [.int .i64 x.id,.int .i64 x.link,.int .u32 x.addr,.str x.user,.int .u64 x.inn,.int .u64 x.out]:=rfl
def Busy (b:Book) (o:Op):Prop:=∃ (i:Nat) (h:i < b.opn.length),b.opn[i].link = o.link ∨ b.opn[i].addr = o.addr
open Classical in
noncomputable def openedOp (b:Book) (o:Op):Book × Int :=
 if ¬ poolOk o.addr then (b,1)
 else if Busy b o then (b,6)
 else if (b.items.length:Int) + b.opn.length + 2 > 60 ∨ b.next = 1000000000 then (b,4)
 else ({ next:=b.next + 1,opn:=b.opn++[⟨b.next,o.link,o.addr,o.user,0,0⟩],items:=b.items++[⟨1,b.next,0,0,0⟩],locks:=b.locks },0)
def out (r:Book × Int):Data:=.tup [book r.1,.int .i64 r.2]
set_option maxHeartbeats 4000000 in
set_option maxRecDepth 100000 in
theorem opened_pc (Γ:Nat->Option (List Data)) (b:Book) (o:Op) (hb:Fits b) (h0:0≤b.next∧b.next≤1000000000):PC Tryz.prog Γ 81 [book b,op o] (out (openedOp b o)):=by
 refine pc_by mixed Tryz.func81 rfl (fun args w=>Tryz.call81 args w) ?_
 obtain ⟨bo,bi,bl,-,-⟩:=hb
 have hp:=pool_pc Γ o.addr
 simp -implicitDefEqProofs (disch:=omega) [go_sem,book,op]
 refine .inl (call_data hp (by simp [go_sem]) ?_)
 by_cases g1:poolOk o.addr
 rotate_left
 · have hr:openedOp b o = (b,1):=by unfold openedOp;rw [if_pos g1]
   simp -implicitDefEqProofs (disch:=omega) [go_sem,g1,hr,out,book,Tryz.results81]
 simp -implicitDefEqProofs (disch:=omega) [go_sem,g1]
 refine loop_ren (σ:={ i:Nat // i≤b.opn.length∧∀ (j:Nat) (h:j < b.opn.length),j < i->b.opn[j].link≠o.link∧b.opn[j].addr≠o.addr }) (fun i=>⟨envL [(2,.ptr 0 0),(3,.ptr 1 0),(4,.ptr 2 0),(5,.data (.int .i64 0)),(7,.data (.int .i64 i.1))],hpL [(0,.blk true [.data (.int .i64 b.next),.data (.sl 6 (sesss b.opn)),.data (.sl 5 (items b.items)),.data (.sl 3 (locks b.locks))]),(1,.blk true [.data (.int .i64 o.kind),.data (.int .i64 o.id),.data (.int .i64 o.link),.data (.int .u32 o.addr),.data (.str o.user),.data (.int .u64 o.inn),.data (.int .u64 o.out),.data (.int .i64 o.cause),.data (.int .i64 o.at_)]),(2,.blk true [.data (.int .i64 0),.emp 0,.emp 0,.emp 0])],3,0,84⟩) (fun i=>b.opn.length - i.1) ⟨0,by omega,by omega⟩ [] (rhoL [(0,some 0),(1,some 1),(2,some 2)]) ?_ ?_
 · apply ren_lists <;> simp -implicitDefEqProofs [go_sem]
 rintro ⟨i,hi,hall⟩
 by_cases h:i < b.opn.length
 · by_cases he:b.opn[i].link = o.link
   · have hr:openedOp b o = (b,6):=by unfold openedOp;rw [if_neg (by simpa using g1),if_pos ⟨i,h,.inl he⟩]
     simp -implicitDefEqProofs (disch:=omega) [go_sem,he]
     refine side (by kernel_rfl) ?_
     simp -implicitDefEqProofs (disch:=omega) [go_sem,hr,out,book,Tryz.results81]
   · by_cases ha:b.opn[i].addr = o.addr
     · have hr:openedOp b o = (b,6):=by unfold openedOp;rw [if_neg (by simpa using g1),if_pos ⟨i,h,.inr ha⟩]
       simp -implicitDefEqProofs (disch:=omega) [go_sem,he,ha]
       refine side (by kernel_rfl) ?_
       simp -implicitDefEqProofs (disch:=omega) [go_sem,hr,out,book,Tryz.results81]
     · simp -implicitDefEqProofs (disch:=omega) [go_sem,he,ha]
       refine side (by kernel_rfl) ?_
       simp -implicitDefEqProofs (disch:=omega) [go_sem]
       refine next_ren ⟨i + 1,by omega,fun j hj hl=>if e:j = i then by subst e;exact ⟨he,ha⟩ else hall j hj (by omega)⟩ (by simp only;omega) [] (rhoL [(0,some 0),(1,some 1),(2,some 2)]) ?_
       apply ren_lists <;> simp -implicitDefEqProofs [go_sem]
 have hfree:¬ Busy b o:=by
  rintro ⟨j,hj,hk⟩
  have:=hall j hj (by omega)
  rcases hk with hk | hk
  · exact this.1 hk
  · exact this.2 hk
 by_cases g2:(b.items.length:Int) + b.opn.length + 2 > 60
 · have hr:openedOp b o = (b,4):=by unfold openedOp;rw [if_neg (by simpa using g1),if_neg hfree,if_pos (.inl g2)]
   simp -implicitDefEqProofs (disch:=omega) [go_sem,hr,out,book,Tryz.results81]
 by_cases g3:b.next = 1000000000
 · have hr:openedOp b o = (b,4):=by unfold openedOp;rw [if_neg (by simpa using g1),if_neg hfree,if_pos (.inr g3)]
   simp -implicitDefEqProofs (disch:=omega) [go_sem,hr,out,book,Tryz.results81]
 have hr:openedOp b o = ({ next:=b.next + 1,opn:=b.opn++[⟨b.next,o.link,o.addr,o.user,0,0⟩],items:=b.items++[⟨1,b.next,0,0,0⟩],locks:=b.locks },0):=by unfold openedOp;rw [if_neg (by simpa using g1),if_neg hfree,if_neg (by simp [g3];omega)]
 have hw:=with_pc Γ b (by omega) ⟨1,b.next,0,0,0⟩
 simp -implicitDefEqProofs (disch:=omega) [go_sem]
 refine .inl (call_data hw (by simp [go_sem,book,item]) ?_)
 simp -implicitDefEqProofs (disch:=omega) [go_sem,book,withLine]
 refine side (by kernel_rfl) ?_
 simp -implicitDefEqProofs (disch:=omega) [go_sem,hr,out,book,Tryz.results81]
 refine ⟨_,⟨_,rfl,frz_aggL (frzL_c ((frz_data _ _ _ _).2 rfl) (frzL_c (fz_sesss (rw:=true) (l:=b.opn++[⟨b.next,o.link,o.addr,o.user,0,0⟩]) (by simp [go_sem,<- sesss_append,flat_sess1]) (.inl rfl) (by simp)) (frzL_c ((frz_data _ _ _ _).2 rfl) (frzL_c ((frz_data _ _ _ _).2 rfl) frzL_n))))⟩,?_⟩
 rfl
theorem first_range {α:Type} (p:α->Bool):∀ (l:List α) (n:Nat),first p n l = -1 ∨ (n:Int)≤first p n l∧first p n l < n + l.length
 | [],n=>.inl rfl
 | a :: l,n=>by
   have ih:=first_range p l (n + 1)
   simp only [first,List.length_cons]
   split
   · right;omega
   · rcases ih with h | h
     · exact .inl h
     · right;omega
@[go_sem] theorem sesss_take (l:List Sess) (n:Nat):List.take n (sesss l) = sesss (l.take n):=by simp [sesss]
@[go_sem] theorem sesss_drop (l:List Sess) (n:Nat):List.drop n (sesss l) = sesss (l.drop n):=by simp [sesss]
theorem sess_cut (l:List Sess) (n:Nat) (h:n < l.length):List.take 6 (List.drop (n * 6) ((flat (sesss l)).map D.data)) = [.data (.int .i64 l[n].id),.data (.int .i64 l[n].link),.data (.int .u32 l[n].addr),.data (.str l[n].user),.data (.int .u64 l[n].inn),.data (.int .u64 l[n].out)]:=by
 rw [<- List.map_drop,<- flat_drop (sesss_cells l) n (by rw [sesss_length];omega),sesss_drop,List.drop_eq_getElem_cons h]
 rfl
theorem sess_set (l:List Sess) (n:Nat) (h:n < l.length) (x:Sess):List.take (n * 6) ((flat (sesss l)).map D.data)++.data (.int .i64 x.id) :: .data (.int .i64 x.link) :: .data (.int .u32 x.addr) :: .data (.str x.user) :: .data (.int .u64 x.inn) :: .data (.int .u64 x.out) :: List.drop (n * 6 + 6) ((flat (sesss l)).map D.data) = (flat (sesss (l.set n x))).map D.data:=by
 have e:n * 6 + 6 = (n + 1) * 6:=by omega
 rw [e,<- List.map_take,<- List.map_drop,<- flat_take (sesss_cells l) n (by rw [sesss_length];omega),<- flat_drop (sesss_cells l) (n + 1) (by rw [sesss_length];omega),sesss_take,sesss_drop,List.set_eq_take_append_cons_drop,if_pos h,<- sesss_append,List.map_append]
 rfl
def countedAt (b:Book) (o:Op) (k:Int):Book × Int :=
 if k < 0 then (b,5)
 else if (b.opn.getD k.toNat default).inn > o.inn ∨ (b.opn.getD k.toNat default).out > o.out then (b,7)
 else if o.kind = 3 then ({ b with items:=b.items++[⟨3,o.id,o.inn,o.out,o.cause⟩],opn:=b.opn.take k.toNat++b.opn.drop (k.toNat + 1) },0)
 else if (b.items.length:Int) + b.opn.length + 1 > 60 then (b,4)
 else ({ b with items:=b.items++[⟨2,o.id,o.inn,o.out,0⟩],opn:=b.opn.set k.toNat { b.opn.getD k.toNat default with inn:=o.inn,out:=o.out } },0)
def countedOp (b:Book) (o:Op):Book × Int:=countedAt b o (ofId b o.id)
set_option maxHeartbeats 4000000 in
set_option maxRecDepth 100000 in
theorem counted_pc (Γ:Nat->Option (List Data)) (b:Book) (o:Op) (hb:Fits b) (hi:b.items.length≤1000000) (ho:b.opn.length≤1000000):PC Tryz.prog Γ 82 [book b,op o] (out (countedOp b o)):=by
 refine pc_by mixed Tryz.func82 rfl (fun args w=>Tryz.call82 args w) ?_
 have hk:=of_pc Γ b hb o.id
 have hrg:=first_range (fun s:Sess=>decide (s.id = o.id)) b.opn 0
 obtain ⟨bo,bi,bl,-,-⟩:=hb
 have hr0:countedOp b o = countedAt b o (ofId b o.id):=rfl
 rw [hr0];clear hr0
 change ofId b o.id = -1 ∨ _≤ofId b o.id∧ofId b o.id < _ at hrg
 generalize ofId b o.id = k at *
 simp -implicitDefEqProofs (disch:=omega) [go_sem,book,op]
 refine .inl (call_data hk (by simp [go_sem,book]) ?_)
 by_cases g1:k < 0
 · have hr:countedAt b o k = (b,5):=by unfold countedAt;rw [if_pos g1]
   simp -implicitDefEqProofs (disch:=omega) [go_sem,hr,out,book,Tryz.results82]
 obtain ⟨n,rfl⟩:∃ n:Nat,k = n:=⟨k.toNat,by omega⟩
 have hn:n < b.opn.length:=by omega
 have hgd:b.opn.getD ((n:Int)).toNat default = b.opn[n]:=by rw [Int.toNat_natCast,List.getD_eq_getElem?_getD,List.getElem?_eq_getElem hn];rfl
 by_cases g2:b.opn[n].inn > o.inn
 · have hr:countedAt b o n = (b,7):=by unfold countedAt;rw [if_neg g1,hgd,if_pos (.inl g2)]
   simp -implicitDefEqProofs (disch:=omega) [go_sem]
   refine side (by kernel_rfl) ?_
   simp -implicitDefEqProofs (disch:=omega) [go_sem,hr,out,book,Tryz.results82]
 by_cases g3:b.opn[n].out > o.out
 · have hr:countedAt b o n = (b,7):=by unfold countedAt;rw [if_neg g1,hgd,if_pos (.inr g3)]
   simp -implicitDefEqProofs (disch:=omega) [go_sem]
   refine side (by kernel_rfl) ?_
   simp -implicitDefEqProofs (disch:=omega) [go_sem,hr,out,book,Tryz.results82]
 have g23:¬ (b.opn[n].inn > o.inn ∨ b.opn[n].out > o.out):=by omega
 simp -implicitDefEqProofs (disch:=omega) [go_sem]
 refine side (by kernel_rfl) ?_
 by_cases g4:o.kind = 3
 · have hr:countedAt b o n = ({ b with items:=b.items++[⟨3,o.id,o.inn,o.out,o.cause⟩],opn:=b.opn.take n++b.opn.drop (n + 1) },0):=by unfold countedAt;rw [if_neg g1,hgd,if_neg g23,if_pos g4,Int.toNat_natCast]
   have hw:=with_pc Γ b hi ⟨3,o.id,o.inn,o.out,o.cause⟩
   simp -implicitDefEqProofs (disch:=omega) [go_sem,g4]
   refine .inl (call_data hw (by simp [go_sem,book,item]) ?_)
   simp -implicitDefEqProofs (disch:=omega) [go_sem,book,withLine]
   refine side (by kernel_rfl) ?_
   simp -implicitDefEqProofs (disch:=omega) [go_sem,hr,out,book,Tryz.results82]
   refine ⟨_,⟨_,rfl,frz_aggL (frzL_c ((frz_data _ _ _ _).2 rfl) (frzL_c (fz_sesss (rw:=true) (l:=b.opn.take n++b.opn.drop (n + 1)) (by simp [go_sem,<- sesss_append]) (.inl rfl) (by simp;omega)) (frzL_c ((frz_data _ _ _ _).2 rfl) (frzL_c ((frz_data _ _ _ _).2 rfl) frzL_n))))⟩,?_⟩
   rfl
 by_cases g5:(b.items.length:Int) + b.opn.length + 1 > 60
 · have hr:countedAt b o n = (b,4):=by unfold countedAt;rw [if_neg g1,hgd,if_neg g23,if_neg g4,if_pos g5]
   simp -implicitDefEqProofs (disch:=omega) [go_sem,g4,hr,out,book,Tryz.results82]
 have hr:countedAt b o n = ({ b with items:=b.items++[⟨2,o.id,o.inn,o.out,0⟩],opn:=b.opn.set n { b.opn[n] with inn:=o.inn,out:=o.out } },0):=by unfold countedAt;rw [if_neg g1,hgd,if_neg g23,if_neg g4,if_neg g5,Int.toNat_natCast]
 have hw:=with_pc Γ b hi ⟨2,o.id,o.inn,o.out,0⟩
 simp -implicitDefEqProofs (disch:=omega) [go_sem,g4]
 refine .inl (call_data hw (by simp [go_sem,book,item]) ?_)
 simp -implicitDefEqProofs (disch:=omega) [go_sem,book,withLine,sess_cut b.opn n hn]
 simp only [hr,out,book]
 refine ⟨_,⟨_,rfl,frz_aggL (frzL_c ((frz_data _ _ _ _).2 rfl) (frzL_c (fz_sesss (rw:=true) (l:=b.opn.set n { b.opn[n] with inn:=o.inn,out:=o.out }) (by have:=sess_set b.opn n hn { b.opn[n] with inn:=o.inn,out:=o.out };simp [go_sem,<- this]) (.inl rfl) (by simp)) (frzL_c ((frz_data _ _ _ _).2 rfl) (frzL_c ((frz_data _ _ _ _).2 rfl) frzL_n))))⟩,?_⟩
 rfl
@[go_sem] theorem locks_take (l:List Lock) (n:Nat):List.take n (locks l) = locks (l.take n):=by simp [locks]
@[go_sem] theorem locks_drop (l:List Lock) (n:Nat):List.drop n (locks l) = locks (l.drop n):=by simp [locks]
theorem flat_lock1 (x:Lock):flat (locks [x]) = [.str x.user,.int .i64 x.n,.int .i64 x.at_]:=rfl
theorem lock_set (l:List Lock) (n:Nat) (h:n < l.length) (x:Lock):List.take (n * 3) ((flat (locks l)).map D.data)++.data (.str x.user) :: .data (.int .i64 x.n) :: .data (.int .i64 x.at_) :: List.drop (n * 3 + 3) ((flat (locks l)).map D.data) = (flat (locks (l.set n x))).map D.data:=by
 have e:n * 3 + 3 = (n + 1) * 3:=by omega
 rw [e,<- List.map_take,<- List.map_drop,<- flat_take (locks_cells l) n (by rw [locks_length];omega),<- flat_drop (locks_cells l) (n + 1) (by rw [locks_length];omega),locks_take,locks_drop,List.set_eq_take_append_cons_drop,if_pos h,<- locks_append,List.map_append]
 rfl
def failedAt (b:Book) (o:Op) (k:Int):Book × Int :=
 if o.kind = 5 then (if k < 0 then (b,5) else ({ b with locks:=b.locks.take k.toNat++b.locks.drop (k.toNat + 1) },0))
 else if k < 0 then (if (b.locks.length:Int) = 8 then (b,4) else ({ b with locks:=b.locks++[⟨o.user,1,o.at_⟩] },0))
 else if (b.locks.getD k.toNat default).at_ > o.at_ then (b,7)
 else ({ b with locks:=b.locks.set k.toNat ⟨o.user,min 255 ((b.locks.getD k.toNat default).n + 1),o.at_⟩ },0)
def failedOp (b:Book) (o:Op):Book × Int:=failedAt b o (failed b o.user)
set_option maxHeartbeats 4000000 in
set_option maxRecDepth 100000 in
theorem failedOp_pc (Γ:Nat->Option (List Data)) (b:Book) (o:Op) (hb:Fits b) (hl:b.locks.length≤1000000) (hn0:∀ l∈b.locks,-1000000≤l.n∧l.n≤1000000):PC Tryz.prog Γ 83 [book b,op o] (out (failedOp b o)):=by
 refine pc_by mixed Tryz.func83 rfl (fun args w=>Tryz.call83 args w) ?_
 have hk:=failed_pc Γ b hb o.user
 have hrg:=first_range (fun l:Lock=>decide (l.user = o.user)) b.locks 0
 obtain ⟨bo,bi,bl,-,-⟩:=hb
 have hr0:failedOp b o = failedAt b o (failed b o.user):=rfl
 rw [hr0];clear hr0
 change failed b o.user = -1 ∨ _≤failed b o.user∧failed b o.user < _ at hrg
 generalize failed b o.user = k at *
 simp -implicitDefEqProofs (disch:=omega) [go_sem,book,op]
 refine .inl (call_data hk (by simp [go_sem,book]) ?_)
 by_cases g0:o.kind = 5
 · by_cases g1:k < 0
   · have hr:failedAt b o k = (b,5):=by unfold failedAt;rw [if_pos g0,if_pos g1]
     simp -implicitDefEqProofs (disch:=omega) [go_sem,g0,hr,out,book,Tryz.results83]
   obtain ⟨n,rfl⟩:∃ n:Nat,k = n:=⟨k.toNat,by omega⟩
   have hn:n < b.locks.length:=by omega
   have hr:failedAt b o n = ({ b with locks:=b.locks.take n++b.locks.drop (n + 1) },0):=by unfold failedAt;rw [if_pos g0,if_neg g1,Int.toNat_natCast]
   simp -implicitDefEqProofs (disch:=omega) [go_sem,g0]
   refine side (by kernel_rfl) ?_
   simp -implicitDefEqProofs (disch:=omega) [go_sem,hr,out,book,Tryz.results83]
   refine ⟨_,⟨_,rfl,frz_aggL (frzL_c ((frz_data _ _ _ _).2 rfl) (frzL_c ((frz_data _ _ _ _).2 rfl) (frzL_c ((frz_data _ _ _ _).2 rfl) (frzL_c (fz_locks (rw:=true) (l:=b.locks.take n++b.locks.drop (n + 1)) (by simp [go_sem,<- locks_append]) (.inl rfl) (by simp;omega)) frzL_n))))⟩,?_⟩
   rfl
 by_cases g1:k < 0
 · by_cases g2:(b.locks.length:Int) = 8
   · have hr:failedAt b o k = (b,4):=by unfold failedAt;rw [if_neg g0,if_pos g1,if_pos g2]
     simp -implicitDefEqProofs (disch:=omega) [go_sem,g0,g2,hr,out,book,Tryz.results83]
   have hr:failedAt b o k = ({ b with locks:=b.locks++[⟨o.user,1,o.at_⟩] },0):=by unfold failedAt;rw [if_neg g0,if_pos g1,if_neg g2]
   simp -implicitDefEqProofs (disch:=omega) [go_sem,g0,g2,hr,out,book,Tryz.results83]
   refine ⟨_,⟨_,rfl,frz_aggL (frzL_c ((frz_data _ _ _ _).2 rfl) (frzL_c ((frz_data _ _ _ _).2 rfl) (frzL_c ((frz_data _ _ _ _).2 rfl) (frzL_c (fz_locks (rw:=true) (l:=b.locks++[⟨o.user,1,o.at_⟩]) (by simp [go_sem,<- locks_append,flat_lock1]) (.inl rfl) (by simp)) frzL_n))))⟩,?_⟩
   rfl
 obtain ⟨n,rfl⟩:∃ n:Nat,k = n:=⟨k.toNat,by omega⟩
 have hn:n < b.locks.length:=by omega
 have hgd:b.locks.getD ((n:Int)).toNat default = b.locks[n]:=by rw [Int.toNat_natCast,List.getD_eq_getElem?_getD,List.getElem?_eq_getElem hn];rfl
 have hnn:=hn0 _ (List.getElem_mem hn)
 by_cases g3:b.locks[n].at_ > o.at_
 · have hr:failedAt b o n = (b,7):=by unfold failedAt;rw [if_neg g0,if_neg g1,hgd,if_pos g3]
   simp -implicitDefEqProofs (disch:=omega) [go_sem,g0]
   refine side (by kernel_rfl) ?_
   simp -implicitDefEqProofs (disch:=omega) [go_sem,hr,out,book,Tryz.results83]
 have hr:failedAt b o n = ({ b with locks:=b.locks.set n ⟨o.user,min 255 (b.locks[n].n + 1),o.at_⟩ },0):=by unfold failedAt;rw [if_neg g0,if_neg g1,hgd,if_neg g3,Int.toNat_natCast]
 simp -implicitDefEqProofs (disch:=omega) [go_sem,g0]
 refine side (by kernel_rfl) ?_
 simp -implicitDefEqProofs (disch:=omega) [go_sem]
 refine side (by kernel_rfl) ?_
 simp -implicitDefEqProofs (disch:=omega) [go_sem,hr,out,book,Tryz.results83]
 refine ⟨_,⟨_,rfl,frz_aggL (frzL_c ((frz_data _ _ _ _).2 rfl) (frzL_c ((frz_data _ _ _ _).2 rfl) (frzL_c ((frz_data _ _ _ _).2 rfl) (frzL_c (fz_locks (rw:=true) (l:=b.locks.set n ⟨o.user,min 255 (b.locks[n].n + 1),o.at_⟩) (by have:=lock_set b.locks n hn ⟨o.user,min 255 (b.locks[n].n + 1),o.at_⟩;simp [go_sem,<- this];omega) (.inl rfl) (by simp)) frzL_n))))⟩,?_⟩
 rfl
def kept (b:Book) (l:List Item):List Item:=l.filter fun x=>decide (0≤ofId b x.id)
theorem kept_succ (b:Book) (i:Nat) (h:i < b.items.length):kept b (b.items.take (i + 1)) = kept b (b.items.take i)++(if 0≤ofId b b.items[i].id then [b.items[i]] else []):=by
 rw [List.take_succ_eq_append_getElem h]
 unfold kept
 rw [List.filter_append]
 by_cases g:0≤ofId b b.items[i].id <;> simp [g]
open Classical in
noncomputable def applyOp (b:Book) (o:Op):Book × Int :=
 if ¬ MayP o then (b,1)
 else if o.kind = 1 then openedOp b o
 else if o.kind = 2 ∨ o.kind = 3 then countedOp b o
 else if o.kind = 4 ∨ o.kind = 5 then failedOp b o
 else ({ b with items:=kept b b.items },0)
set_option maxHeartbeats 4000000 in
set_option maxRecDepth 100000 in
theorem apply_pc (Γ:Nat->Option (List Data)) (b:Book) (o:Op) (hb:Fits b) (h0:0≤b.next∧b.next≤1000000000) (hi:b.items.length≤1000000) (ho:b.opn.length≤1000000) (hl:b.locks.length≤1000000) (hn0:∀ l∈b.locks,-1000000≤l.n∧l.n≤1000000) (hu:o.user.size≤9223372036854775807):PC Tryz.prog Γ 44 [book b,op o] (out (applyOp b o)):=by
 refine pc_by mixed Tryz.func44 rfl (fun args w=>Tryz.call44 args w) ?_
 have c0:=may_pc Γ o hu
 have c1:=opened_pc Γ b o hb h0
 have c2:=counted_pc Γ b o hb hi ho
 have c3:=failedOp_pc Γ b o hb hl hn0
 have c4:=fun id=>of_pc Γ b hb id
 simp -implicitDefEqProofs (disch:=omega) [go_sem,book,op]
 refine .inl (call_data c0 (by simp [go_sem,op]) ?_)
 by_cases g0:MayP o
 rotate_left
 · have hr:applyOp b o = (b,1):=by unfold applyOp;rw [if_pos g0]
   simp -implicitDefEqProofs (disch:=omega) [go_sem,g0,hr,out,book,Tryz.results44]
 by_cases g1:o.kind = 1
 · have hr:applyOp b o = openedOp b o:=by unfold applyOp;rw [if_neg (by simpa using g0),if_pos g1]
   simp -implicitDefEqProofs (disch:=omega) [go_sem,g0,g1]
   refine .inl (call_data c1 (by simp [go_sem,book,op,g1]) ?_)
   simp -implicitDefEqProofs (disch:=omega) [go_sem,hr,out,book,Tryz.results44]
 by_cases g2:o.kind = 2
 · have hr:applyOp b o = countedOp b o:=by unfold applyOp;rw [if_neg (by simpa using g0),if_neg g1,if_pos (.inl g2)]
   simp -implicitDefEqProofs (disch:=omega) [go_sem,g0,g2]
   refine .inl (call_data c2 (by simp [go_sem,book,op,g2]) ?_)
   simp -implicitDefEqProofs (disch:=omega) [go_sem,hr,out,book,Tryz.results44]
 by_cases g3:o.kind = 3
 · have hr:applyOp b o = countedOp b o:=by unfold applyOp;rw [if_neg (by simpa using g0),if_neg g1,if_pos (.inr g3)]
   simp -implicitDefEqProofs (disch:=omega) [go_sem,g0,g3]
   refine .inl (call_data c2 (by simp [go_sem,book,op,g3]) ?_)
   simp -implicitDefEqProofs (disch:=omega) [go_sem,hr,out,book,Tryz.results44]
 by_cases g4:o.kind = 4
 · have hr:applyOp b o = failedOp b o:=by unfold applyOp;rw [if_neg (by simpa using g0),if_neg g1,if_neg (by omega),if_pos (.inl g4)]
   simp -implicitDefEqProofs (disch:=omega) [go_sem,g0,g4]
   refine .inl (call_data c3 (by simp [go_sem,book,op,g4]) ?_)
   simp -implicitDefEqProofs (disch:=omega) [go_sem,hr,out,book,Tryz.results44]
 by_cases g5:o.kind = 5
 · have hr:applyOp b o = failedOp b o:=by unfold applyOp;rw [if_neg (by simpa using g0),if_neg g1,if_neg (by omega),if_pos (.inr g5)]
   simp -implicitDefEqProofs (disch:=omega) [go_sem,g0,g5]
   refine .inl (call_data c3 (by simp [go_sem,book,op,g5]) ?_)
   simp -implicitDefEqProofs (disch:=omega) [go_sem,hr,out,book,Tryz.results44]
 have hr:applyOp b o = ({ b with items:=kept b b.items },0):=by unfold applyOp;rw [if_neg (by simpa using g0),if_neg g1,if_neg (by omega),if_neg (by omega)]
 obtain ⟨bo,bi,bl,-,-⟩:=hb
 simp -implicitDefEqProofs (disch:=omega) [go_sem,g0,g1,g2,g3,g4,g5]
 refine loop_ren (σ:={ i:Nat // i≤b.items.length }) (fun i=>⟨envL [(2,.ptr 0 0),(4,.ptr 2 0),(7,.ptr 3 0),(8,.data (.int .i64 i.1))],hpL [(0,.blk true [.data (.int .i64 b.next),.data (.sl 6 (sesss b.opn)),.data (.sl 5 (items b.items)),.data (.sl 3 (locks b.locks))]),(1,.blk true [.data (.int .i64 o.kind),.data (.int .i64 o.id),.data (.int .i64 o.link),.data (.int .u32 o.addr),.data (.str o.user),.data (.int .u64 o.inn),.data (.int .u64 o.out),.data (.int .i64 o.cause),.data (.int .i64 o.at_)]),(2,.blk true [.data (.int .i64 0),.emp 0,.emp 0,.emp 0]),(3,.blk true [.data (.int .i64 b.next),.data (.sl 6 (sesss b.opn)),.ref 4 0 (kept b (b.items.take i.1)).length 5,.data (.sl 3 (locks b.locks))]),(4,.blk true ((flat (items (kept b (b.items.take i.1)))).map .data))],5,0,68⟩) (fun i=>b.items.length - i.1) ⟨0,by omega⟩ [] (rhoL [(0,some 0),(1,some 1),(2,some 2),(3,some 22),(4,none)]) ?_ ?_
 · apply ren_lists <;> simp -implicitDefEqProofs [go_sem,kept,items,flat]
 rintro ⟨i,hi2⟩
 by_cases h:i < b.items.length
 · have hs:=kept_succ b i h
   have hkl:(kept b (b.items.take i)).length≤i:=by unfold kept;exact Nat.le_trans (List.length_filter_le _ _) (by simp;omega)
   simp -implicitDefEqProofs (disch:=omega) [go_sem]
   refine .inl (call_data (c4 b.items[i].id) (by simp [go_sem,book]) ?_)
   by_cases g:0≤ofId b b.items[i].id
   · rw [if_pos g] at hs
     simp -implicitDefEqProofs (disch:=omega) [go_sem,g]
     refine side (by kernel_rfl) ?_
     simp -implicitDefEqProofs (disch:=omega) [go_sem,g]
     refine side (by kernel_rfl) ?_
     simp -implicitDefEqProofs (disch:=omega) [go_sem]
     refine next_ren ⟨i + 1,by omega⟩ (by simp only;omega) [] (rhoL [(0,some 0),(1,some 1),(2,some 2),(3,some 3),(4,some 27)]) ?_
     apply ren_lists <;> simp -implicitDefEqProofs [go_sem,hs,<- items_append,flat_item1]
     exact renCells_plain rfl (by simp [plainD])
   · rw [if_neg g,List.append_nil] at hs
     simp -implicitDefEqProofs (disch:=omega) [go_sem,g]
     refine side (by kernel_rfl) ?_
     simp -implicitDefEqProofs (disch:=omega) [go_sem,g]
     refine next_ren ⟨i + 1,by omega⟩ (by simp only;omega) [] (rhoL [(0,some 0),(1,some 1),(2,some 2),(3,some 3),(4,some 4)]) ?_
     apply ren_lists <;> simp -implicitDefEqProofs [go_sem,hs]
 have hi3:i = b.items.length:=by omega
 subst hi3
 simp -implicitDefEqProofs (disch:=omega) [go_sem,hr,out,book,Tryz.results44,List.take_length]
 refine ⟨_,⟨_,rfl,frz_aggL (frzL_c ((frz_data _ _ _ _).2 rfl) (frzL_c ((frz_data _ _ _ _).2 rfl) (frzL_c (fz_items (rw:=true) (l:=kept b b.items) (by simp [go_sem]) (.inl rfl) (by simp)) (frzL_c ((frz_data _ _ _ _).2 rfl) frzL_n))))⟩,?_⟩
 rfl
def ends (l:List Sess):List Item:=l.map fun s=>⟨3,s.id,s.inn,s.out,9⟩
def closeOp (b:Book):Book:={ b with opn:=[],items:=b.items++ends b.opn }
theorem ends_succ (l:List Sess) (i:Nat) (h:i < l.length):ends (l.take (i + 1)) = ends (l.take i)++[⟨3,l[i].id,l[i].inn,l[i].out,9⟩]:=by
 rw [List.take_succ_eq_append_getElem h];unfold ends;rw [List.map_append];rfl
set_option maxHeartbeats 4000000 in
set_option maxRecDepth 100000 in
theorem close_pc (Γ:Nat->Option (List Data)) (b:Book) (hb:Fits b) (hi:b.items.length + b.opn.length≤1000000):PC Tryz.prog Γ 35 [book b] (book (closeOp b)):=by
 refine pc_by mixed Tryz.func35 rfl (fun args w=>Tryz.call35 args w) ?_
 simp -implicitDefEqProofs (disch:=omega) [go_sem,book]
 refine loop_ren (σ:={ i:Nat // i≤b.opn.length }) (fun i=>⟨envL [(1,.ptr 0 0),(2,.ptr 1 0),(3,.ptr 2 0),(4,.data (.int .i64 i.1))],hpL [(0,.blk true [.data (.int .i64 b.next),.data (.sl 6 (sesss b.opn)),.data (.sl 5 (items b.items)),.data (.sl 3 (locks b.locks))]),(1,.blk true [.data (.int .i64 0),.emp 0,.emp 0,.emp 0]),(2,.blk true [.data (.int .i64 b.next),.data (.sl 6 (sesss b.opn)),.data (.sl 5 (items (b.items++ends (b.opn.take i.1)))),.data (.sl 3 (locks b.locks))])],3,0,30⟩) (fun i=>b.opn.length - i.1) ⟨0,by omega⟩ [] (rhoL [(0,some 0),(1,some 1),(2,some 3)]) ?_ ?_
 · apply ren_lists <;> simp -implicitDefEqProofs [go_sem,ends]
 rintro ⟨i,hi2⟩
 by_cases h:i < b.opn.length
 · have hs:=ends_succ b.opn i h
   have hw:=with_pc Γ { b with items:=b.items++ends (b.opn.take i) } (by simp [ends];omega) ⟨3,b.opn[i].id,b.opn[i].inn,b.opn[i].out,9⟩
   simp -implicitDefEqProofs (disch:=omega) [go_sem,sess_cut b.opn i h]
   refine .inl (call_data hw (by simp [go_sem,book,item]) ?_)
   simp -implicitDefEqProofs (disch:=omega) [go_sem,book,withLine]
   refine next_ren ⟨i + 1,by omega⟩ (by simp only;omega) [] (rhoL [(0,some 0),(1,some 1),(2,some 2)]) ?_
   apply ren_lists <;> simp -implicitDefEqProofs [go_sem,hs]
 have hi3:i = b.opn.length:=by omega
 subst hi3
 simp -implicitDefEqProofs (disch:=omega) [go_sem,closeOp,book,Tryz.results35,List.take_length]
 refine ⟨_,⟨_,rfl,frz_aggL (frzL_c ((frz_data _ _ _ _).2 rfl) (frzL_c (.emp _ 6) (frzL_c ((frz_data _ _ _ _).2 rfl) (frzL_c ((frz_data _ _ _ _).2 rfl) frzL_n))))⟩,?_⟩
 rfl
end Bk
namespace Bk
variable (Γ:Nat->Option (List Data))
theorem isFrom_pc (n l h:Int):PC Tryz.prog Γ 109 [.int .i64 n,.int .i64 l,.int .i64 h] (.bool (decide (l≤n∧n≤h))):=by
 refine pc_by mixed Tryz.func109 rfl (fun args w=>Tryz.call109 args w) ?_
 by_cases h1:l≤n
 · by_cases h2:n≤h
   · simp -implicitDefEqProofs (disch:=omega) [go_sem,h1,h2,Tryz.f109]
   · simp -implicitDefEqProofs (disch:=omega) [go_sem,h1,h2,Tryz.f109]
 · simp -implicitDefEqProofs (disch:=omega) [go_sem,h1,Tryz.f109]
theorem isLink_pc (n:Int):PC Tryz.prog Γ 110 [.int .i64 n] (.bool (decide (0≤n∧n≤7))):=by
 refine pc_by mixed Tryz.func110 rfl (fun args w=>Tryz.call110 args w) ?_
 simp -implicitDefEqProofs (disch:=omega) [go_sem]
 refine .inl (call_data (isFrom_pc Γ n 0 7) (by simp [go_sem]) ?_)
 simp -implicitDefEqProofs (disch:=omega) [go_sem,Tryz.f110]
theorem isUser_pc (u:ByteArray):PC Tryz.prog Γ 111 [.str u] (.bool (decide (nameOk u))):=by
 refine pc_by mixed Tryz.func111 rfl (fun args w=>Tryz.call111 args w) ?_
 simp -implicitDefEqProofs (disch:=omega) [go_sem]
 have e:decide ((1:Int)≤(u.size:Int)∧(u.size:Int)≤16) = decide (nameOk u):=by
  unfold nameOk
  congr 1
  simp only [eq_iff_iff]
  omega
 have h:=isFrom_pc Γ u.size 1 16
 rw [e] at h
 refine .inl (call_data h (by simp [go_sem]) ?_)
 simp -implicitDefEqProofs (disch:=omega) [go_sem,Tryz.f111]
theorem isOfPool_pc (a:Int):PC Tryz.prog Γ 143 [.int .u32 a] (.bool (decide (poolOk a))):=by
 refine pc_by mixed Tryz.func143 rfl (fun args w=>Tryz.call143 args w) ?_
 by_cases h1:167772161≤a
 · by_cases h2:a < 167772167
   · have hyes:poolOk a:=⟨h1,by omega⟩
     simp -implicitDefEqProofs (disch:=omega) [go_sem,hyes,h1,h2,Tryz.f143]
   · have hno:¬ poolOk a:=fun hk=>by unfold poolOk at hk;omega
     simp -implicitDefEqProofs (disch:=omega) [go_sem,hno,h1,h2,Tryz.f143]
 · have hno:¬ poolOk a:=fun hk=>by unfold poolOk at hk;omega
   simp -implicitDefEqProofs (disch:=omega) [go_sem,hno,h1,Tryz.f143]
/- What a session,or a user,is asked. -/
theorem byAddr_pc (s:Sess) (a:Int):PC Tryz.prog Γ 173 [sess s,.pc [.int .u32 a]] (.bool (decide (s.addr = a))):=by
 refine pc_by mixed Tryz.func173 rfl (fun args w=>Tryz.call173 args w) ?_
 simp -implicitDefEqProofs (disch:=omega) [go_sem,sess,Tryz.f173]
theorem byLink_pc (s:Sess) (a:Int):PC Tryz.prog Γ 172 [sess s,.pc [.int .i64 a]] (.bool (decide (s.link = a))):=by
 refine pc_by mixed Tryz.func172 rfl (fun args w=>Tryz.call172 args w) ?_
 simp -implicitDefEqProofs (disch:=omega) [go_sem,sess,Tryz.f172]
theorem byId_pc (s:Sess) (a:Int):PC Tryz.prog Γ 178 [sess s,.pc [.int .i64 a]] (.bool (decide (s.id = a))):=by
 refine pc_by mixed Tryz.func178 rfl (fun args w=>Tryz.call178 args w) ?_
 simp -implicitDefEqProofs (disch:=omega) [go_sem,sess,Tryz.f178]
theorem byUser_pc (l:Lock) (u:ByteArray):PC Tryz.prog Γ 175 [lock l,.pc [.str u]] (.bool (decide (l.user = u))):=by
 refine pc_by mixed Tryz.func175 rfl (fun args w=>Tryz.call175 args w) ?_
 simp -implicitDefEqProofs (disch:=omega) [go_sem,lock,Tryz.f175]
/- Where the first one stands. -/
set_option maxHeartbeats 1000000 in
theorem idxSess_pc (l:List Sess) (hl:l.length≤140737488351232) (g:FuncId) (caps:List Data) (p:Sess->Bool) (h:∀ s,PC Tryz.prog Γ g (sess s :: caps) (.bool (p s))):PC Tryz.prog Γ 177 [.sl 6 (sesss l),.fn g caps] (.int .i64 (first p 0 l)):=by
 refine pc_by mixed Tryz.func177 rfl (fun args w=>Tryz.call177 args w) ?_
 simp -implicitDefEqProofs (disch:=omega) [go_sem]
 refine loop_ren (σ:={ i:Nat // i≤l.length∧∀ (j:Nat) (h:j < l.length),j < i->p l[j] = false }) (fun i=>⟨envL [(0,.data (.sl 6 (sesss l))),(1,.data (.fn g caps)),(7,.data (.int .i64 l.length)),(8,.data (.int .i64 i.1))],hpL [],0,0,19⟩) (fun i=>l.length - i.1) ⟨0,by omega,by omega⟩ [] (rhoL []) ?_ ?_
 · apply ren_lists <;> simp -implicitDefEqProofs [go_sem]
 rintro ⟨i,hi,hall⟩
 by_cases hlt:i < l.length
 · have hc:=h l[i]
   simp -implicitDefEqProofs (disch:=omega) [go_sem]
   refine .inl (call_data hc (by simp [go_sem,sess]) ?_)
   cases hp:p l[i] with
   | true =>
     have hr:first p 0 l = (i:Int):=by
      have:=first_at (p:=p) (l:=l) (n:=0) hlt hp (fun j hj=>hall j (by omega) hj)
      rw [this];congr 1;omega
     simp -implicitDefEqProofs (disch:=omega) [go_sem,hr,Tryz.results177]
   | false =>
     simp -implicitDefEqProofs (disch:=omega) [go_sem]
     refine next_ren ⟨i + 1,by omega,fun j hj hji=>if e:j = i then by subst e;exact hp else hall j hj (by omega)⟩ (by simp only;omega) [] (rhoL []) ?_
     apply ren_lists <;> simp -implicitDefEqProofs [go_sem]
 have hr:first p 0 l = -1:=first_none fun a ha=>by
  obtain ⟨j,hj,rfl⟩:=List.mem_iff_getElem.1 ha
  exact hall j hj (by omega)
 simp -implicitDefEqProofs (disch:=omega) [go_sem,hr,Tryz.results177]
set_option maxHeartbeats 1000000 in
theorem idxLock_pc (l:List Lock) (hl:l.length≤140737488351232) (g:FuncId) (caps:List Data) (p:Lock->Bool) (h:∀ s,PC Tryz.prog Γ g (lock s :: caps) (.bool (p s))):PC Tryz.prog Γ 174 [.sl 3 (locks l),.fn g caps] (.int .i64 (first p 0 l)):=by
 refine pc_by mixed Tryz.func174 rfl (fun args w=>Tryz.call174 args w) ?_
 simp -implicitDefEqProofs (disch:=omega) [go_sem]
 refine loop_ren (σ:={ i:Nat // i≤l.length∧∀ (j:Nat) (h:j < l.length),j < i->p l[j] = false }) (fun i=>⟨envL [(0,.data (.sl 3 (locks l))),(1,.data (.fn g caps)),(7,.data (.int .i64 l.length)),(8,.data (.int .i64 i.1))],hpL [],0,0,19⟩) (fun i=>l.length - i.1) ⟨0,by omega,by omega⟩ [] (rhoL []) ?_ ?_
 · apply ren_lists <;> simp -implicitDefEqProofs [go_sem]
 rintro ⟨i,hi,hall⟩
 by_cases hlt:i < l.length
 · have hc:=h l[i]
   simp -implicitDefEqProofs (disch:=omega) [go_sem]
   refine .inl (call_data hc (by simp [go_sem,lock]) ?_)
   cases hp:p l[i] with
   | true =>
     have hr:first p 0 l = (i:Int):=by
      have:=first_at (p:=p) (l:=l) (n:=0) hlt hp (fun j hj=>hall j (by omega) hj)
      rw [this];congr 1;omega
     simp -implicitDefEqProofs (disch:=omega) [go_sem,hr,Tryz.results174]
   | false =>
     simp -implicitDefEqProofs (disch:=omega) [go_sem]
     refine next_ren ⟨i + 1,by omega,fun j hj hji=>if e:j = i then by subst e;exact hp else hall j hj (by omega)⟩ (by simp only;omega) [] (rhoL []) ?_
     apply ren_lists <;> simp -implicitDefEqProofs [go_sem]
 have hr:first p 0 l = -1:=first_none fun a ha=>by
  obtain ⟨j,hj,rfl⟩:=List.mem_iff_getElem.1 ha
  exact hall j hj (by omega)
 simp -implicitDefEqProofs (disch:=omega) [go_sem,hr,Tryz.results174]
set_option maxHeartbeats 1000000 in
theorem idxItem_pc (l:List Item) (hl:l.length≤140737488351232) (g:FuncId) (caps:List Data) (p:Item->Bool) (h:∀ s,PC Tryz.prog Γ g (item s :: caps) (.bool (p s))):PC Tryz.prog Γ 176 [.sl 5 (items l),.fn g caps] (.int .i64 (first p 0 l)):=by
 refine pc_by mixed Tryz.func176 rfl (fun args w=>Tryz.call176 args w) ?_
 simp -implicitDefEqProofs (disch:=omega) [go_sem]
 refine loop_ren (σ:={ i:Nat // i≤l.length∧∀ (j:Nat) (h:j < l.length),j < i->p l[j] = false }) (fun i=>⟨envL [(0,.data (.sl 5 (items l))),(1,.data (.fn g caps)),(7,.data (.int .i64 l.length)),(8,.data (.int .i64 i.1))],hpL [],0,0,19⟩) (fun i=>l.length - i.1) ⟨0,by omega,by omega⟩ [] (rhoL []) ?_ ?_
 · apply ren_lists <;> simp -implicitDefEqProofs [go_sem]
 rintro ⟨i,hi,hall⟩
 by_cases hlt:i < l.length
 · have hc:=h l[i]
   simp -implicitDefEqProofs (disch:=omega) [go_sem]
   refine .inl (call_data hc (by simp [go_sem,item]) ?_)
   cases hp:p l[i] with
   | true =>
     have hr:first p 0 l = (i:Int):=by
      have:=first_at (p:=p) (l:=l) (n:=0) hlt hp (fun j hj=>hall j (by omega) hj)
      rw [this];congr 1;omega
     simp -implicitDefEqProofs (disch:=omega) [go_sem,hr,Tryz.results176]
   | false =>
     simp -implicitDefEqProofs (disch:=omega) [go_sem]
     refine next_ren ⟨i + 1,by omega,fun j hj hji=>if e:j = i then by subst e;exact hp else hall j hj (by omega)⟩ (by simp only;omega) [] (rhoL []) ?_
     apply ren_lists <;> simp -implicitDefEqProofs [go_sem]
 have hr:first p 0 l = -1:=first_none fun a ha=>by
  obtain ⟨j,hj,rfl⟩:=List.mem_iff_getElem.1 ha
  exact hall j hj (by omega)
 simp -implicitDefEqProofs (disch:=omega) [go_sem,hr,Tryz.results176]
theorem hasSess_pc (l:List Sess) (hl:l.length≤140737488351232) (g:FuncId) (caps:List Data) (p:Sess->Bool) (h:∀ s,PC Tryz.prog Γ g (sess s :: caps) (.bool (p s))):PC Tryz.prog Γ 171 [.sl 6 (sesss l),.fn g caps] (.bool (decide (0≤first p 0 l))):=by
 refine pc_by mixed Tryz.func171 rfl (fun args w=>Tryz.call171 args w) ?_
 simp -implicitDefEqProofs (disch:=omega) [go_sem]
 refine .inl (call_data (idxSess_pc Γ l hl g caps p h) (by simp [go_sem]) ?_)
 simp -implicitDefEqProofs (disch:=omega) [go_sem,Tryz.f171]
theorem hasLink_pc (l:List Sess) (hl:l.length≤140737488351232) (a:Int):PC Tryz.prog Γ 144 [.sl 6 (sesss l),.int .i64 a] (.bool (decide (0≤first (fun s:Sess=>decide (s.link = a)) 0 l))):=by
 refine pc_by mixed Tryz.func144 rfl (fun args w=>Tryz.call144 args w) ?_
 have hc:=hasSess_pc Γ l hl _ [.pc [.int .i64 a]] (fun s:Sess=>decide (s.link = a)) (fun s=>byLink_pc Γ s a)
 simp -implicitDefEqProofs (disch:=omega) [go_sem]
 refine .inl (call_bare [0] hc (by constructor) (fun H' hH=>?_) ?_)
 · have h0:=hH 0 (by simp)
   simp -implicitDefEqProofs [go_sem] at h0
   refine frzL_c ((frz_data _ _ _ _).2 rfl) (frzL_c ((frz_fn _ _ _ _ _).2 ⟨_,rfl,frzL_c (frz_ptrL h0 (.inl rfl) ?_) frzL_n⟩) frzL_n)
   exact frzL_c ((frz_data _ _ _ _).2 rfl) frzL_n
 · simp -implicitDefEqProofs (disch:=omega) [go_sem,Tryz.f144]
theorem hasAddr_pc (l:List Sess) (hl:l.length≤140737488351232) (a:Int):PC Tryz.prog Γ 145 [.sl 6 (sesss l),.int .u32 a] (.bool (decide (0≤first (fun s:Sess=>decide (s.addr = a)) 0 l))):=by
 refine pc_by mixed Tryz.func145 rfl (fun args w=>Tryz.call145 args w) ?_
 have hc:=hasSess_pc Γ l hl _ [.pc [.int .u32 a]] (fun s:Sess=>decide (s.addr = a)) (fun s=>byAddr_pc Γ s a)
 simp -implicitDefEqProofs (disch:=omega) [go_sem]
 refine .inl (call_bare [0] hc (by constructor) (fun H' hH=>?_) ?_)
 · have h0:=hH 0 (by simp)
   simp -implicitDefEqProofs [go_sem] at h0
   refine frzL_c ((frz_data _ _ _ _).2 rfl) (frzL_c ((frz_fn _ _ _ _ _).2 ⟨_,rfl,frzL_c (frz_ptrL h0 (.inl rfl) ?_) frzL_n⟩) frzL_n)
   exact frzL_c ((frz_data _ _ _ _).2 rfl) frzL_n
 · simp -implicitDefEqProofs (disch:=omega) [go_sem,Tryz.f145]
theorem placeOfId_pc (l:List Sess) (hl:l.length≤140737488351232) (a:Int):PC Tryz.prog Γ 153 [.sl 6 (sesss l),.int .i64 a] (.int .i64 (first (fun s:Sess=>decide (s.id = a)) 0 l)):=by
 refine pc_by mixed Tryz.func153 rfl (fun args w=>Tryz.call153 args w) ?_
 have hc:=idxSess_pc Γ l hl _ [.pc [.int .i64 a]] (fun s:Sess=>decide (s.id = a)) (fun s=>byId_pc Γ s a)
 simp -implicitDefEqProofs (disch:=omega) [go_sem]
 refine .inl (call_bare [0] hc (by constructor) (fun H' hH=>?_) ?_)
 · have h0:=hH 0 (by simp)
   simp -implicitDefEqProofs [go_sem] at h0
   refine frzL_c ((frz_data _ _ _ _).2 rfl) (frzL_c ((frz_fn _ _ _ _ _).2 ⟨_,rfl,frzL_c (frz_ptrL h0 (.inl rfl) ?_) frzL_n⟩) frzL_n)
   exact frzL_c ((frz_data _ _ _ _).2 rfl) frzL_n
 · simp -implicitDefEqProofs (disch:=omega) [go_sem,Tryz.f153]
theorem placeOfUser_pc (l:List Lock) (hl:l.length≤140737488351232) (a:ByteArray):PC Tryz.prog Γ 149 [.sl 3 (locks l),.str a] (.int .i64 (first (fun s:Lock=>decide (s.user = a)) 0 l)):=by
 refine pc_by mixed Tryz.func149 rfl (fun args w=>Tryz.call149 args w) ?_
 have hc:=idxLock_pc Γ l hl _ [.pc [.str a]] (fun s:Lock=>decide (s.user = a)) (fun s=>byUser_pc Γ s a)
 simp -implicitDefEqProofs (disch:=omega) [go_sem]
 refine .inl (call_bare [0] hc (by constructor) (fun H' hH=>?_) ?_)
 · have h0:=hH 0 (by simp)
   simp -implicitDefEqProofs [go_sem] at h0
   refine frzL_c ((frz_data _ _ _ _).2 rfl) (frzL_c ((frz_fn _ _ _ _ _).2 ⟨_,rfl,frzL_c (frz_ptrL h0 (.inl rfl) ?_) frzL_n⟩) frzL_n)
   exact frzL_c ((frz_data _ _ _ _).2 rfl) frzL_n
 · simp -implicitDefEqProofs (disch:=omega) [go_sem,Tryz.f149]
end Bk
end Go.Proofs.YtjkpeebajibgiaaGreat
