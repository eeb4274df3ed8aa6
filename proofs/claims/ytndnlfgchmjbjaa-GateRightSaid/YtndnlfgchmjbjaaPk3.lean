/- Operations whose order is open: on plain data they may be taken in the order of the text, where what they touch lies apart. Operations whose order is open: the order of the text stands for all. Operations whose order is open: the theorem. Code and functions on plain data. What the walk's simp goes by. -/
import Derived.Test.YtndnlfgchmjbjaaPk2
import Derived.Orders
import Derived.LoopTactic
namespace Go.Proofs.Ytndnlfgchmjbjaa
open Go.RowKit
set_option linter.unusedSimpArgs false
set_option linter.unusedVariables false
set_option maxRecDepth 100000
structure Tr where
 rd:List Nat
 ks:List Nat
def ancs:List Oper->List Nat->List Nat
 | [],acc=>acc
 | o::rest,acc=>ancs rest (acc++[o.after.toList.foldl (fun s e=>if Region.binds .any e then s ||| 2 ^ e.on ||| acc.getD e.on 0 else s) 0])
def slotsOf (ops:Array Oper) (o:Oper):List Nat:=o.looksAt ops
def pairOk (ops:Array Oper) (i j:Nat) (oi oj:Oper) (ti tj:Tr) (aj:Nat):Bool :=
 (match oi.dst,oj.dst with
   | some s,some t=>s != t
   | _,_=>true) &&
 (aj.testBit i ||
   ((match oi.dst with
     | some s=>!(slotsOf ops oj).contains s
     | none=>true) &&
   (match oj.dst with
     | some s=>!(slotsOf ops oi).contains s
     | none=>true) &&
   ti.ks.all (fun g=>!tj.rd.contains g && !tj.ks.contains g) && tj.ks.all fun g=>!ti.rd.contains g))
def pairsOk (ops:Array Oper) (l:List (Oper×Tr×Nat)):Bool :=
 (List.range l.length).all fun j=>(List.range j).all fun i=>match l[i]?,l[j]? with
   | some (oi,ti,_),some (oj,tj,aj)=>pairOk ops i j oi oj ti tj aj
   | _,_=>true
def drawOk (ops:Array Oper) (tr:List Tr):Bool :=
 pairsOk ops (ops.toList.zip (tr.zip (ancs ops.toList []))) && ((List.range ops.size).all fun i=>match ops[i]? with
  | some o=>o.after.all fun e=>!Region.binds .any e || decide (e.on<i)
  | none=>true)
def AfterK (Γ:Nat->Option (List Data)) (L0:Nat->Prop) (w0:W0) (fr k:Nat) (H:Nat->Blk) (m:Nat->MB) (w:World) (d:D) (u:List (Nat×Blk)) (v:Value) (w':World):Prop :=
 ∃ m',WR Γ L0 w0 m' (Hp.upd H u) w'/\VV (Live L0 m' (Hp.upd H u)) w' m' d v/\Grow (Live L0 m H) w (Live L0 m' (Hp.upd H u)) w'/\∀ g,(g<fr \/ fr+k<=g)->m' g=m g
theorem After.k {Γ:Nat->Option (List Data)} {L0:Nat->Prop} {w0:W0} {fr:Nat} {H:Nat->Blk} {m:Nat->MB} {w:World} {d:D} {u:List (Nat×Blk)} {v:Value} {w':World} (h:After Γ L0 w0 fr H m w d u v w'):AfterK Γ L0 w0 fr 1 H m w d u v w':=by
 obtain⟨m',h1,h2,h3,h4⟩:=h;exact⟨m',h1,h2,h3,fun g hg=>h4 g (by omega)⟩
section
variable (P:Program) (Γ:Nat->Option (List Data))
def EC (f:FuncId) (ds:List D) (H:Nat->Blk) (fr k:Nat) (d:D) (u:List (Nat×Blk)):Prop :=
 CallOk P f/\∀ (L0:Nat->Prop) (w0:W0) (m:Nat->MB) (w:World) (vs:Array Value),WR Γ L0 w0 m H w->(∀ q,q<k->m (fr+q) = .res)->(∀ g,fr+64<=g->m g = .res)->ds.length=vs.size →
  (∀ (i:Nat) (d:D) (v:Value),ds[i]?=some d->vs[i]?=some v->VV (Live L0 m H) w m d v)->Calls P f vs w fun e w'=>∃ v,e = .returned v/\AfterK Γ L0 w0 fr k H m w d u v w'
def effC (f:FuncId) (ds:List D) (H:Nat->Blk) (fr:Nat) (K:D->List Nat->List (Nat×Blk)->Nat->Prop):Prop :=
 ∃ d rd u k,0<k/\(∀ H',(∀ g∈rd,H' g=H g)->(∀ g∈u.map (·.1),H' g=H g)->EC P Γ f ds H' fr k d u)/\K d rd u k
def effK (o:Oper) (e:Nat->D) (H:Nat->Blk) (fr:Nat) (K:D->List Nat->List (Nat×Blk)->Nat->Prop):Prop:=match o.op with
 | .call c=>(match c.callee with
   | .value x=>(match fnD (evalD Γ e x) with
     | some (f,pre,caps)=>effC P Γ f (pre++(c.args.toList.map (evalD Γ e)++caps)) H fr K
     | none=>False)
   | _=>False)
 | _=>False
def stepK (s:St) (o:Oper) (d:D) (u:List (Nat×Blk)) (k:Nat):St:=⟨Env.dst s.env o.dst d,Hp.upd s.hp u,s.nx+k,s.lo,s.nt⟩
def drawW (ops:Array Oper):List Oper->St->List Tr->(St->List Tr->Prop)->Prop
 | [],s,tr,K=>K s tr.reverse
 | o::rest,s,tr,K=>dstOk o s.nt=true/\(match wantedD ops s.env o with
   | some b=>ifW b (ifW (isCall o) ((opK P Γ o s.env s.hp s.nx fun d rd u=>drawW ops rest (stepSt s o d u) (⟨rd,u.map (·.1)⟩::tr) K) \/ effK P Γ o s.env s.hp s.nx fun d rd u k=>drawW ops rest (stepK s o d u k) (⟨rd,u.map (·.1)⟩::tr) K)
      (opK P Γ o s.env s.hp s.nx fun d rd u=>drawW ops rest (stepSt s o d u) (⟨rd,u.map (·.1)⟩::tr) K)) (drawW ops rest (stepSt s o undefD []) (⟨[],[]⟩::tr) K)
   | none=>False)
structure Res where
 d:D
 rd:List Nat
 u:List (Nat×Blk)
 k:Nat
def Res.tr (r:Res):Tr:=⟨r.rd,r.u.map (·.1)⟩
def Comes1 (ops:Array Oper) (o:Oper) (s:St) (r:Res):Prop:=dstOk o s.nt=true/\(match wantedD ops s.env o with
 | some true=>(r.k=1/\opK P Γ o s.env s.hp s.nx fun d rd u=>d=r.d/\rd=r.rd/\u=r.u) \/ effK P Γ o s.env s.hp s.nx fun d rd u k=>d=r.d/\rd=r.rd/\u=r.u/\k=r.k
 | some false=>r=⟨undefD,[],[],1⟩
 | none=>False)
end
section
variable {P:Program} {Γ:Nat->Option (List Data)} {L0:Nat->Prop} {w0:W0}
def Lin (F:(D->List Nat->List (Nat×Blk)->Prop)->Prop):Prop:=∀ K,F K->∃ d rd u,F (fun d' rd' u'=>d'=d/\rd'=rd/\u'=u)/\K d rd u
theorem lin_false:Lin (fun _=>False):=fun K h=>h.elim
theorem lin_k (d:D) (rd:List Nat) (u:List (Nat×Blk)):Lin (fun K=>K d rd u):=fun K h=>⟨d,rd,u,⟨rfl,rfl,rfl⟩,h⟩
theorem lin_and {p:Prop} {F:(D->List Nat->List (Nat×Blk)->Prop)->Prop} (h:Lin F):Lin (fun K=>p/\F K):=fun K ⟨hp,hf⟩=>by
 obtain⟨d,rd,u,h1,h2⟩:=h K hf;exact⟨d,rd,u,⟨hp,h1⟩,h2⟩
theorem lin_ex {α:Type} {F:α->(D->List Nat->List (Nat×Blk)->Prop)->Prop} (h:∀ x,Lin (F x)):Lin (fun K=>∃ x,F x K):=fun K ⟨x,hf⟩=>by
 obtain⟨d,rd,u,h1,h2⟩:=h x K hf;exact⟨d,rd,u,⟨x,h1⟩,h2⟩
theorem lin_ite {c:Prop} [Decidable c] {F G:(D->List Nat->List (Nat×Blk)->Prop)->Prop} (h1:Lin F) (h2:Lin G):Lin (fun K=>if c then F K else G K):=by
 by_cases h:c
 . simp only[h,if_true];exact h1
 . simp only[h,if_false];exact h2
set_option maxHeartbeats 2000000 in
theorem op_lin (o:Oper) (e:Nat->D) (H:Nat->Blk) (fr:Nat):Lin (opK P Γ o e H fr):=by
 unfold opK;obtain⟨dst,op,type,pos,after,guard⟩:=o;cases op<;>simp only
 case call c =>
  obtain⟨callee,args,argTypes⟩:=c;cases callee<;>simp only
  case value x =>
   split
   . unfold callK
     repeat' first|exact lin_k _ _ _|apply lin_and|(apply lin_ex;intro _)
   . exact lin_false
  case builtin b =>
   cases b<;>simp only
   all_goals (try unfold lenK);(try unfold capK);(try unfold appendK);(try unfold copyK);(try unfold clearK);(try unfold minmaxK);(try unfold srcK zerosK)
   all_goals (repeat' first|exact lin_false|exact lin_k _ _ _|apply lin_and|(apply lin_ex;intro _)|apply lin_ite|split|dsimp only|unfold srcK|unfold zerosK|unfold boundsK)
  case invoke =>
   split
   . refine lin_ex fun f=>lin_and ?_;unfold callK
     repeat' first|exact lin_k _ _ _|apply lin_and|(apply lin_ex;intro _)
   . exact lin_false
 case makeMap t r =>
  cases r
  . exact lin_k _ _ _
  . exact lin_false
 case next it b =>
  cases b
  . exact lin_false
  . dsimp only;unfold snextK
    repeat' first|exact lin_false|exact lin_k _ _ _|apply lin_ite|split
 all_goals (try unfold buildK);(try unfold extractK);(try unfold zerosK);(try unfold loadK);(try unfold storeK);(try unfold binK eqK);(try unfold unK);(try unfold convK markK);(try unfold sliceK sliceArrK);(try unfold cutK);(try unfold boundsC);(try unfold lookupK lookK);(try unfold zvK);(try unfold insertK);(try unfold entryK);(try unfold snextK);(try unfold boundsK);(try unfold fieldAddrK);(try unfold arrPtrK);(try unfold fieldK);(try unfold indexAddrK);(try unfold indexK);(try unfold partK)
 all_goals (repeat' first|exact lin_false|exact lin_k _ _ _|apply lin_and|(apply lin_ex;intro _)|apply lin_ite|split|dsimp only|unfold srcK|unfold zerosK|unfold boundsK|unfold lookK|unfold zvK)
theorem eff_lin (o:Oper) (e:Nat->D) (H:Nat->Blk) (fr:Nat) {K:D->List Nat->List (Nat×Blk)->Nat->Prop} (h:effK P Γ o e H fr K):∃ d rd u k,(effK P Γ o e H fr fun d' rd' u' k'=>d'=d/\rd'=rd/\u'=u/\k'=k)/\K d rd u k:=by
 unfold effK at h ⊢;split at h
 . split at h
   . split at h
     . obtain⟨d,rd,u,k,h1,h2,h3⟩:=h;exact⟨d,rd,u,k,⟨d,rd,u,k,h1,h2,rfl,rfl,rfl,rfl⟩,h3⟩
     . exact h.elim
   . exact h.elim
 . exact h.elim
theorem eff_congr {o:Oper} {e e':Nat->D} (h:∀ x∈o.op.operands,evalD Γ e' x=evalD Γ e x) (H:Nat->Blk) (fr:Nat) (K:D->List Nat->List (Nat×Blk)->Nat->Prop):effK P Γ o e' H fr K=effK P Γ o e H fr K:=by
 obtain⟨dst,op,type,pos,after,guard⟩:=o;cases op<;>simp only[effK,Op.operands] at h ⊢
 case call c =>
  obtain⟨callee,args,argTypes⟩:=c;have hargs:args.toList.map (evalD Γ e')=args.toList.map (evalD Γ e):=by
   apply List.map_congr_left;intro x hx;refine h x ?_;simp only[Call.operands,Array.mem_append];exact .inr (by simpa using hx)
  cases callee<;>simp only
  case value x =>
   have hx:evalD Γ e' x=evalD Γ e x:=h x (by simp[Call.operands]);rw[hargs,hx]
theorem eff_loc {o:Oper} {e:Nat->D} {H H':Nat->Blk} {fr:Nat} {d:D} {rd:List Nat} {u:List (Nat×Blk)} {k:Nat} (h:effK P Γ o e H fr fun d' rd' u' k'=>d'=d/\rd'=rd/\u'=u/\k'=k)
 (hr:∀ g∈rd,H' g=H g) (hu:∀ g∈u.map (·.1),H' g=H g):effK P Γ o e H' fr fun d' rd' u' k'=>d'=d/\rd'=rd/\u'=u/\k'=k:=by
 unfold effK at *;split at h
 . split at h
   . split at h
     . obtain⟨d1,rd1,u1,k1,h0,h1,rfl,rfl,rfl,rfl⟩:=h;exact⟨d1,rd1,u1,k1,h0,fun H2 a b=>h1 H2 (fun g hg=>(a g hg).trans (hr g hg)) (fun g hg=>(b g hg).trans (hu g hg)),rfl,rfl,rfl,rfl⟩
     . exact h.elim
   . exact h.elim
 . exact h.elim
theorem op_congr {o:Oper} {e e':Nat->D} (h:∀ x∈o.op.operands,evalD Γ e' x=evalD Γ e x) (H:Nat->Blk) (fr:Nat) (K:D->List Nat->List (Nat×Blk)->Prop):opK P Γ o e' H fr K=opK P Γ o e H fr K:=by
 obtain⟨dst,op,type,pos,after,guard⟩:=o;cases op<;>simp only[opK,Op.operands] at h ⊢
 case move x=>rw[h x (by simp)]
 case assign x=>rw[h x (by simp)]
 case pick c a b=>rw[h c (by simp),h a (by simp),h b (by simp)]
 case box t x=>rw[h x (by simp)]
 case build t parts =>
  have:parts.toList.map (fun x=>(x.1,evalD Γ e' x.2))=parts.toList.map (fun x=>(x.1,evalD Γ e x.2)):=by
   apply List.map_congr_left;intro x hx;rw[h x.2 (by simp only[List.mem_toArray,List.mem_map];exact⟨x,hx,rfl⟩)]
  rw[this]
 case buildSlice t len parts =>
  have:parts.toList.map (fun x=>(x.1,evalD Γ e' x.2))=parts.toList.map (fun x=>(x.1,evalD Γ e x.2)):=by
   apply List.map_congr_left;intro x hx;rw[h x.2 (by simp only[List.mem_toArray,List.mem_map];exact⟨x,hx,rfl⟩)]
  rw[this]
 case load t x=>rw[h x (by simp)]
 case store t a x=>rw[h a (by simp),h x (by simp)]
 case binOp op t x y _=>rw[h x (by simp),h y (by simp)]
 case unOp op _ x=>rw[h x (by simp)]
 case convert s d x=>rw[h x (by simp)]
 case makeSlice t l c=>rw[h l (by simp),h c (by simp)]
 case slice t x lo hi mx =>
  have hlo:lo.map (evalD Γ e')=lo.map (evalD Γ e):=by cases lo with|none=>rfl|some y=>simp[h y (by simp)]
  have hhi:hi.map (evalD Γ e')=hi.map (evalD Γ e):=by cases hi with|none=>rfl|some y=>simp[h y (by simp)]
  have hmx:mx.map (evalD Γ e')=mx.map (evalD Γ e):=by cases mx with|none=>rfl|some y=>simp[h y (by simp)]
  rw[h x (by simp),hlo,hhi,hmx]
 case fieldAddr t x f=>rw[h x (by simp)]
 case sliceToArrayPointer t x=>rw[h x (by simp)]
 case field t x f=>rw[h x (by simp)]
 case indexAddr t x ix=>rw[h x (by simp),h ix (by simp)]
 case index t x ix=>rw[h x (by simp),h ix (by simp)]
 case extract x i=>rw[h x (by simp)]
 case makeInterface t x=>rw[h x (by simp)]
 case typeAssert x st t ok=>rw[h x (by simp)]
 case nilCheck x=>rw[h x (by simp)]
 case makeMap t r=>cases r<;>rfl
 case insert t m k x=>rw[h m (by simp),h k (by simp),h x (by simp)]
 case mapUpdate t m k x=>rw[h m (by simp),h k (by simp),h x (by simp)]
 case lookup t x i ok=>rw[h x (by simp),h i (by simp)]
 case range t x=>rw[h x (by simp)]
 case entry x=>rw[h x (by simp)]
 case next x b =>
  cases b
  . rfl
  . have e1:=h x (by simp);dsimp only;rw[e1]
 case makeFunc f first caps =>
  have:caps.toList.map (evalD Γ e')=caps.toList.map (evalD Γ e):=by
   apply List.map_congr_left;intro x hx;exact h x (by simp only[Array.mem_append];exact .inr (by simpa using hx))
  rw[this];have hone:∀ x,x∈first.toList->evalD Γ e' x=evalD Γ e x:=fun x hx=>h x (by simp only[Array.mem_append];exact .inl (by simpa using hx))
  generalize first.toList=fl at hone
  match f,fl,hone with
  | .func f,[],_=>rfl
  | .func f,[r],hone =>
    have:=hone r (by simp);simp only[this]
  | .func f,_::_::_,_=>rfl
  | .method ..,_,_=>rfl
  | .methodOf ..,_,_=>rfl
  | .via ..,_,_=>rfl
  | .yield ..,_,_=>rfl
 case call c =>
  obtain⟨callee,args,argTypes⟩:=c;have hargs:args.toList.map (evalD Γ e')=args.toList.map (evalD Γ e):=by
   apply List.map_congr_left;intro x hx;refine h x ?_;simp only[Call.operands,Array.mem_append];exact .inr (by simpa using hx)
  have hone:∀ x,x∈args.toList->evalD Γ e' x=evalD Γ e x:=fun x hx=>h x (by
   simp only[Call.operands,Array.mem_append];exact .inr (by simpa using hx))
  cases callee<;>simp only
  case value x =>
   have hx:evalD Γ e' x=evalD Γ e x:=h x (by simp[Call.operands]);rw[hargs,hx]
  case invoke x name =>
   have hx:evalD Γ e' x=evalD Γ e x:=h x (by simp[Call.operands]);rw[hargs,hx]
  case builtin b =>
   cases b<;>simp only
   case len =>
    split
    . rename_i t x _ hx;rw[hone x (by rw[hx];simp)]
    . rfl
   case append =>
    split
    . rename_i st xt x y _ _ hx;rw[hone x (by rw[hx];simp),hone y (by rw[hx];simp)]
    . rfl
   case copy =>
    split
    . rename_i st x y _ hx;rw[hone x (by rw[hx];simp),hone y (by rw[hx];simp)]
    . rfl
   case clear =>
    split
    . rename_i t x _ hx;rw[hone x (by rw[hx];simp)]
    . rfl
   case cap =>
    split
    . rename_i t x _ hx;rw[hone x (by rw[hx];simp)]
    . rfl
   case min=>rw[hargs]
   case max=>rw[hargs]
theorem boundsK_iff {len:Nat} {lo hi:Option D} {K:Nat->Nat->Prop}:boundsK len lo hi K ↔ ∃ a b,boundsK len lo hi (fun a' b'=>a'=a/\b'=b)/\K a b:=by
 unfold boundsK;constructor
 . intro h;split at h
   . obtain⟨h0,h1,h2,h⟩:=h;exact⟨_,_,⟨h0,h1,h2,rfl,rfl⟩,h⟩
   . exact h.elim
 . rintro⟨a,b,h,hk⟩;split at h
   . obtain⟨h0,h1,h2,rfl,rfl⟩:=h;exact⟨h0,h1,h2,hk⟩
   . exact h.elim
theorem src_loc {y:D} {es:Nat} {H H':Nat->Blk} {K:Nat->List D->List Nat->Prop} (h:srcK y es H K) (ha:∀ n cs rd,K n cs rd->∀ g∈rd,H' g=H g):srcK y es H' K:=by
 unfold srcK at *;split at h
 . exact h
 . exact h
 . obtain⟨h1,h⟩:=h;refine⟨h1,?_⟩;split at h
   . rename_i hg;obtain⟨h2,h⟩:=h;rw[ha _ _ _ h _ (by simp),hg];exact⟨h2,h⟩
   . exact h.elim
 . obtain⟨h1,h⟩:=h;refine⟨h1,?_⟩;split at h
   . rename_i hg;obtain⟨h2,h⟩:=h;rw[ha _ _ _ h _ (by simp),hg];exact⟨h2,h⟩
   . exact h.elim
 . exact h
 . exact h
theorem src_ex {y:D} {es:Nat} {H:Nat->Blk} {K:Nat->List D->List Nat->Prop} (h:srcK y es H K):∃ n cs rd,K n cs rd:=by
 unfold srcK at h;split at h
 . exact⟨_,_,_,h⟩
 . exact⟨_,_,_,h.2⟩
 . obtain⟨_,h⟩:=h;split at h
   . exact⟨_,_,_,h.2⟩
   . exact h.elim
 . obtain⟨_,h⟩:=h;split at h
   . exact⟨_,_,_,h.2⟩
   . exact h.elim
 . exact⟨_,_,_,h.2⟩
 . exact h.elim
theorem ins_loc {t:TypeId} {x key v d:D} {H H':Nat->Blk} {rd:List Nat} {u:List (Nat×Blk)} (h:insertK P t x key v H fun rd' u'=>D.junk=d/\rd'=rd/\u'=u) (hr:∀ g∈rd,H' g=H g):insertK P t x key v H' fun rd' u'=>D.junk=d/\rd'=rd/\u'=u:=by
 unfold insertK at *;split at h
 . obtain⟨h1,h⟩:=h;refine⟨h1,?_⟩;split at h
   . rename_i hg;have hrd:∀ g,[g]=rd->H' g=H g:=fun g e=>hr g (by rw[<- e];simp);split at h
     . rename_i hf;rw[hrd _ h.2.1,hg];simp only[hf];exact h
     . rename_i hf;rw[hrd _ h.2.1,hg];simp only[hf];exact h
     . exact h.elim
   . exact h.elim
 . exact h.elim
theorem look_ex {et:TypeId} {ks:List Data} {xs:List D} {k:Data} {ok:Bool} {d:D} {rd0 rd:List Nat} {u0 u:List (Nat×Blk)} (h:lookK P et ks xs k ok fun d'=>d'=d/\rd0=rd/\u0=u):rd0=rd:=by
 unfold lookK zvK at h
 repeat' split at h
 all_goals first|exact h.2.1|exact h.elim
theorem call_loc {f:FuncId} {ds:List D} {H H':Nat->Blk} {d:D} {rd:List Nat} {u:List (Nat×Blk)} (h:callK P Γ f ds H fun d' rd' u'=>d'=d/\rd'=rd/\u'=u)
 (hr:∀ g∈rd,H' g=H g) (hu:∀ g∈u.map (·.1),H' g=H g):callK P Γ f ds H' fun d' rd' u'=>d'=d/\rd'=rd/\u'=u:=by
 obtain⟨F,xs,r,rd',hF,hpc,hfz,h1,h2,h3⟩:=h;have hkey:∀ g∈F,H' g=H g:=fun g hg=>by
  obtain⟨rw,cells,hb⟩:=hF g hg;refine hu g (by rw[<- h3];simp only[List.map_map,List.mem_map];exact⟨g,hg,rfl⟩)
 have hmap:F.map (fun g=>(g,fz (H' g)))=F.map fun g=>(g,fz (H g)):=List.map_congr_left fun g hg=>by rw[hkey g hg]
 refine⟨F,xs,r,rd',fun g hg=>by rw[hkey g hg];exact hF g hg,hpc,?_,h1,h2,by rw[hmap];exact h3⟩;rw[hmap];rcases hfz with⟨q1,q2,q3⟩|q3
 . exact .inl ⟨q1,q2,fun H2 hH2=>q3 H2 fun g hg=>(hH2 g hg).trans (hr g (by rw[<- h2];exact hg))⟩
 . exact .inr fun H2 hH2=>q3 H2 fun g hg=>(hH2 g hg).trans (hr g (by rw[<- h2];exact hg))
theorem op_loc {o:Oper} {e:Nat->D} {H H':Nat->Blk} {fr:Nat} {d:D} {rd:List Nat} {u:List (Nat×Blk)} (h:opK P Γ o e H fr fun d' rd' u'=>d'=d/\rd'=rd/\u'=u)
 (hr:∀ g∈rd,H' g=H g) (hu:∀ g∈u.map (·.1),H' g=H g):opK P Γ o e H' fr fun d' rd' u'=>d'=d/\rd'=rd/\u'=u:=by
 obtain⟨dst,op,type,pos,after,guard⟩:=o;cases op<;>simp only[opK] at h ⊢
 case convert s d' x =>
  split at h
  . rename_i g off len es heq;unfold markK at *;obtain⟨h1,h2,h3,h4,h⟩:=h;refine⟨h1,h2,h3,h4,?_⟩;split at h
    . rename_i el hel
      try simp only[hel]
      obtain⟨h5,h⟩:=h;refine⟨h5,?_⟩;split at h
      . rename_i cells hg;split at h
        . rename_i l hl;obtain⟨h6,h7,h8,h9,h10⟩:=h;rw[hr g (by rw[<- h9];simp),hg]
          try simp only[hl]
          exact⟨h6,h7,h8,h9,h10⟩
        . exact h.elim
      . exact h.elim
    . exact h.elim
  . exact h
  . exact h
 case load t x =>
  unfold loadK at *;split at h
  . split at h
    . rename_i hg;split at h
      . obtain⟨h1,h2,h3,h4⟩:=h;rw[hr _ (by rw[<- h3];simp),hg];exact⟨h1,h2,h3,h4⟩
      . obtain⟨q,h1,h2,h3,h4⟩:=h;rw[hr _ (by rw[<- h3];simp),hg];exact⟨q,h1,h2,h3,h4⟩
      . exact h.elim
    . exact h.elim
  . exact h
  . exact h.elim
 case store t x y =>
  unfold storeK at *;split at h
  . split at h
    . rename_i hg;obtain⟨h1,h2,h3,h4,h5,h6⟩:=h;rw[hu _ (by rw[<- h6];simp),hg];exact⟨h1,h2,h3,h4,h5,h6⟩
    . exact h.elim
  . exact h.elim
 case slice t x lo hi mx =>
  split at h
  . unfold sliceArrK at *;split at h
    . exact h.elim
    . split at h
      . split at h
        . rename_i hg;have hb:=h.2.2;obtain⟨a,b,_,_,h3,_⟩:=boundsK_iff.1 hb;simp only;rw[hr _ (by rw[<- h3];simp),hg];simp only[*];simp_all
        . exact h.elim
      . exact h
      . exact h.elim
  . unfold sliceArrK at *;split at h
    . exact h.elim
    . split at h
      . split at h
        . rename_i hg;have hb:=h.2.2;obtain⟨a,b,_,_,h3,_⟩:=boundsK_iff.1 hb;simp only;rw[hr _ (by rw[<- h3];simp),hg];simp_all
        . exact h.elim
      . exact h
      . exact h.elim
  . exact h
  . exact h
 case call c =>
  obtain⟨callee,args,argTypes⟩:=c;cases callee<;>simp only at h ⊢
  case value x =>
   split at h
   . exact call_loc h hr hu
   . exact h.elim
  case invoke x name =>
   split at h
   . obtain⟨f,hmf,h⟩:=h;exact⟨f,hmf,call_loc h hr hu⟩
   . exact h.elim
  case builtin b =>
   cases b<;>simp only at h ⊢
   case append =>
    split at h
    . unfold appendK at *;split at h
      . split at h
        . obtain⟨h1,h2,h⟩:=h;refine⟨h1,h2,?_⟩;split at h
          . split at h
            . rename_i hif;rw[if_pos hif];exact h
            . rename_i hif;rw[if_neg hif];obtain⟨h3,h⟩:=h;exact⟨h3,src_loc h fun n cs rd' hk g hg=>hr g (by rw[<- hk.2.2.2.2.1];exact hg)⟩
          . obtain⟨h3,h⟩:=h;refine⟨h3,?_⟩;split at h
            . rename_i g _ _ _ _ hg;obtain⟨h4,h⟩:=h;split at h
              . rename_i hif;split at h
                . have hz:=h.2.2.2;unfold zerosK at hz;split at hz
                  . rw[hr _ (by rw[<- hz.2.2.2.2.1];simp),hg];simp only;rw[if_pos hif];simp_all
                  . exact hz.elim
                . exact h.elim
              . rename_i hif;obtain⟨h5,h⟩:=h;obtain⟨n,cs,rd',hk⟩:=src_ex h;rw[hr _ (by rw[<- hk.2.2.2.2.1];simp),hg];simp only;rw[if_neg hif];exact⟨h4,h5,src_loc h fun n cs rd' hk q hq=>hr q (by rw[<- hk.2.2.2.2.1];simp[hq])⟩
            . exact h.elim
          . obtain⟨h3,h⟩:=h;refine⟨h3,?_⟩;split at h
            . rename_i g _ _ _ _ _ _ hg;obtain⟨h4,h5,h⟩:=h;split at h
              . rename_i h6;obtain⟨n,cs,rd',hk⟩:=src_ex h;rw[hr _ (by rw[<- hk.2.2.2.1];simp),hg];simp only;rw[h6];exact⟨h4,h5,src_loc h fun n cs rd' hk q hq=>hr q (by rw[<- hk.2.2.2.1];simp[hq])⟩
              . rename_i h6;obtain⟨h7,h8,h⟩:=h;obtain⟨n,cs,rd',hk⟩:=src_ex h;rw[hr _ (by rw[<- hk.2.2.2.1];simp),hg];simp only;rw[h6];exact⟨h4,h5,h7,h8,src_loc h fun n cs rd' hk q hq=>hr q (by rw[<- hk.2.2.2.1];simp[hq])⟩
            . exact h.elim
          . obtain⟨h3,h4,h5,h6,h⟩:=h;exact⟨h3,h4,h5,h6,src_loc h fun n cs rd' hk q hq=>hr q (by rw[<- hk.2.2.2.2.2.1];exact hq)⟩
          . exact h.elim
        . exact h.elim
      . exact h.elim
    . exact h.elim
   case copy =>
    split at h
    . unfold copyK at *;split at h
      . split at h
        . split at h
          . obtain⟨h3,h⟩:=h;refine⟨h3,?_⟩;split at h
            . rename_i hg;obtain⟨h4,h⟩:=h;obtain⟨n,cs,rd',hk⟩:=src_ex h;rw[hr _ (by rw[<- hk.2.2.1];simp),hg];exact⟨h4,src_loc h fun n cs rd' hk q hq=>hr q (by rw[<- hk.2.2.1];simp[hq])⟩
            . exact h.elim
          . exact h.elim
        . exact h.elim
      . exact h.elim
    . exact h.elim
   case clear =>
    split at h
    . unfold clearK at *;split at h
      . split at h
        . exact h
        . split at h
          . rename_i hg;obtain⟨h1,h2,h⟩:=h;have hz:=h;unfold zerosK at hz;split at hz
            . rw[hr _ (by rw[<- hz.2.2.2.2.1];simp),hg];exact⟨h1,h2,h⟩
            . exact hz.elim
          . exact h.elim
        . split at h
          . rename_i hg;obtain⟨h1,h2,h⟩:=h;have hz:=h;unfold zerosK at hz;split at hz
            . rw[hr _ (by rw[<- hz.2.2.2.2.1];simp),hg];exact⟨h1,h2,h⟩
            . exact hz.elim
          . exact h.elim
        . exact h.elim
      . exact h.elim
    . exact h.elim
   all_goals exact h
  all_goals exact h
 case makeMap t r=>cases r<;>exact h
 case insert t m k x=>exact ins_loc h hr
 case mapUpdate t m k x=>exact ins_loc h hr
 case lookup t x i ok =>
  unfold lookupK at *;split at h
  . obtain⟨h1,h⟩:=h;refine⟨h1,?_⟩;split at h
    . exact h
    . split at h
      . rename_i hg;rw[hr _ (by rw[<- look_ex h];simp),hg];exact h
      . exact h.elim
    . exact h.elim
  . exact h.elim
 case next x b =>
  cases b
  . exact h
  dsimp only at h ⊢;unfold snextK at *;split at h
  . split at h
    . rename_i hg;have hrd:=h;split at hrd
      . rw[hr _ (by rw[<- hrd.2.1];simp),hg];exact h
      . rw[hr _ (by rw[<- hrd.2.1];simp),hg];exact h
    . exact h.elim
  . exact h.elim
 case entry x =>
  unfold entryK at *;split at h
  . split at h
    . rename_i hg;obtain⟨k,v,h1,h2,h3,h4,h5⟩:=h;rw[hr _ (by rw[<- h4];simp),hg];exact⟨k,v,h1,h2,h3,h4,h5⟩
    . exact h.elim
  . exact h.elim
 all_goals exact h
end
theorem upd_not {u:List (Nat×Blk)} {g:Nat}:∀ {H:Nat->Blk},g ∉ u.map (·.1)->Hp.upd H u g=H g:=by
 induction u with
 | nil=>intro H _;rfl
 | cons x u ih =>
   intro H h;obtain⟨k,b⟩:=x;simp only[List.map_cons,List.mem_cons,not_or] at h;rw[Hp.upd,ih h.2];simp[Hp.set,h.1]
theorem upd_key {u:List (Nat×Blk)} {g:Nat}:∀ {H H':Nat->Blk},(H g=H' g \/ g∈u.map (·.1))->Hp.upd H u g=Hp.upd H' u g:=by
 induction u with
 | nil=>intro H H' h;simpa[Hp.upd] using h
 | cons x u ih =>
   intro H H' h;obtain⟨k,b⟩:=x;simp only[Hp.upd];refine ih ?_;by_cases e:g=k
   . left;simp[Hp.set,e]
   . rcases h with h|h
     . left;simp[Hp.set,e,h]
     . right;simpa[e] using h
def envF (B:Nat->Bool):List (Oper×Res)->Nat->(Nat->D)->Nat->D
 | [],_,e=>e
 | (o,r)::l,i,e=>envF B l (i+1) (if B i then Env.dst e o.dst r.d else e)
def hpF (B:Nat->Bool):List (Oper×Res)->Nat->(Nat->Blk)->Nat->Blk
 | [],_,H=>H
 | (o,r)::l,i,H=>hpF B l (i+1) (if B i then Hp.upd H r.u else H)
theorem dst_ne {e:Nat->D} {dst:Option Nat} {d:D} {t:Nat} (h:dst≠some t):Env.dst e dst d t=e t:=by
 cases dst with
 | none=>rfl
 | some q =>
   have:t≠q:=fun e=>h (by rw[e]);simp[Env.dst,Env.set,this]
theorem dst_eq {e:Nat->D} {d:D} {t:Nat}:Env.dst e (some t) d t=d:=by simp[Env.dst,Env.set]
theorem envF_agree {B B':Nat->Bool} {t:Nat}:∀ {l:List (Oper×Res)} {k:Nat} {e e':Nat->D},e t=e' t->(∀ j o r,l[j]?=some (o,r)->o.dst=some t->B (k+j)=B' (k+j))->envF B l k e t=envF B' l k e' t
 | [],k,e,e',he,_=>he
 | (o,r)::l,k,e,e',he,h=>by
   simp only[envF];refine envF_agree ?_ fun j o' r' hj hd=>by have:=h (j+1) o' r' (by simpa using hj) hd;rwa[show k+1+j=k+(j+1) by omega]
   by_cases hd:o.dst=some t
   . have:=h 0 o r rfl hd;simp only[Nat.add_zero] at this;rw[this];split
     . rw[hd,dst_eq,dst_eq]
     . exact he
   . split<;>split<;>simp[dst_ne hd,he]
theorem envF_at {B:Nat->Bool} {t i:Nat} {o:Oper} {r:Res}:∀ {l:List (Oper×Res)} {k:Nat} {e:Nat->D},l[i]?=some (o,r)->o.dst=some t->B (k+i)=true->(∀ j o' r',l[j]?=some (o',r')->i<j->B (k+j)=true->o'.dst≠some t)->envF B l k e t=r.d
 | [],k,e,hi,_,_,_=>by simp at hi
 | (o',r')::l,k,e,hi,hd,hb,h=>by
   simp only[envF]
   match i with
   | 0 =>
     simp at hi;obtain⟨rfl,rfl⟩:=hi;simp only[Nat.add_zero] at hb;have:envF B l (k+1) (if B k then Env.dst e o'.dst r'.d else e) t=envF (fun _=>false) l (k+1) (if B k then Env.dst e o'.dst r'.d else e) t:=by
      refine envF_agree rfl fun j o2 r2 hj hd2=>?_;cases hbj:B (k+1+j) with
      | false=>rfl
      | true=>exact absurd hd2 (h (j+1) o2 r2 (by simpa using hj) (by omega) (by rwa[show k+(j+1)=k+1+j by omega]))
     rw[this];have no:∀ (l:List (Oper×Res)) (k:Nat) (e:Nat->D),envF (fun _=>false) l k e=e:=by
      intro l
      induction l with
      | nil=>intro k e;rfl
      | cons x l ih=>intro k e;obtain⟨o,r⟩:=x;simp[envF,ih]
     rw[no,if_pos hb,hd,dst_eq]
   | i+1 =>
     exact envF_at (i:=i) (by simpa using hi) hd (by rwa[show k+1+i=k+(i+1) by omega]) fun j o2 r2 hj hij hb2=>h (j+1) o2 r2 (by simpa using hj) (by omega) (by rwa[show k+(j+1)=k+1+j by omega])
theorem hpF_agree {B B':Nat->Bool} {g:Nat}:∀ {l:List (Oper×Res)} {k:Nat} {H H':Nat->Blk},H g=H' g->(∀ j o r,l[j]?=some (o,r)->g∈r.u.map (·.1)->B (k+j)=B' (k+j))->hpF B l k H g=hpF B' l k H' g
 | [],k,H,H',he,_=>he
 | (o,r)::l,k,H,H',he,h=>by
   simp only[hpF];refine hpF_agree ?_ fun j o' r' hj hd=>by have:=h (j+1) o' r' (by simpa using hj) hd;rwa[show k+1+j=k+(j+1) by omega]
   by_cases hd:g∈r.u.map (·.1)
   . have:=h 0 o r rfl hd;simp only[Nat.add_zero] at this;rw[this];split
     . exact upd_key (.inl he)
     . exact he
   . split<;>split<;>simp[upd_not hd,he]
theorem hpF_at {B:Nat->Bool} {g i:Nat} {o:Oper} {r:Res} {X:Nat->Blk}:∀ {l:List (Oper×Res)} {k:Nat} {H:Nat->Blk},l[i]?=some (o,r)->g∈r.u.map (·.1)->B (k+i)=true->(∀ j o' r',l[j]?=some (o',r')->i<j->B (k+j)=true->g ∉ r'.u.map (·.1))->hpF B l k H g=Hp.upd X r.u g
 | [],k,H,hi,_,_,_=>by simp at hi
 | (o',r')::l,k,H,hi,hd,hb,h=>by
   simp only[hpF]
   match i with
   | 0 =>
     simp at hi;obtain⟨rfl,rfl⟩:=hi;simp only[Nat.add_zero] at hb;have:hpF B l (k+1) (if B k then Hp.upd H r'.u else H) g=hpF (fun _=>false) l (k+1) (if B k then Hp.upd H r'.u else H) g:=by
      refine hpF_agree rfl fun j o2 r2 hj hd2=>?_;cases hbj:B (k+1+j) with
      | false=>rfl
      | true=>exact absurd hd2 (h (j+1) o2 r2 (by simpa using hj) (by omega) (by rwa[show k+(j+1)=k+1+j by omega]))
     rw[this];have no:∀ (l:List (Oper×Res)) (k:Nat) (H:Nat->Blk),hpF (fun _=>false) l k H=H:=by
      intro l
      induction l with
      | nil=>intro k H;rfl
      | cons x l ih=>intro k H;obtain⟨o,r⟩:=x;simp[hpF,ih]
     rw[no,if_pos hb];exact upd_key (.inr hd)
   | i+1 =>
     exact hpF_at (i:=i) (by simpa using hi) hd (by rwa[show k+1+i=k+(i+1) by omega]) fun j o2 r2 hj hij hb2=>h (j+1) o2 r2 (by simpa using hj) (by omega) (by rwa[show k+(j+1)=k+1+j by omega])
def offs (l:List (Oper×Res)):Nat:=(l.map (·.2.k)).sum
theorem offs_cons (x:Oper×Res) (l:List (Oper×Res)):offs (x::l)=x.2.k+offs l:=by simp[offs]
theorem offs_append (l l':List (Oper×Res)):offs (l++l')=offs l+offs l':=by simp[offs]
theorem offs_take_succ {l:List (Oper×Res)} {i:Nat} {o:Oper} {r:Res} (h:l[i]?=some (o,r)):offs (l.take (i+1))=offs (l.take i)+r.k:=by
 rw[List.take_add_one,h,offs_append];simp[offs]
theorem offs_take_le (l:List (Oper×Res)) (i:Nat):offs (l.take i)<=offs l:=by
 have:=offs_append (l.take i) (l.drop i);rw[List.take_append_drop] at this;omega
theorem offs_mono (l:List (Oper×Res)) {i j:Nat} (h:i<=j):offs (l.take i)<=offs (l.take j):=by
 have:=offs_take_le (l.take j) i;rwa[List.take_take,Nat.min_eq_left h] at this
def stAt:List (Oper×Res)->St->St
 | [],s=>s
 | (o,r)::l,s=>stAt l (stepK s o r.d r.u r.k)
theorem stAt_nx:∀ (l:List (Oper×Res)) (s:St),(stAt l s).nx=s.nx+offs l/\(stAt l s).lo=s.lo/\(stAt l s).nt=s.nt
 | [],s=>⟨rfl,rfl,rfl⟩
 | (o,r)::l,s=>by
   obtain⟨h1,h2,h3⟩:=stAt_nx l (stepK s o r.d r.u r.k);exact⟨by simp only[stAt,h1,offs_cons];simp[stepK];omega,h2,h3⟩
theorem stAt_env:∀ (l:List (Oper×Res)) (i k:Nat) (s:St),(stAt (l.take i) s).env=envF (fun j=>decide (j<k+i)) l k s.env/\(stAt (l.take i) s).hp=hpF (fun j=>decide (j<k+i)) l k s.hp
 | [],i,k,s=>by simp[stAt,envF,hpF]
 | (o,r)::l,0,k,s=>by
   have no:∀ (l:List (Oper×Res)) (q:Nat) (e:Nat->D) (H:Nat->Blk),k<=q->envF (fun j=>decide (j<k)) l q e=e/\hpF (fun j=>decide (j<k)) l q H=H:=by
    intro l
    induction l with
    | nil=>intro q e H _;exact⟨rfl,rfl⟩
    | cons x l ih =>
      intro q e H hq;obtain⟨o,r⟩:=x;have:¬ q<k:=by omega
      simp[envF,hpF,this,ih (q+1) e H (by omega)]
   have:=no ((o,r)::l) k s.env s.hp (Nat.le_refl _);simp only[List.take_zero,stAt,Nat.add_zero];exact⟨this.1.symm,this.2.symm⟩
 | (o,r)::l,i+1,k,s=>by
   have:=stAt_env l i (k+1) (stepK s o r.d r.u r.k);simp only[List.take_succ_cons,stAt,envF,hpF];have hk:k<k+(i+1):=by omega
   simp only[hk,decide_true,if_true];rw[show k+(i+1)=k+1+i by omega];exact this
section
variable {P:Program} {Γ:Nat->Option (List Data)} {L0:Nat->Prop} {w0:W0}
theorem draw_text {ops:Array Oper} {K:St->List Tr->Prop}:∀ (l:List Oper) (s:St) (tr:List Tr),drawW P Γ ops l s tr K →
 ∃ rs:List Res,rs.length=l.length/\(∀ i o r,l[i]?=some o->rs[i]?=some r->Comes1 P Γ ops o (stAt ((l.zip rs).take i) s) r)/\K (stAt (l.zip rs) s) (tr.reverse++rs.map Res.tr)
 | [],s,tr,h=>⟨[],rfl,by simp,by simpa[stAt,drawW] using h⟩
 | o::l,s,tr,h=>by
   obtain⟨hd,h⟩:=h;have fin:∀ r:Res,Comes1 P Γ ops o s r->drawW P Γ ops l (stepK s o r.d r.u r.k) (r.tr::tr) K->∃ rs:List Res,rs.length=(o::l).length/\(∀ i o' r,(o::l)[i]?=some o'->rs[i]?=some r->Comes1 P Γ ops o' (stAt (((o::l).zip rs).take i) s) r) /\
    K (stAt ((o::l).zip rs) s) (tr.reverse++rs.map Res.tr):=by
    intro r hc hw;obtain⟨rs,h1,h2,h3⟩:=draw_text l _ _ hw;refine⟨r::rs,by simp[h1],fun i o' r' hi hr=>?_,by simpa[stAt] using h3⟩
    match i with
    | 0=>simp at hi hr;subst hi;subst hr;simpa[stAt] using hc
    | i+1 =>
      have:=h2 i o' r' (by simpa using hi) (by simpa using hr);simpa[stAt] using this
   cases hw:wantedD ops s.env o with
   | none=>rw[hw] at h;exact h.elim
   | some b =>
     rw[hw] at h;cases b with
     | true =>
       have one:(opK P Γ o s.env s.hp s.nx fun d rd u=>drawW P Γ ops l (stepSt s o d u) (⟨rd,u.map (·.1)⟩::tr) K)->∃ rs:List Res,rs.length=(o::l).length/\(∀ i o' r,(o::l)[i]?=some o'->rs[i]?=some r->Comes1 P Γ ops o' (stAt (((o::l).zip rs).take i) s) r) /\
        K (stAt ((o::l).zip rs) s) (tr.reverse++rs.map Res.tr):=fun h=>by
        obtain⟨d,rd,u,h1,h2⟩:=op_lin o s.env s.hp s.nx _ h;exact fin ⟨d,rd,u,1⟩ ⟨hd,by rw[hw];exact .inl ⟨rfl,h1⟩⟩ h2
       simp only[ifW] at h;split at h
       . rcases h with h|h
         . exact one h
         . obtain⟨d,rd,u,k,h1,h2⟩:=eff_lin o s.env s.hp s.nx h;exact fin ⟨d,rd,u,k⟩ ⟨hd,by rw[hw];exact .inr h1⟩ h2
       . exact one h
     | false=>exact fin ⟨undefD,[],[],1⟩ ⟨hd,by rw[hw]⟩ h
theorem ancs_len:∀ (l:List Oper) (acc:List Nat),(ancs l acc).length=acc.length+l.length/\(ancs l acc).take acc.length=acc
 | [],acc=>by simp[ancs]
 | o::l,acc=>by
   obtain⟨h1,h2⟩:=ancs_len l (acc++[o.after.toList.foldl (fun s e=>if Region.binds .any e then s ||| 2 ^ e.on ||| acc.getD e.on 0 else s) 0]);refine⟨by simp only[ancs,h1];simp;omega,?_⟩;simp only[ancs];have:=congrArg (List.take acc.length) h2;rw[List.take_take] at this;simpa using this
theorem fold_bits {acc:List Nat} {i:Nat}:∀ (l:List Edge) (s:Nat),(l.foldl (fun s e=>if Region.binds .any e then s ||| 2 ^ e.on ||| acc.getD e.on 0 else s) s).testBit i=true->s.testBit i=true \/ ∃ e∈l,Region.binds .any e=true/\(e.on=i \/ (acc.getD e.on 0).testBit i=true)
 | [],s,h=>.inl h
 | e::l,s,h=>by
   rcases fold_bits l _ h with h1|⟨e',he,h2⟩
   . simp only at h1;split at h1
     . rename_i hb;simp only[Nat.testBit_or,Bool.or_eq_true] at h1;rcases h1 with (h1|h1)|h1
       . exact .inl h1
       . exact .inr ⟨e,by simp,hb,.inl (by
          rw[Nat.testBit_two_pow] at h1;simpa using h1)⟩
       . exact .inr ⟨e,by simp,hb,.inr h1⟩
     . exact .inl h1
   . exact .inr ⟨e',by simp[he],h2⟩
theorem ancs_at:∀ (l:List Oper) (acc:List Nat) (k:Nat) (o:Oper),l[k]?=some o->∀ i,((ancs l acc).getD (acc.length+k) 0).testBit i=true->∃ e∈o.after,Region.binds .any e=true/\(e.on=i \/ (((ancs l acc).take (acc.length+k)).getD e.on 0).testBit i=true)
 | [],acc,k,o,h,i,hb=>by simp at h
 | o'::l,acc,0,o,h,i,hb=>by
   simp at h;subst h;simp only[ancs,Nat.add_zero] at hb ⊢;obtain⟨h1,h2⟩:=ancs_len l (acc++[o'.after.toList.foldl (fun s e=>if Region.binds .any e then s ||| 2 ^ e.on ||| acc.getD e.on 0 else s) 0]);have h3:(ancs l (acc++[o'.after.toList.foldl (fun s e=>if Region.binds .any e then s ||| 2 ^ e.on ||| acc.getD e.on 0 else s) 0])).getD acc.length 0=o'.after.toList.foldl (fun s e=>if Region.binds .any e then s ||| 2 ^ e.on ||| acc.getD e.on 0 else s) 0:=by
    have:=congrArg (fun q=>q.getD acc.length 0) h2;simp only[List.getD_eq_getElem?_getD] at this ⊢;rw[List.getElem?_take_of_lt (by simp)] at this;simpa using this
   have h4:(ancs l (acc++[o'.after.toList.foldl (fun s e=>if Region.binds .any e then s ||| 2 ^ e.on ||| acc.getD e.on 0 else s) 0])).take acc.length=acc:=by
    have:=congrArg (List.take acc.length) h2;rw[List.take_take] at this;simpa using this
   rw[h3] at hb;rw[h4];rcases fold_bits _ _ hb with h5|⟨e,he,h5⟩
   . simp at h5
   . exact⟨e,by simpa using he,h5⟩
 | o'::l,acc,k+1,o,h,i,hb=>by
   have:=ancs_at l (acc++[o'.after.toList.foldl (fun s e=>if Region.binds .any e then s ||| 2 ^ e.on ||| acc.getD e.on 0 else s) 0]) k o (by simpa using h) i;simp only[List.length_append,List.length_singleton] at this;simp only[ancs,show acc.length+(k+1)=acc.length+1+k by omega] at hb ⊢;exact this hb
theorem getD_set' {B:Array Bool} {i j:Nat} (hi:i<B.size):(B.setIfInBounds i true).getD j false=if i=j then true else B.getD j false:=by
 by_cases h:i=j
 . subst h;simp[Array.getD_eq_getD_getElem?,hi]
 . simp[Array.getD_eq_getD_getElem?,Array.getElem?_setIfInBounds_ne h,h]
theorem ready_mem {md:Region.Mode} {ops:Array Oper} {B:Array Bool} {i:Nat} (h:i∈Region.ready md ops B):B.getD i true=false/\∃ o,ops[i]?=some o/\∀ e∈o.after,Region.binds md e=true->B.getD e.on false=true:=by
 unfold Region.ready at h;simp only[List.mem_filter,List.mem_range,Bool.and_eq_true,Bool.not_eq_true'] at h;obtain⟨hi,h1,h2⟩:=h;refine⟨h1,ops[i],Array.getElem?_eq_getElem hi,fun e he hb=>?_⟩;rw[Array.getElem?_eq_getElem hi] at h2;simp only[Option.map_some,Option.getD_some,Array.all_eq_true_iff_forall_mem,Bool.or_eq_true,Bool.not_eq_true'] at h2;exact (h2 e he).resolve_left (by simp[hb])
end
section
variable {P:Program} {Γ:Nat->Option (List Data)} {L0:Nat->Prop} {w0:W0}
structure Apart (ops:Array Oper) (l:List (Oper×Res)) (an:List Nat):Prop where
 pair:∀ i j oi ri oj rj,i<j->l[i]?=some (oi,ri)->l[j]?=some (oj,rj)->(∀ s,oi.dst=some s->oj.dst≠some s)/\((an.getD j 0).testBit i=true \/
  ((∀ s,oi.dst=some s->s ∉ oj.looksAt ops)/\(∀ s,oj.dst=some s->s ∉ oi.looksAt ops)/\(∀ g∈ri.u.map (·.1),g ∉ rj.rd/\g ∉ rj.u.map (·.1))/\∀ g∈rj.u.map (·.1),g ∉ ri.rd))
theorem apart_of {ops:Array Oper} {rs:List Res} (hl:rs.length=ops.toList.length) (h:drawOk ops (rs.map Res.tr)=true) :
 Apart ops (ops.toList.zip rs) (ancs ops.toList [])/\∀ (i:Nat) (o:Oper),ops[i]?=some o->∀ e∈o.after,Region.binds .any e=true->e.on<i:=by
 unfold drawOk at h;rw[Bool.and_eq_true] at h;obtain⟨h1,h2⟩:=h;obtain⟨ha1,_⟩:=ancs_len ops.toList [];simp only[List.length_nil,Nat.zero_add] at ha1;refine⟨⟨fun i j oi ri oj rj hij hi hj=>?_⟩,fun i o ho e he hb=>?_⟩
 . unfold pairsOk at h1;rw[List.all_eq_true] at h1;have hjl:=(List.getElem?_eq_some_iff.1 hj).1;have hzl:(ops.toList.zip ((rs.map Res.tr).zip (ancs ops.toList []))).length=ops.toList.length:=by simp[hl,ha1]
   have hjl2:j<ops.toList.length:=by simp[hl] at hjl;simpa using hjl
   have h3:=h1 j (by rw[List.mem_range,hzl];exact hjl2);rw[List.all_eq_true] at h3;have h4:=h3 i (List.mem_range.2 hij);have zip_at:∀ q oq rq,(ops.toList.zip rs)[q]?=some (oq,rq)->(ops.toList.zip ((rs.map Res.tr).zip (ancs ops.toList [])))[q]?=some (oq,rq.tr,(ancs ops.toList []).getD q 0):=fun q oq rq hq=>by
    rw[List.getElem?_zip_eq_some] at hq ⊢;refine⟨hq.1,?_⟩;rw[List.getElem?_zip_eq_some];have hlt:q<(ancs ops.toList []).length:=by rw[ha1];exact (List.getElem?_eq_some_iff.1 hq.1).1
    exact⟨by simp[hq.2],by rw[List.getElem?_eq_getElem hlt,List.getD_eq_getElem?_getD,List.getElem?_eq_getElem hlt];rfl⟩
   rw[zip_at i oi ri hi,zip_at j oj rj hj] at h4;simp only[pairOk,Bool.and_eq_true,Bool.or_eq_true] at h4;obtain⟨h5,h6⟩:=h4;refine⟨fun s hs hs2=>?_,?_⟩
   . rw[hs,hs2] at h5;simp at h5
   . rcases h6 with h6|⟨⟨⟨h6,h7⟩,h8⟩,h9⟩
     . exact .inl h6
     . right;refine⟨fun s hs hm=>?_,fun s hs hm=>?_,fun g hg=>?_,fun g hg hm=>?_⟩
       . rw[hs] at h6;simp[slotsOf,hm] at h6
       . rw[hs] at h7;simp[slotsOf,hm] at h7
       . rw[List.all_eq_true] at h8;have:=h8 g hg;simp only[Bool.and_eq_true,Bool.not_eq_true',List.contains_eq_mem,decide_eq_false_iff_not] at this;exact this
       . rw[List.all_eq_true] at h9;have:=h9 g hg;simp only[Bool.not_eq_true',List.contains_eq_mem,decide_eq_false_iff_not] at this;exact this hm
 . rw[List.all_eq_true] at h2;have hi:=(Array.getElem?_eq_some_iff.1 ho).1;have:=h2 i (List.mem_range.2 hi);rw[ho] at this;simp only[Array.all_eq_true_iff_forall_mem,Bool.or_eq_true,Bool.not_eq_true',decide_eq_true_eq] at this;exact (this e he).resolve_left (by simp[hb])
theorem anc_up {ops:Array Oper} {B:Nat->Bool} (hord:∀ (i:Nat) (o:Oper),ops[i]?=some o->∀ e∈o.after,Region.binds .any e=true->e.on<i)
 (hcl:∀ (j:Nat) (o:Oper),ops[j]?=some o->B j=true->∀ e∈o.after,Region.binds .any e=true->B e.on=true) :
 ∀ (j:Nat) (o:Oper),ops[j]?=some o->(∀ e∈o.after,Region.binds .any e=true->B e.on=true)->∀ i,((ancs ops.toList []).getD j 0).testBit i=true->B i=true:=by
 intro j
 induction j using Nat.strongRecOn with
 | _ j ih =>
   intro o ho hdep i hb;obtain⟨e,he,hbd,h⟩:=ancs_at ops.toList [] j o (by simpa using ho) i (by simpa using hb);simp only[List.length_nil,Nat.zero_add] at h;have hlt:=hord j o ho e he hbd;have hup:=hdep e he hbd;rcases h with h|h
   . rw[<- h];exact hup
   . have hes:e.on<ops.size:=by have:=(Array.getElem?_eq_some_iff.1 ho).1;omega
     refine ih e.on hlt ops[e.on] (Array.getElem?_eq_getElem hes) (hcl e.on _ (Array.getElem?_eq_getElem hes) hup) i ?_;rw[List.getD_eq_getElem?_getD,List.getElem?_take_of_lt hlt,<- List.getD_eq_getElem?_getD] at h;exact h
structure Mid (Γ:Nat->Option (List Data)) (L0:Nat->Prop) (w0:W0) (ops:Array Oper) (l:List (Oper×Res)) (m0:Nat->MB) (s0:St) (wS:World) (B:Array Bool) (m:Nat->MB) (a:Act) (w:World):Prop where
 defers:a.defers=[]
 slots:a.tmps.size=s0.nt
 listed:B.size=ops.size
 vals:∀ t,VV (Live L0 m (hpF (B.getD · false) l 0 s0.hp)) w m (envF (B.getD · false) l 0 s0.env t) (a.tmps.getD t undef)
 wr:WR Γ L0 w0 m (hpF (B.getD · false) l 0 s0.hp) w
 fresh:∀ (j:Nat) (o:Oper) (r:Res),l[j]?=some (o,r)->B.getD j false=false->∀ q,q<r.k->m (s0.nx+offs (l.take j)+q) = .res
 beyond:∀ g,s0.nx+offs l<=g->m g = .res
 keep:∀ g,g<s0.nx->m g=m0 g
 grow:Grow (Live L0 m0 s0.hp) wS (Live L0 m (hpF (B.getD · false) l 0 s0.hp)) w
 closed:∀ (j:Nat) (o:Oper),ops[j]?=some o->B.getD j false=true->∀ e∈o.after,Region.binds .any e=true->B.getD e.on false=true
theorem wanted_congr {ops:Array Oper} {o:Oper} {e e':Nat->D} (h:∀ s∈o.looksAt ops,e' s=e s):wantedD ops e' o=wantedD ops e o:=by
 unfold wantedD;cases hg:o.guard with
 | none=>rfl
 | some jw =>
   obtain⟨j,want⟩:=jw;simp only;cases hd:(ops[j]?).bind (·.dst) with
   | none=>rfl
   | some t =>
     have:=h t (by
      unfold Oper.looksAt;rw[hg];simp only[List.mem_append];exact .inr (by simp[hd]))
     simp only[this]
theorem eff_runs {o:Oper} {e:Nat->D} {a:Act} {m:Nat->MB} {H:Nat->Blk} {w:World} {fr:Nat} {r:Res} (h:WR Γ L0 w0 m H w) (hv:∀ t,VV (Live L0 m H) w m (e t) (a.tmps.getD t undef))
 (hres:∀ q,q<r.k->m (fr+q) = .res) (hbey:∀ g,fr+64<=g->m g = .res) (hop:effK P Γ o e H fr fun d' rd' u' k'=>d'=r.d/\rd'=r.rd/\u'=r.u/\k'=r.k):Runs P o a w (AfterK Γ L0 w0 fr r.k H m w r.d r.u)/\∀ c,o.op≠.defer c:=by
 obtain⟨dst,op,type,pos,after,guard⟩:=o;have hρ:∀ x,VV (Live L0 m H) w m (evalD Γ e x) (a.eval x):=fun x=>eval_ok h.glob hv x;unfold effK at hop;cases op<;>simp only at hop
 case call c =>
  obtain⟨callee,args,argTypes⟩:=c;cases callee<;>simp only at hop
  case value x =>
   split at hop
   . rename_i f pre caps hf;obtain⟨d,rd,u,k,hk0,hec,rfl,rfl,rfl,rfl⟩:=hop;obtain⟨hcall,hec⟩:=hec H (fun _ _=>rfl) (fun _ _=>rfl);have hargs:∀ (i:Nat) (d:D) (v:Value),(args.toList.map (evalD Γ e))[i]?=some d->(args.map a.eval)[i]?=some v->VV (Live L0 m H) w m d v:=fun i d v h1 h2=>by
      simp only[List.getElem?_map,Option.map_eq_some_iff,Array.getElem?_toList] at h1;simp only[Array.getElem?_map,Option.map_eq_some_iff] at h2;obtain⟨y,hy,rfl⟩:=h1;obtain⟨y',hy',rfl⟩:=h2;rw[hy] at hy';cases hy';exact hρ _
     obtain⟨pvs,cvs,hce,hpl,hpv,hcl,hch⟩:=callee_ok (hρ x) hf;have hc:=hec L0 w0 m w (pvs++(args.map a.eval++cvs)) h hres hbey (by simp[hcl,hpl]) (args_ok hpl hpv (by simp) hargs hch);have hrun:(execOp a.eval ⟨dst,.call ⟨.value x,args,argTypes⟩,type,pos,after,guard⟩).run P w = .ok (.enter f (pvs++(args.map a.eval++cvs))) w:=by
      simp only[execOp,resolve,Sem.run_bind,hce,Deferred.ofValue,Sem.run_pure,Result.andThen_ok,invoke];rw[<- Array.append_assoc];exact hcall _ w
     exact⟨.inr (.inr ⟨_,_,_,hrun,hc⟩),fun c hc=>by cases hc⟩
   . exact hop.elim
  all_goals exact hop.elim
 all_goals exact hop.elim
theorem mid_go {ops:Array Oper} {l:List (Oper×Res)} {rs:List Res} {m0:Nat->MB} {s0:St} {wS:World} {B:Array Bool} {m:Nat->MB} {a:Act} {w:World} {i:Nat} {o:Oper} {next:Act->World->Prop}
 (hl:l=ops.toList.zip rs) (hir:i<rs.length) (hlo:s0.lo<=s0.nx) (hap:Apart ops l (ancs ops.toList [])) (hord:∀ (i:Nat) (o:Oper),ops[i]?=some o->∀ e∈o.after,Region.binds .any e=true->e.on<i)
 (hcome:∀ r,rs[i]?=some r->Comes1 P Γ ops o (stAt (l.take i) s0) r)
 (hbig:offs l<=64) (h:Mid Γ L0 w0 ops l m0 s0 wS B m a w) (hun:B.getD i true=false) (ho:ops[i]?=some o) (hdep:∀ e∈o.after,Region.binds .any e=true->B.getD e.on false=true)
 (hn:∀ m' a' w',Mid Γ L0 w0 ops l m0 s0 wS (B.setIfInBounds i true) m' a' w'->next a' w') :
 (Region.wanted o (yielded ops a.tmps)=true/\(∀ c,o.op≠.defer c)/\Runs P o a w fun v w'=>next (a.put o.dst v) w') \/ (Region.wanted o (yielded ops a.tmps)=false/\next (a.put o.dst undef) w):=by
 have hi:i<ops.size:=(Array.getElem?_eq_some_iff.1 ho).1;have hiB:i<B.size:=by rw[h.listed];exact hi
 have hunf:B.getD i false=false:=by simpa[Array.getD_eq_getD_getElem?,hiB] using hun
 have hri:=List.getElem?_eq_getElem hir;have hli:l[i]?=some (o,rs[i]):=by rw[hl,List.getElem?_zip_eq_some];exact⟨by simpa using ho,hri⟩
 generalize hre:rs[i]=r at hri hli;obtain⟨hd,hcm⟩:=hcome r hri;have hup:=anc_up (B:=(B.getD · false)) hord h.closed i o ho hdep;have later:∀ j oj rj,i<j->l[j]?=some (oj,rj)->B.getD j false=true->¬ ((ancs ops.toList []).getD j 0).testBit i=true:=by
  intro j oj rj hij hj hbj hbit;have hoj:ops[j]?=some oj:=by rw[hl,List.getElem?_zip_eq_some] at hj;simpa using hj.1
  have:=anc_up (B:=(B.getD · false)) hord h.closed j oj hoj (h.closed j oj hoj hbj) i hbit;simp only[hunf] at this;cases this
 obtain⟨hse,hsh⟩:=stAt_env l i 0 s0;simp only[Nat.zero_add] at hse hsh;obtain⟨hnx,_,hnt⟩:=stAt_nx (l.take i) s0;have hnx':(stAt (l.take i) s0).nx=s0.nx+offs (l.take i):=hnx;have hoff:=offs_take_succ hli;have hoffl:=offs_take_le l (i+1);have hslots:∀ s∈o.looksAt ops,envF (B.getD · false) l 0 s0.env s=(stAt (l.take i) s0).env s:=by
  intro s hs;rw[hse];refine envF_agree rfl fun j oj rj hj hdj=>?_;simp only[Nat.zero_add];rcases Nat.lt_trichotomy j i with hji|hji|hji
  . simp only[hji,decide_true];rcases (hap.pair j i oj rj o r hji hj hli).2 with hbit|⟨h1,_⟩
    . exact hup j hbit
    . exact absurd hs (h1 s hdj)
  . subst hji;simp[hunf]
  . have:¬ j<i:=by omega
    simp only[this,decide_false];cases hbj:B.getD j false with
    | false=>rfl
    | true =>
      rcases (hap.pair i j o r oj rj hji hli hj).2 with hbit|⟨_,h2,_⟩
      . exact absurd hbit (later j oj rj hji hj hbj)
      . exact absurd hs (h2 s hdj)
 have hblocks:∀ g,(g∈r.rd \/ g∈r.u.map (·.1))->hpF (B.getD · false) l 0 s0.hp g=(stAt (l.take i) s0).hp g:=by
  intro g hg;rw[hsh];refine hpF_agree rfl fun j oj rj hj hdj=>?_;simp only[Nat.zero_add];rcases Nat.lt_trichotomy j i with hji|hji|hji
  . simp only[hji,decide_true];rcases (hap.pair j i oj rj o r hji hj hli).2 with hbit|⟨_,_,h3,_⟩
    . exact hup j hbit
    . obtain⟨q1,q2⟩:=h3 g hdj;rcases hg with hg|hg
      . exact absurd hg q1
      . exact absurd hg q2
  . subst hji;simp[hunf]
  . have:¬ j<i:=by omega
    simp only[this,decide_false];cases hbj:B.getD j false with
    | false=>rfl
    | true =>
      rcases (hap.pair i j o r oj rj hji hli hj).2 with hbit|⟨_,_,h3,h4⟩
      . exact absurd hbit (later j oj rj hji hj hbj)
      . rcases hg with hg|hg
        . exact absurd hg (h4 g hdj)
        . exact absurd hdj (h3 g hg).2
 have henv:envF ((B.setIfInBounds i true).getD · false) l 0 s0.env=Env.dst (envF (B.getD · false) l 0 s0.env) o.dst r.d:=by
  funext t
  by_cases ht:o.dst=some t
  . rw[ht,dst_eq];refine envF_at hli ht (by simp[getD_set' hiB]) fun j o' r' hj hij _ hd'=>?_;exact (hap.pair i j o r o' r' hij hli hj).1 t ht hd'
  . rw[dst_ne ht];refine envF_agree rfl fun j o' r' hj hd'=>?_;simp only[Nat.zero_add,getD_set' hiB];by_cases e:i=j
    . subst e;rw[hli] at hj;cases hj;exact absurd hd' ht
    . simp[e]
 have hhp:hpF ((B.setIfInBounds i true).getD · false) l 0 s0.hp=Hp.upd (hpF (B.getD · false) l 0 s0.hp) r.u:=by
  funext g
  by_cases hg:g∈r.u.map (·.1)
  . refine hpF_at hli hg (by simp[getD_set' hiB]) fun j o' r' hj hij hb hg'=>?_;have hbj:B.getD j false=true:=by
     simp only[Nat.zero_add,getD_set' hiB] at hb;rw[if_neg (by omega)] at hb;exact hb
    rcases (hap.pair i j o r o' r' hij hli hj).2 with hbit|⟨_,_,h3,_⟩
    . exact later j o' r' hij hj hbj hbit
    . exact (h3 g hg).2 hg'
  . rw[upd_not hg];refine hpF_agree rfl fun j o' r' hj hg'=>?_;simp only[Nat.zero_add,getD_set' hiB];by_cases e:i=j
    . subst e;rw[hli] at hj;cases hj;exact absurd hg' hg
    . simp[e]
 have hresi:∀ q,q<r.k->m (s0.nx+offs (l.take i)+q) = .res:=h.fresh i o r hli hunf;have fin:∀ v w',AfterK Γ L0 w0 (s0.nx+offs (l.take i)) r.k (hpF (B.getD · false) l 0 s0.hp) m w r.d r.u v w'->next (a.put o.dst v) w':=by
  rintro v w' ⟨m',k1,k2,k3,k4⟩;have hmr:∀ g,m g≠.res->m' g=m g:=fun g hg=>k4 g (by
   rcases Nat.lt_or_ge g (s0.nx+offs (l.take i)) with e|e
   . exact .inl e
   . rcases Nat.lt_or_ge g (s0.nx+offs (l.take i)+r.k) with e2|e2
     . exact absurd (by have:=hresi (g-(s0.nx+offs (l.take i))) (by omega);rwa[show s0.nx+offs (l.take i)+(g-(s0.nx+offs (l.take i)))=g by omega] at this) hg
     . exact .inr e2)
  refine hn m' _ _ ⟨?_,by rw[put_slots];exact h.slots,by simp;exact h.listed,?_,?_,?_,?_,?_,?_,?_⟩
  . have:(a.put o.dst v).defers=a.defers:=by cases o.dst<;>rfl
    rw[this];exact h.defers
  . intro t;rw[henv,hhp];refine dst_get (fun t ht=>?_) k2 (fun t=>(h.vals t).mono k3 hmr) t;rw[h.slots,<- hnt];simpa[dstOk,ht] using hd
  . rw[hhp];exact k1
  . intro j o' r' hj hb q hq;rw[getD_set' hiB] at hb;by_cases e:i=j
    . simp[e] at hb
    . rw[if_neg e] at hb;have hj1:=offs_take_succ hj;rw[k4 _ (by
       rcases Nat.lt_or_ge j i with e2|e2
       . have:=offs_mono l (show j+1<=i by omega);exact .inl (by omega)
       . have:=offs_mono l (show i+1<=j by omega);exact .inr (by omega))]
      exact h.fresh j o' r' hj hb q hq
  . intro g hg;rw[k4 _ (by omega)];exact h.beyond g hg
  . intro g hg;rw[k4 _ (by omega)];exact h.keep g hg
  . rw[hhp];exact h.grow.trans k3
  . intro j oj hoj hb e he hbd;rw[getD_set' hiB] at hb ⊢;by_cases e1:i=e.on
    . rw[if_pos e1]
    . rw[if_neg e1];by_cases e2:i=j
      . subst e2;rw[ho] at hoj;cases hoj;exact hdep e he hbd
      . rw[if_neg e2] at hb;exact h.closed j oj hoj hb e he hbd
 have hwc:=wanted_congr (ops:=ops) (o:=o) hslots;cases hw:wantedD ops (stAt (l.take i) s0).env o with
 | none=>rw[hw] at hcm;exact hcm.elim
 | some b =>
   rw[hw] at hcm;have hwn:=wanted_ok h.vals (hwc.trans hw);cases b with
   | true =>
     simp only at hcm;refine .inl ⟨hwn,?_⟩;have hops:∀ x∈o.op.operands,evalD Γ (envF (B.getD · false) l 0 s0.env) x=evalD Γ (stAt (l.take i) s0).env x:=fun x hx=>by
      cases x with
      | tmp t =>
        refine hslots t ?_;unfold Oper.looksAt;simp only[List.mem_append];refine .inl ?_;rw[List.mem_filterMap];exact⟨.tmp t,by simpa using hx,rfl⟩
      | const v=>rfl
      | global g=>rfl
      | func f=>rfl
     rcases hcm with⟨hk1,hcm⟩|hcm
     . rw[hk1] at hresi;have hres0:m (s0.nx+offs (l.take i)) = .res:=hresi 0 (by omega);have hop:opK P Γ o (envF (B.getD · false) l 0 s0.env) (hpF (B.getD · false) l 0 s0.hp) (s0.nx+offs (l.take i)) fun d' rd' u'=>d'=r.d/\rd'=r.rd/\u'=r.u:=by
        rw[<- hnx',op_congr (e:=(stAt (l.take i) s0).env) hops];exact op_loc hcm (fun g hg=>hblocks g (.inl hg)) (fun g hg=>hblocks g (.inr hg))
       have hnd:∀ c,o.op≠.defer c:=fun c hc=>by
        unfold opK at hop;rw[hc] at hop;exact hop
       obtain⟨d,rd,u,⟨rfl,rfl,rfl⟩,hr⟩:=op_sound h.wr hres0 (h.wr.none hres0) h.vals hop;exact⟨hnd,hr.mono fun v w' ha=>fin v w' (by rw[hk1];exact ha.k)⟩
     . have hop:effK P Γ o (envF (B.getD · false) l 0 s0.env) (hpF (B.getD · false) l 0 s0.hp) (s0.nx+offs (l.take i)) fun d' rd' u' k'=>d'=r.d/\rd'=r.rd/\u'=r.u/\k'=r.k:=by
        rw[<- hnx',eff_congr (e:=(stAt (l.take i) s0).env) hops];exact eff_loc hcm (fun g hg=>hblocks g (.inl hg)) (fun g hg=>hblocks g (.inr hg))
       obtain⟨hr,hnd⟩:=eff_runs h.wr h.vals hresi (fun g hg=>h.beyond g (by omega)) hop;exact⟨hnd,hr.mono fin⟩
   | false =>
     simp only at hcm;subst hcm;refine .inr ⟨hwn,?_⟩;exact fin undef w ⟨m,h.wr,undef_ok _ _ _,Grow.refl _ _,fun _ _=>rfl⟩
theorem mid_step {ops:Array Oper} {l:List (Oper×Res)} {rs:List Res} {m0:Nat->MB} {s0:St} {wS:World} {B:Array Bool} {m:Nat->MB} {a:Act} {w:World} {i:Nat} {o:Oper} {Q:Exit->Act->World->Prop} {next:Act->World->Prop}
 (hl:l=ops.toList.zip rs) (hlen:rs.length=ops.toList.length) (hlo:s0.lo<=s0.nx) (hap:Apart ops l (ancs ops.toList [])) (hord:∀ (i:Nat) (o:Oper),ops[i]?=some o->∀ e∈o.after,Region.binds .any e=true->e.on<i)
 (hcomes:∀ i o r,ops.toList[i]?=some o->rs[i]?=some r->Comes1 P Γ ops o (stAt (l.take i) s0) r)
 (hbig:offs l<=64) (h:Mid Γ L0 w0 ops l m0 s0 wS B m a w) (hun:B.getD i true=false) (ho:ops[i]?=some o) (hdep:∀ e∈o.after,Region.binds .any e=true->B.getD e.on false=true)
 (hn:∀ m' a' w',Mid Γ L0 w0 ops l m0 s0 wS (B.setIfInBounds i true) m' a' w'->next a' w'):wpOp P ops Q i next a w:=by
 unfold wpOp;simp only[ho];rcases mid_go hl (by rw[hlen];simpa using (Array.getElem?_eq_some_iff.1 ho).1) hlo hap hord (fun r hr=>hcomes i o r (by simpa using ho) hr) hbig h hun ho hdep hn with⟨h1,_,h3⟩|⟨h1,h2⟩
 . rw[h1,if_pos rfl];exact .inl (h3.wp fun v w' hv=>hv)
 . rw[h1,if_neg (by simp)];exact h2
def leftOf (B:Array Bool):Nat:=B.toList.count false
theorem leftOf_set {B:Array Bool} {i:Nat} (hi:B.getD i true=false):leftOf (B.setIfInBounds i true)+1=leftOf B:=by
 have hs:i<B.size:=by
  rcases Nat.lt_or_ge i B.size with h|h
  . exact h
  . simp[Array.getD_eq_getD_getElem?,Array.getElem?_eq_none h] at hi
 have hv:B.toList[i]'(by simpa using hs)=false:=by
  simpa[Array.getD_eq_getD_getElem?,hs] using hi
 unfold leftOf;rw[Array.toList_setIfInBounds,List.count_set (by simpa using hs),hv];have hpos:0<B.toList.count false:=List.count_pos_iff.2 (by rw[<- hv];exact List.getElem_mem _);simp only[if_true,beq_self_eq_true,show (true == false)=false from rfl,Bool.false_eq_true,if_false];omega
theorem leftOf_zero {B:Array Bool} (h:leftOf B=0) {j:Nat} (hj:j<B.size):B.getD j false=true:=by
 unfold leftOf at h;have:=List.count_eq_zero.1 h;have hm:B[j]∈B.toList:=by simp
 cases hd:B[j] with
 | true=>simp[Array.getD_eq_getD_getElem?,hj,hd]
 | false=>rw[hd] at hm;exact absurd hm this
theorem ready_nil {ops:Array Oper} {B:Array Bool} (hs:B.size=ops.size) (hord:∀ (i:Nat) (o:Oper),ops[i]?=some o->∀ e∈o.after,Region.binds .any e=true->e.on<i) (hr:Region.ready .any ops B=[]) :
 ∀ j,j<ops.size->B.getD j false=true:=by
 intro j
 induction j using Nat.strongRecOn with
 | _ j ih =>
   intro hj;cases hb:B.getD j false with
   | true=>rfl
   | false =>
     exfalso;have hjB:j<B.size:=by omega
     have hm:j∈Region.ready .any ops B:=by
      unfold Region.ready;rw[List.mem_filter];refine⟨List.mem_range.2 hj,?_⟩;have h1:B.getD j true=false:=by simpa[Array.getD_eq_getD_getElem?,hjB] using hb
      rw[h1,Array.getElem?_eq_getElem hj];simp only[Bool.not_false,Option.map_some,Option.getD_some,Bool.true_and,Array.all_eq_true_iff_forall_mem,Bool.or_eq_true,Bool.not_eq_true'];intro e he;cases hbd:Region.binds .any e with
      | false=>exact .inl rfl
      | true=>exact .inr (ih e.on (hord j _ (Array.getElem?_eq_getElem hj) e he hbd) (by have:=hord j _ (Array.getElem?_eq_getElem hj) e he hbd;omega))
     rw[hr] at hm;cases hm
theorem any_sound {ops:Array Oper} {l:List (Oper×Res)} {rs:List Res} {m0:Nat->MB} {s0:St} {wS:World} {Q:Exit->Act->World->Prop}
 (hl:l=ops.toList.zip rs) (hlen:rs.length=ops.toList.length) (hlo:s0.lo<=s0.nx) (hap:Apart ops l (ancs ops.toList [])) (hord:∀ (i:Nat) (o:Oper),ops[i]?=some o->∀ e∈o.after,Region.binds .any e=true->e.on<i)
 (hcomes:∀ i o r,ops.toList[i]?=some o->rs[i]?=some r->Comes1 P Γ ops o (stAt (l.take i) s0) r)
 (hbig:offs l<=64) (hend:∀ B m a w,(∀ j,j<ops.size->B.getD j false=true)->Mid Γ L0 w0 ops l m0 s0 wS B m a w->Q .normal a w) :
 ∀ (fuel:Nat) (B:Array Bool) (m:Nat->MB) (a:Act) (w:World),leftOf B<=fuel->Mid Γ L0 w0 ops l m0 s0 wS B m a w->wpAny P .any ops Q fuel B a w
 | 0,B,m,a,w,hf,h=>by
   have hz:∀ j,j<ops.size->B.getD j false=true:=fun j hj=>leftOf_zero (Nat.le_zero.1 hf) (by rw[h.listed];exact hj);refine⟨List.eq_nil_iff_forall_not_mem.2 fun j hj=>?_,hend B m a w hz h⟩;obtain⟨h1,o,ho,_⟩:=ready_mem hj;have hjs:=(Array.getElem?_eq_some_iff.1 ho).1;have:=hz j hjs;have hjB:j<B.size:=by rw[h.listed];exact hjs
   simp[Array.getD_eq_getD_getElem?,hjB] at this h1;rw[this] at h1;cases h1
 | fuel+1,B,m,a,w,hf,h=>by
   refine⟨fun hr=>hend B m a w (ready_nil h.listed hord hr) h,fun i hi=>?_⟩;obtain⟨hun,o,ho,hdep⟩:=ready_mem hi;refine mid_step hl hlen hlo hap hord hcomes hbig h hun ho hdep fun m' a' w' h'=>?_;refine any_sound hl hlen hlo hap hord hcomes hbig hend fuel _ m' a' w' ?_ h';have:=leftOf_set hun;omega
def drawOk2 (ops:Array Oper) (tr:List Tr) (a b:Nat):Bool:=drawOk ops tr && Nat.ble b (a+64)
theorem draw_sound {id:Nat} {ops:Array Oper} {K:St->Prop} {Q:Exit->Act->World->Prop} {m:Nat->MB} {s:St} {a:Act} {w:World} (hm:P.follows .mixedOrders=true) (h:Rel Γ L0 w0 m s a w)
 (hk:drawW P Γ ops ops.toList s [] fun s' tr=>drawOk2 ops tr s.nx s'.nx=true/\K s') (hQ:∀ m' s' a' w',Rel Γ L0 w0 m' s' a' w'->Ext L0 m s w m' s' w'->K s'->Q .normal a' w'):(Code.region id ops true).wp P Q a w:=by
 obtain⟨rs,hlen,hcomes,hok,hK⟩:=draw_text _ _ _ hk;simp only[List.reverse_nil,List.nil_append,drawOk2,Bool.and_eq_true] at hok;obtain⟨hok,hbig⟩:=hok;have hbig:=Nat.le_of_ble_eq_true hbig;rw[(stAt_nx _ _).1] at hbig;obtain⟨hap,hord⟩:=apart_of hlen hok;refine wp_region_any hm ?_;have hfalse:∀ j,(Array.replicate ops.size false).getD j false=false:=fun j=>by
  by_cases hj:j<ops.size<;>simp[Array.getD_eq_getD_getElem?,hj]
 have no:∀ (l:List (Oper×Res)) (k:Nat) (e:Nat->D) (H:Nat->Blk),envF (fun j=>(Array.replicate ops.size false).getD j false) l k e=e/\hpF (fun j=>(Array.replicate ops.size false).getD j false) l k H=H:=by
  have hB:(fun j=>(Array.replicate ops.size false).getD j false)=fun _=>false:=funext hfalse;rw[hB];intro l
  induction l with
  | nil=>intro k e H;exact⟨rfl,rfl⟩
  | cons x l ih =>
    intro k e H;obtain⟨o,r⟩:=x;simp only[envF,hpF,Bool.false_eq_true,if_false];exact ih (k+1) e H
 have hdr:Grow (Live L0 m s.hp) w (Live L0 m s.hp) w.drew:=⟨Nat.le_refl _,fun b _ hL=>⟨rfl,hL⟩⟩;refine any_sound (P:=P) (L0:=L0) (w0:=w0) (m0:=m) (s0:=s) (wS:=w) rfl hlen h.lo hap hord hcomes (by omega) ?_ ops.size _ m a _ ?_ ⟨h.defers,h.slots,by simp,?_,?_,?_,?_,fun _ _=>rfl,?_,?_⟩
 . intro B m' a' w' hall hmid;have hall':∀ j o r,(ops.toList.zip rs)[j]?=some (o,r)->B.getD (0+j) false=decide (0+j<0+(ops.toList.zip rs).length):=fun j o r hj=>by
    have hlt:=(List.getElem?_eq_some_iff.1 hj).1;have:j<ops.size:=by simp[hlen] at hlt;exact hlt
    simp only[Nat.zero_add,hlt,decide_true];exact hall j this
   obtain⟨e1,e2⟩:=stAt_env (ops.toList.zip rs) (ops.toList.zip rs).length 0 s;rw[List.take_length] at e1 e2;have he:envF (B.getD · false) (ops.toList.zip rs) 0 s.env=(stAt (ops.toList.zip rs) s).env:=by
    rw[e1];funext t;exact envF_agree rfl fun j o r hj _=>hall' j o r hj
   have hh:hpF (B.getD · false) (ops.toList.zip rs) 0 s.hp=(stAt (ops.toList.zip rs) s).hp:=by
    rw[e2];funext g;exact hpF_agree rfl fun j o r hj _=>hall' j o r hj
   obtain⟨f1,f2,f3⟩:=stAt_nx (ops.toList.zip rs) s;have hzl:(ops.toList.zip rs).length=ops.size:=by simp[hlen]
   have hv:=hmid.vals;have hw:=hmid.wr;have hg:=hmid.grow;rw[he,hh] at hv;rw[hh] at hw hg;have hres:∀ g,(stAt (ops.toList.zip rs) s).nx<=g->m' g = .res:=fun g hgg=>hmid.beyond g (by rw[f1] at hgg;exact hgg);refine hQ m' (stAt (ops.toList.zip rs) s) a' w' ⟨hmid.defers,hv,hw.heap,hres,?_,hw.below,hw.l0,hw.glob,?_,?_⟩ ⟨hg,fun g hgg=>hmid.keep g (Nat.lt_of_lt_of_le hgg h.lo),f2,f3⟩ hK
   . intro g hgg;exact hw.none (hres g hgg)
   . rw[f1,f2];exact Nat.le_trans h.lo (Nat.le_add_right _ _)
   . rw[f3];exact hmid.slots
 . unfold leftOf;simp
 . intro t;rw[(no _ _ _ s.hp).1,(no _ _ s.env _).2];exact (h.vals t).mono hdr (fun _ _=>rfl)
 . rw[(no _ _ s.env _).2];exact h.wr.drew
 . intro j o r hj _ q _;exact h.res _ (by omega)
 . intro g hg;exact h.res g (by omega)
 . rw[(no _ _ s.env _).2];exact hdr
 . intro j o ho hb;rw[hfalse] at hb;cases hb
end
structure Weak (s s2:St):Prop where
 env:∀ t,s2.env t=s.env t \/ s2.env t = .junk
 hp:∀ g,s2.hp g=s.hp g \/ s2.hp g = .dead
 nx:s2.nx<=s.nx
 lo:s2.lo=s.lo
 low:s2.lo<=s2.nx
 nt:s2.nt=s.nt
 dead:∀ g,s2.nx<=g->s2.hp g = .dead
 scope:s2.nx=s.nx \/ ((∀ t,Scoped s2.nx (s2.env t))/\(∀ g rw cells,s2.hp g = .blk rw cells->∀ d∈cells,Scoped s2.nx d)/\∀ g o,s2.hp g = .obj o->o.scopd s2.nx)
def fzH (H:Nat->Blk) (F:List Nat):Nat->Blk:=fun g=>if g∈F then fz (H g) else H g
inductive Ren (n:Nat) (ρ:Nat->Option Nat) (H:Nat->Blk):D->D->Prop where
 | data (x:Data):Ren n ρ H (.data x) (.data x)
 | frz (d:D) (x:Data) (h:Frz false H d x):Ren n ρ H (.data x) d
 | emp (es es':Nat):Ren n ρ H (.emp es) (.emp es')
 | ref (g off len es o:Nat) (hg:g<n) (h:ρ g=some o):Ren n ρ H (.ref g off len es) (.ref o off len es)
 | nil (g es es':Nat) (hg:g<n) (h:ρ g=none):Ren n ρ H (.ref g 0 0 es) (.emp es')
 | ptr (g off o:Nat) (hg:g<n) (h:ρ g=some o):Ren n ρ H (.ptr g off) (.ptr o off)
 | cut (g off len cp es o:Nat) (hg:g<n) (h:ρ g=some o):Ren n ρ H (.cut g off len cp es) (.cut o off len cp es)
 | uncut (g off len cp es o:Nat) (hg:g<n) (h:ρ g=some o):Ren n ρ H (.ref g off len es) (.cut o off len cp es)
 | recut (g off len es o:Nat) (h0:0<len) (hg:g<n) (h:ρ g=some o):Ren n ρ H (.cut g off len len es) (.ref o off len es)
 | mref (g o:Nat) (hg:g<n) (h:ρ g=some o):Ren n ρ H (.mref g) (.mref o)
 | iref (g o:Nat) (hg:g<n) (h:ρ g=some o):Ren n ρ H (.iref g) (.iref o)
 | cptr (cells:List Data):Ren n ρ H (.cptr cells) (.cptr cells)
 | agg (cs ds:List D) (hl:cs.length=ds.length) (h:∀ (i:Nat) (c d:D),cs[i]?=some c->ds[i]?=some d->Ren n ρ H c d):Ren n ρ H (.agg cs) (.agg ds)
 | fn (f:FuncId) (cs ds:List D) (hl:cs.length=ds.length) (h:∀ (i:Nat) (c d:D),cs[i]?=some c->ds[i]?=some d->Ren n ρ H c d):Ren n ρ H (.fn f cs) (.fn f ds)
 | bnd (f:FuncId) (c d:D) (h:Ren n ρ H c d):Ren n ρ H (.bnd f c) (.bnd f d)
 | tp (cs ds:List D) (hl:cs.length=ds.length) (h:∀ (i:Nat) (c d:D),cs[i]?=some c->ds[i]?=some d->Ren n ρ H c d):Ren n ρ H (.tp cs) (.tp ds)
 | yld (l:Nat):Ren n ρ H (.yld l) (.yld l)
 | ful (es:Nat) (l:List Data):Ren n ρ H (.ful es l) (.ful es l)
 | junk (d:D):Ren n ρ H .junk d
inductive RenOb (n:Nat) (ρ:Nat->Option Nat) (H:Nat->Blk):Ob->Ob->Prop where
 | mp (ks:List Data) (cs ds:List D) (hl:cs.length=ds.length) (h:∀ (i:Nat) (c d:D),cs[i]?=some c->ds[i]?=some d->Ren n ρ H c d):RenOb n ρ H (.mp ks cs) (.mp ks ds)
 | it (ks xs:List Data) (left:List Nat) (cur:Option Nat):RenOb n ρ H (.it ks xs left cur) (.it ks xs left cur)
 | si (s:ByteArray) (pos:Nat):RenOb n ρ H (.si s pos) (.si s pos)
structure WeakR (F:List Nat) (ρ:Nat->Option Nat) (s s2:St):Prop where
 env:∀ t,Ren s2.nx ρ (fzH s.hp F) (s2.env t) (s.env t)
 hp:∀ g rw cells,s2.hp g = .blk rw cells->g<s2.nx/\((∃ o cells',ρ g=some o/\fzH s.hp F o = .blk rw cells'/\cells.length<=cells'.length/\∀ (i:Nat) (c d:D),cells[i]?=some c->cells'[i]?=some d->Ren s2.nx ρ (fzH s.hp F) c d) \/ (ρ g=none/\cells=[]))
 inj:∀ g g' o cells rw cells',s2.hp g = .blk true cells->s2.hp g' = .blk rw cells'->ρ g=some o->ρ g'=some o->g=g'
 obj:∀ g o2,s2.hp g = .obj o2->g<s2.nx/\∃ o o1,ρ g=some o/\s.hp o = .obj o1/\RenOb s2.nx ρ (fzH s.hp F) o2 o1
 injO:∀ g g' o p p',s2.hp g = .obj p->s2.hp g' = .obj p'->ρ g=some o->ρ g'=some o->g=g'
 lo:s2.lo=s.lo
 low:s2.lo<=s2.nx
 fix:∀ g,g<s2.lo->ρ g=some g
 nt:s2.nt=s.nt
def WeakX (s s2:St):Prop:=Weak s s2 \/ ∃ F ρ,WeakR F ρ s s2
def thenW (next:St->Prop) (Q:Exit->St->Prop):Exit->St->Prop
 | .normal,s=>next s
 | e,s=>Q e s
def blockW (id:Nat) (Q:Exit->St->Prop):Exit->St->Prop
 | .exit i,s=>if i=id then Q .normal s else Q (.exit i) s
 | e,s=>Q e s
def LoopW (body:(Exit->St->Prop)->St->Prop) (Q:Exit->St->Prop) (s:St):Prop :=
 ∃ (σ:Type) (st:σ->St) (μ:σ->Nat) (x0:σ),WeakX s (st x0)/\∀ x,body (thenW (fun s'=>∃ y,WeakX s' (st y)/\μ y<μ x) Q) (st x)
section
variable (P:Program) (Γ:Nat->Option (List Data))
def wpF:Code->(Exit->St->Prop)->St->Prop
 | .skip,Q,s=>Q .normal s
 | .region _ ops draw,Q,s=>ifW draw (drawW P Γ ops ops.toList s [] (fun s' tr=>drawOk2 ops tr s.nx s'.nx=true/\Q .normal s')) (opsW P Γ ops ops.toList s (Q .normal))
 | .seq x y,Q,s=>wpF x (thenW (wpF y Q) Q) s
 | .cond c x y,Q,s=>(match evalD Γ s.env c with
   | .data (.bool b)=>ifW b (wpF x Q s) (wpF y Q s)
   | _=>False)
 | .block id b,Q,s=>wpF b (blockW id Q) s
 | .loop b,Q,s=>LoopW (wpF b) Q s
 | .exit id,Q,s=>Q (.exit id) s
 | .ret,Q,s=>Q .ret s
 | .label _,Q,s=>Q .normal s
 | _,_,_=>False
def resK:List ResultVar->St->(List D->Prop)->Prop
 | [],s,K=>K []
 | .tmp t::rest,s,K=>resK rest s fun ds=>K (s.env t::ds)
 | .cell a t::rest,s,K=>loadK P t (s.env a) s.hp fun d _=>resK rest s fun ds=>K (d::ds)
def tupD:List Data->Data
 | [x]=>x
 | xs=>.tup xs
def retQ (fn:Func) (r:Data):Exit->St->Prop
 | .normal,s | .ret,s=>resK P fn.results.toList s fun ds=>∃ xs,FrzL true s.hp ds xs/\r=tupD xs
 | _,_=>False
def tupDD:List D->Option D
 | [d]=>some d
 | ds=>some (match allData ds with
   | some xs=>.data (.tup xs)
   | none=>.tp ds)
def retDQ (fn:Func) (K:D->(Nat->Blk)->Nat->Prop):Exit->St->Prop
 | .normal,s | .ret,s=>resK P fn.results.toList s fun ds=>∃ d,tupDD ds=some d/\K d s.hp s.nx
 | _,_=>False
def envArgs (ds:List D):Nat->D:=fun t=>ds.getD t undefD
end
section
variable {P:Program} {Γ:Nat->Option (List Data)} {L0:Nat->Prop} {w0:W0}
theorem weak_rel {m:Nat->MB} {s s2:St} {a:Act} {w:World} (h:Rel Γ L0 w0 m s a w) (hw:Weak s s2):∃ m2,Rel Γ L0 w0 m2 s2 a w/\Ext L0 m s w m2 s2 w:=by
 refine⟨fun g=>if g<s2.nx then m g else .res,?_⟩;have hm2:∀ g,g<s2.nx->(fun g=>if g<s2.nx then m g else MB.res) g=m g:=fun g hg=>by simp[hg]
 have back:∀ g rw cells,s2.hp g = .blk rw cells->s.hp g = .blk rw cells/\g<s2.nx:=fun g rw cells hg=>by
  refine⟨?_,Nat.lt_of_not_le fun hle=>by rw[hw.dead g hle] at hg;cases hg⟩;rcases hw.hp g with e|e
  . rw[e] at hg;exact hg
  . rw[e] at hg;cases hg
 have hlive:∀ b,Live L0 (fun g=>if g<s2.nx then m g else MB.res) s2.hp b->Live L0 m s.hp b:=by
  rintro b (hb|⟨g,sz,hg,hm⟩)
  . exact .inl hb
  . have h2:g<s2.nx:=Nat.lt_of_not_le fun hle=>by rw[hw.dead g hle] at hg;cases hg
    rw[hm2 g h2] at hm;refine .inr ⟨g,sz,?_,hm⟩;rcases hw.hp g with e|e
    . rw[<- e];exact hg
    . rw[e] at hg;cases hg
 have oback:∀ g o,s2.hp g = .obj o->s.hp g = .obj o/\g<s2.nx:=fun g o hg=>by
  refine⟨?_,Nat.lt_of_not_le fun hle=>by rw[hw.dead g hle] at hg;cases hg⟩;rcases hw.hp g with e|e
  . rw[e] at hg;exact hg
  . rw[e] at hg;cases hg
 have hgrow:Grow (Live L0 m s.hp) w (Live L0 (fun g=>if g<s2.nx then m g else MB.res) s2.hp) w:=Grow.less w hlive;have hsc:(∀ t,Scoped s2.nx (s2.env t))/\(∀ g rw cells,s2.hp g = .blk rw cells->∀ d∈cells,Scoped s2.nx d)/\∀ g o,s2.hp g = .obj o->o.scopd s2.nx:=by
  rcases hw.scope with e|e
  . refine⟨fun t=>?_,fun g rw cells hg d hd=>?_,fun g o hg=>by
     obtain⟨h1,_⟩:=oback g o hg;obtain⟨b,v,_,_,_,k4⟩:=h.heap.obj g o h1;rw[e];exact k4.scopd h.res⟩
    . rcases hw.env t with e2|e2
      . rw[e2,e];exact (h.vals t).scopd h.res
      . rw[e2];exact .junk
    . obtain⟨h1,_⟩:=back g rw cells hg;rcases h.heap.blk g rw cells h1 with⟨_,k⟩|⟨b,sz,vs,ty,_,_,_,_,_,_,k7⟩
      . rw[k] at hd;cases hd
      . obtain⟨i,hi⟩:=List.getElem?_of_mem hd;obtain⟨v,_,_,hv⟩:=k7 i d hi;rw[e];exact hv.scopd h.res
  . exact e
 refine⟨⟨h.defers,fun t=>?_,⟨?_,?_,fun g o hg=>by
  obtain⟨h1,h2⟩:=oback g o hg;obtain⟨b,v,k1,k2,k3,k4⟩:=h.heap.obj g o h1;exact⟨b,v,by rw[hm2 g h2];exact k1,k2,k3,k4.mono_below hgrow hm2 (hsc.2.2 g o hg)⟩,fun g g' o o' b sz sz' hg hg' hm hm'=>by
  obtain⟨h1,h2⟩:=oback g o hg;obtain⟨h3,h4⟩:=oback g' o' hg';simp only[h2,if_true] at hm;simp only[h4,if_true] at hm';exact h.heap.injO g g' o o' b sz sz' h1 h3 hm hm'⟩,fun g hg=>by simp[show ¬ g<s2.nx by omega],hw.dead,h.below,h.l0,h.glob.mono hgrow,hw.low,by rw[hw.nt];exact h.slots⟩,hgrow,fun g hg=>hm2 g (by have:=hw.low;have:=hw.lo;omega),hw.lo,hw.nt⟩
 . have hv:VV (Live L0 m s.hp) w m (s2.env t) (a.tmps.getD t undef):=by
    rcases hw.env t with e|e
    . rw[e];exact h.vals t
    . rw[e];exact .junk _
   exact hv.mono_below hgrow hm2 (hsc.1 t)
 . intro g rw cells hg;obtain⟨h1,h2⟩:=back g rw cells hg;rcases h.heap.blk g rw cells h1 with⟨k1,k2⟩|⟨b,sz,vs,ty,k1,k2,k3,k4,k5,k6,k7⟩
   . exact .inl ⟨by rw[hm2 g h2];exact k1,k2⟩
   . refine .inr ⟨b,sz,vs,ty,by rw[hm2 g h2];exact k1,k2,fun hrw hl=>k3 hrw (hlive b hl),k4,k5,k6,fun i d hd=>?_⟩;obtain⟨v,e1,e2,e3⟩:=k7 i d hd;exact⟨v,e1,e2,e3.mono_below hgrow hm2 (hsc.2.1 g rw cells hg d (List.mem_of_getElem? hd))⟩
 . intro g g' cells rw' cells' b sz sz' hg hg' hm hm';obtain⟨h1,h2⟩:=back g _ _ hg;obtain⟨h3,h4⟩:=back g' _ _ hg';simp only[h2,if_true] at hm;simp only[h4,if_true] at hm';exact h.heap.inj g g' cells rw' cells' b sz sz' h1 h3 hm hm'
theorem fzH_blk {H:Nat->Blk} {F:List Nat} {g:Nat} {rw:Bool} {cells:List D} (h:fzH H F g = .blk rw cells):∃ rw0,H g = .blk rw0 cells/\(rw=true->rw0=true/\g ∉ F)/\(rw0=true->rw=false->g∈F):=by
 unfold fzH at h;split at h
 . rename_i hF;cases hH:H g with
   | dead=>rw[hH] at h;simp[fz] at h
   | obj o=>rw[hH] at h;simp[fz] at h
   | blk rw0 c =>
     rw[hH] at h;simp only[fz,Blk.blk.injEq] at h;obtain⟨rfl,rfl⟩:=h;exact⟨rw0,rfl,(fun e=>by cases e),fun _ _=>hF⟩
 . rename_i hF;exact⟨rw,h,(fun e=>⟨e,hF⟩),fun e1 e2=>by rw[e1] at e2;cases e2⟩
theorem renW_rel {m:Nat->MB} {s s2:St} {a:Act} {w:World} {F:List Nat} {ρ:Nat->Option Nat} (h:Rel Γ L0 w0 m s a w) (hw:WeakR F ρ s s2):∃ m2,Rel Γ L0 w0 m2 s2 a w/\Ext L0 m s w m2 s2 w:=by
 let m2:Nat->MB:=fun g=>if g<s2.nx then (match ρ g with|some o=>m o|none=>.nil) else .res
 have hm2:∀ g o,g<s2.nx->ρ g=some o->m2 g=m o:=fun g o hg ho=>by simp[m2,hg,ho]
 have hm3:∀ g,g<s2.nx->ρ g=none->m2 g = .nil:=fun g hg ho=>by simp[m2,hg,ho]
 have back:∀ g cells b sz,s2.hp g = .blk true cells->m2 g = .at b sz->∃ o cells',ρ g=some o/\s.hp o = .blk true cells'/\o ∉ F/\m o = .at b sz:=by
  intro g cells b sz hg hm;obtain⟨hn,⟨o,cells',h1,h2,_,_⟩|⟨h1,_⟩⟩:=hw.hp g true cells hg
  . obtain⟨rw0,h3,h4,_⟩:=fzH_blk h2;obtain⟨rfl,h5⟩:=h4 rfl;exact⟨o,cells',h1,h3,h5,by rw[<- hm2 g o hn h1];exact hm⟩
  . rw[hm3 g hn h1] at hm;cases hm
 have hlive:∀ b,Live L0 m2 s2.hp b->Live L0 m s.hp b:=by
  rintro b (hb|⟨g,sz,hg,hm⟩)
  . exact .inl hb
  . rcases Blk.rw_inv hg with⟨cells,hg⟩|⟨o2,hg⟩
    . obtain⟨o,cells',_,h2,_,h4⟩:=back g cells b sz hg hm;exact .inr ⟨o,sz,by rw[h2];rfl,h4⟩
    . obtain⟨hn,o,o1,h1,h2,_⟩:=hw.obj g o2 hg;rw[hm2 g o hn h1] at hm;exact .inr ⟨o,sz,by rw[h2];rfl,hm⟩
 have hgrow:Grow (Live L0 m s.hp) w (Live L0 m2 s2.hp) w:=Grow.less w hlive;have quiet:∀ o cells b sz,fzH s.hp F o = .blk false cells->m o = .at b sz->¬ Live L0 m2 s2.hp b:=by
  intro o cells b sz ho hm hl;obtain⟨rw0,h1,_,h2⟩:=fzH_blk ho;rcases h.heap.blk o rw0 cells h1 with⟨k1,_⟩|⟨b',sz',vs,ty,k1,k2,k3,_⟩
  . rw[k1] at hm;cases hm
  . rw[k1] at hm;cases hm;cases rw0 with
    | false=>exact k3 rfl (hlive b hl)
    | true =>
      rcases hl with hb|⟨g,sz2,hg,hm'⟩
      . exact k2.2 hb
      . rcases Blk.rw_inv hg with⟨c2,hg⟩|⟨o2,hg⟩
        . obtain⟨o',c3,_,h5,h6,h7⟩:=back g c2 b sz2 hg hm';have:=h.heap.inj o' o c3 true cells b sz2 sz h5 h1 h7 k1;subst this;exact h6 (h2 rfl rfl)
        . obtain⟨hn,o',o1,q1,q2,_⟩:=hw.obj g o2 hg;rw[hm2 g o' hn q1] at hm';exact h.wr.apart h1 q2 k1 hm'
 have frz:∀ (d:D) (x:Data) (v:Value),Frz false (fzH s.hp F) d x->VV (Live L0 m s.hp) w m d v->VD (Live L0 m2 s2.hp) w x v:=by
  intro d x v hf hv;refine hf.vd hlive (fun g rw cells b sz hg hrw hm=>?_) (fun g rw cells hg hm=>?_) (fun e=>by cases e) hv
  . have e:rw=false:=by simpa using hrw
    subst e;obtain⟨rw0,h1,_,_⟩:=fzH_blk hg;rcases h.heap.blk g rw0 cells h1 with⟨k1,_⟩|⟨b',sz',vs,ty,k1,_,_,k4,_,_,k7⟩
    . rw[k1] at hm;cases hm
    . rw[k1] at hm;cases hm;exact⟨(Array.getElem?_eq_some_iff.1 k4).1,quiet g cells b sz hg k1,vs,ty,k4,fun i d hd=>by obtain⟨v,e1,_,e3⟩:=k7 i d hd;exact⟨v,e1,e3⟩⟩
  . obtain⟨rw0,h1,_,_⟩:=fzH_blk hg;rcases h.heap.blk g rw0 cells h1 with⟨_,k2⟩|⟨b',sz',vs,ty,k1,_⟩
    . exact k2
    . rw[k1] at hm;cases hm
 have ren:∀ (c d:D) (v:Value),Ren s2.nx ρ (fzH s.hp F) c d->VV (Live L0 m s.hp) w m d v->VV (Live L0 m2 s2.hp) w m2 c v:=by
  intro c d v hr
  induction hr generalizing v with
  | data x=>intro hv;exact .data x v (hv.data_inv.mono hgrow)
  | frz d x hf=>intro hv;exact .data x v (frz d x v hf hv)
  | emp es es'=>intro hv;cases hv with|emp _ a=>exact .emp es a
  | ref g off len es o hg ho =>
    intro hv;cases hv with
    | ref _ _ _ _ b sz cap o' h1 h2 h3 h4 h5=>exact .ref g off len es b sz cap o' (by rw[hm2 g o hg ho];exact h1) h2 h3 h4 h5
    | ref0 _ _ a h1=>exact .ref0 g es a (by rw[hm2 g o hg ho];exact h1)
  | nil g es es' hg ho=>intro hv;cases hv with|emp _ a=>exact .ref0 g es a (hm3 g hg ho)
  | ptr g off o hg ho=>intro hv;cases hv with|ptr _ _ b sz h1=>exact .ptr g off b sz (by rw[hm2 g o hg ho];exact h1)
  | cut g off len cp es o hg ho=>intro hv;cases hv with|cut _ _ _ _ _ b sz cap o' h1 h2 h3 h4 h5 h6=>exact .cut g off len cp es b sz cap o' (by rw[hm2 g o hg ho];exact h1) h2 h3 h4 h5 h6
  | uncut g off len cp es o hg ho=>intro hv;cases hv with|cut _ _ _ _ _ b sz cap o' h1 h2 h3 h4 h5 h6=>exact .ref g off len es b sz cap o' (by rw[hm2 g o hg ho];exact h1) h2 h3 (by omega) h6
  | recut g off len es o h0 hg ho =>
    intro hv;cases hv with
    | ref _ _ _ _ b sz cap o' h1 h2 h3 h4 h5=>exact .cut g off len len es b sz cap o' (by rw[hm2 g o hg ho];exact h1) h2 h3 (Nat.le_refl _) h4 h5
    | ref0 _ _ a h1=>omega
  | mref g o hg ho=>intro hv;cases hv with|mref _ b h1=>exact .mref g b (by rw[hm2 g o hg ho];exact h1)
  | iref g o hg ho=>intro hv;cases hv with|iref _ b h1=>exact .iref g b (by rw[hm2 g o hg ho];exact h1)
  | cptr cells=>intro hv;cases hv with|cptr _ b off vs hb hL hc hv=>exact .cptr cells b off vs hb (fun hl=>hL (hlive b hl)) hc (fun i x hx=>(hv i x hx).mono hgrow)
  | agg cs ds hl _ ih =>
    intro hv;cases hv with
    | agg _ vs hl2 hv =>
      refine .agg cs vs (by omega) fun i x u hx hu=>?_;have hi:i<ds.length:=by rw[<- hl];exact (List.getElem?_eq_some_iff.1 hx).1
      exact ih i x ds[i] hx (List.getElem?_eq_getElem hi) u (hv i _ u (List.getElem?_eq_getElem hi) hu)
  | fn f cs ds hl _ ih =>
    intro hv;cases hv with
    | fn _ _ vs hl2 hv =>
      refine .fn f cs vs (by omega) fun i x u hx hu=>?_;have hi:i<ds.length:=by rw[<- hl];exact (List.getElem?_eq_some_iff.1 hx).1
      exact ih i x ds[i] hx (List.getElem?_eq_getElem hi) u (hv i _ u (List.getElem?_eq_getElem hi) hu)
  | bnd f c d _ ih =>
    intro hv;cases hv with
    | bnd _ _ u h=>exact .bnd f c u (ih u h)
  | tp cs ds hl _ ih =>
    intro hv;cases hv with
    | tp _ vs hl2 hv =>
      refine .tp cs vs (by omega) fun i x u hx hu=>?_;have hi:i<ds.length:=by rw[<- hl];exact (List.getElem?_eq_some_iff.1 hx).1
      exact ih i x ds[i] hx (List.getElem?_eq_getElem hi) u (hv i _ u (List.getElem?_eq_getElem hi) hu)
  | yld l=>intro hv;cases hv;exact .yld l
  | ful es l=>intro hv;cases hv with|ful _ _ a n h=>exact .ful es l a n (h.mono hgrow)
  | junk d=>intro _;exact .junk v
 refine⟨m2,⟨h.defers,fun t=>ren _ _ _ (hw.env t) (h.vals t),⟨?_,?_,fun g o2 hg=>by
  obtain⟨hn,o,o1,q1,q2,q3⟩:=hw.obj g o2 hg;obtain⟨b,v,k1,k2,k3,k4⟩:=h.heap.obj o o1 q2;refine⟨b,v,by rw[hm2 g o hn q1];exact k1,k2,k3,?_⟩;cases q3 with
  | mp ks cs ds hl hr =>
    cases k4 with
    | mp _ _ es clock a1 a2 a3 a4 a5 a6 =>
      refine .mp ks cs es clock a1 (by omega) (fun i x e p q=>(a3 i x e p q).mono hgrow) (fun i x e p q=>?_) a5 a6;have hi:i<ds.length:=by rw[<- hl];exact (List.getElem?_eq_some_iff.1 p).1
      exact ren _ _ _ (hr i x _ p (List.getElem?_eq_getElem hi)) (a4 i _ e (List.getElem?_eq_getElem hi) q)
  | it ks xs left cur =>
    cases k4 with
    | it _ _ _ _ b seen hv a1 a2=>exact .it _ _ _ _ b seen (hv.mono hgrow) a1 a2
  | si s pos =>
    cases k4 with
    | si _ _=>exact .si s pos,fun g g' o o' b sz sz' hg hg' hm hm'=>by
  obtain⟨hn,p,p1,q1,q2,_⟩:=hw.obj g o hg;obtain⟨hn',p',p1',q1',q2',_⟩:=hw.obj g' o' hg';rw[hm2 g p hn q1] at hm;rw[hm2 g' p' hn' q1'] at hm';have:=h.heap.injO p p' p1 p1' b sz sz' q2 q2' hm hm';subst this;exact hw.injO g g' p o o' hg hg' q1 q1'⟩,fun g hg=>by simp[m2,show ¬ g<s2.nx by omega],fun g hg=>?_,h.below,h.l0,h.glob.mono hgrow,hw.low,by rw[hw.nt];exact h.slots⟩,hgrow,fun g hg=>?_,hw.lo,hw.nt⟩
 . intro g rw cells hg;obtain⟨hn,⟨o,cells',h1,h2,h3,h4⟩|⟨h1,rfl⟩⟩:=hw.hp g rw cells hg
   . obtain⟨rw0,h5,h6,h7⟩:=fzH_blk h2;rcases h.heap.blk o rw0 cells' h5 with⟨k1,k2⟩|⟨b,sz,vs,ty,k1,k2,k3,k4,k5,k6,k7⟩
     . subst k2;exact .inl ⟨by rw[hm2 g o hn h1];exact k1,List.eq_nil_of_length_eq_zero (by simpa using h3)⟩
     . refine .inr ⟨b,sz,vs,ty,by rw[hm2 g o hn h1];exact k1,k2,fun hrw=>?_,k4,k5,by omega,fun i c hc=>?_⟩
       . subst hrw;exact quiet o cells' b sz h2 k1
       . have hi:i<cells'.length:=by have:=(List.getElem?_eq_some_iff.1 hc).1;omega
         obtain⟨v,e1,e2,e3⟩:=k7 i _ (List.getElem?_eq_getElem hi);exact⟨v,e1,e2,ren _ _ _ (h4 i c _ hc (List.getElem?_eq_getElem hi)) e3⟩
   . exact .inl ⟨hm3 g hn h1,rfl⟩
 . intro g g' cells rw' cells' b sz sz' hg hg' hm hm';obtain⟨o,c1,h1,h2,_,h4⟩:=back g cells b sz hg hm;obtain⟨hn',⟨o',c2,h5,h6,_,_⟩|⟨h5,_⟩⟩:=hw.hp g' rw' cells' hg'
   . obtain⟨rw0,h7,_,_⟩:=fzH_blk h6;have hm'':m o' = .at b sz':=by rw[<- hm2 g' o' hn' h5];exact hm'
     have:=h.heap.inj o o' c1 rw0 c2 b sz sz' h2 h7 h4 hm'';subst this;exact hw.inj g g' o cells rw' cells' hg hg' h1 h5
   . rw[hm3 g' hn' h5] at hm';cases hm'
 . cases hb:s2.hp g with
   | dead=>rfl
   | blk rw cells=>have:=(hw.hp g rw cells hb).1;omega
   | obj o=>have:=(hw.obj g o hb).1;omega
 . exact hm2 g g (by have:=hw.low;have:=hw.lo;omega) (hw.fix g (by have:=hw.lo;omega))
theorem weakX_rel {m:Nat->MB} {s s2:St} {a:Act} {w:World} (h:Rel Γ L0 w0 m s a w) (hw:WeakX s s2):∃ m2,Rel Γ L0 w0 m2 s2 a w/\Ext L0 m s w m2 s2 w:=by
 rcases hw with hw|⟨F,ρ,hw⟩
 . exact weak_rel h hw
 . exact renW_rel h hw
def Lifts (Γ:Nat->Option (List Data)) (L0:Nat->Prop) (w0:W0) (m:Nat->MB) (s:St) (w:World) (Q:Exit->St->Prop) (e:Exit) (a':Act) (w':World):Prop :=
 ∃ m' s',Rel Γ L0 w0 m' s' a' w'/\Ext L0 m s w m' s' w'/\Q e s'
theorem loop_sound {c:Code} {Q:Exit->Act->World->Prop} {σ:Type} (R:σ->Act->World->Prop) (μ:σ->Nat) {x0:σ} {a:Act} {w:World} (h0:R x0 a w)
 (round:∀ x a w,R x a w->c.wp P (Exit.then (fun a' w'=>∃ y,R y a' w'/\μ y<μ x) Q) a w):(Code.loop c).wp P Q a w:=by
 intro b k cs;have key:∀ n x a w,μ x=n->R x a w->∃ e a' w',Q e a' w'/\Arrives P (lone (b.at a (.code c :: .inLoop c::k)) cs w) b k cs e a' w':=by
  intro n
  induction n using Nat.strongRecOn with
  | _ n ih =>
    intro x a w hn hI;obtain⟨e,a₁,w₁,hq,harr⟩:=round x a w hI b (.inLoop c::k) cs;cases e with
    | normal =>
      obtain⟨y,hI₁,hlt⟩:=hq;obtain⟨e₂,a₂,w₂,hq₂,harr₂⟩:=ih (μ y) (hn ▸ hlt) y a₁ w₁ rfl hI₁;exact⟨e₂,a₂,w₂,hq₂,.of_steps (Steps.trans harr (.one step_inLoop)) harr₂⟩
    | exit id=>exact⟨_,a₁,w₁,hq,.pass (x:=.inLoop c) rfl (fun _ _=>.inl (by simp)) harr⟩
    | goto l=>exact⟨_,a₁,w₁,hq,.pass (x:=.inLoop c) rfl (fun _ _=>.inl (by simp)) harr⟩
    | ret=>exact⟨_,a₁,w₁,hq,.pass (x:=.inLoop c) rfl (fun _ _=>.inl (by simp)) harr⟩
    | panic ch=>exact⟨_,a₁,w₁,hq,.pass (x:=.inLoop c) rfl (fun _ _=>.inl (by simp)) harr⟩
    | outgrown=>exact⟨_,a₁,w₁,hq,.pass (x:=.inLoop c) rfl (fun _ _=>.inl (by simp)) harr⟩
 obtain⟨e,a',w',hq,harr⟩:=key _ x0 a w rfl h0;exact⟨e,a',w',hq,.of_steps (.one step_loop) harr⟩
theorem wp_sound (hm:P.follows .mixedOrders=true):∀ (c:Code) (Q:Exit->St->Prop) (m:Nat->MB) (s:St) (a:Act) (w:World),Rel Γ L0 w0 m s a w->wpF P Γ c Q s->c.wp P (Lifts Γ L0 w0 m s w Q) a w
 | .skip,Q,m,s,a,w,h,hk=>wp_skip ⟨m,s,h,Ext.refl _ _ _ _,hk⟩
 | .label _,Q,m,s,a,w,h,hk=>wp_label ⟨m,s,h,Ext.refl _ _ _ _,hk⟩
 | .exit id,Q,m,s,a,w,h,hk=>wp_exit ⟨m,s,h,Ext.refl _ _ _ _,hk⟩
 | .ret,Q,m,s,a,w,h,hk=>wp_ret ⟨m,s,h,Ext.refl _ _ _ _,hk⟩
 | .region id ops draw,Q,m,s,a,w,h,hk=>by
   cases draw with
   | true=>exact draw_sound hm h (by simpa[wpF,ifW] using hk) fun m' s' a' w' h1 h2 h3=>⟨m',s',h1,h2,h3⟩
   | false=>exact wp_region_list (ops_sound ops.toList m s a w h (by simpa[wpF,ifW] using hk) fun m' s' a' w' h1 h2 h3=>⟨m',s',h1,h2,h3⟩)
 | .seq x y,Q,m,s,a,w,h,hk=>by
   refine wp_seq (wp_mono (wp_sound hm x _ m s a w h hk) fun e a' w' ⟨m',s',h1,h2,h3⟩=>?_);cases e with
   | normal=>exact wp_mono (wp_sound hm y Q m' s' a' w' h1 h3) fun e a'' w'' ⟨m'',s'',h4,h5,h6⟩=>⟨m'',s'',h4,h2.trans h5,h6⟩
   | exit id=>exact⟨m',s',h1,h2,h3⟩
   | goto l=>exact⟨m',s',h1,h2,h3⟩
   | ret=>exact⟨m',s',h1,h2,h3⟩
   | panic ch=>exact⟨m',s',h1,h2,h3⟩
   | outgrown=>exact⟨m',s',h1,h2,h3⟩
 | .cond c x y,Q,m,s,a,w,h,hk=>by
   simp only[wpF] at hk;split at hk
   . rename_i b hc;have hcv:=eval_ok h.glob h.vals c;rw[hc] at hcv;have:=hcv.data_inv;generalize hce:a.eval c=vc at this;cases this;refine wp_cond hce ?_;cases b with
     | true=>exact wp_sound hm x Q m s a w h hk
     | false=>exact wp_sound hm y Q m s a w h hk
   . exact hk.elim
 | .block id b,Q,m,s,a,w,h,hk=>by
   refine wp_block (wp_mono (wp_sound hm b _ m s a w h hk) fun e a' w' ⟨m',s',h1,h2,h3⟩=>?_);cases e with
   | exit i =>
     simp only[Exit.inBlock,blockW] at h3 ⊢;split at h3
     . rename_i e;rw[if_pos e];exact⟨m',s',h1,h2,h3⟩
     . rename_i e;rw[if_neg e];exact⟨m',s',h1,h2,h3⟩
   | normal=>exact⟨m',s',h1,h2,h3⟩
   | goto l=>exact⟨m',s',h1,h2,h3⟩
   | ret=>exact⟨m',s',h1,h2,h3⟩
   | panic ch=>exact⟨m',s',h1,h2,h3⟩
   | outgrown=>exact⟨m',s',h1,h2,h3⟩
 | .loop b,Q,m,s,a,w,h,hk=>by
   obtain⟨σ,st,μ,x0,hw,hr⟩:=hk;refine loop_sound (fun x a' w'=>∃ m',Rel Γ L0 w0 m' (st x) a' w'/\Ext L0 m s w m' (st x) w') μ (x0:=x0) ?_ ?_
   . obtain⟨m2,h1,h2⟩:=weakX_rel h hw;exact⟨m2,h1,h2⟩
   . rintro x a' w' ⟨m',h1,h2⟩;refine wp_mono (wp_sound hm b _ m' (st x) a' w' h1 (hr x)) fun e a'' w'' ⟨m'',s'',h3,h4,h5⟩=>?_;cases e with
     | normal =>
       obtain⟨y,hwy,hlt⟩:=h5;obtain⟨m3,h6,h7⟩:=weakX_rel h3 hwy;exact⟨y,⟨m3,h6,(h2.trans h4).trans h7⟩,hlt⟩
     | exit id=>exact⟨m'',s'',h3,h2.trans h4,h5⟩
     | goto l=>exact⟨m'',s'',h3,h2.trans h4,h5⟩
     | ret=>exact⟨m'',s'',h3,h2.trans h4,h5⟩
     | panic ch=>exact⟨m'',s'',h3,h2.trans h4,h5⟩
     | outgrown=>exact⟨m'',s'',h3,h2.trans h4,h5⟩
 | .rangeFunc ..,Q,m,s,a,w,h,hk=>hk.elim
 | .scope _,Q,m,s,a,w,h,hk=>hk.elim
 | .goto _,Q,m,s,a,w,h,hk=>hk.elim
 | .refuse _,Q,m,s,a,w,h,hk=>hk.elim
def resOne (tmps:Array Value) (r:ResultVar):Sem Value:=match r with
 | .tmp t=>pure (tmps.getD t undef)
 | .cell a t=>do loadVar t (← asAddr (tmps.getD a undef))
theorem results_eq (fn:Func) (tmps:Array Value):results fn tmps=(do let vs <- fn.results.mapM (resOne tmps);pure (if h:vs.size=1 then vs[0] else .tuple vs)):=by
 unfold results;congr 1
theorem res_ok {s:St} {m:Nat->MB} {a:Act} {w:World} (h:Rel Γ L0 w0 m s a w):∀ (l:List ResultVar) (K:List D->Prop),resK P l s K →
 ∃ ds vs,K ds/\ds.length=vs.length/\(∀ (i:Nat) (d:D) (v:Value),ds[i]?=some d->vs[i]?=some v->VV (Live L0 m s.hp) w m d v) /\
  (l.mapM (resOne a.tmps)).run P w = .ok vs w
 | [],K,hk=>⟨[],[],hk,rfl,by simp,by simp⟩
 | .tmp t::l,K,hk=>by
   obtain⟨ds,vs,h1,h2,h3,h4⟩:=res_ok h l _ hk;refine⟨_,a.tmps.getD t undef::vs,h1,by simp[h2],fun i d v hd hv=>?_,?_⟩
   . match i with
     | 0=>simp only[List.getElem?_cons_zero,Option.some.injEq] at hd hv;subst hd;subst hv;exact h.vals t
     | i+1=>exact h3 i d v (by simpa using hd) (by simpa using hv)
   . simp only[List.mapM_cons,resOne,Sem.run_bind,Sem.run_pure,Result.andThen_ok,h4]
 | .cell a' t::l,K,hk=>by
   obtain⟨d,rd,u,h1,h2,h3⟩:=load_ok h.wr (h.vals a') hk;obtain⟨ds,vs,h4,h5,h6,h7⟩:=res_ok h l _ h1;refine⟨_,u::vs,h4,by simp[h5],fun i d v hd hv=>?_,?_⟩
   . match i with
     | 0=>simp only[List.getElem?_cons_zero,Option.some.injEq] at hd hv;subst hd;subst hv;exact h2
     | i+1=>exact h6 i d v (by simpa using hd) (by simpa using hv)
   . have hp:∃ ad,a.tmps.getD a' undef = .pointer (some ad):=by
      cases hv:a.tmps.getD a' undef with
      | pointer p =>
        cases p with
        | some ad=>exact⟨ad,rfl⟩
        | none=>rw[hv] at h3;simp[Instr.loadAt,Instr.sureAddr] at h3
      | _=>rw[hv] at h3;simp[Instr.loadAt,Instr.sureAddr] at h3
     obtain⟨ad,hp⟩:=hp;rw[hp] at h3;have h8:(loadVar t ad).run P w = .ok u w:=by simpa[Instr.loadAt,Instr.sureAddr] using h3
     simp only[List.mapM_cons,resOne,hp,Sem.run_bind,asAddr,Sem.run_pure,Result.andThen_ok,h8,h7]
theorem results_run {fn:Func} {a:Act} {w:World} {vs:List Value} (h:(fn.results.toList.mapM (resOne a.tmps)).run P w = .ok vs w) :
 (results fn a.tmps).run P w = .ok (match vs with|[v]=>v|vs=>.tuple vs.toArray) w:=by
 rw[results_eq];simp only[Sem.run_bind,Array.mapM_eq_mapM_toList,Sem.run_map,h];simp only[Result.andThen_ok,Sem.run_pure]
 match vs with
 | []=>simp
 | [v]=>simp
 | v::u::vs=>simp
theorem args_env {ds:List D} {vs:Array Value} {n:Nat} {L:Nat->Prop} {w:World} {m:Nat->MB} (hl:ds.length=vs.size) (hv:∀ (i:Nat) (d:D) (v:Value),ds[i]?=some d->vs[i]?=some v->VV L w m d v) (t:Nat) :
 VV L w m (envArgs ds t) ((vs++Array.replicate n undef).getD t undef):=by
 unfold envArgs;rcases Nat.lt_or_ge t ds.length with h|h
 . have h2:t<vs.size:=by omega
   have e1:ds.getD t undefD=ds[t]:=by simp[List.getD_eq_getElem?_getD,h]
   have e2:(vs++Array.replicate n undef).getD t undef=vs[t]:=by
    simp[Array.getElem?_append,h2]
   rw[e1,e2];exact hv t _ _ (List.getElem?_eq_getElem h) (Array.getElem?_eq_getElem h2)
 . have e1:ds.getD t undefD=undefD:=by simp[List.getD_eq_getElem?_getD,List.getElem?_eq_none h]
   have e2:(vs++Array.replicate n undef).getD t undef=undef:=by
    have h2:¬ t<vs.size:=by omega
    by_cases h3:t-vs.size<n<;>simp[Array.getElem?_append,h2,Array.getElem?_replicate,h3]
   rw[e1,e2];exact undef_ok _ _ _
theorem pc_of (hm:P.follows .mixedOrders=true) {f:FuncId} {fn:Func} {c:Code} {xs:List Data} {r:Data} (hf:P.funcs[f]?=some fn) (hb:fn.body=some c) (hc:CallOk P f)
 (h:wpF P Γ c (retQ P fn r) ⟨envArgs (xs.map toD),fun _=>.dead,0,0,xs.length+(fn.ntmps-xs.length)⟩):PC P Γ f xs r:=by
 refine⟨hc,fun L w vs hg hL hl hv=>calls_of_wp hf hb ?_⟩;have hlive:∀ b,Live L (fun _=>.res) (fun _=>Blk.dead) b ↔ L b:=fun b=>⟨(fun h=>by
  rcases h with h|⟨g,sz,hg,_⟩
  . exact h
  . cases hg),.inl⟩
 have hrel:Rel Γ L (W0.of w) (fun _=>.res) ⟨envArgs (xs.map toD),fun _=>.dead,0,0,xs.length+(fn.ntmps-xs.length)⟩ { tmps:=vs++Array.replicate (fn.ntmps-vs.size) undef,defers:=[] } w:=by
  refine⟨rfl,fun t=>?_,⟨(fun g rw cells hg=>by cases hg),(fun g g' cells rw' cells' b sz sz' hg=>by cases hg),(fun g o hg=>by cases hg),(fun g g' o o' b sz sz' hg=>by cases hg)⟩,fun _ _=>rfl,fun _ _=>rfl,Below.refl _ _,(fun b hb=>⟨hL b hb,rfl⟩),hg.mono (Grow.less w fun b hb=>(hlive b).1 hb),Nat.le_refl _,by simp[hl]⟩;refine args_env (by simpa using hl) (fun i d v hd hvi=>?_) t;rw[List.getElem?_map,Option.map_eq_some_iff] at hd;obtain⟨x,hx,rfl⟩:=hd;exact toD_ok ((hv i x v hx hvi).mono (Grow.less w fun b hb=>(hlive b).1 hb))
 refine wp_mono (wp_sound hm c _ _ _ _ _ hrel h) fun e a' w' ⟨m',s',h1,h2,h3⟩=>?_;have key:(resK P fn.results.toList s' fun ds=>∃ xs,FrzL true s'.hp ds xs/\r=tupD xs)->a'.defers=[]/\∃ v,(results fn a'.tmps).run P w' = .ok v w'/\∃ v',Ending.returned v = .returned v'/\VD L w' r v'/\Below w.heap.size w w':=by
  intro hk;obtain⟨ds,us,⟨ys,⟨hyl,hyf⟩,hr⟩,k1,k2,k3⟩:=res_ok h1 _ _ hk;subst hr;refine⟨h1.defers,_,results_run k3,_,rfl,?_,h1.below⟩;have each:∀ (i:Nat) (y:Data) (u:Value),ys[i]?=some y->us[i]?=some u->VD L w' y u:=fun i y u hy hu=>by
   have hi:i<ds.length:=by rw[hyl];exact (List.getElem?_eq_some_iff.1 hy).1
   refine (hyf i _ y (List.getElem?_eq_getElem hi) hy).vd (m:=m') (L:=Live L m' s'.hp) (fun b hb=>.inl hb) (fun g rw cells b sz hg _ hm=>?_) (fun g rw cells hg hm=>?_) (fun _ g o b hg hm=>?_) (k2 i _ u (List.getElem?_eq_getElem hi) hu);rotate_left 2
   . obtain⟨b',v',q1,q2,q3,q4⟩:=h1.heap.obj g o hg;rw[q1] at hm;cases hm;exact⟨h1.wr.ltO hg q1,fun hb=>by have:=hL b hb;have:w.heap.size<=_:=q2.1;omega,v',q3,q4⟩
   . obtain⟨vs,ty,e1,e2,e3,_,e5⟩:=at_of h1.wr hg hm;have hbase:w.heap.size<=b:=by
      rcases h1.heap.blk g rw cells hg with⟨q,_⟩|⟨b',sz',_,_,q1,q2,_⟩
      . rw[q] at hm;cases hm
      . rw[q1] at hm;cases hm;exact q2.1
     exact⟨h1.wr.lt hg hm,fun hb=>by have:=hL b hb;omega,vs,ty,e1,fun i d hd=>by obtain⟨v,a1,_,a3⟩:=e5 i d hd;exact⟨v,a1,a3⟩⟩
   . rcases h1.heap.blk g rw cells hg with⟨_,q⟩|⟨_,_,_,_,q,_⟩
     . exact q
     . rw[hm] at q;cases q
  have hly:ys.length=us.length:=by omega
  match ys,us,hly,each with
  | [],[],_,_=>exact .tup [] #[] rfl (fun i x v hx=>by simp at hx)
  | [y],[u],_,each=>exact each 0 y u rfl rfl
  | y::y2::ys,u::u2::us,hly,each=>exact .tup _ _ (by simp at hly ⊢;omega) (fun i x v hx hv=>each i x v hx (by simpa using hv))
  | [],u::us,hly,_=>simp at hly
  | [y],[],hly,_=>simp at hly
  | [y],u::u2::us,hly,_=>simp at hly
  | y::y2::ys,[],hly,_=>simp at hly
  | y::y2::ys,[u],hly,_=>simp at hly
 cases e with
 | normal=>exact key h3
 | ret=>exact key h3
 | _=>exact h3.elim
end
@[irreducible] def tick:Nat:=0
@[go_sem] theorem tick_eq:tick=0:=Nat.le_antisymm (by unfold tick;exact Nat.le_refl _) (Nat.zero_le _)
@[go_sem] theorem stepSt_eq (e:Nat->D) (H:Nat->Blk) (nx lo nt:Nat) (o:Oper) (d:D) (u:List (Nat×Blk)):stepSt ⟨e,H,nx,lo,nt⟩ o d u=⟨Env.dst e o.dst d,Hp.upd H u,nx+1,lo,nt⟩:=rfl
@[go_sem] theorem dst_some (e:Nat->D) (t:Nat) (d:D):Env.dst e (some t) d=Env.set e t d:=rfl
@[go_sem] theorem dst_none (e:Nat->D) (d:D):Env.dst e none d=e:=rfl
@[go_sem] theorem set_get (e:Nat->D) (t j:Nat) (d:D):Env.set e t d j=if j=t then d else e j:=rfl
@[go_sem] theorem hset_get (H:Nat->Blk) (t j:Nat) (b:Blk):Hp.set H t b j=if j=t then b else H j:=rfl
@[go_sem] theorem hset_hset (H:Nat->Blk) (t:Nat) (b c:Blk):Hp.set (Hp.set H t b) t c=Hp.set H t c:=by
 funext j
 unfold Hp.set;split<;>rfl
@[go_sem] theorem upd_nil (H:Nat->Blk):Hp.upd H []=H:=rfl
@[go_sem] theorem upd_cons (H:Nat->Blk) (g:Nat) (b:Blk) (l:List (Nat×Blk)):Hp.upd H ((g,b)::l)=Hp.upd (Hp.set H g b) l:=rfl
@[go_sem] theorem ifW_true (x y:Prop):ifW true x y=x:=rfl
@[go_sem] theorem ifW_false (x y:Prop):ifW false x y=y:=rfl
@[congr] theorem ifW_congr {n0:Nat} (tk:tick=n0) {b b':Bool} (x y:Prop) (h:b=b'):ifW b x y=ifW b' x y:=by rw[h]
@[congr] theorem callK_congr {n0:Nat} (tk:tick=n0) (P:Program) (Γ:Nat->Option (List Data)) (f:FuncId) {ds ds':List D} (h:ds=ds') (H:Nat->Blk) (K:D->List Nat->List (Nat×Blk)->Prop):callK P Γ f ds H K=callK P Γ f ds' H K:=by rw[h]
@[congr] theorem DC_congr {n0:Nat} (tk:tick=n0) (P:Program) (Γ:Nat->Option (List Data)) (f:FuncId) {ds ds':List D} (h:ds=ds') {H H':Nat->Blk} (hH:H=H') {nx nx':Nat} (hn:nx=nx') (K:D->(Nat->Blk)->Nat->Prop):DC P Γ f ds H nx K=DC P Γ f ds' H' nx' K:=by rw[h,hH,hn]
@[congr] theorem eqK_congr {n0:Nat} (tk:tick=n0) (P:Program) (t:TypeId) {x x' y y':Data} (hx:x=x') (hy:y=y') (K:Bool->Prop):eqK P t x y K=eqK P t x' y' K:=by rw[hx,hy]
@[congr] theorem LoopW_congr {n0:Nat} (tk:tick=n0) (body:(Exit->St->Prop)->St->Prop) (Q:Exit->St->Prop) {s s':St} (h:s=s'):LoopW body Q s=LoopW body Q s':=by rw[h]
@[congr] theorem drawOk2_congr {n0:Nat} (tk:tick=n0) (ops:Array Oper) (tr:List Tr) (a b:Nat):drawOk2 ops tr a b=drawOk2 ops tr a b:=rfl
@[congr] theorem effC_congr {n0:Nat} (tk:tick=n0) (P:Program) (Γ:Nat->Option (List Data)) (f:FuncId) {ds ds':List D} (h:ds=ds') (H:Nat->Blk) (fr:Nat) (K:D->List Nat->List (Nat×Blk)->Nat->Prop):effC P Γ f ds H fr K=effC P Γ f ds' H fr K:=by rw[h]
@[congr] theorem drawOk_congr {n0:Nat} (tk:tick=n0) (ops:Array Oper) (tr:List Tr):drawOk ops tr=drawOk ops tr:=rfl
@[congr] theorem PC_congr {n0:Nat} (tk:tick=n0) (P:Program) (Γ:Nat->Option (List Data)) (f:FuncId) (xs:List Data) (r:Data):PC P Γ f xs r=PC P Γ f xs r:=rfl
@[go_sem] theorem allData_nil:allData []=some []:=rfl
@[go_sem] theorem allData_data (x:Data) (l:List D):allData (.data x::l)=(allData l).map (x :: ·):=rfl
@[go_sem] theorem allData_fn (f:FuncId) (c:List D) (l:List D):allData (.fn f c::l)=none:=rfl
@[go_sem] theorem allData_ref (g o n s:Nat) (l:List D):allData (.ref g o n s::l)=none:=rfl
@[go_sem] theorem allData_emp (s:Nat) (l:List D):allData (.emp s::l)=none:=rfl
@[go_sem] theorem allData_ptr (g o:Nat) (l:List D):allData (.ptr g o::l)=none:=rfl
@[go_sem] theorem allData_junk (l:List D):allData (.junk::l)=none:=rfl
@[go_sem] theorem dcells_agg (cs:List Data):D.cells (.data (.agg cs))=cs.map .data:=rfl
@[go_sem] theorem dcells_int (k:IntKind) (n:Int):D.cells (.data (.int k n))=[.data (.int k n)]:=rfl
@[go_sem] theorem dcells_bool (b:Bool):D.cells (.data (.bool b))=[.data (.bool b)]:=rfl
@[go_sem] theorem dcells_str (b:ByteArray):D.cells (.data (.str b))=[.data (.str b)]:=rfl
@[go_sem] theorem dcells_sl (n:Nat) (l:List Data):D.cells (.data (.sl n l))=[.data (.sl n l)]:=rfl
@[go_sem] theorem dcells_nilf:D.cells (.data .nilf)=[.data .nilf]:=rfl
@[go_sem] theorem dcells_nili:D.cells (.data .nili)=[.data .nili]:=rfl
@[go_sem] theorem dcells_nilp:D.cells (.data .nilp)=[.data .nilp]:=rfl
@[go_sem] theorem dcells_nilm:D.cells (.data .nilm)=[.data .nilm]:=rfl
@[go_sem] theorem dcells_ifc (t:TypeId) (d:Data):D.cells (.data (.ifc t d))=[.data (.ifc t d)]:=rfl
@[go_sem] theorem dcells_dbn (f:FuncId) (r:Data):D.cells (.data (.bn f r))=[.data (.bn f r)]:=rfl
@[go_sem] theorem dcells_dfn (f:FuncId) (c:List Data):D.cells (.data (.fn f c))=[.data (.fn f c)]:=rfl
@[go_sem] theorem dcells_dmp (ks xs:List Data):D.cells (.data (.mp ks xs))=[.data (.mp ks xs)]:=rfl
@[go_sem] theorem dcells_ful (s:Nat) (l:List Data):D.cells (.ful s l)=[.ful s l]:=rfl
@[go_sem] theorem dcells_cut (g o n c s:Nat):D.cells (.cut g o n c s)=[.cut g o n c s]:=rfl
@[go_sem] theorem dcells_bnd (f:FuncId) (r:D):D.cells (.bnd f r)=[.bnd f r]:=rfl
@[go_sem] theorem dcell_bnd (f:FuncId) (r:D):D.cell (.bnd f r)=true:=rfl
@[go_sem] theorem allData_bnd (f:FuncId) (r:D) (l:List D):allData (.bnd f r::l)=none:=rfl
@[go_sem] theorem dcells_mref (g:Nat):D.cells (.mref g)=[.mref g]:=rfl
@[go_sem] theorem dcell_mref (g:Nat):D.cell (.mref g)=true:=rfl
@[go_sem] theorem dcell_ful (s:Nat) (l:List Data):D.cell (.ful s l)=true:=rfl
@[go_sem] theorem dcell_cut (g o n c s:Nat):D.cell (.cut g o n c s)=true:=rfl
@[go_sem] theorem allData_ful (s:Nat) (x:List Data) (l:List D):allData (.ful s x::l)=none:=rfl
@[go_sem] theorem allData_cut (g o n c s:Nat) (l:List D):allData (.cut g o n c s::l)=none:=rfl
@[go_sem] theorem allData_mref (g:Nat) (l:List D):allData (.mref g::l)=none:=rfl
@[go_sem] theorem allData_agg (c:List D) (l:List D):allData (.agg c::l)=none:=rfl
@[go_sem] theorem allData_cptr (c:List Data) (l:List D):allData (.cptr c::l)=none:=rfl
@[go_sem] theorem dcells_emp (n:Nat):D.cells (.emp n)=[.emp n]:=rfl
@[go_sem] theorem dcells_ref (g o n s:Nat):D.cells (.ref g o n s)=[.ref g o n s]:=rfl
@[go_sem] theorem dcells_ptr (g o:Nat):D.cells (.ptr g o)=[.ptr g o]:=rfl
@[go_sem] theorem dcells_fn (f:FuncId) (c:List D):D.cells (.fn f c)=[.fn f c]:=rfl
@[go_sem] theorem dcells_dagg (cs:List D):D.cells (.agg cs)=cs:=rfl
@[go_sem] theorem cells_agg (cs:List Data):Data.cells (.agg cs)=cs:=rfl
@[go_sem] theorem cells_int (k:IntKind) (n:Int):Data.cells (.int k n)=[.int k n]:=rfl
@[go_sem] theorem cells_bool (b:Bool):Data.cells (.bool b)=[.bool b]:=rfl
@[go_sem] theorem cells_str (b:ByteArray):Data.cells (.str b)=[.str b]:=rfl
@[go_sem] theorem cells_sl (n:Nat) (l:List Data):Data.cells (.sl n l)=[.sl n l]:=rfl
@[go_sem] theorem dcell_data (x:Data):D.cell (.data x)=x.cell:=rfl
@[go_sem] theorem dcell_ref (g o n s:Nat):D.cell (.ref g o n s)=true:=rfl
@[go_sem] theorem dcell_ptr (g o:Nat):D.cell (.ptr g o)=true:=rfl
@[go_sem] theorem dcell_emp (n:Nat):D.cell (.emp n)=true:=rfl
@[go_sem] theorem dcell_fn (f:FuncId) (c:List D):D.cell (.fn f c)=true:=rfl
@[go_sem] theorem cell_int (k:IntKind) (n:Int):Data.cell (.int k n)=true:=rfl
@[go_sem] theorem cell_bool (b:Bool):Data.cell (.bool b)=true:=rfl
@[go_sem] theorem cell_str (b:ByteArray):Data.cell (.str b)=true:=rfl
@[go_sem] theorem cell_sl (n:Nat) (l:List Data):Data.cell (.sl n l)=true:=rfl
@[go_sem] theorem cell_nilf:Data.cell .nilf=true:=rfl
@[go_sem] theorem cell_nili:Data.cell .nili=true:=rfl
@[go_sem] theorem cell_nilp:Data.cell .nilp=true:=rfl
@[go_sem] theorem cell_nilm:Data.cell .nilm=true:=rfl
@[go_sem] theorem cell_bn (f:FuncId) (r:Data):Data.cell (.bn f r)=true:=rfl
@[go_sem] theorem cell_fn (f:FuncId) (c:List Data):Data.cell (.fn f c)=true:=rfl
@[go_sem] theorem cell_mp (ks xs:List Data):Data.cell (.mp ks xs)=true:=rfl
@[go_sem] theorem cell_pc (c:List Data):Data.cell (.pc c)=true:=rfl
@[go_sem] theorem cell_ifc (t:TypeId) (d:Data):Data.cell (.ifc t d)=true:=rfl
@[go_sem] theorem over_one (cells:List D) (off:Nat) (d:D):over cells off [d]=cells.set off d:=rfl
@[go_sem] theorem over_two (cells:List D) (off:Nat) (a b:D) (vs:List D):over cells off (a::b::vs)=cells.take off++(a::b::vs)++cells.drop (off+(a::b::vs).length):=rfl
@[go_sem] theorem frzL_nil (ok:Bool) (H:Nat->Blk) (xs:List Data):FrzL ok H [] xs ↔ xs=[]:=by
 constructor
 . rintro⟨h,_⟩;exact List.eq_nil_of_length_eq_zero h.symm
 . rintro rfl;exact⟨rfl,fun i d x h=>by simp at h⟩
@[go_sem] theorem frzL_cons (ok:Bool) (H:Nat->Blk) (d:D) (ds:List D) (xs:List Data):FrzL ok H (d::ds) xs ↔ ∃ y ys,xs=y::ys/\Frz ok H d y/\FrzL ok H ds ys:=by
 constructor
 . rintro⟨h,hh⟩;cases xs with
   | nil=>simp at h
   | cons y ys=>exact⟨y,ys,rfl,hh 0 d y rfl rfl,by simpa using h,fun i d x h1 h2=>hh (i+1) d x (by simpa using h1) (by simpa using h2)⟩
 . rintro⟨y,ys,rfl,h1,h2,h3⟩;refine⟨by simp[h2],fun i d' x h4 h5=>?_⟩
   match i with
   | 0=>simp at h4 h5;subst h4;subst h5;exact h1
   | i+1=>exact h3 i d' x (by simpa using h4) (by simpa using h5)
@[go_sem] theorem frz_data (ok:Bool) (H:Nat->Blk) (x y:Data):Frz ok H (.data x) y ↔ y=x:=by
 constructor
 . intro h;cases h;rfl
 . rintro rfl;exact .data _
@[go_sem] theorem frz_fn (ok:Bool) (H:Nat->Blk) (f:FuncId) (c:List D) (y:Data):Frz ok H (.fn f c) y ↔ ∃ xs,y = .fn f xs/\FrzL ok H c xs:=by
 constructor
 . intro h;cases h with|fn _ _ xs hl hh=>exact⟨xs,rfl,hl,hh⟩
 . rintro⟨xs,rfl,hl,hh⟩;exact .fn f c xs hl hh
@[go_sem] theorem toD_pc (c:List Data):toD (.pc c) = .cptr c:=rfl
@[go_sem] theorem toD_int (k:IntKind) (n:Int):toD (.int k n) = .data (.int k n):=rfl
@[go_sem] theorem toD_bool (b:Bool):toD (.bool b) = .data (.bool b):=rfl
@[go_sem] theorem toD_str (b:ByteArray):toD (.str b) = .data (.str b):=rfl
@[go_sem] theorem toD_sl (n:Nat) (l:List Data):toD (.sl n l) = .data (.sl n l):=rfl
@[go_sem] theorem toD_agg (l:List Data):toD (.agg l) = .data (.agg l):=rfl
@[go_sem] theorem toD_nilf:toD .nilf = .data .nilf:=rfl
@[go_sem] theorem toD_nili:toD .nili = .data .nili:=rfl
@[go_sem] theorem toD_nilp:toD .nilp = .data .nilp:=rfl
@[go_sem] theorem toD_nilm:toD .nilm = .data .nilm:=rfl
@[go_sem] theorem toD_bn (f:FuncId) (r:Data):toD (.bn f r) = .data (.bn f r):=rfl
@[go_sem] theorem toD_fn (f:FuncId) (c:List Data):toD (.fn f c) = .data (.fn f c):=rfl
@[go_sem] theorem toD_mp (ks xs:List Data):toD (.mp ks xs) = .data (.mp ks xs):=rfl
@[go_sem] theorem toD_tup (c:List Data):toD (.tup c) = .data (.tup c):=rfl
@[go_sem] theorem toD_ifc (t:TypeId) (d:Data):toD (.ifc t d) = .data (.ifc t d):=rfl
@[go_sem] theorem dcell_cptr (c:List Data):D.cell (.cptr c)=true:=rfl
@[go_sem] theorem dcells_cptr (c:List Data):D.cells (.cptr c)=[.cptr c]:=rfl
@[go_sem] theorem tupD_one (x:Data):tupD [x]=x:=rfl
@[go_sem] theorem tupD_two (x y:Data) (l:List Data):tupD (x::y::l) = .tup (x::y::l):=rfl
@[go_sem] theorem tupD_nil:tupD [] = .tup []:=rfl
@[go_sem] theorem envArgs_zero (d:D) (l:List D):envArgs (d::l) 0=d:=rfl
@[go_sem] theorem envArgs_succ (d:D) (l:List D) (t:Nat):envArgs (d::l) (t+1)=envArgs l t:=rfl
@[go_sem] theorem envArgs_nil (t:Nat):envArgs [] t=undefD:=rfl
/- Combinators: the walk looks at what they hang on,and at nothing else. -/
def blkK (b:Blk) (K:Bool->List D->Prop):Prop:=match b with
 | .blk rw cells=>K rw cells
 | _=>False
def mapK (b:Blk) (K:List Data->List D->Prop):Prop:=match b with
 | .obj (.mp ks xs)=>K ks xs
 | _=>False
def itrK (b:Blk) (K:List Data->List Data->List Nat->Option Nat->Prop):Prop:=match b with
 | .obj (.it ks xs left cur)=>K ks xs left cur
 | _=>False
def fndK (o:Option (Option Nat)) (f:Nat->Prop) (n:Prop):Prop:=match o with
 | some (some i)=>f i
 | some none=>n
 | none=>False
def dataK (d:D) (K:Data->Prop):Prop:=match d with
 | .data x=>K x
 | _=>False
@[go_sem] theorem blkK_obj (o:Ob) (K:Bool->List D->Prop):blkK (.obj o) K=False:=rfl
@[go_sem] theorem mapK_mp (ks:List Data) (xs:List D) (K:List Data->List D->Prop):mapK (.obj (.mp ks xs)) K=K ks xs:=rfl
@[go_sem] theorem itrK_it (ks xs:List Data) (left:List Nat) (cur:Option Nat) (K:List Data->List Data->List Nat->Option Nat->Prop):itrK (.obj (.it ks xs left cur)) K=K ks xs left cur:=rfl
@[go_sem] theorem fndK_some (i:Nat) (f:Nat->Prop) (n:Prop):fndK (some (some i)) f n=f i:=rfl
@[go_sem] theorem fndK_none (f:Nat->Prop) (n:Prop):fndK (some none) f n=n:=rfl
@[go_sem] theorem dataK_data (x:Data) (K:Data->Prop):dataK (.data x) K=K x:=rfl
@[congr] theorem mapK_congr {n0:Nat} (tk:tick=n0) {b b':Blk} (h:b=b') (K:List Data->List D->Prop):mapK b K=mapK b' K:=by rw[h]
@[congr] theorem itrK_congr {n0:Nat} (tk:tick=n0) {b b':Blk} (h:b=b') (K:List Data->List Data->List Nat->Option Nat->Prop):itrK b K=itrK b' K:=by rw[h]
@[congr] theorem fndK_congr {n0:Nat} (tk:tick=n0) {o o':Option (Option Nat)} (h:o=o') (f:Nat->Prop) (n:Prop):fndK o f n=fndK o' f n:=by rw[h]
@[congr] theorem dataK_congr {n0:Nat} (tk:tick=n0) {d d':D} (h:d=d') (K:Data->Prop):dataK d K=dataK d' K:=by rw[h]
def aggK (o:Option Bool) (x y:Prop):Prop:=match o with
 | some true=>x
 | some false=>y
 | none=>False
def someK {α:Type} (o:Option α) (K:α->Prop):Prop:=match o with
 | some x=>K x
 | none=>False
def optK {α:Type} (o:Option α) (K:α->Prop) (n:Prop):Prop:=match o with
 | some x=>K x
 | none=>n
def sideK (p q:Prop):Prop:=p/\q
def putK (d:D) (K:D->Prop):Prop:=K d
def cellsK (d:List D) (K:List D->Prop):Prop:=K d
def natK (d:Nat) (K:Nat->Prop):Prop:=K d
@[go_sem] theorem blkK_blk (rw:Bool) (c:List D) (K:Bool->List D->Prop):blkK (.blk rw c) K=K rw c:=rfl
@[go_sem] theorem blkK_dead (K:Bool->List D->Prop):blkK .dead K=False:=rfl
@[go_sem] theorem aggK_true (x y:Prop):aggK (some true) x y=x:=rfl
@[go_sem] theorem aggK_false (x y:Prop):aggK (some false) x y=y:=rfl
@[go_sem] theorem someK_some {α:Type} (x:α) (K:α->Prop):someK (some x) K=K x:=rfl
@[go_sem] theorem someK_none {α:Type} (K:α->Prop):someK none K=False:=rfl
@[go_sem] theorem optK_some {α:Type} (x:α) (K:α->Prop) (n:Prop):optK (some x) K n=K x:=rfl
@[go_sem] theorem optK_none {α:Type} (K:α->Prop) (n:Prop):optK none K n=n:=rfl
@[go_sem] theorem sideK_true (q:Prop):sideK True q=q:=by simp[sideK]
@[go_sem] theorem sideK_of {p:Prop} (q:Prop) (h:p):sideK p q=q:=by simp[sideK,h]
@[go_sem] theorem putK_eq (d:D) (K:D->Prop):putK d K=K d:=rfl
@[go_sem] theorem cellsK_eq (d:List D) (K:List D->Prop):cellsK d K=K d:=rfl
@[go_sem] theorem natK_eq (d:Nat) (K:Nat->Prop):natK d K=K d:=rfl
@[congr] theorem blkK_congr {n0:Nat} (tk:tick=n0) {b b':Blk} (h:b=b') (K:Bool->List D->Prop):blkK b K=blkK b' K:=by rw[h]
@[congr] theorem aggK_congr {n0:Nat} (tk:tick=n0) {b b':Option Bool} (h:b=b') (x y:Prop):aggK b x y=aggK b' x y:=by rw[h]
@[congr] theorem someK_congr {n0:Nat} (tk:tick=n0) {α:Type} {b b':Option α} (h:b=b') (K:α->Prop):someK b K=someK b' K:=by rw[h]
@[congr] theorem optK_congr {n0:Nat} (tk:tick=n0) {α:Type} {b b':Option α} (h:b=b') (K:α->Prop) (n:Prop):optK b K n=optK b' K n:=by rw[h]
@[congr] theorem sideK_congr {n0:Nat} (tk:tick=n0) {p p':Prop} (h:p=p') (q:Prop):sideK p q=sideK p' q:=by rw[h]
@[congr] theorem putK_congr {n0:Nat} (tk:tick=n0) {d d':D} (h:d=d') (K:D->Prop):putK d K=putK d' K:=by rw[h]
@[congr] theorem cellsK_congr {n0:Nat} (tk:tick=n0) {d d':List D} (h:d=d') (K:List D->Prop):cellsK d K=cellsK d' K:=by rw[h]
@[congr] theorem natK_congr {n0:Nat} (tk:tick=n0) {d d':Nat} (h:d=d') (K:Nat->Prop):natK d K=natK d' K:=by rw[h]
/- Bits. -/
section
variable (P:Program) (Γ:Nat->Option (List Data))
@[go_sem] theorem evalD_tmp (e:Nat->D) (t:Nat):evalD Γ e (.tmp t)=e t:=rfl
@[go_sem] theorem evalD_const (e:Nat->D) (v:Value):evalD Γ e (.const v)=cD v:=rfl
@[go_sem] theorem evalD_func (e:Nat->D) (f:FuncId):evalD Γ e (.func f) = .data (.fn f []):=rfl
@[go_sem] theorem cD_bool (b:Bool):cD (.bool b) = .data (.bool b):=rfl
@[go_sem] theorem cD_int (k:IntKind) (n:Int):cD (.int k n) = .data (.int k n):=rfl
@[go_sem] theorem cD_str (s:ByteArray):cD (.string s) = .data (.str s):=rfl
@[go_sem] theorem cD_slice:cD (.slice none 0 0) = .emp 0:=rfl
@[go_sem] theorem cD_ptr:cD (.pointer none) = .data .nilp:=rfl
@[go_sem] theorem cD_map:cD (.map none) = .data .nilm:=rfl
@[go_sem] theorem cD_nili:cD .nilIface = .data .nili:=rfl
@[go_sem] theorem cD_nilf:cD .nilFunc = .data .nilf:=rfl
@[go_sem] theorem coe_data (t:TypeId) (x:Data):coe P t (.data x) = .data x:=rfl
@[go_sem] theorem coe_ref (t:TypeId) (g o n s:Nat):coe P t (.ref g o n s) = .ref g o n s:=rfl
@[go_sem] theorem coe_ptr (t:TypeId) (g o:Nat):coe P t (.ptr g o) = .ptr g o:=rfl
@[go_sem] theorem coe_cptr (t:TypeId) (c:List Data):coe P t (.cptr c) = .cptr c:=rfl
@[go_sem] theorem coe_agg (t:TypeId) (c:List D):coe P t (.agg c) = .agg c:=rfl
@[go_sem] theorem coe_fn (t:TypeId) (f:FuncId) (c:List D):coe P t (.fn f c) = .fn f c:=rfl
@[go_sem] theorem coe_junk (t:TypeId):coe P t .junk = .junk:=rfl
@[go_sem] theorem coe_ful (t:TypeId) (s:Nat) (l:List Data):coe P t (.ful s l) = .ful s l:=rfl
@[go_sem] theorem coe_cut (t:TypeId) (g o n c s:Nat):coe P t (.cut g o n c s) = .cut g o n c s:=rfl
@[go_sem] theorem coe_bnd (t:TypeId) (f:FuncId) (r:D):coe P t (.bnd f r) = .bnd f r:=rfl
@[go_sem] theorem coe_mref (t:TypeId) (g:Nat):coe P t (.mref g) = .mref g:=rfl
@[go_sem] theorem coe_iref (t:TypeId) (g:Nat):coe P t (.iref g) = .iref g:=rfl
@[go_sem] theorem coe_emp (t:TypeId) (n:Nat):coe P t (.emp n) = .emp (((sliceT P t).bind (szT P)).getD n):=by
 unfold coe;cases h:sliceT P t with
 | none=>rfl
 | some e=>cases h2:szT P e<;>simp[h2]
@[go_sem] theorem boolD_eq (b:Bool):boolD b = .data (.bool b):=rfl
@[go_sem] theorem intD_eq (k:IntKind) (n:Int):intD k n = .data (.int k n):=rfl
@[go_sem] theorem undefD_eq:undefD = .data (.tup []):=rfl
@[go_sem] theorem mkAgg_eq (cs:List D):mkAgg cs=(match allData cs with|some xs=>.data (.agg xs)|none=>.agg cs):=rfl
@[go_sem] theorem dstOk_some (t:Nat) (op:Op) (ty:TypeId) (pos:String) (af:Array Edge) (g:Option (Nat×Bool)) (nt:Nat):dstOk ⟨some t,op,ty,pos,af,g⟩ nt=decide (t<nt):=rfl
@[go_sem] theorem dstOk_none (op:Op) (ty:TypeId) (pos:String) (af:Array Edge) (g:Option (Nat×Bool)) (nt:Nat):dstOk ⟨none,op,ty,pos,af,g⟩ nt=true:=rfl
@[go_sem] theorem wanted_none (ops:Array Oper) (e:Nat->D) (dst:Option Nat) (op:Op) (ty:TypeId) (pos:String) (af:Array Edge):wantedD ops e ⟨dst,op,ty,pos,af,none⟩=some true:=rfl
def slotB (want:Bool) (d:D):Option Bool:=match d with
 | .data (.bool b)=>some (b == want)
 | .data (.tup [])=>some false
 | _=>none
@[go_sem] theorem slotB_bool (want b:Bool):slotB want (.data (.bool b))=some (b == want):=rfl
@[go_sem] theorem slotB_undef (want:Bool):slotB want (.data (.tup []))=some false:=rfl
@[go_sem] theorem wanted_some (ops:Array Oper) (e:Nat->D) (dst:Option Nat) (op:Op) (ty:TypeId) (pos:String) (af:Array Edge) (j:Nat) (want:Bool):wantedD ops e ⟨dst,op,ty,pos,af,some (j,want)⟩=(match (ops[j]?).bind (·.dst) with|some t=>slotB want (e t)|none=>some false):=by
 unfold wantedD;simp only;cases (ops[j]?).bind (·.dst)<;>rfl
@[congr] theorem wanted_congr' {n0:Nat} (tk:tick=n0) (ops:Array Oper) (e:Nat->D) (o:Oper):wantedD ops e o=wantedD ops e o:=rfl
@[go_sem] theorem opsW_nil (ops:Array Oper) (s:St) (K:St->Prop):opsW P Γ ops [] s K=K s:=rfl
@[go_sem] theorem opsW_cons (ops:Array Oper) (o:Oper) (rest:List Oper) (e:Nat->D) (H:Nat->Blk) (nx lo nt:Nat) (K:St->Prop):opsW P Γ ops (o::rest) ⟨e,H,nx,lo,nt⟩ K =
 sideK (dstOk o nt=true) (someK (wantedD ops e o) fun b=>ifW b (ifW (isCall o)
  ((opK P Γ o e H nx fun d _ u=>opsW P Γ ops rest ⟨Env.dst e o.dst d,Hp.upd H u,nx+1,lo,nt⟩ K) \/ dcK P Γ o e H nx fun d H' nx'=>opsW P Γ ops rest ⟨Env.dst e o.dst d,H',nx',lo,nt⟩ K)
  (opK P Γ o e H nx fun d _ u=>opsW P Γ ops rest ⟨Env.dst e o.dst d,Hp.upd H u,nx+1,lo,nt⟩ K)) (opsW P Γ ops rest ⟨Env.dst e o.dst undefD,H,nx+1,lo,nt⟩ K)):=by
 unfold sideK someK;rw[opsW];congr 1;simp only;cases wantedD ops e o<;>rfl
@[go_sem] theorem drawW_nil (ops:Array Oper) (s:St) (tr:List Tr) (K:St->List Tr->Prop):drawW P Γ ops [] s tr K=K s tr.reverse:=rfl
@[go_sem] theorem drawW_cons (ops:Array Oper) (o:Oper) (rest:List Oper) (e:Nat->D) (H:Nat->Blk) (nx lo nt:Nat) (tr:List Tr) (K:St->List Tr->Prop):drawW P Γ ops (o::rest) ⟨e,H,nx,lo,nt⟩ tr K =
 sideK (dstOk o nt=true) (someK (wantedD ops e o) fun b=>ifW b (ifW (isCall o) ((opK P Γ o e H nx fun d rd u=>drawW P Γ ops rest ⟨Env.dst e o.dst d,Hp.upd H u,nx+1,lo,nt⟩ (⟨rd,u.map (·.1)⟩::tr) K) \/
  effK P Γ o e H nx fun d rd u k=>drawW P Γ ops rest ⟨Env.dst e o.dst d,Hp.upd H u,nx+k,lo,nt⟩ (⟨rd,u.map (·.1)⟩::tr) K)
  (opK P Γ o e H nx fun d rd u=>drawW P Γ ops rest ⟨Env.dst e o.dst d,Hp.upd H u,nx+1,lo,nt⟩ (⟨rd,u.map (·.1)⟩::tr) K))
  (drawW P Γ ops rest ⟨Env.dst e o.dst undefD,H,nx+1,lo,nt⟩ (⟨[],[]⟩::tr) K)):=by
 unfold sideK someK;rw[drawW];congr 1;simp only;cases wantedD ops e o<;>rfl
@[congr] theorem opsW_congr {n0:Nat} (tk:tick=n0) (ops:Array Oper) (l:List Oper) (s:St) (K:St->Prop):opsW P Γ ops l s K=opsW P Γ ops l s K:=rfl
@[congr] theorem drawW_congr {n0:Nat} (tk:tick=n0) (ops:Array Oper) (l:List Oper) (s:St) (tr:List Tr) (K:St->List Tr->Prop):drawW P Γ ops l s tr K=drawW P Γ ops l s tr K:=rfl
@[congr] theorem opK_congr' {n0:Nat} (tk:tick=n0) (o:Oper) (e:Nat->D) (H:Nat->Blk) (fr:Nat) (K:D->List Nat->List (Nat×Blk)->Prop):opK P Γ o e H fr K=opK P Γ o e H fr K:=rfl
@[congr] theorem dcK_congr' {n0:Nat} (tk:tick=n0) (o:Oper) (e:Nat->D) (H:Nat->Blk) (fr:Nat) (K:D->(Nat->Blk)->Nat->Prop):dcK P Γ o e H fr K=dcK P Γ o e H fr K:=rfl
@[congr] theorem wpF_congr {n0:Nat} (tk:tick=n0) (c:Code) (Q:Exit->St->Prop) (s:St):wpF P Γ c Q s=wpF P Γ c Q s:=rfl
@[congr] theorem effK_congr' {n0:Nat} (tk:tick=n0) (o:Oper) (e:Nat->D) (H:Nat->Blk) (fr:Nat) (K:D->List Nat->List (Nat×Blk)->Nat->Prop):effK P Γ o e H fr K=effK P Γ o e H fr K:=rfl
@[go_sem] theorem isCall_func (dst:Option Nat) (x:Operand) (args:Array Operand) (at':Array TypeId) (ty:TypeId) (pos:String) (af:Array Edge) (g:Option (Nat×Bool)):isCall ⟨dst,.call ⟨.value x,args,at'⟩,ty,pos,af,g⟩=true:=rfl
attribute [go_sem] isCall
section
variable (dst:Option Nat) (ty:TypeId) (pos:String) (af:Array Edge) (gd:Option (Nat×Bool)) (e:Nat->D) (H:Nat->Blk) (fr:Nat) (K:D->List Nat->List (Nat×Blk)->Prop)
@[go_sem] theorem opK_move (x:Operand):opK P Γ ⟨dst,.move x,ty,pos,af,gd⟩ e H fr K=putK (coe P ty (evalD Γ e x)) fun d=>K d [] []:=rfl
@[go_sem] theorem opK_assign (x:Operand):opK P Γ ⟨dst,.assign x,ty,pos,af,gd⟩ e H fr K=putK (coe P ty (evalD Γ e x)) fun d=>K d [] []:=rfl
def pickK (c a b:D) (K:D->Prop):Prop:=match c with
 | .data (.bool true)=>K a
 | .data (.bool false)=>K b
 | _=>False
@[go_sem] theorem pickK_true (a b:D) (K:D->Prop):pickK (.data (.bool true)) a b K=putK a K:=rfl
@[go_sem] theorem pickK_false (a b:D) (K:D->Prop):pickK (.data (.bool false)) a b K=putK b K:=rfl
@[congr] theorem pickK_congr {n0:Nat} (tk:tick=n0) {c c':D} (h:c=c') (a b:D) (K:D->Prop):pickK c a b K=pickK c' a b K:=by rw[h]
@[go_sem] theorem opK_pick (c a b:Operand):opK P Γ ⟨dst,.pick c a b,ty,pos,af,gd⟩ e H fr K=pickK (evalD Γ e c) (evalD Γ e a) (evalD Γ e b) fun d=>K d [] []:=by
 simp only[opK,pickK];split<;>simp_all
@[go_sem] theorem opK_alloc (t:TypeId):opK P Γ ⟨dst,.alloc t,ty,pos,af,gd⟩ e H fr K=someK (zeT P t) fun z=>sideK (z.all D.cell=true) (K (.ptr fr 0) [] [(fr,.blk true z)]):=by
 simp only[opK,someK,sideK];split<;>simp_all
@[go_sem] theorem opK_box (t:TypeId) (x:Operand):opK P Γ ⟨dst,.box t x,ty,pos,af,gd⟩ e H fr K=cellsK (evalD Γ e x).cells fun z=>sideK (z.all D.cell=true) (K (.ptr fr 0) [] [(fr,.blk true z)]):=rfl
@[go_sem] theorem opK_build (t:TypeId) (parts:Array (Nat×Operand)):opK P Γ ⟨dst,.build t parts,ty,pos,af,gd⟩ e H fr K=buildK P t (parts.toList.map fun x=>(x.1,evalD Γ e x.2)) fun d=>K d [] []:=rfl
@[go_sem] theorem buildK_eq (t:TypeId) (parts:List (Nat×D)) (K:D->Prop):buildK P t parts K=someK (zeT P t) fun z=>optK (arrT P t) (fun ne=>someK (szT P ne.2) fun n=>someK (fillD (fun i=>some (i*n,n)) z parts) fun cells=>putK (mkAgg cells) K)
 (someK (plT P t) fun places=>someK (fillD (fun i=>places[i]?) z parts) fun cells=>putK (mkAgg cells) K):=by
 unfold buildK someK optK putK;cases zeT P t<;>simp only;cases arrT P t<;>simp only
 . cases plT P t<;>simp only;split<;>simp_all
 . rename_i ne;obtain⟨n,el⟩:=ne;simp only;cases szT P el<;>simp only;split<;>simp_all
@[congr] theorem buildK_congr {n0:Nat} (tk:tick=n0) (t:TypeId) {p p':List (Nat×D)} (h:p=p') (K:D->Prop):buildK P t p K=buildK P t p' K:=by rw[h]
@[go_sem] theorem fillD_nil (place:Nat->Option (Nat×Nat)) (cells:List D):fillD place cells []=some cells:=rfl
@[go_sem] theorem fillD_cons (place:Nat->Option (Nat×Nat)) (cells:List D) (i:Nat) (d:D) (rest:List (Nat×D)):fillD place cells ((i,d)::rest)=(place i).bind fun os=>if d.cells.length=os.2/\os.1+os.2<=cells.length/\d.cells.all D.cell=true then fillD place (over cells os.1 d.cells) rest else none:=by
 simp only[fillD];cases place i<;>rfl
@[go_sem] theorem opK_buildSlice (t:TypeId) (len:Nat) (parts:Array (Nat×Operand)):opK P Γ ⟨dst,.buildSlice t len parts,ty,pos,af,gd⟩ e H fr K=someK (sliceT P t) fun el=>someK (szT P el) fun es=>sideK (len*es<=16777216)
 (ifW (decide (len=0)) (sideK (parts.size=0) (K (.emp es) [] [])) (zerosK P el len fun z=>someK (fillD (fun i=>some (i*es,es)) z (parts.toList.map fun x=>(x.1,evalD Γ e x.2))) fun cells=>sideK (cells.all D.cell=true) (K (.ref fr 0 len es) [] [(fr,.blk true cells)]))):=by
 simp only[opK,someK,sideK,ifW];cases sliceT P t<;>simp only;rename_i el;cases szT P el<;>simp only;by_cases h:len=0<;>simp only[h,if_true,if_false,decide_true,decide_false];congr 1;apply congrArg
 funext z
 split<;>simp_all
@[go_sem] theorem zerosK_eq (el:TypeId) (n:Nat) (K:List D->Prop):zerosK P el n K=someK (zeT P el) fun z=>sideK (z.all D.cell=true) (sideK (szT P el=some z.length) (sideK (0<z.length) (cellsK (List.replicate n z).flatten K))):=by
 unfold zerosK someK sideK cellsK;cases zeT P el<;>rfl
@[congr] theorem zerosK_congr {n0:Nat} (tk:tick=n0) (el:TypeId) {n n':Nat} (h:n=n') (K:List D->Prop):zerosK P el n K=zerosK P el n' K:=by rw[h]
@[go_sem] theorem opK_load (t:TypeId) (a:Operand):opK P Γ ⟨dst,.load t a,ty,pos,af,gd⟩ e H fr K=loadK P t (evalD Γ e a) H fun d rd=>K d rd []:=rfl
@[go_sem] theorem loadK_ptr (t:TypeId) (g off:Nat) (K:D->List Nat->Prop):loadK P t (.ptr g off) H K=blkK (H g) fun _ cells=>aggK (aggT P t) (someK (szT P t) fun n=>sideK (off+n<=cells.length) (putK (mkAgg ((cells.drop off).take n)) fun d=>K d [g]))
 (someK (cells[off]?) fun d=>K d [g]):=by
 simp only[loadK,blkK,aggK,someK,sideK,putK];cases H g with
 | dead=>rfl
 | obj o=>rfl
 | blk rw cells =>
   cases hA:aggT P t with
   | none=>simp
   | some b =>
     cases b<;>cases hS:szT P t<;>simp only<;>(try (cases cells[off]?<;>simp))
@[go_sem] theorem loadK_cptr (t:TypeId) (cells:List Data) (K:D->List Nat->Prop):loadK P t (.cptr cells) H K=aggK (aggT P t) (someK (szT P t) fun n=>sideK (n<=cells.length) (putK (.data (.agg (cells.take n))) fun d=>K d []))
 (someK (cells[0]?) fun d=>putK (.data d) fun d=>K d []):=by
 simp only[loadK,aggK,someK,sideK,putK];cases hA:aggT P t with
 | none=>simp
 | some b =>
   cases b<;>cases hS:szT P t<;>simp only<;>(try (cases cells[0]?<;>simp))
@[congr] theorem loadK_congr {n0:Nat} (tk:tick=n0) (t:TypeId) {x x':D} (h:x=x') (H:Nat->Blk) (K:D->List Nat->Prop):loadK P t x H K=loadK P t x' H K:=by rw[h]
@[go_sem] theorem opK_store (t:TypeId) (a x:Operand):opK P Γ ⟨dst,.store t a x,ty,pos,af,gd⟩ e H fr K=storeK P t (evalD Γ e a) (coe P t (evalD Γ e x)) H fun u=>K .junk [] u:=rfl
@[go_sem] theorem storeK_ptr (t:TypeId) (g off:Nat) (v:D) (K:List (Nat×Blk)->Prop):storeK P t (.ptr g off) v H K=blkK (H g) fun rw cells=>ifW rw (cellsK v.cells fun vc=>sideK (szT P t=some vc.length) (sideK (vc.all D.cell=true) (sideK (off+vc.length<=cells.length) (cellsK (over cells off vc) fun nc=>K [(g,.blk true nc)])))) False:=by
 simp only[storeK,blkK,ifW,cellsK,sideK];cases H g with
 | dead=>rfl
 | obj o=>rfl
 | blk rw cells=>cases rw<;>rfl
@[congr] theorem storeK_congr {n0:Nat} (tk:tick=n0) (t:TypeId) {x x' v v':D} (h:x=x') (hv:v=v') (H:Nat->Blk) (K:List (Nat×Blk)->Prop):storeK P t x v H K=storeK P t x' v' H K:=by rw[h,hv]
@[go_sem] theorem opK_binOp (op:BinOp) (t t2:TypeId) (x y:Operand):opK P Γ ⟨dst,.binOp op t x y t2,ty,pos,af,gd⟩ e H fr K=binK P op t (evalD Γ e x) (evalD Γ e y) fun d=>K d [] []:=rfl
@[congr] theorem binK_congr {n0:Nat} (tk:tick=n0) (op:BinOp) (t:TypeId) {x x' y y':D} (hx:x=x') (hy:y=y') (K:D->Prop):binK P op t x y K=binK P op t x' y' K:=by rw[hx,hy]
section
variable (t:TypeId) (k:IntKind) (a b:Int) (K:D->Prop)
@[go_sem] theorem bin_add:binK P .add t (.data (.int k a)) (.data (.int k b)) K=putK (.data (.int k (k.wrap (a+b)))) K:=by simp[binK,putK,intD]
@[go_sem] theorem bin_sub:binK P .sub t (.data (.int k a)) (.data (.int k b)) K=putK (.data (.int k (k.wrap (a-b)))) K:=by simp[binK,putK,intD]
@[go_sem] theorem bin_eql:binK P .eql t (.data (.int k a)) (.data (.int k b)) K=putK (.data (.bool (decide (a=b)))) K:=by simp[binK,putK,boolD,cmpI]
@[go_sem] theorem bin_neq:binK P .neq t (.data (.int k a)) (.data (.int k b)) K=putK (.data (.bool (!decide (a=b)))) K:=by simp[binK,putK,boolD,cmpI]
@[go_sem] theorem bin_lss:binK P .lss t (.data (.int k a)) (.data (.int k b)) K=putK (.data (.bool (decide (a<b)))) K:=by simp[binK,putK,boolD,cmpI]
@[go_sem] theorem bin_leq:binK P .leq t (.data (.int k a)) (.data (.int k b)) K=putK (.data (.bool (decide (a<=b)))) K:=by simp[binK,putK,boolD,cmpI]
@[go_sem] theorem bin_gtr:binK P .gtr t (.data (.int k a)) (.data (.int k b)) K=putK (.data (.bool (decide (b<a)))) K:=by simp[binK,putK,boolD,cmpI]
@[go_sem] theorem bin_geq:binK P .geq t (.data (.int k a)) (.data (.int k b)) K=putK (.data (.bool (decide (b<=a)))) K:=by simp[binK,putK,boolD,cmpI]
@[go_sem] theorem bin_beql (a b:Bool):binK P .eql t (.data (.bool a)) (.data (.bool b)) K=sideK (boolT P t=true) (putK (.data (.bool (a == b))) K):=by simp[binK,putK,boolD,sideK]
@[go_sem] theorem bin_seql (a b:ByteArray):binK P .eql t (.data (.str a)) (.data (.str b)) K=putK (.data (.bool (decide (a=b)))) K:=by simp[binK,putK,boolD]
@[go_sem] theorem bin_aneq (a b:List Data):binK P .neq t (.data (.agg a)) (.data (.agg b)) K=eqK P t (.agg a) (.agg b) fun q=>putK (.data (.bool (!q))) K:=by simp[binK,putK,boolD]
end
@[go_sem] theorem opK_unOp (op:UnOp) (t:TypeId) (x:Operand):opK P Γ ⟨dst,.unOp op t x,ty,pos,af,gd⟩ e H fr K=unK op (evalD Γ e x) fun d=>K d [] []:=rfl
@[congr] theorem unK_congr {n0:Nat} (tk:tick=n0) (op:UnOp) {x x':D} (hx:x=x') (K:D->Prop):unK op x K=unK op x' K:=by rw[hx]
@[go_sem] theorem un_not (b:Bool) (K:D->Prop):unK .not (.data (.bool b)) K=putK (.data (.bool (!b))) K:=rfl
@[go_sem] theorem un_neg (k:IntKind) (n:Int) (K:D->Prop):unK .neg (.data (.int k n)) K=putK (.data (.int k (k.wrap (0-n)))) K:=rfl
def cvtK (s d:TypeId) (x:D) (H:Nat->Blk) (K:D->List Nat->List (Nat×Blk)->Prop):Prop:=match x with
 | .ref g off len es=>markK P s d g off len es H fun d u=>K d [g] u
 | .data (.str x)=>(if bytT P d=true then (P.underlying s).isSome=true/\x.size<=140737488355328/\K (.data (.sl 1 (x.toList.map fun b=>.int .u8 b.toNat))) [] []
   else (P.underlying s).isSome=true/\convK P s d (.data (.str x)) fun d=>K d [] [])
 | y=>(P.underlying s).isSome=true/\convK P s d y fun d=>K d [] []
@[congr] theorem cvtK_congr {n0:Nat} (tk:tick=n0) (s d:TypeId) {x x':D} (h:x=x') (H:Nat->Blk) (K:D->List Nat->List (Nat×Blk)->Prop):cvtK P s d x H K=cvtK P s d x' H K:=by rw[h]
@[go_sem] theorem cvt_int (s d:TypeId) (k:IntKind) (n:Int) (H:Nat->Blk) (K:D->List Nat->List (Nat×Blk)->Prop):cvtK P s d (.data (.int k n)) H K=sideK ((P.underlying s).isSome=true) (convK P s d (.data (.int k n)) fun d=>K d [] []):=rfl
@[go_sem] theorem cvt_sl (s d:TypeId) (es:Nat) (l:List Data) (H:Nat->Blk) (K:D->List Nat->List (Nat×Blk)->Prop):cvtK P s d (.data (.sl es l)) H K=sideK ((P.underlying s).isSome=true) (convK P s d (.data (.sl es l)) fun d=>K d [] []):=rfl
@[go_sem] theorem cvt_agg (s d:TypeId) (l:List Data) (H:Nat->Blk) (K:D->List Nat->List (Nat×Blk)->Prop):cvtK P s d (.data (.agg l)) H K=sideK ((P.underlying s).isSome=true) (convK P s d (.data (.agg l)) fun d=>K d [] []):=rfl
@[go_sem] theorem cvt_bool (s d:TypeId) (b:Bool) (H:Nat->Blk) (K:D->List Nat->List (Nat×Blk)->Prop):cvtK P s d (.data (.bool b)) H K=sideK ((P.underlying s).isSome=true) (convK P s d (.data (.bool b)) fun d=>K d [] []):=rfl
@[go_sem] theorem cvt_emp (s d:TypeId) (es:Nat) (H:Nat->Blk) (K:D->List Nat->List (Nat×Blk)->Prop):cvtK P s d (.emp es) H K=sideK ((P.underlying s).isSome=true) (convK P s d (.emp es) fun d=>K d [] []):=rfl
@[go_sem] theorem opK_convert (s d:TypeId) (x:Operand):opK P Γ ⟨dst,.convert s d x,ty,pos,af,gd⟩ e H fr K=cvtK P s d (evalD Γ e x) H K:=by
 simp only[opK,cvtK];cases evalD Γ e x with
 | data x=>cases x<;>rfl
 | _=>rfl
@[congr] theorem convK_congr {n0:Nat} (tk:tick=n0) (s d:TypeId) {x x':D} (hx:x=x') (K:D->Prop):convK P s d x K=convK P s d x' K:=by rw[hx]
@[go_sem] theorem conv_int (s d:TypeId) (k:IntKind) (n:Int) (K:D->Prop):convK P s d (.data (.int k n)) K=someK (intT P d) fun k=>putK (.data (.int k (k.wrap n))) K:=by
 simp only[convK,someK,putK,intD];cases intT P d<;>rfl
@[go_sem] theorem conv_str (s d:TypeId) (x:ByteArray) (K:D->Prop):convK P s d (.data (.str x)) K=sideK (strT P d=true) (putK (.data (.str x)) K):=rfl
@[go_sem] theorem natD_int (k:IntKind) (n:Int):natD (.data (.int k n))=some n:=rfl
@[go_sem] theorem opK_fieldAddr (t:TypeId) (x:Operand) (f:Nat):opK P Γ ⟨dst,.fieldAddr t x f,ty,pos,af,gd⟩ e H fr K=fieldAddrK P t (evalD Γ e x) f fun d=>K d [] []:=rfl
@[congr] theorem fieldAddrK_congr {n0:Nat} (tk:tick=n0) (t:TypeId) {x x':D} (hx:x=x') (f:Nat) (K:D->Prop):fieldAddrK P t x f K=fieldAddrK P t x' f K:=by rw[hx]
@[go_sem] theorem fieldAddr_ptr (t:TypeId) (g off f:Nat) (K:D->Prop):fieldAddrK P t (.ptr g off) f K=someK (fldT P t f) fun x=>someK (szT P x.2) fun n=>sideK (n≠0) (natK (off+x.1) fun q=>K (.ptr g q)):=by
 unfold fieldAddrK someK sideK natK;cases fldT P t f<;>simp only;rename_i x;cases szT P x.2 with
 | none=>rfl
 | some n=>cases n<;>simp
@[go_sem] theorem fieldAddr_cptr (t:TypeId) (cells:List Data) (f:Nat) (K:D->Prop):fieldAddrK P t (.cptr cells) f K=someK (fldT P t f) fun x=>someK (szT P x.2) fun n=>sideK (n≠0) (putK (.cptr (cells.drop x.1)) K):=by
 unfold fieldAddrK someK sideK putK;cases fldT P t f<;>simp only;rename_i x;cases szT P x.2 with
 | none=>rfl
 | some n=>cases n<;>simp
@[go_sem] theorem opK_field (t:TypeId) (x:Operand) (f:Nat):opK P Γ ⟨dst,.field t x f,ty,pos,af,gd⟩ e H fr K=fieldK P t (evalD Γ e x) f fun d=>K d [] []:=rfl
@[go_sem] theorem opK_indexAddr (t:TypeId) (x ix:Operand):opK P Γ ⟨dst,.indexAddr t x ix,ty,pos,af,gd⟩ e H fr K=indexAddrK P t (evalD Γ e x) (evalD Γ e ix) fun d=>K d [] []:=rfl
@[congr] theorem indexAddrK_congr {n0:Nat} (tk:tick=n0) (t:TypeId) {x x' y y':D} (hx:x=x') (hy:y=y') (K:D->Prop):indexAddrK P t x y K=indexAddrK P t x' y' K:=by rw[hx,hy]
@[go_sem] theorem indexAddr_sl (t:TypeId) (es:Nat) (l:List Data) (k:IntKind) (i:Int) (K:D->Prop):indexAddrK P t (.data (.sl es l)) (.data (.int k i)) K=someK (sliceT P t) fun el=>sideK (szT P el=some es) (sideK (0<=i) (natK i.toNat fun j=>someK (l[j]?) fun y=>putK (.cptr y.cells) K)):=by
 unfold indexAddrK someK sideK natK putK;simp only;cases sliceT P t<;>simp only;congr 2;cases l[i.toNat]?<;>simp
@[go_sem] theorem indexAddr_ref (t:TypeId) (g off len es:Nat) (k:IntKind) (i:Int) (K:D->Prop):indexAddrK P t (.ref g off len es) (.data (.int k i)) K=someK (sliceT P t) fun el=>sideK (szT P el=some es) (sideK (0<=i) (sideK (i<len) (natK (off+i.toNat*es) fun q=>K (.ptr g q)))):=by
 unfold indexAddrK someK sideK natK;simp only;cases sliceT P t<;>simp only
@[go_sem] theorem opK_arrPtr (t:TypeId) (x:Operand):opK P Γ ⟨dst,.sliceToArrayPointer t x,ty,pos,af,gd⟩ e H fr K=arrPtrK P t (evalD Γ e x) fun d=>K d [] []:=rfl
@[congr] theorem arrPtrK_congr {n0:Nat} (tk:tick=n0) (t:TypeId) {x x':D} (hx:x=x') (K:D->Prop):arrPtrK P t x K=arrPtrK P t x' K:=by rw[hx]
@[go_sem] theorem opK_index (t:TypeId) (x ix:Operand):opK P Γ ⟨dst,.index t x ix,ty,pos,af,gd⟩ e H fr K=indexK P t (evalD Γ e x) (evalD Γ e ix) fun d=>K d [] []:=rfl
@[congr] theorem indexK_congr {n0:Nat} (tk:tick=n0) (t:TypeId) {x x' y y':D} (hx:x=x') (hy:y=y') (K:D->Prop):indexK P t x y K=indexK P t x' y' K:=by rw[hx,hy]
@[go_sem] theorem opK_nilCheck (x:Operand):opK P Γ ⟨dst,.nilCheck x,ty,pos,af,gd⟩ e H fr K=sideK (sureD (evalD Γ e x)=true) (putK (ptrD (evalD Γ e x)) fun d=>K d [] []):=rfl
@[go_sem] theorem sureD_pc (c:List Data):sureD (.data (.pc c))=true:=rfl
@[go_sem] theorem ptrD_ptr (g o:Nat):ptrD (.ptr g o) = .ptr g o:=rfl
@[go_sem] theorem ptrD_cptr (c:List Data):ptrD (.cptr c) = .cptr c:=rfl
@[go_sem] theorem ptrD_pc (c:List Data):ptrD (.data (.pc c)) = .cptr c:=rfl
@[go_sem] theorem sureD_ptr (g o:Nat):sureD (.ptr g o)=true:=rfl
@[go_sem] theorem sureD_cptr (c:List Data):sureD (.cptr c)=true:=rfl
@[go_sem] theorem opK_makeMap (t:TypeId):opK P Γ ⟨dst,.makeMap t none,ty,pos,af,gd⟩ e H fr K=K (.mref fr) [] [(fr,.obj (.mp [] []))]:=rfl
def putM (kt:TypeId) (x key v:D) (H:Nat->Blk) (K:List Nat->List (Nat×Blk)->Prop):Prop:=match key,x with
 | .data k,.mref g=>keyT P kt k=true/\mapK (H g) fun ks xs=>fndK (findD k ks 0) (fun i=>K [g] [(g,.obj (.mp ks (xs.set i v)))]) (K [g] [(g,.obj (.mp (ks++[k]) (xs++[v])))])
 | _,_=>False
@[go_sem] theorem putM_eq (kt:TypeId) (g:Nat) (k:Data) (v:D) (H:Nat->Blk) (K:List Nat->List (Nat×Blk)->Prop):putM P kt (.mref g) (.data k) v H K=sideK (keyT P kt k=true) (mapK (H g) fun ks xs=>fndK (findD k ks 0) (fun i=>K [g] [(g,.obj (.mp ks (xs.set i v)))]) (K [g] [(g,.obj (.mp (ks++[k]) (xs++[v])))])):=rfl
@[congr] theorem putM_congr {n0:Nat} (tk:tick=n0) (kt:TypeId) {x x' k k' v v':D} (h1:x=x') (h2:k=k') (h3:v=v') (H:Nat->Blk) (K:List Nat->List (Nat×Blk)->Prop):putM P kt x k v H K=putM P kt x' k' v' H K:=by rw[h1,h2,h3]
def getM (kt et:TypeId) (x key:D) (ok:Bool) (H:Nat->Blk) (K:D->List Nat->Prop):Prop:=match key with
 | .data k=>keyT P kt k=true/\(match x with
   | .data (.mp ks xs)=>lookK P et ks (xs.map .data) k ok fun d=>K d []
   | .mref g=>mapK (H g) fun ks xs=>lookK P et ks xs k ok fun d=>K d [g]
   | _=>False)
 | _=>False
@[go_sem] theorem getM_own (kt et:TypeId) (g:Nat) (k:Data) (ok:Bool) (H:Nat->Blk) (K:D->List Nat->Prop):getM P kt et (.mref g) (.data k) ok H K=sideK (keyT P kt k=true) (mapK (H g) fun ks xs=>lookK P et ks xs k ok fun d=>K d [g]):=rfl
@[go_sem] theorem getM_data (kt et:TypeId) (ks xs:List Data) (k:Data) (ok:Bool) (H:Nat->Blk) (K:D->List Nat->Prop):getM P kt et (.data (.mp ks xs)) (.data k) ok H K=sideK (keyT P kt k=true) (lookK P et ks (xs.map .data) k ok fun d=>K d []):=rfl
@[congr] theorem getM_congr {n0:Nat} (tk:tick=n0) (kt et:TypeId) {x x' k k':D} (h1:x=x') (h2:k=k') (ok:Bool) (H:Nat->Blk) (K:D->List Nat->Prop):getM P kt et x k ok H K=getM P kt et x' k' ok H K:=by rw[h1,h2]
@[go_sem] theorem pairD_data (x:Data) (b:Bool):pairD (.data x) b = .data (.tup [x,.bool b]):=rfl
@[go_sem] theorem pairD_bnd (f:FuncId) (r:D) (b:Bool):pairD (.bnd f r) b = .tp [.bnd f r,.data (.bool b)]:=rfl
@[go_sem] theorem pairD_fn (f:FuncId) (cs:List D) (b:Bool):pairD (.fn f cs) b = .tp [.fn f cs,.data (.bool b)]:=rfl
@[go_sem] theorem pairD_ptr (g off:Nat) (b:Bool):pairD (.ptr g off) b = .tp [.ptr g off,.data (.bool b)]:=rfl
@[go_sem] theorem pairD_ref (g off len es:Nat) (b:Bool):pairD (.ref g off len es) b = .tp [.ref g off len es,.data (.bool b)]:=rfl
@[go_sem] theorem pairD_agg (cs:List D) (b:Bool):pairD (.agg cs) b = .tp [.agg cs,.data (.bool b)]:=rfl
@[congr] theorem lookK_congr {n0:Nat} (tk:tick=n0) (et:TypeId) {ks ks':List Data} (h1:ks=ks') {xs xs':List D} (h2:xs=xs') {k k':Data} (h3:k=k') (ok:Bool) (K:D->Prop):lookK P et ks xs k ok K=lookK P et ks' xs' k' ok K:=by rw[h1,h2,h3]
def rngK (x:D) (fr:Nat) (K:D->List Nat->List (Nat×Blk)->Prop):Prop:=match x with
 | .data (.mp ks xs)=>K (.iref fr) [] [(fr,.obj (.it ks xs (List.range ks.length) none))]
 | _=>False
@[go_sem] theorem rngK_mp (ks xs:List Data) (fr:Nat) (K:D->List Nat->List (Nat×Blk)->Prop):rngK (.data (.mp ks xs)) fr K=K (.iref fr) [] [(fr,.obj (.it ks xs (List.range ks.length) none))]:=rfl
@[congr] theorem rngK_congr {n0:Nat} (tk:tick=n0) {x x':D} (h:x=x') (fr:Nat) (K:D->List Nat->List (Nat×Blk)->Prop):rngK x fr K=rngK x' fr K:=by rw[h]
def rngM (o:Option (TypeId×TypeId)) (b:Bool) (x:D) (fr:Nat) (K:D->List Nat->List (Nat×Blk)->Prop):Prop:=match o,x with
 | some _,x=>rngK x fr K
 | none,.data (.str s)=>b=true/\K (.iref fr) [] [(fr,.obj (.si s 0))]
 | none,_=>False
@[go_sem] theorem rngM_some (q:TypeId×TypeId) (b:Bool) (x:D) (fr:Nat) (K:D->List Nat->List (Nat×Blk)->Prop):rngM (some q) b x fr K=rngK x fr K:=rfl
@[congr] theorem rngM_congr {n0:Nat} (tk:tick=n0) {o o':Option (TypeId×TypeId)} {b b':Bool} {x x':D} (h0:o=o') (h1:b=b') (h:x=x') (fr:Nat) (K:D->List Nat->List (Nat×Blk)->Prop):rngM o b x fr K=rngM o' b' x' fr K:=by rw[h0,h1,h]
@[go_sem] theorem opK_snext (x:Operand):opK P Γ ⟨dst,.next x true,ty,pos,af,gd⟩ e H fr K=snextK (evalD Γ e x) H K:=rfl
@[congr] theorem snextK_congr {n0:Nat} (tk:tick=n0) {x x':D} (h:x=x') (H:Nat->Blk) (K:D->List Nat->List (Nat×Blk)->Prop):snextK x H K=snextK x' H K:=by rw[h]
@[go_sem] theorem opK_entry (x:Operand):opK P Γ ⟨dst,.entry x,ty,pos,af,gd⟩ e H fr K=entryK (evalD Γ e x) H fun d rd=>K d rd []:=rfl
@[congr] theorem entryK_congr {n0:Nat} (tk:tick=n0) {x x':D} (h:x=x') (H:Nat->Blk) (K:D->List Nat->Prop):entryK x H K=entryK x' H K:=by rw[h]
def nextM (g:Nat) (ks xs:List Data) (left:List Nat) (H:Nat->Blk) (nx:Nat) (K:D->(Nat->Blk)->Nat->Prop):Prop:=(left=[]->K (.data (.tup [.bool false])) H (nx+1)) /\
 ∀ i k x,i∈left->ks[i]?=some k->xs[i]?=some x->K (.data (.tup [.bool true,k,x])) (Hp.set H g (.obj (.it ks xs (left.filter (· != i)) (some i)))) (nx+1)
def nilM (p:Prop) (H:Nat->Blk) (nx:Nat) (K:D->(Nat->Blk)->Nat->Prop):Prop:=∀ b:Bool,(b=true->p)->K (.data (.bool b)) H (nx+1)
@[congr] theorem nextM_congr {n0:Nat} (tk:tick=n0) (g:Nat) (ks xs:List Data) (left:List Nat) (H:Nat->Blk) (nx:Nat) (K:D->(Nat->Blk)->Nat->Prop):nextM g ks xs left H nx K=nextM g ks xs left H nx K:=rfl
@[congr] theorem nilM_congr {n0:Nat} (tk:tick=n0) (p:Prop) (H:Nat->Blk) (nx:Nat) (K:D->(Nat->Blk)->Nat->Prop):nilM p H nx K=nilM p H nx K:=rfl
def stepM (x:D) (H:Nat->Blk) (nx:Nat) (K:D->(Nat->Blk)->Nat->Prop):Prop:=match x with
 | .iref g=>itrK (H g) fun ks xs left _=>nextM g ks xs left H nx K
 | _=>False
@[go_sem] theorem stepM_eq (g:Nat) (H:Nat->Blk) (nx:Nat) (K:D->(Nat->Blk)->Nat->Prop):stepM (.iref g) H nx K=itrK (H g) fun ks xs left _=>nextM g ks xs left H nx K:=rfl
@[congr] theorem stepM_congr {n0:Nat} (tk:tick=n0) {x x':D} (h:x=x') (H:Nat->Blk) (nx:Nat) (K:D->(Nat->Blk)->Nat->Prop):stepM x H nx K=stepM x' H nx K:=by rw[h]
@[go_sem] theorem opK_next (x:Operand):opK P Γ ⟨dst,.next x false,ty,pos,af,gd⟩ e H fr K=False:=rfl
def isnM (x:D) (H:Nat->Blk) (nx:Nat) (K:D->(Nat->Blk)->Nat->Prop):Prop:=match x with
 | .data (.sl _ l)=>nilM (l=[]) H nx K
 | .ref _ _ len _=>nilM (len=0) H nx K
 | .emp _=>nilM True H nx K
 | _=>False
@[go_sem] theorem isnM_sl (n:Nat) (l:List Data) (H:Nat->Blk) (nx:Nat) (K:D->(Nat->Blk)->Nat->Prop):isnM (.data (.sl n l)) H nx K=nilM (l=[]) H nx K:=rfl
@[go_sem] theorem isnM_ref (g o n s:Nat) (H:Nat->Blk) (nx:Nat) (K:D->(Nat->Blk)->Nat->Prop):isnM (.ref g o n s) H nx K=nilM (n=0) H nx K:=rfl
@[go_sem] theorem isnM_emp (n:Nat) (H:Nat->Blk) (nx:Nat) (K:D->(Nat->Blk)->Nat->Prop):isnM (.emp n) H nx K=nilM True H nx K:=rfl
@[congr] theorem isnM_congr {n0:Nat} (tk:tick=n0) {x x':D} (h:x=x') (H:Nat->Blk) (nx:Nat) (K:D->(Nat->Blk)->Nat->Prop):isnM x H nx K=isnM x' H nx K:=by rw[h]
@[go_sem] theorem bin_nil_sl (op:BinOp) (t:TypeId) (n m:Nat) (l:List Data) (K:D->Prop):binK P op t (.data (.sl n l)) (.emp m) K=False:=rfl
@[go_sem] theorem bin_nil_ref (op:BinOp) (t:TypeId) (g o n s m:Nat) (K:D->Prop):binK P op t (.ref g o n s) (.emp m) K=False:=rfl
@[go_sem] theorem bin_nil_emp (op:BinOp) (t:TypeId) (n m:Nat) (K:D->Prop):binK P op t (.emp n) (.emp m) K=False:=rfl
@[go_sem] theorem findD_nil (k:Data) (i:Nat):findD k [] i=some none:=rfl
def foundK (o:Option Bool) (i:Nat) (r:Option (Option Nat)):Option (Option Nat):=match o with
 | some true=>some (some i)
 | some false=>r
 | none=>none
@[go_sem] theorem foundK_true (i:Nat) (r:Option (Option Nat)):foundK (some true) i r=some (some i):=rfl
@[go_sem] theorem foundK_false (i:Nat) (r:Option (Option Nat)):foundK (some false) i r=r:=rfl
@[congr] theorem foundK_congr {n0:Nat} (tk:tick=n0) {o o':Option Bool} (h:o=o') (i:Nat) (r:Option (Option Nat)):foundK o i r=foundK o' i r:=by rw[h]
@[go_sem] theorem keyEq_agg (a b:List Data):keyEq (.agg a) (.agg b)=bolEq a b:=rfl
@[go_sem] theorem bolEq_nil:bolEq [] []=some true:=rfl
@[go_sem] theorem bolEq_cons (a b:Bool) (l m:List Data):bolEq (.bool a::l) (.bool b::m)=(bolEq l m).map fun r=>a == b && r:=rfl
@[go_sem] theorem keyEq_str (a b:ByteArray):keyEq (.str a) (.str b)=some (a == b):=rfl
@[go_sem] theorem opK_extract (x:Operand) (i:Nat):opK P Γ ⟨dst,.extract x i,ty,pos,af,gd⟩ e H fr K=extractK (evalD Γ e x) i fun d=>K d [] []:=rfl
end
end
theorem frz_ref {ok:Bool} {H:Nat->Blk} {g len es:Nat} {cells:List D} {l:List Data} {rw:Bool} (hg:H g = .blk rw cells) (hrw:ok=true \/ rw=false) (hl:l.length=len) (hes:∀ x∈l,x.cells.length=es) (hc:cells=(flat l).map .data):Frz ok H (.ref g 0 len es) (.sl es l):=by
 subst hc;refine .ref g 0 len es rw _ l (fun i=>.data ((flat l).getD i .nilp)) hg hrw hl hes (by simp[flat_length hes,hl]) (fun i x hx=>?_) (fun i x hx=>?_)
 . have hi:=(List.getElem?_eq_some_iff.1 hx).1;simp[hx]
 . have:(flat l).getD i .nilp=x:=by simp[hx]
   rw[this];exact .data x
attribute [irreducible] someK
end Go.Proofs.Ytndnlfgchmjbjaa
