/- Ranges over functions, on plain data: several values handed over at once, rows of the iterator's own among them; a round that ends the loop; regions of an iterator whose order is open. Ranges over functions that hand over several values: regions of an iterator whose order is open; the walk's soundness; the loop's rule. Ranges over functions that hand over several values: the walk is sound; the loop's rule holds. Functions that hold a range over a function, on plain data. Ranges over functions: what the walk needs. Gate, the program's: who has failed is found by a range over a function. Gate, the program's: all that it answers. The laws, of the program as it is. -/
import Derived.Test.YtndnlfgchmjbjaaPk5
import Derived.OrdersIn
namespace Go.Proofs.Ytndnlfgchmjbjaa
open Go.RowKit
set_option linter.unusedSimpArgs false
set_option linter.unusedVariables false
set_option maxRecDepth 100000
section
variable {P:Program} {Γ:Nat->Option (List Data)} {L0:Nat->Prop} {w0:W0}
def fzU (H:Nat->Blk) (F:List Nat):List (Nat×Blk):=F.map fun g=>(g,fz (H g))
def frzS (s:St) (F:List Nat):St:=⟨s.env,Hp.upd s.hp (fzU s.hp F),s.nx,s.lo,s.nt⟩
theorem hold_fz {H:Nat->Blk} {F:List Nat} (hF:∀ g∈F,∃ rw cells,H g = .blk rw cells):∀ g,Hp.upd H (fzU H F) g=H g \/ ∃ rw cells,H g = .blk rw cells/\Hp.upd H (fzU H F) g = .blk false cells:=fun g=>by
 rw[fzU,upd_fz H F H (fun k=>.inl rfl) g];by_cases e:g∈F
 . obtain⟨rw,cells,hg⟩:=hF g e;exact .inr ⟨rw,cells,hg,by simp[e,hg,fz]⟩
 . exact .inl (by simp[e])
theorem Rel.frz {m:Nat->MB} {s:St} {a:Act} {w:World} {F:List Nat} (h:Rel Γ L0 w0 m s a w) (hF:∀ g∈F,∃ rw cells,s.hp g = .blk rw cells):Rel Γ L0 w0 m (frzS s F) a w/\Ext L0 m s w m (frzS s F) w:=by
 have hold:=hold_fz hF;obtain⟨h1,hg1⟩:=h.wr.called (Below.refl _ w) hold;refine⟨⟨h.defers,fun t=>(h.vals t).mono hg1 fun _ _=>rfl,h1.heap,h.res,fun g hg=>?_,h1.below,h1.l0,h1.glob,h.lo,h.slots⟩,⟨hg1,fun _ _=>rfl,rfl,rfl⟩⟩;have hd:=h.dead g hg;rcases hold g with e|⟨rw,cells,e,_⟩
 . exact e.trans hd
 . rw[hd] at e;cases e
theorem frz_vd {m:Nat->MB} {H:Nat->Blk} {w:World} {F:List Nat} {ds:List D} {xs:List Data} {vs:Array Value} (h:WR Γ L0 w0 m H w) (hF:∀ g∈F,∃ rw cells,H g = .blk rw cells) (hl:ds.length=vs.size)
 (hv:∀ (i:Nat) (d:D) (v:Value),ds[i]?=some d->vs[i]?=some v->VV (Live L0 m H) w m d v) (hx:FrzL false (Hp.upd H (fzU H F)) ds xs) :
 ∀ (i:Nat) (x:Data) (v:Value),xs[i]?=some x->vs[i]?=some v->VD (Live L0 m (Hp.upd H (fzU H F))) w x v:=fun i x v hxi hvi=>by
 have hold:=hold_fz hF;obtain⟨h1,hg1⟩:=h.called (Below.refl _ w) hold;obtain⟨hlx,hfx⟩:=hx;have hi:i<ds.length:=by rw[hlx];exact (List.getElem?_eq_some_iff.1 hxi).1
 have hd:=List.getElem?_eq_getElem hi;have hlive:∀ b,Live L0 m (Hp.upd H (fzU H F)) b->Live L0 m H b:=by
  rintro b (hb|⟨g,sz,hg,hm⟩)
  . exact .inl hb
  . rcases hold g with e|⟨rw,cs,e1,e2⟩
    . rw[e] at hg;exact .inr ⟨g,sz,hg,hm⟩
    . rw[e2] at hg;cases hg
 refine (hfx i _ x hd hxi).vd (m:=m) (L:=Live L0 m H) hlive (fun g rw cells b sz hg hrw hm=>?_) (fun g rw cells hg hm=>?_) (fun e=>by cases e) (hv i _ v hd hvi)
 . obtain⟨rw',hg'⟩:∃ rw',H g = .blk rw' cells:=by
    rcases hold g with e|⟨rw',cs,e1,e2⟩
    . rw[e] at hg;exact⟨rw,hg⟩
    . rw[e2] at hg;cases hg;exact⟨rw',e1⟩
   obtain⟨vs',ty,e1,e2,e3,e4,e5⟩:=at_of h hg' hm;obtain⟨_,_,_,_,_,f4,_⟩:=at_of h1 hg hm;refine⟨h.lt hg' hm,f4 ?_,vs',ty,e1,fun i d hd=>by obtain⟨v,a1,_,a3⟩:=e5 i d hd;exact⟨v,a1,a3⟩⟩;rcases hrw with e|e
   . cases e
   . exact e
 . rcases h1.heap.blk g rw cells hg with⟨_,k⟩|⟨b,sz,vs',ty,k1,_⟩
   . exact k
   . rw[hm] at k1;cases k1
end
def givK (d:D) (l:Nat) (ds:List D) (ys:List (List Data)) (K k:Nat) (H:Nat->Blk) (C:List (Nat×Blk)->Prop):Prop:=match d with
 | .yld l'=>l'=l/\k<=K/\∃ (F:List Nat) (xs:List Data),(∀ g∈F,∃ rw cells,H g = .blk rw cells)/\FrzL false (Hp.upd H (fzU H F)) ds xs/\ys[k]?=some xs/\C (fzU H F)
 | _=>False
def giveK (Γ:Nat->Option (List Data)) (l:Nat) (ys:List (List Data)) (K:Nat) (o:Oper) (e:Nat->D) (k:Nat) (H:Nat->Blk) (C:List (Nat×Blk)->Prop):Prop:=match o.op with
 | .call c=>(match c.callee with
   | .value x=>givK (evalD Γ e x) l (c.args.toList.map (evalD Γ e)) ys K k H C
   | _=>False)
 | _=>False
def Env.sets (e:Nat->D):List Tmp->List Data->Nat->D
 | p::ps,y::ys=>Env.sets (Env.set e p (.data y)) ps ys
 | _,_=>e
def splitOk (ops:Array Oper) (tr:List Tr) (p a b:Nat):Bool :=
 decide (tr.length=p) && decide (p<=ops.size) && pairsOk ops ((ops.toList.take p).zip (tr.zip (ancs ops.toList []))) && Nat.ble b (a+64) && ((List.range ops.size).all fun i=>match ops[i]? with
  | some o=>o.after.all fun e=>!Region.binds .any e || decide (e.on<i)
  | none=>true) &&
 ((List.range ops.size).all fun j=>decide (j<p) || (List.range j).all fun i=>((ancs ops.toList []).getD j 0).testBit i)
section
variable (P:Program) (Γ:Nat->Option (List Data)) (l:Nat) (ys:List (List Data)) (K:Nat)
def opsZ (ops:Array Oper):List Oper->St->Nat->(St->Nat->Prop)->Prop
 | [],s,k,Q=>Q s k
 | o::rest,s,k,Q=>dstOk o s.nt=true/\(match wantedD ops s.env o with
   | some b=>ifW b (ifW (isCall o)
      ((opK P Γ o s.env s.hp s.nx fun d _ u=>opsZ ops rest (stepSt s o d u) k Q) \/ giveK Γ l ys K o s.env k s.hp fun u=>opsZ ops rest (stepSt s o (.data (.bool (!decide (k=K)))) u) (k+1) Q)
      (opK P Γ o s.env s.hp s.nx fun d _ u=>opsZ ops rest (stepSt s o d u) k Q)) (opsZ ops rest (stepSt s o undefD []) k Q)
   | none=>False)
def splitZ (ops:Array Oper) (s:St) (k:Nat) (Q:St->Nat->Prop):Prop:=∃ p,drawW P Γ ops (ops.toList.take p) s [] fun s' tr=>splitOk ops tr p s.nx s'.nx=true/\opsZ P Γ l ys K ops (ops.toList.drop p) s' k Q
def wpZ:Code->(Exit->St->Nat->Prop)->St->Nat->Prop
 | .skip,Q,s,k=>Q .normal s k
 | .region _ ops draw,Q,s,k=>ifW draw (splitZ P Γ l ys K ops s k (Q .normal)) (opsZ P Γ l ys K ops ops.toList s k (Q .normal))
 | .seq x y,Q,s,k=>wpZ x (thenY (wpZ y Q) Q) s k
 | .cond c x y,Q,s,k=>(match evalD Γ s.env c with
   | .data (.bool b)=>ifW b (wpZ x Q s k) (wpZ y Q s k)
   | _=>False)
 | .block id b,Q,s,k=>wpZ b (blockY id Q) s k
 | .loop b,Q,s,k=>LoopY (wpZ b) Q s k
 | .exit id,Q,s,k=>Q (.exit id) s k
 | .ret,Q,s,k=>Q .ret s k
 | _,_,_,_=>False
end
structure MovesZ (P:Program) (Γ:Nat->Option (List Data)) (F:Fence) (l:Nat) (ys:List (List Data)) (K:Nat) (RR:Nat->(Nat->MB)->St->Act->World->Prop):Prop where
 rel:∀ k m s a w,RR k m s a w->∃ L0 w0,Rel Γ L0 w0 m s a w/\∀ m' s' a' w',Rel Γ L0 w0 m' s' a' w'->Ext L0 m s w m' s' w'->RR k m' s' a' w'
 yld:∀ n k m s a w y (vs:Array Value),RR k m s a w->k<=K->ys[k]?=some y->y.length=vs.size->(∀ L0 w0,Rel Γ L0 w0 m s a w->∀ (i:Nat) (x:Data) (v:Value),y[i]?=some x->vs[i]?=some v->VD (Live L0 m s.hp) w x v) →
  YieldAt F n P l vs w fun e w'=>e = .returned (.bool (!decide (k=K)))/\RR (k+1) m s a w'
section
variable {P:Program} {Γ:Nat->Option (List Data)}
theorem give_run {dst:Option Nat} {x:Operand} {args:Array Operand} {ts:Array TypeId} {ty:TypeId} {pos:String} {af:Array Edge} {gd:Option (Nat×Bool)} {a:Act} {w:World} {l:Nat} {r:Next} {vs:Array Value} (hx:a.eval x = .func (.yield l) #[] #[]) (ha:args.map a.eval=vs)
 (h:(Instr.yield l vs).run P w = .ok r w):(execOp a.eval ⟨dst,.call ⟨.value x,args,ts⟩,ty,pos,af,gd⟩).run P w = .ok r w:=by
 simp only[execOp,resolve,Sem.run_bind,hx,Deferred.ofValue,Sem.run_pure,Result.andThen_ok,invoke,ha];simpa using h
theorem opsZ_sound {F:Fence} (hF:FW F) {n l:Nat} {ys:List (List Data)} {K:Nat} {RR:Nat->(Nat->MB)->St->Act->World->Prop} (hM:MovesZ P Γ F l ys K RR) {ops:Array Oper} {Q:Exit->Act->World->Prop} {Qs:St->Nat->Prop} :
 ∀ (lst:List Oper) (k:Nat) (m:Nat->MB) (s:St) (a:Act) (w:World),RR k m s a w->opsZ P Γ l ys K ops lst s k Qs →
 (∀ k' m' s' a' w',RR k' m' s' a' w'->Qs s' k'->Q .normal a' w')->wpListIn F n P ops Q lst a w
 | [],k,m,s,a,w,h,hk,hQ=>hQ k m s a w h hk
 | o::rest,k,m,s,a,w,h,hk,hQ=>by
   obtain⟨hd,hk⟩:=hk;obtain⟨L0,w0,hr,hstep⟩:=hM.rel k m s a w h;have viaOp:(opK P Γ o s.env s.hp s.nx fun d _ u=>opsZ P Γ l ys K ops rest (stepSt s o d u) k Qs)->o.wpIn F n P a w (wpListIn F n P ops Q rest) Q:=fun hk=>by
    have hpl:=opK_plain hk;obtain⟨d,rd,u,hk,hrun⟩:=op_sound hr.wr (hr.res _ (Nat.le_refl _)) (hr.dead _ (Nat.le_refl _)) hr.vals hk;refine hrun.wpIn hF hpl fun v w' ha=>?_;obtain⟨m',h1,h2⟩:=step_rel hr hd ha;exact opsZ_sound hF hM rest k m' _ _ _ (hstep _ _ _ _ h1 h2) hk hQ
   have viaY:(giveK Γ l ys K o s.env k s.hp fun u=>opsZ P Γ l ys K ops rest (stepSt s o (.data (.bool (!decide (k=K)))) u) (k+1) Qs)->o.wpIn F n P a w (wpListIn F n P ops Q rest) Q:=fun hkY=>by
    clear hk;obtain⟨dst,op,type,pos,after,guard⟩:=o;unfold giveK at hkY;cases op<;>simp only at hkY
    case call c =>
     obtain⟨callee,args,argTypes⟩:=c;cases callee<;>simp only at hkY
     case value x =>
      unfold givK at hkY;split at hkY
      . rename_i l' hx;obtain⟨rfl,hkK,G,xs,hG,hfz,hy,hk⟩:=hkY;have hρ:∀ x,VV (Live L0 m s.hp) w m (evalD Γ s.env x) (a.eval x):=fun x=>eval_ok hr.glob hr.vals x;have hxv:=hρ x;rw[hx] at hxv;have hce:a.eval x = .func (.yield l') #[] #[]:=by
         generalize a.eval x=vx at hxv;cases hxv;rfl
        have hargs:∀ (L1:Nat->Prop),(∀ x,VV L1 w m (evalD Γ s.env x) (a.eval x))->∀ (i:Nat) (d:D) (v:Value),(args.toList.map (evalD Γ s.env))[i]?=some d->(args.map a.eval)[i]?=some v->VV L1 w m d v:=fun L1 hρ i d v h1 h2=>by
         simp only[List.getElem?_map,Option.map_eq_some_iff,Array.getElem?_toList] at h1;simp only[Array.getElem?_map,Option.map_eq_some_iff] at h2;obtain⟨y,hy,rfl⟩:=h1;obtain⟨y',hy',rfl⟩:=h2;rw[hy] at hy';cases hy';exact hρ _
        obtain⟨hr2,hx2⟩:=hr.frz hG;have h2:RR k m (frzS s G) a w:=hstep _ _ _ _ hr2 hx2;have hlen:xs.length=(args.map a.eval).size:=by have:=hfz.1;simp at this ⊢;omega
        have hY:=hM.yld (n-1) k m (frzS s G) a w xs (args.map a.eval) h2 hkK hy hlen fun L1 w1 h1 i x v hxi hvi=>by
         have hfz2:FrzL false (Hp.upd (frzS s G).hp (fzU (frzS s G).hp [])) (args.toList.map (evalD Γ s.env)) xs:=hfz;exact frz_vd h1.wr (F:=[]) (fun g hg=>by cases hg) (by simp) (hargs _ fun x=>eval_ok h1.glob h1.vals x) hfz2 i x v hxi hvi
        obtain⟨fn,tmps,assign,body,hyl,hR⟩:=hY;refine⟨fun f _=>hF.fn f,?_⟩;rw[Oper.semAt_plain F a.eval _ (fun c hc=>by cases hc),give_run hce rfl hyl,Oper.uponIn_round];refine⟨hF.depth,hR.mono ?_⟩;rintro e w' ⟨rfl,h'⟩;obtain⟨L1,w1,hr1,hstep1⟩:=hM.rel (k+1) m _ a w' h';obtain⟨m2,h2,h3⟩:=step_rel (o:=⟨dst,.call ⟨.value x,args,argTypes⟩,type,pos,after,guard⟩) (d:=.data (.bool (!decide (k=K)))) (u:=[]) (v:=.bool (!decide (k=K))) (w':=w') hr1 hd ⟨m,hr1.wr,.data _ _ (.bool _),Grow.refl _ _,fun _ _=>rfl⟩;exact opsZ_sound hF hM rest (k+1) m2 _ _ _ (hstep1 _ _ _ _ h2 h3) hk hQ
      . exact hkY.elim
     all_goals exact hkY.elim
    all_goals exact hkY.elim
   unfold wpListIn;cases hw:wantedD ops s.env o with
   | none=>rw[hw] at hk;exact hk.elim
   | some b =>
     rw[hw] at hk;rw[wanted_ok hr.vals hw];cases b with
     | true =>
       simp only[ifW] at hk;rw[if_pos rfl];split at hk
       . rcases hk with hk|hk
         . exact viaOp hk
         . exact viaY hk
       . exact viaOp hk
     | false =>
       simp only[ifW] at hk;rw[if_neg (by simp)];obtain⟨m',h1,h2⟩:=step_rel (d:=undefD) (u:=[]) (v:=undef) (w':=w) hr hd ⟨m,hr.wr,undef_ok _ _ _,Grow.refl _ _,fun _ _=>rfl⟩;exact⟨fun f _=>hF.fn f,opsZ_sound hF hM rest k m' _ _ _ (hstep _ _ _ _ h1 h2) hk hQ⟩
end
section
variable {P:Program} {Γ:Nat->Option (List Data)} {L0:Nat->Prop} {w0:W0}
theorem apart_pre {ops:Array Oper} {rs:List Res} {p a b:Nat} (h:splitOk ops (rs.map Res.tr) p a b=true) :
 rs.length=p/\p<=ops.size/\Apart ops (ops.toList.zip rs) (ancs ops.toList [])/\(∀ (i:Nat) (o:Oper),ops[i]?=some o->∀ e∈o.after,Region.binds .any e=true->e.on<i)/\b<=a+64 /\
  ∀ j,p<=j->j<ops.size->∀ i,i<j->((ancs ops.toList []).getD j 0).testBit i=true:=by
 simp only[splitOk,Bool.and_eq_true,decide_eq_true_eq,List.length_map] at h;obtain⟨⟨⟨⟨⟨hl,hp⟩,h1⟩,hb⟩,h2⟩,h3⟩:=h;obtain⟨ha1,_⟩:=ancs_len ops.toList [];simp only[List.length_nil,Nat.zero_add] at ha1;have hpl:p<=ops.toList.length:=by simpa using hp
 refine⟨hl,hp,⟨fun i j oi ri oj rj hij hi hj=>?_⟩,fun i o ho e he hb=>?_,Nat.le_of_ble_eq_true hb,fun j hj hjs i hi=>?_⟩
 . unfold pairsOk at h1;rw[List.all_eq_true] at h1;have hjl:=(List.getElem?_eq_some_iff.1 hj).1;have hzl:((ops.toList.take p).zip ((rs.map Res.tr).zip (ancs ops.toList []))).length=p:=by
    simp only[List.length_zip,List.length_take,List.length_map,ha1];omega
   have hjp:j<p:=by
    simp only[List.length_zip] at hjl;omega
   have h3:=h1 j (by rw[List.mem_range,hzl];exact hjp);rw[List.all_eq_true] at h3;have h4:=h3 i (List.mem_range.2 hij);have zip_at:∀ q oq rq,(ops.toList.zip rs)[q]?=some (oq,rq)->((ops.toList.take p).zip ((rs.map Res.tr).zip (ancs ops.toList [])))[q]?=some (oq,rq.tr,(ancs ops.toList []).getD q 0):=fun q oq rq hq=>by
    rw[List.getElem?_zip_eq_some] at hq ⊢;have hql:=(List.getElem?_eq_some_iff.1 hq.2).1;refine⟨by rw[List.getElem?_take_of_lt (by omega)];exact hq.1,?_⟩;rw[List.getElem?_zip_eq_some];have hlt:q<(ancs ops.toList []).length:=by rw[ha1];exact (List.getElem?_eq_some_iff.1 hq.1).1
    exact⟨by simp[hq.2],by rw[List.getElem?_eq_getElem hlt,List.getD_eq_getElem?_getD,List.getElem?_eq_getElem hlt];rfl⟩
   rw[zip_at i oi ri hi,zip_at j oj rj hj] at h4;simp only[pairOk,Bool.and_eq_true,Bool.or_eq_true] at h4;obtain⟨h5,h6⟩:=h4;refine⟨fun s hs hs2=>?_,?_⟩
   . rw[hs,hs2] at h5;simp at h5
   . rcases h6 with h6|⟨⟨⟨h6,h7⟩,h8⟩,h9⟩
     . exact .inl h6
     . right;refine⟨fun s hs hm=>?_,fun s hs hm=>?_,fun g hg=>?_,fun g hg hm=>?_⟩
       . rw[hs] at h6;simp[slotsOf,hm] at h6
       . rw[hs] at h7;simp[slotsOf,hm] at h7
       . rw[List.all_eq_true] at h8;have:=h8 g hg;simp only[Bool.and_eq_true,Bool.not_eq_true',List.contains_eq_mem,decide_eq_false_iff_not] at this;exact this
       . rw[List.all_eq_true] at h9;have:=h9 g hg;simp only[Bool.not_eq_true',List.contains_eq_mem,decide_eq_false_iff_not] at this;exact this hm
 . rw[List.all_eq_true] at h2;have hi:=(Array.getElem?_eq_some_iff.1 ho).1;have:=h2 i (List.mem_range.2 hi);rw[ho] at this;simp only[Array.all_eq_true_iff_forall_mem,Bool.or_eq_true,Bool.not_eq_true',decide_eq_true_eq] at this;exact (this e he).resolve_left (by simp[hb])
 . rw[List.all_eq_true] at h3;have:=h3 j (List.mem_range.2 hjs);simp only[Bool.or_eq_true,decide_eq_true_eq,List.all_eq_true,List.mem_range] at this;exact (this.resolve_left (by omega)) i hi
theorem chain_sound {F:Fence} {n:Nat} {ops:Array Oper} {p:Nat} {Q:Exit->Act->World->Prop} (hord:∀ (i:Nat) (o:Oper),ops[i]?=some o->∀ e∈o.after,Region.binds .any e=true->e.on<i)
 (hall:∀ j,p<=j->j<ops.size->∀ i,i<j->((ancs ops.toList []).getD j 0).testBit i=true) :
 ∀ (rest:List Oper) (j:Nat) (B:Array Bool) (a:Act) (w:World),p<=j->rest=ops.toList.drop j->B.size=ops.size->(∀ i,i<ops.size->B.getD i false=decide (i<j))->wpListIn F n P ops Q rest a w->wpAnyIn F n P .any ops Q rest.length B a w
 | [],j,B,a,w,hp,hr,hs,hB,h=>by
   have hj:ops.size<=j:=by have:=congrArg List.length hr;simp at this;omega
   refine⟨List.eq_nil_iff_forall_not_mem.2 fun i hi=>?_,h⟩;obtain⟨h1,o,ho,_⟩:=ready_mem hi;have his:=(Array.getElem?_eq_some_iff.1 ho).1;have:=hB i his;rw[show decide (i<j)=true by simp;omega] at this;simp[Array.getD_eq_getD_getElem?,hs,his] at this h1;rw[this] at h1;cases h1
 | o::rest,j,B,a,w,hp,hr,hs,hB,h=>by
   have hj:j<ops.size:=by have:=congrArg List.length hr;simp at this;omega
   have ho:ops[j]?=some o:=by
    have:=congrArg (fun q=>q[0]?) hr;simp only[List.getElem?_drop,Nat.add_zero,Array.getElem?_toList] at this;exact this.symm
   have hrest:rest=ops.toList.drop (j+1):=by
    have:=congrArg List.tail hr;simpa using this
   have hjf:B.getD j false=false:=by rw[hB j hj];simp
   have hjt:B.getD j true=false:=by simpa[Array.getD_eq_getD_getElem?,hs,hj] using hjf
   have hcl:∀ (i:Nat) (o:Oper),ops[i]?=some o->B.getD i false=true->∀ e∈o.after,Region.binds .any e=true->B.getD e.on false=true:=fun i o hi hb e he hbd=>by
    have his:=(Array.getElem?_eq_some_iff.1 hi).1;rw[hB i his] at hb;have hlt:=hord i o hi e he hbd;rw[hB e.on (by omega)];simp only[decide_eq_true_eq] at hb ⊢;omega
   have next:∀ a' w',wpListIn F n P ops Q rest a' w'->wpAnyIn F n P .any ops Q rest.length (B.setIfInBounds j true) a' w':=fun a' w' h' =>
    chain_sound hord hall rest (j+1) _ a' w' (by omega) hrest (by simpa using hs) (fun i hi=>by
     rw[getD_set' (by omega),hB i hi];by_cases e:j=i
     . rw[if_pos e];simp;omega
     . rw[if_neg e];simp only[decide_eq_decide];omega) h'
   refine⟨fun hn=>?_,fun i hi=>?_⟩
   . have:=ready_nil hs hord hn j hj;rw[hjf] at this;cases this
   . obtain⟨h1,o',ho',hdep⟩:=ready_mem hi;have his:=(Array.getElem?_eq_some_iff.1 ho').1;have hif:B.getD i false=false:=by simpa[Array.getD_eq_getD_getElem?,hs,his] using h1
     have hge:j<=i:=by rw[hB i his] at hif;simpa using hif
     have hij:i=j:=by
      rcases Nat.lt_or_ge j i with e|e
      . have:=anc_up (B:=(B.getD · false)) hord hcl i o' ho' hdep j (hall i (by omega) his j e);simp only[hjf] at this;cases this
      . omega
     subst hij;rw[ho] at ho';cases ho';unfold wpOpIn;simp only[ho];unfold wpListIn at h;split at h
     . rename_i hw;rw[if_pos hw];exact Oper.wpIn_mono next h
     . rename_i hw;rw[if_neg hw];exact⟨h.1,next _ _ h.2⟩
theorem anyZ_sound {F:Fence} (hF:FW F) {n p:Nat} {ops:Array Oper} {l:List (Oper×Res)} {rs:List Res} {m0:Nat->MB} {s0:St} {wS:World} {Q:Exit->Act->World->Prop}
 (hl:l=ops.toList.zip rs) (hlen:rs.length=p) (hp:p<=ops.size) (hlo:s0.lo<=s0.nx) (hap:Apart ops l (ancs ops.toList [])) (hord:∀ (i:Nat) (o:Oper),ops[i]?=some o->∀ e∈o.after,Region.binds .any e=true->e.on<i)
 (hcomes:∀ i o r,ops.toList[i]?=some o->rs[i]?=some r->Comes1 P Γ ops o (stAt (l.take i) s0) r)
 (hall:∀ j,p<=j->j<ops.size->∀ i,i<j->((ancs ops.toList []).getD j 0).testBit i=true)
 (hbig:offs l<=64) (hend:∀ B m a w,(∀ j,j<ops.size->B.getD j false=decide (j<p))->Mid Γ L0 w0 ops l m0 s0 wS B m a w->wpListIn F n P ops Q (ops.toList.drop p) a w) :
 ∀ (fuel:Nat) (B:Array Bool) (m:Nat->MB) (a:Act) (w:World),leftOf B=fuel->(∀ j,p<=j->j<ops.size->B.getD j false=false)->Mid Γ L0 w0 ops l m0 s0 wS B m a w->wpAnyIn F n P .any ops Q fuel B a w:=by
 have atEnd:∀ (fuel:Nat) (B:Array Bool) (m:Nat->MB) (a:Act) (w:World),leftOf B=fuel->(∀ j,j<ops.size->B.getD j false=decide (j<p))->Mid Γ L0 w0 ops l m0 s0 wS B m a w->wpAnyIn F n P .any ops Q fuel B a w:=by
  intro fuel B m a w hf hB h;have hfl:(ops.toList.drop p).length=fuel:=by
   have e:B.toList=(List.range ops.size).map fun j=>decide (j<p):=by
    apply List.ext_getElem
    . simp[h.listed]
    . intro i h1 h2;simp only[List.length_map,List.length_range] at h2;have:=hB i h2;simp only[List.getElem_map,List.getElem_range,Array.getElem_toList];simpa[Array.getD_eq_getD_getElem?,h.listed,h2] using this
   have count:∀ q,q ≥ p->((List.range q).map fun j=>decide (j<p)).count false=q-p:=by
    intro q
    induction q with
    | zero=>intro hq;simp
    | succ q ih =>
      intro hq;rw[List.range_succ,List.map_append,List.count_append];rcases Nat.lt_or_ge q p with e|e
      . have hqp:q+1=p:=by omega
        have:((List.range q).map fun j=>decide (j<p)).count false=0:=by
         rw[List.count_eq_zero];intro hm;obtain⟨j,hj,hd⟩:=List.mem_map.1 hm;have:=List.mem_range.1 hj;rw[show decide (j<p)=true by simp;omega] at hd;cases hd
        rw[this];simp[e];omega
      . rw[ih e];have:¬ q<p:=by omega
        simp[this];omega
   unfold leftOf at hf;rw[e,count ops.size hp] at hf;simp;omega
  rw[<- hfl];exact chain_sound hord hall _ p B a w (Nat.le_refl _) rfl h.listed hB (hend B m a w hB h)
 have full:∀ (B:Array Bool) (m:Nat->MB) (a:Act) (w:World),(∀ j,p<=j->j<ops.size->B.getD j false=false)->Mid Γ L0 w0 ops l m0 s0 wS B m a w->(∀ j,j<p->B.getD j false=true)->∀ j,j<ops.size->B.getD j false=decide (j<p):=by
  intro B m a w hB h hd j hj;rcases Nat.lt_or_ge j p with e|e
  . rw[hd j e];simp[e]
  . rw[hB j e hj];symm;simp;omega
 intro fuel
 induction fuel with
 | zero =>
   intro B m a w hf hB h;have hz:∀ j,j<ops.size->B.getD j false=true:=fun j hj=>leftOf_zero hf (by rw[h.listed];exact hj);exact atEnd 0 B m a w hf (full B m a w hB h fun j hj=>hz j (by omega)) h
 | succ fuel ih =>
   intro B m a w hf hB h;by_cases hd:∀ j,j<p->B.getD j false=true
   . exact atEnd _ B m a w hf (full B m a w hB h hd) h
   . refine⟨fun hr=>absurd (fun j hj=>ready_nil h.listed hord hr j (by omega)) hd,fun i hi=>?_⟩;obtain⟨hun,o,ho,hdep⟩:=ready_mem hi;have his:=(Array.getElem?_eq_some_iff.1 ho).1;have hip:i<p:=by
      rcases Nat.lt_or_ge i p with e|e
      . exact e
      . refine absurd (fun j hj=>?_) hd;exact anc_up (B:=(B.getD · false)) hord h.closed i o ho hdep j (hall i e his j (by omega))
     have hset:∀ j,p<=j->j<ops.size->(B.setIfInBounds i true).getD j false=false:=fun j hj hjs=>by
      rw[getD_set' (by rw[h.listed];exact his),if_neg (by omega)];exact hB j hj hjs
     have hleft:leftOf (B.setIfInBounds i true)=fuel:=by have:=leftOf_set hun;omega
     unfold wpOpIn;simp only[ho];rcases mid_go (next:=wpAnyIn F n P .any ops Q fuel (B.setIfInBounds i true)) hl (by omega) hlo hap hord (fun r hr=>hcomes i o r (by simpa using ho) hr) hbig h hun ho hdep (fun m' a' w' h'=>ih _ m' a' w' hleft hset h') with⟨h1,h2,h3⟩|⟨h1,h2⟩
     . rw[h1,if_pos rfl];exact h3.wpIn hF h2 fun v w' hv=>hv
     . rw[h1,if_neg (by simp)];exact⟨fun f _=>hF.fn f,h2⟩
end
theorem zip_full {α β:Type}:∀ (l:List α) (r:List β),(l.take r.length).zip r=l.zip r
 | [],r=>by simp
 | x::l,[]=>by simp
 | x::l,y::r=>by simp[zip_full l r]
section
variable {P:Program} {Γ:Nat->Option (List Data)}
theorem split_sound {F:Fence} (hF:FW F) {n l id:Nat} {ys:List (List Data)} {K:Nat} {RR:Nat->(Nat->MB)->St->Act->World->Prop} (hm:P.follows .mixedOrders=true) (hM:MovesZ P Γ F l ys K RR) {ops:Array Oper} {Q:Exit->Act->World->Prop} {Qs:St->Nat->Prop}
 {k:Nat} {m:Nat->MB} {s:St} {a:Act} {w:World} (h:RR k m s a w) (hk:splitZ P Γ l ys K ops s k Qs) (hQ:∀ k' m' s' a' w',RR k' m' s' a' w'->Qs s' k'->Q .normal a' w'):(Code.region id ops true).wpIn F n P Q a w:=by
 obtain⟨p,hk⟩:=hk;obtain⟨L0,w0,hr,hstep⟩:=hM.rel k m s a w h;obtain⟨rs,hlen,hcomes,hok,hK⟩:=draw_text _ _ _ hk;simp only[List.reverse_nil,List.nil_append] at hok;obtain⟨hlp,hps,hap,hord,hbig,hall⟩:=apart_pre hok;have hzip:(ops.toList.take p).zip rs=ops.toList.zip rs:=by rw[<- hlp];exact zip_full _ _
 rw[hzip] at hok hK hbig;simp only[hzip] at hcomes;rw[(stAt_nx _ _).1] at hbig;refine wpIn_region_any hm ?_;have hfalse:∀ j,(Array.replicate ops.size false).getD j false=false:=fun j=>by
  by_cases hj:j<ops.size<;>simp[Array.getD_eq_getD_getElem?,hj]
 have no:∀ (l:List (Oper×Res)) (k:Nat) (e:Nat->D) (H:Nat->Blk),envF (fun j=>(Array.replicate ops.size false).getD j false) l k e=e/\hpF (fun j=>(Array.replicate ops.size false).getD j false) l k H=H:=by
  have hB:(fun j=>(Array.replicate ops.size false).getD j false)=fun _=>false:=funext hfalse;rw[hB];intro l
  induction l with
  | nil=>intro k e H;exact⟨rfl,rfl⟩
  | cons x l ih =>
    intro k e H;obtain⟨o,r⟩:=x;simp only[envF,hpF,Bool.false_eq_true,if_false];exact ih (k+1) e H
 have hdr:Grow (Live L0 m s.hp) w (Live L0 m s.hp) w.drew:=⟨Nat.le_refl _,fun b _ hL=>⟨rfl,hL⟩⟩;have hzl:(ops.toList.zip rs).length=p:=by simp only[List.length_zip,Array.length_toList];omega
 refine anyZ_sound hF (P:=P) (L0:=L0) (w0:=w0) (m0:=m) (s0:=s) (wS:=w) rfl hlp hps hr.lo hap hord (fun i o r ho hri=>hcomes i o r (by
  have:=(List.getElem?_eq_some_iff.1 hri).1;rw[List.getElem?_take_of_lt (by omega)];exact ho) hri) hall (by omega) ?_ ops.size _ m a _ ?_ (fun j _ _=>hfalse j) ⟨hr.defers,hr.slots,by simp,?_,?_,?_,?_,fun _ _=>rfl,?_,?_⟩
 . intro B m' a' w' hB hmid;have hall':∀ j o r,(ops.toList.zip rs)[j]?=some (o,r)->B.getD (0+j) false=decide (0+j<0+(ops.toList.zip rs).length):=fun j o r hj=>by
    have hlt:=(List.getElem?_eq_some_iff.1 hj).1;rw[hzl] at hlt ⊢;simp only[Nat.zero_add];exact hB j (by omega)
   obtain⟨e1,e2⟩:=stAt_env (ops.toList.zip rs) (ops.toList.zip rs).length 0 s;rw[List.take_length] at e1 e2;have he:envF (B.getD · false) (ops.toList.zip rs) 0 s.env=(stAt (ops.toList.zip rs) s).env:=by
    rw[e1];funext t;exact envF_agree rfl fun j o r hj _=>hall' j o r hj
   have hh:hpF (B.getD · false) (ops.toList.zip rs) 0 s.hp=(stAt (ops.toList.zip rs) s).hp:=by
    rw[e2];funext g;exact hpF_agree rfl fun j o r hj _=>hall' j o r hj
   obtain⟨f1,f2,f3⟩:=stAt_nx (ops.toList.zip rs) s;have hv:=hmid.vals;have hw:=hmid.wr;have hg:=hmid.grow;rw[he,hh] at hv;rw[hh] at hw hg;have hres:∀ g,(stAt (ops.toList.zip rs) s).nx<=g->m' g = .res:=fun g hgg=>hmid.beyond g (by rw[f1] at hgg;exact hgg);have hrel:Rel Γ L0 w0 m' (stAt (ops.toList.zip rs) s) a' w':=by
    refine⟨hmid.defers,hv,hw.heap,hres,?_,hw.below,hw.l0,hw.glob,?_,?_⟩
    . intro g hgg;exact hw.none (hres g hgg)
    . rw[f1,f2];exact Nat.le_trans hr.lo (Nat.le_add_right _ _)
    . rw[f3];exact hmid.slots
   exact opsZ_sound hF hM _ k m' _ a' w' (hstep _ _ _ _ hrel ⟨hg,fun g hgg=>hmid.keep g (Nat.lt_of_lt_of_le hgg hr.lo),f2,f3⟩) hK hQ
 . unfold leftOf;simp
 . intro t;rw[(no _ _ _ s.hp).1,(no _ _ s.env _).2];exact (hr.vals t).mono hdr (fun _ _=>rfl)
 . rw[(no _ _ s.env _).2];exact hr.wr.drew
 . intro j o r hj _ q _;exact hr.res _ (by omega)
 . intro g hg;exact hr.res g (by omega)
 . rw[(no _ _ s.env _).2];exact hdr
 . intro j o ho hb;rw[hfalse] at hb;cases hb
theorem wpZ_sound {F:Fence} (hF:FW F) {n l:Nat} {ys:List (List Data)} {K:Nat} {RR:Nat->(Nat->MB)->St->Act->World->Prop} (hm:P.follows .mixedOrders=true) (hM:MovesZ P Γ F l ys K RR) :
 ∀ (c:Code) (Q:Exit->St->Nat->Prop) (k:Nat) (m:Nat->MB) (s:St) (a:Act) (w:World),RR k m s a w->wpZ P Γ l ys K c Q s k->c.wpIn F n P (LiftY RR Q) a w
 | .skip,Q,k,m,s,a,w,h,hk=>wpIn_skip ⟨m,s,k,h,hk⟩
 | .exit id,Q,k,m,s,a,w,h,hk=>wpIn_exit ⟨m,s,k,h,hk⟩
 | .ret,Q,k,m,s,a,w,h,hk=>wpIn_ret ⟨m,s,k,h,hk⟩
 | .region id ops draw,Q,k,m,s,a,w,h,hk=>by
   cases draw with
   | true=>exact split_sound hF hm hM h (by simpa[wpZ,ifW] using hk) fun k' m' s' a' w' h1 h2=>⟨m',s',k',h1,h2⟩
   | false=>exact wpIn_region_list (opsZ_sound hF hM ops.toList k m s a w h (by simpa[wpZ,ifW] using hk) fun k' m' s' a' w' h1 h2=>⟨m',s',k',h1,h2⟩)
 | .seq x y,Q,k,m,s,a,w,h,hk=>by
   refine wpIn_seq (wpIn_mono (wpZ_sound hF hm hM x _ k m s a w h hk) fun e a' w' ⟨m',s',k',h1,h2⟩=>?_);cases e with
   | normal=>exact wpZ_sound hF hm hM y Q k' m' s' a' w' h1 h2
   | exit id=>exact⟨m',s',k',h1,h2⟩
   | goto l=>exact⟨m',s',k',h1,h2⟩
   | ret=>exact⟨m',s',k',h1,h2⟩
   | panic ch=>exact⟨m',s',k',h1,h2⟩
   | outgrown=>exact⟨m',s',k',h1,h2⟩
 | .cond c x y,Q,k,m,s,a,w,h,hk=>by
   simp only[wpZ] at hk;split at hk
   . rename_i b hc;obtain⟨L0,w0,hr,_⟩:=hM.rel k m s a w h;have hcv:=eval_ok hr.glob hr.vals c;rw[hc] at hcv;have:=hcv.data_inv;generalize hce:a.eval c=vc at this;cases this;refine wpIn_cond hce ?_;cases b with
     | true=>exact wpZ_sound hF hm hM x Q k m s a w h hk
     | false=>exact wpZ_sound hF hm hM y Q k m s a w h hk
   . exact hk.elim
 | .block id b,Q,k,m,s,a,w,h,hk=>by
   refine wpIn_block (wpIn_mono (wpZ_sound hF hm hM b _ k m s a w h hk) fun e a' w' ⟨m',s',k',h1,h2⟩=>?_);cases e with
   | exit i =>
     simp only[Exit.inBlock,blockY] at h2 ⊢;split at h2
     . rename_i e;rw[if_pos e];exact⟨m',s',k',h1,h2⟩
     . rename_i e;rw[if_neg e];exact⟨m',s',k',h1,h2⟩
   | normal=>exact⟨m',s',k',h1,h2⟩
   | goto l=>exact⟨m',s',k',h1,h2⟩
   | ret=>exact⟨m',s',k',h1,h2⟩
   | panic ch=>exact⟨m',s',k',h1,h2⟩
   | outgrown=>exact⟨m',s',k',h1,h2⟩
 | .loop b,Q,k,m,s,a,w,h,hk=>by
   obtain⟨σ,st,κ,μ,x0,hw,hk0,hr⟩:=hk;have weak:∀ {k m s s2 a w},RR k m s a w->WeakX s s2->∃ m2,RR k m2 s2 a w:=fun {k m s s2 a w} h hw=>by
    obtain⟨L0,w0,hr,hstep⟩:=hM.rel k m s a w h;obtain⟨m2,h1,h2⟩:=weakX_rel hr hw;exact⟨m2,hstep _ _ _ _ h1 h2⟩
   refine loop_soundIn (fun x a' w'=>∃ m',RR (κ x) m' (st x) a' w') μ (x0:=x0) (by rw[hk0];exact weak h hw) ?_;rintro x a' w' ⟨m',h1⟩;refine wpIn_mono (wpZ_sound hF hm hM b _ (κ x) m' (st x) a' w' h1 (hr x)) fun e a'' w'' ⟨m'',s'',k'',h3,h5⟩=>?_;cases e with
   | normal =>
     obtain⟨y,hwy,hky,hlt⟩:=h5;exact⟨y,by rw[hky];exact weak h3 hwy,hlt⟩
   | exit id=>exact⟨m'',s'',k'',h3,h5⟩
   | goto l=>exact⟨m'',s'',k'',h3,h5⟩
   | ret=>exact⟨m'',s'',k'',h3,h5⟩
   | panic ch=>exact⟨m'',s'',k'',h3,h5⟩
   | outgrown=>exact⟨m'',s'',k'',h3,h5⟩
 | .label _,Q,k,m,s,a,w,h,hk=>hk.elim
 | .rangeFunc ..,Q,k,m,s,a,w,h,hk=>hk.elim
 | .scope _,Q,k,m,s,a,w,h,hk=>hk.elim
 | .goto _,Q,k,m,s,a,w,h,hk=>hk.elim
 | .refuse _,Q,k,m,s,a,w,h,hk=>hk.elim
end
def RoundsZ (P:Program) (l:Nat) (ys:List (List Data)) (K:Nat) (C:Nat->(Nat->Prop)->(Nat->Prop)->World->Prop):Prop :=
 ∀ n k Li Lc W y (vs:Array Value),C k Li Lc W->k<=K->ys[k]?=some y->y.length=vs.size->(∀ (i:Nat) (x:Data) (v:Value),y[i]?=some x->vs[i]?=some v->VD (fun b=>Lc b \/ Li b) W x v)->(∀ b,Li b->b<W.heap.size/\¬ Lc b) →
  YieldAt Fence.wide n P l vs W fun e W'=>e = .returned (.bool (!decide (k=K)))/\∃ Lc',C (k+1) Li Lc' W'/\Grow Lc W Lc' W'/\∀ b,Lc' b->b<W'.heap.size
def ITZ (P:Program) (Γ:Nat->Option (List Data)) (f:FuncId) (caps:List Data) (ys:List (List Data)):Prop :=
 CallOk P f/\∀ (K n l:Nat) (L:Nat->Prop) (W:World) (vs:Array Value) (C:Nat->(Nat->Prop)->(Nat->Prop)->World->Prop),Glob Γ L W->(∀ b,L b->b<W.heap.size)->caps.length=vs.size →
  (∀ (i:Nat) (x:Data) (v:Value),caps[i]?=some x->vs[i]?=some v->VD L W x v)->Stable C->RoundsZ P l ys K C->C 0 (fun _=>False) L W →
  CallsIn Fence.wide n P f (#[.func (.yield l) #[] #[]]++vs) W fun e W'=>(∃ v,e = .returned v)/\∃ Li Lc,C (min ys.length (K+1)) Li Lc W'
section
variable {P:Program} {Γ:Nat->Option (List Data)}
theorem itZ_of (hm:P.follows .mixedOrders=true) {f:FuncId} {fn:Func} {c:Code} {caps:List Data} {ys:List (List Data)} (hf:P.funcs[f]?=some fn) (hb:fn.body=some c) (hres:fn.results = #[]) (hc:CallOk P f)
 (h:∀ l K,wpZ P Γ l ys K c (endY (min ys.length (K+1))) ⟨envArgs (.yld l::caps.map toD),fun _=>.dead,0,0,(caps.length+1)+(fn.ntmps-(caps.length+1))⟩ 0):ITZ P Γ f caps ys:=by
 refine⟨hc,fun K n l L W vs C hg hL hl hv hst hrd h0=>callsIn_of_wp hf hb trivial ?_⟩;have hlive:∀ b,Live L (fun _=>.res) (fun _=>Blk.dead) b ↔ L b:=fun b=>⟨(fun h=>by
  rcases h with h|⟨g,sz,hg,_⟩
  . exact h
  . cases hg),.inl⟩
 have hrel:Rel Γ L (W0.of W) (fun _=>.res) ⟨envArgs (.yld l::caps.map toD),fun _=>.dead,0,0,(caps.length+1)+(fn.ntmps-(caps.length+1))⟩ { tmps:=(#[.func (.yield l) #[] #[]]++vs)++Array.replicate (fn.ntmps-(#[Value.func (.yield l) #[] #[]]++vs).size) undef,defers:=[] } W:=by
  refine⟨rfl,fun t=>?_,⟨(fun g rw cells hg=>by cases hg),(fun g g' cells rw' cells' b sz sz' hg=>by cases hg),(fun g o hg=>by cases hg),(fun g g' o o' b sz sz' hg=>by cases hg)⟩,fun _ _=>rfl,fun _ _=>rfl,Below.refl _ _,(fun b hb=>⟨hL b hb,rfl⟩),hg.mono (Grow.less W fun b hb=>(hlive b).1 hb),Nat.le_refl _,by simp[hl];omega⟩;refine args_env (by simp[hl];omega) (fun i d v hd hvi=>?_) t
  match i with
  | 0 =>
    simp at hd;subst hd;rw[Array.getElem?_append_left (by simp)] at hvi;have:v = .func (.yield l) #[] #[]:=by simpa using hvi.symm
    subst this;exact .yld l
  | i+1 =>
    rw[List.getElem?_cons_succ,List.getElem?_map,Option.map_eq_some_iff] at hd;obtain⟨x,hx,rfl⟩:=hd;rw[Array.getElem?_append_right (by simp)] at hvi;exact toD_ok ((hv i x v hx (by simpa using hvi)).mono (Grow.less W fun b hb=>(hlive b).1 hb))
 have hM:MovesZ P Γ Fence.wide l ys K (fun k m s a w=>∃ Lc w0,Rel Γ Lc w0 m s a w/\C k (Liv m s.hp) Lc w):=by
  refine⟨?_,?_⟩
  . rintro k m s a w ⟨Lc,w0,h,hC⟩;refine⟨Lc,⟨w,w0.base,h.size⟩,h.rebase,fun m' s' a' w' h' he=>⟨Lc,_,h',?_⟩⟩;obtain⟨g1,g2⟩:=h.rebase.others h' he.grow;exact hst k _ Lc w _ w' hC g1 (fun b hb=>⟨fun k=>(h'.liv k).2.1 hb,g2 b hb⟩) (fun b hb=>(h'.liv hb).2.2) (below_zero h'.below)
  . rintro n k m s a w y vs ⟨Lc,w0,h,hC⟩ hkK hy hyl hvd;refine (hrd n k _ Lc w y vs hC hkK hy hyl (hvd Lc w0 h) fun b hb=>⟨(h.liv hb).2.2,(h.liv hb).2.1⟩).mono ?_;rintro e w' ⟨rfl,Lc',k1,k2,k3⟩;exact⟨rfl,Lc',_,h.after k2 k3,k1⟩
 have h0':∃ Lc w0,Rel Γ Lc w0 (fun _=>.res) ⟨envArgs (.yld l::caps.map toD),fun _=>.dead,0,0,(caps.length+1)+(fn.ntmps-(caps.length+1))⟩ { tmps:=(#[.func (.yield l) #[] #[]]++vs)++Array.replicate (fn.ntmps-(#[Value.func (.yield l) #[] #[]]++vs).size) undef,defers:=[] } W/\C 0 (Liv (fun _=>.res) (fun _=>Blk.dead)) Lc W:=by
  refine⟨L,_,hrel,?_⟩;have:Liv (fun _=>MB.res) (fun _=>Blk.dead)=fun _=>False:=by
   funext b
   exact propext ⟨(fun h=>by obtain⟨g,sz,hg,_⟩:=h;cases hg),False.elim⟩
  rw[this];exact h0
 refine wpIn_mono (wpZ_sound (.inl rfl) hm hM c _ 0 _ _ _ W h0' (h l K)) fun e a' w' ⟨m',s',k',⟨Lc,w0,h1,h2⟩,h3⟩=>?_;have key:k'=min ys.length (K+1)->a'.defers=[]/\∃ v,(results fn a'.tmps).run P w' = .ok v w'/\(∃ u,Ending.returned v = .returned u)/\∃ Li Lc,C (min ys.length (K+1)) Li Lc w':=by
  rintro rfl;exact⟨h1.defers,_,results_run (P:=P) (fn:=fn) (a:=a') (w:=w') (vs:=[]) (by rw[hres];rfl),⟨_,rfl⟩,_,_,h2⟩
 cases e with
 | normal=>exact key h3
 | ret=>exact key h3
 | _=>exact h3.elim
end
def jumpOf:Exit->Option Code
 | .ret=>some .ret
 | .exit id=>some (.exit id)
 | _=>none
def StopX (x:Exit):Prop:=x = .ret \/ ∃ id,x = .exit id
def RngZ (P:Program) (Γ:Nat->Option (List Data)) (g:Operand) (ps:Array Tmp) (assign body:Code) (Q:Exit->St->Prop) (s:St):Prop :=
 ∃ (f:FuncId) (caps:List Data) (ys:List (List Data)) (K:Nat) (x:Exit) (st:Nat->St),evalD Γ s.env g = .data (.fn f caps)/\ITZ P Γ f caps ys/\StopX x/\(∀ y∈ys,y.length=ps.size)/\(∀ p∈ps,p<s.nt)/\WeakX s (st 0)/\(∀ k,(st k).env=(st 0).env/\(st k).lo=s.lo/\(st k).nt=s.nt) /\
  (∀ k y,ys[k]?=some y->k<=K->wpZ P Γ 0 [] 0 assign (fun e s1 _=>e = .normal/\wpZ P Γ 0 [] 0 body (fun e s2 _=>e=(if k=K then x else .normal)/\WeakX ⟨(st k).env,s2.hp,s2.nx,(st k).lo,(st k).nt⟩ (st (k+1))) s1 0)
    ⟨Env.sets (st k).env ps.toList y,(st k).hp,(st k).nx,(st k).nx,(st k).nt⟩ 0)/\(K<ys.length->Q x (st (K+1)))/\(ys.length<=K->Q .normal (st ys.length))
section
variable {P:Program} {Γ:Nat->Option (List Data)} {L0:Nat->Prop} {w0:W0}
theorem sets_ok {L:Nat->Prop} {w:World} {m:Nat->MB}:∀ (ps:List Tmp) (y:List Data) (vs:List Value) (e:Nat->D) (T:Array Value),y.length=ps.length->vs.length=ps.length->(∀ p∈ps,p<T.size) →
 (∀ (i:Nat) (x:Data) (v:Value),y[i]?=some x->vs[i]?=some v->VD L w x v)->(∀ t,VV L w m (e t) (T.getD t undef)) →
 (∀ t,VV L w m (Env.sets e ps y t) (((ps.zip vs).foldl (fun T x=>T.setIfInBounds x.1 x.2) T).getD t undef))/\((ps.zip vs).foldl (fun T x=>T.setIfInBounds x.1 x.2) T).size=T.size
 | [],[],[],e,T,_,_,_,_,h=>⟨h,rfl⟩
 | p::ps,x::y,v::vs,e,T,hl,hl2,hp,hv,h=>by
   have hpT:=hp p (by simp);obtain⟨h1,h2⟩:=sets_ok ps y vs (Env.set e p (.data x)) (T.setIfInBounds p v) (by simpa using hl) (by simpa using hl2) (fun q hq=>by simpa using hp q (by simp[hq])) (fun i x' v' hx hv'=>hv (i+1) x' v' (by simpa using hx) (by simpa using hv')) (fun t=>by
    by_cases e1:t=p
    . subst e1;have h1:(T.setIfInBounds t v).getD t undef=v:=by simp[hpT]
      have h2:Env.set e t (.data x) t = .data x:=by simp[Env.set]
      rw[h1,h2];exact .data _ _ (hv 0 x v rfl rfl)
    . have h1:(T.setIfInBounds p v).getD t undef=T.getD t undef:=by
       simp[Array.getElem?_setIfInBounds_ne (Ne.symm e1)]
      have h2:Env.set e p (.data x) t=e t:=by simp[Env.set,e1]
      rw[h1,h2];exact h t)
   refine⟨?_,?_⟩
   . simpa only[Env.sets,List.zip_cons_cons,List.foldl_cons] using h1
   . simpa only[List.zip_cons_cons,List.foldl_cons,Array.size_setIfInBounds] using h2
 | [],_::_,_,_,_,hl,_,_,_,_=>by simp at hl
 | [],[],_::_,_,_,_,hl,_,_,_=>by simp at hl
 | _::_,[],_,_,_,hl,_,_,_,_=>by simp at hl
 | _::_,_::_,[],_,_,_,hl,_,_,_=>by simp at hl
theorem midZ_rounds (hm:P.follows .mixedOrders=true) {base:Nat} {m:Nat->MB} {s:St} {a:Act} {w:World} {fn:FuncId} {assign body:Code} {ps:Array Tmp} {rec:LoopState->Option Code->Loop} {st:Nat->St} {ys:List (List Data)} {K:Nat} {x:Exit}
 (hrec:rec=fun x pe=>{ state:=x,pending:=pe,fn,tmps:=a.tmps,params:=ps,assign,body,defers:=w.heap.size }) (hx:StopX x) (hyl:∀ y∈ys,y.length=ps.size)
 (hp:∀ p∈ps,p<s.nt) (hst:∀ k,(st k).env=(st 0).env/\(st k).lo=s.lo/\(st k).nt=s.nt)
 (hw:∀ k y,ys[k]?=some y->k<=K->wpZ P Γ 0 [] 0 assign (fun e s1 _=>e = .normal/\wpZ P Γ 0 [] 0 body (fun e s2 _=>e=(if k=K then x else .normal)/\WeakX ⟨(st k).env,s2.hp,s2.nx,(st k).lo,(st k).nt⟩ (st (k+1))) s1 0) ⟨Env.sets (st k).env ps.toList y,(st k).hp,(st k).nx,(st k).nx,(st k).nt⟩ 0) :
 RoundsZ P (w.heap.size+1) ys K fun k Li Lc W=>∃ m' w1,Betw Γ L0 base m s a w w.heap.size (if k<=K then rec .ready none else rec .done (jumpOf x)) (st k) Li Lc W m' w1:=by
 rintro n k Li Lc W y vs ⟨m',w1,hC⟩ hkK hy hyv hv hLi;rw[if_pos hkK] at hC;have hlX:Ex L0 w.heap.size Li (w.heap.size+1):=.inl (.inr (.inl rfl));have hdX:Ex L0 w.heap.size Li w.heap.size:=.inl (.inr (.inr rfl));have hyps:y.length=ps.size:=hyl y (List.mem_of_getElem? hy);have hrun:=run_yield (P:=P) (args:=vs) hC.loop (by rw[hrec];show vs.size=ps.size;omega);rw[hrec] at hrun;refine⟨fn,_,assign,body,hrun,roundIn_of_wpIn trivial ?_⟩
 have hvd:∀ (i:Nat) (x:Data) (v:Value),y[i]?=some x->vs.toList[i]?=some v->VD (Live (Ex L0 w.heap.size Li) m' (st k).hp) W x v:=fun i x v hxi hvi=>(hv i x v hxi (by simpa using hvi)).mono (Grow.less W fun b hb=>by
  rcases hb with (hb|hb)|hb
  . exact .inl ((hC.lc b).2 (.inl hb))
  . exact .inr hb
  . exact .inl ((hC.lc b).2 (.inr hb)))
 have hr0:=hC.rel.rebase;have hfold:(ps.zip vs).foldl (fun tmps (t,a)=>tmps.setIfInBounds t a) a.tmps=(ps.toList.zip vs.toList).foldl (fun T x=>T.setIfInBounds x.1 x.2) a.tmps:=by
  rw[<- Array.foldl_toList,Array.toList_zip]
 obtain⟨hset,hsize⟩:=sets_ok (L:=Live (Ex L0 w.heap.size Li) m' (st k).hp) (w:=W) (m:=m') ps.toList y vs.toList (st k).env a.tmps (by simpa using hyps) (by simp;omega) (fun p hpm=>by have:=hp p (by simpa using hpm);rw[hr0.slots,(hst k).2.2];exact this) hvd hr0.vals;rw[<- hfold] at hset hsize;have hrelR:Rel Γ (Ex L0 w.heap.size Li) ⟨W,w1.base,hC.rel.size⟩ m' ⟨Env.sets (st k).env ps.toList y,(st k).hp,(st k).nx,(st k).nx,(st k).nt⟩ { tmps:=(ps.zip vs).foldl (fun tmps (t,a)=>tmps.setIfInBounds t a) a.tmps,defers:=[] } W :=
  ⟨rfl,hset,hr0.heap,hr0.res,hr0.dead,hr0.below,hr0.l0,hr0.glob,Nat.le_refl _,hsize.trans hr0.slots⟩
 have mk:∀ (w2:W0) (mst:Nat->MB) (sst:St) (wst:World),MovesZ P Γ (Fence.wide.inRound (w.heap.size+1)) 0 [] 0 (fun _ m2 s2 a2 w3=>Rel Γ (Ex L0 w.heap.size Li) w2 m2 s2 a2 w3/\Ext (Ex L0 w.heap.size Li) mst sst wst m2 s2 w3):=fun w2 mst sst wst =>
  ⟨fun k m s a w ⟨h,he⟩=>⟨_,w2,h,fun m' s' a' w' h' he'=>⟨h',he.trans he'⟩⟩,fun n k m s a w y vs _ _ hy=>by simp at hy⟩
 refine wpIn_mono (wpZ_sound (.inr ⟨_,rfl⟩) hm (mk _ m' _ W) assign _ 0 m' _ _ W ⟨hrelR,Ext.refl _ _ _ _⟩ (hw k y hy hkK)) ?_;rintro e a1 W1 ⟨m2,s2,k2,⟨h2,x2⟩,rfl,hbody⟩;have hl2:W1.heap[w.heap.size+1]?=some (.loop (rec .ready none)):=(h2.l0 _ hlX).2.trans hC.loop;refine⟨_,run_beginRound hl2 (by rw[hrec]),?_⟩;have h2':=h2.poke (.loop { rec .ready none with state:=.busy }) hlX;refine wpIn_mono (wpZ_sound (.inr ⟨_,rfl⟩) hm (mk _ m2 s2 _) body _ 0 m2 s2 a1 _ ⟨h2',Ext.refl _ _ _ _⟩ hbody) ?_;rintro e a3 W3 ⟨m3,s3,k3,⟨h3,x3⟩,he,hweak⟩
 have hlt1:w.heap.size+1<W1.heap.size:=(Array.getElem?_eq_some_iff.1 hl2).1;have hl3:W3.heap[w.heap.size+1]?=some (.loop { rec .ready none with state:=.busy }):=(h3.l0 _ hlX).2.trans (World.putObj_heap_same hlt1);have hlt3:w.heap.size+1<W3.heap.size:=(Array.getElem?_eq_some_iff.1 hl3).1;obtain⟨R,hR⟩:∃ R,R=(if k+1<=K then rec .ready none else rec .done (jumpOf x)):=⟨_,rfl⟩;have finish:∀ (jump:Option Code),(Instr.endRound (w.heap.size+1) jump).run P W3 = .ok (.bool (!decide (k=K))) (W3.putObj (w.heap.size+1) (.loop R)) →
  ∃ v w',(Instr.endRound (w.heap.size+1) jump).run P W3 = .ok v w'/\Ending.returned v = .returned (.bool (!decide (k=K)))/\∃ Lc',(∃ m' w1,Betw Γ L0 base m s a w w.heap.size R (st (k+1)) Li Lc' w' m' w1)/\Grow Lc W Lc' w'/\∀ b,Lc' b->b<w'.heap.size:=by
  intro jump hend';refine⟨_,_,hend',rfl,?_⟩;have h4:=h3.poke (.loop R) hlX;have hX4:∀ b,Ex L0 w.heap.size Li b->b≠w.heap.size+1->(W3.putObj (w.heap.size+1) (.loop R)).heap[b]?=W.heap[b]?:=by
   intro b hb e;rw[World.putObj_heap_other e];refine (h3.l0 b hb).2.trans ?_;show (W1.putObj (w.heap.size+1) _).heap[b]?=_;rw[World.putObj_heap_other e];exact (h2.l0 b hb).2
  have gall:Grow (Live (Ex L0 w.heap.size Li) m' (st k).hp) W (Live (Ex L0 w.heap.size Li) m3 s3.hp) (W3.putObj (w.heap.size+1) (.loop R)) :=
   ((x2.grow.trans (poke_grow _ (.inl hlX))).trans x3.grow).trans (poke_grow _ (.inl hlX))
  have keepm:∀ g,g<(st k).nx->m3 g=m' g:=fun g hg=>(x3.keep g (by rw[x2.lo];exact hg)).trans (x2.keep g hg);have h5:Rel Γ (Ex L0 w.heap.size Li) _ m3 ⟨(st k).env,s3.hp,s3.nx,(st k).lo,(st k).nt⟩ a (W3.putObj (w.heap.size+1) (.loop R)) :=
   ⟨hC.rel.defers,fun t=>(hC.rel.vals t).mono gall fun g hg=>keepm g (Nat.lt_of_not_le fun hle=>hg (hC.rel.res g hle)),h4.heap,h4.res,h4.dead,h4.below,h4.l0,h4.glob,
    Nat.le_trans hC.rel.lo (by have:=h4.lo;rw[x3.lo,x2.lo] at this;exact this),hC.rel.slots⟩
  obtain⟨m5,h6,x6⟩:=weakX_rel h5 hweak;have gtot:=gall.trans x6.grow;have hbel:Below 0 W (W3.putObj (w.heap.size+1) (.loop R)) :=
   below_comp (below_comp (below_comp (below_zero h2.below) (poke_below _ _ _)) (below_zero h3.below)) (poke_below _ _ _)
  have hL0:∀ b,L0 b->b<w.heap.size->b≠w.heap.size+1:=fun b _ hb=>by omega
  have hl0lt:∀ b,L0 b->b≠w.heap.size+1:=fun b hb e=>by
   subst e;have h1:=hC.l0 _ hb;have h2:=hC.loop;rw[h1] at h2;have:=(Array.getElem?_eq_some_iff.1 h2).1;omega
  refine⟨fun b=>(L0 b \/ b=w.heap.size+1 \/ b=w.heap.size) \/ Liv m5 (st (k+1)).hp b,⟨m5,_,⟨h6,hC.base,fun b=>Iff.rfl,?_,World.putObj_heap_same hlt3,(hX4 _ hdX (by omega)).trans hC.defd,fun b hb=>(hX4 b (.inl (.inl hb)) (hl0lt b hb)).trans (hC.l0 b hb),⟨Nat.le_trans hC.grow.size gtot.size,?_⟩,hC.li,below_comp hC.below hbel⟩⟩,⟨gtot.size,?_⟩,?_⟩
  . intro g hg;have h7:g<(st k).lo:=by rw[(hst k).2.1];exact hg
    exact (x6.keep g h7).trans ((keepm g (Nat.lt_of_lt_of_le h7 hC.rel.lo)).trans (hC.keep g hg))
  . intro b hb hn;obtain⟨q3,q4⟩:=hC.grow.keep b hb hn;by_cases hx:Ex L0 w.heap.size Li b
    . exact⟨(hX4 b hx (by omega)).trans q3,fun q=>q.elim (fun q=>hn (.inl q)) fun q=>(h6.liv q).2.1 hx⟩
    . obtain⟨q1,q2⟩:=gtot.keep b (Nat.lt_of_lt_of_le hb hC.grow.size) fun q=>q.elim hx fun q=>q4 (.inr q);exact⟨q1.trans q3,fun q=>q2 (q.elim (fun q=>.inl (.inl (.inl q))) .inr)⟩
  . intro b hb hn;by_cases hx:Ex L0 w.heap.size Li b
    . refine⟨hX4 b hx fun e=>hn ((hC.lc b).2 (.inl (.inr (.inl e)))),fun q=>q.elim (fun q=>hn ((hC.lc b).2 (.inl q))) fun q=>(h6.liv q).2.1 hx⟩
    . obtain⟨q1,q2⟩:=gtot.keep b hb fun q=>q.elim hx fun q=>hn ((hC.lc b).2 (.inr q));exact⟨q1,fun q=>q2 (q.elim (fun q=>.inl (.inl q)) .inr)⟩
  . intro b hb;rcases hb with hb|hb
    . exact (h6.l0 b (.inl hb)).1
    . exact (h6.liv hb).2.2
 have hend:=fun jump=>run_endRound (P:=P) jump hl3;dsimp only;rw[<- hR];by_cases hkK2:k=K
 . have hRe:R=rec .done (jumpOf x):=by rw[hR,if_neg (by omega)]
   rw[if_pos hkK2] at he;have main:∀ c,jumpOf x=some c->(Instr.endRound (w.heap.size+1) (some c)).run P W3 = .ok (.bool (!decide (k=K))) (W3.putObj (w.heap.size+1) (.loop R)):=fun c hc=>by
    have:=hend (some c);rw[hRe,hc,hrec] at *;simpa[hkK2] using this
   rcases hx with hx|⟨id,hx⟩
   . rw[he,hx];exact finish _ (main _ (by rw[hx];rfl))
   . rw[he,hx];exact finish _ (main _ (by rw[hx];rfl))
 . have hRe:R=rec .ready none:=by rw[hR,if_pos (by omega)]
   rw[if_neg hkK2] at he;subst he;refine finish none ?_;have:=hend none;rw[hRe,hrec] at *;simpa[hkK2] using this
theorem rngZ_sound (hm:P.follows .mixedOrders=true) {n:Nat} {g:Operand} {ps:Array Tmp} {assign body:Code} {Qs:Exit->St->Prop} {m:Nat->MB} {s:St} {a:Act} {w:World} (h:Rel Γ L0 w0 m s a w) (hk:RngZ P Γ g ps assign body Qs s) :
 (Code.rangeFunc g ps assign body).wpIn Fence.wide n P (fun e a' w'=>a'={ a with defers:=[{ target:=.collected w.heap.size,args:=#[] }] }/\∃ m' s' w1,Qs e s'/\w'.heap[w.heap.size]?=some (.deferred (some []))/\w1.base=w0.base /\
   Rel Γ (fun b=>L0 b \/ b=w.heap.size) w1 m' s' a w'/\Below 0 w w'/\(∀ b,L0 b->w'.heap[b]?=w.heap[b]?)/\Grow (Live L0 m s.hp) w (Live L0 m' s'.hp) w'/\(∀ g,g<s.lo->m' g=m g)/\s'.lo=s.lo/\s'.nt=s.nt) a w:=by
 obtain⟨f,caps,ys,K,x,st,hg,hit,hx,hyl,hp,hw0,hst,hround,hK1,hK2⟩:=hk;obtain⟨m0,r0,x0⟩:=weakX_rel h hw0;have hgv:=eval_ok h.glob h.vals g;rw[hg] at hgv;have hgv:=hgv.data_inv;generalize hce:a.eval g=vg at hgv;cases hgv with
 | fn _ _ vs hl hvs =>
 refine wpIn_rangeFunc ?_;intro fn hfn;obtain⟨rec,hrec⟩:∃ rec:LoopState->Option Code->Loop,rec=fun x pe=>{ state:=x,pending:=pe,fn,tmps:=a.tmps,params:=ps,assign,body,defers:=w.heap.size }:=⟨_,rfl⟩;obtain⟨W1,hW1⟩:∃ W1,(w.alloc (.deferred (some []))).alloc (.loop (rec .ready none))=W1:=⟨_,rfl⟩;have hL1:W1.heap[w.heap.size+1]?=some (.loop (rec .ready none)):=by
  rw[<- hW1];have:=World.alloc_heap_new (w.alloc (.deferred (some []))) (.loop (rec .ready none));rwa[World.size_alloc] at this
 have hD1:W1.heap[w.heap.size]?=some (.deferred (some [])):=by
  rw[<- hW1];exact (Below.heap_alloc _ _ _ (by simp)).trans (World.alloc_heap_new w _)
 have hB1:Below w.heap.size w W1:=by
  rw[<- hW1];exact ((Below.refl _ w).alloc (Nat.le_refl _) _).alloc (by simp) _
 have hz1:W1.heap.size=w.heap.size+2:=by rw[<- hW1];simp
 refine⟨w.heap.size+1,[{ target:=.collected w.heap.size,args:=#[] }],W1,{ target:=.fn (.func f) vs,args:=#[.func (.yield (w.heap.size+1)) #[] #[]] },W1,f,
  #[.func (.yield (w.heap.size+1)) #[] #[]]++vs,W1,?_,?_,fun _ _=>trivial,?_,(fun e=>by cases e),?_⟩
 . rw[<- hW1,hrec];exact run_enterLoop_outer _ _ _ _ _
 . simp only[resolve,hce];simp[go_sem]
 . simp only[invoke];exact hit.1 _ _
 . let L:Nat->Prop:=fun b=>(L0 b \/ b=w.heap.size+1 \/ b=w.heap.size) \/ Liv m0 (st 0).hp b
   have gr0:Grow L0 w (Ex L0 w.heap.size fun _=>False) W1:=⟨by omega,fun b hb hn=>⟨hB1.block b hb,fun q=>by
    rcases q with (q|q|q)|q
    . exact hn q
    . omega
    . omega
    . exact q⟩⟩
   have grL:Grow (Live L0 m0 (st 0).hp) w L W1:=⟨by omega,fun b hb hn=>⟨hB1.block b hb,fun q=>by
    rcases q with (q|q|q)|q
    . exact hn (.inl q)
    . omega
    . omega
    . exact hn (.inr q)⟩⟩
   have r1:=r0.after gr0 (fun b hb=>by
    rcases hb with (q|q|q)|q
    . have:=(h.l0 b q).1;omega
    . omega
    . omega
    . exact q.elim)
   refine (hit.2 K (n-1) (w.heap.size+1) L W1 vs (fun k Li Lc W=>∃ m' w1,Betw Γ L0 w0.base m s a w w.heap.size (if k<=K then rec .ready none else rec .done (jumpOf x)) (st k) Li Lc W m' w1) (r0.glob.mono grL) ?_ hl (fun i x v hx hv=>((hvs i x v hx hv).mono x0.grow).mono grL) ?_ (midZ_rounds hm hrec hx hyl hp hst hround) ?_).mono ?_
   . intro b hb;rcases hb with (q|q|q)|q
     . have:=(h.l0 b q).1;omega
     . omega
     . omega
     . have:=(r0.liv q).2.2;omega
   . intro k Li Lc W Li' W' hC;exact mid_stable (rec:=if k<=K then rec .ready none else rec .done (jumpOf x)) k Li Lc W Li' W' hC
   . rw[if_pos (Nat.zero_le _)];exact⟨m0,_,⟨r1,rfl,fun b=>Iff.rfl,x0.keep,hL1,hD1,fun b hb=>hB1.block b (h.l0 b hb).1,⟨by omega,fun b hb hn=>by
      obtain⟨q1,q2⟩:=x0.grow.keep b hb hn;exact⟨(hB1.block b hb),q2⟩⟩,fun b q=>q.elim,below_zero hB1⟩⟩
   . rintro e W2 ⟨⟨v,rfl⟩,Li,Lc,m',w1,hC⟩;have hlt:w.heap.size+1<W2.heap.size:=(Array.getElem?_eq_some_iff.1 hC.loop).1;obtain⟨R,hR⟩:∃ R,R=(if min ys.length (K+1)<=K then rec .ready none else rec .done (jumpOf x)):=⟨_,rfl⟩;rw[<- hR] at hC;have hnb:R.state≠.busy:=by rw[hR,hrec];split<;>simp
     have ho:=run_endLoop (P:=P) hC.loop hnb;refine⟨_,_,ho,?_⟩;have hne:w.heap.size≠w.heap.size+1:=by omega
     have fin:∀ (o:Obj) e,Qs e (st (min ys.length (K+1)))->({ a with defers:=[{ target:=.collected w.heap.size,args:=#[] }]++a.defers }:Act)={ a with defers:=[{ target:=.collected w.heap.size,args:=#[] }] }/\∃ m' s' w1,Qs e s'/\(W2.putObj (w.heap.size+1) o).heap[w.heap.size]?=some (.deferred (some []))/\w1.base=w0.base /\
      Rel Γ (fun b=>L0 b \/ b=w.heap.size) w1 m' s' a (W2.putObj (w.heap.size+1) o)/\Below 0 w (W2.putObj (w.heap.size+1) o)/\(∀ b,L0 b->(W2.putObj (w.heap.size+1) o).heap[b]?=w.heap[b]?)/\Grow (Live L0 m s.hp) w (Live L0 m' s'.hp) (W2.putObj (w.heap.size+1) o)/\(∀ g,g<s.lo->m' g=m g)/\s'.lo=s.lo/\s'.nt=s.nt:=fun o e hq=>by
      have r2:=hC.rel.poke o (.inl (.inr (.inl rfl)));refine⟨by simp[h.defers],m',st (min ys.length (K+1)),⟨W2.putObj (w.heap.size+1) o,w1.base,by simpa using hC.rel.size⟩,hq,(World.putObj_heap_other hne).trans hC.defd,hC.base,r2.back (fun b hb=>?_) rfl (Below.refl _ _) (fun b _=>rfl),below_comp hC.below (poke_below _ _ _),fun b hb=>?_,⟨by have:=hC.grow.size;simpa using this,fun b hb hn=>⟨?_,(hC.grow.keep b hb hn).2⟩⟩,hC.keep,(hst _).2.1,(hst _).2.2⟩
      . exact .inl (hb.elim .inl fun q=>.inr (.inr q))
      . have:=(h.l0 b hb).1;exact (World.putObj_heap_other (by omega)).trans (hC.l0 b hb)
      . exact (World.putObj_heap_other (by omega)).trans (hC.grow.keep b hb hn).1
     by_cases hlast:ys.length<=K
     . have e1:min ys.length (K+1)=ys.length:=by omega
       have hp0:R.pending=none:=by rw[hR,if_pos (by omega),hrec]
       rw[hp0];exact fin _ _ (by rw[e1];exact hK2 hlast)
     . have e1:min ys.length (K+1)=K+1:=by omega
       have hp0:R.pending=jumpOf x:=by rw[hR,if_neg (by omega),hrec]
       rw[hp0];have hq:=hK1 (by omega);rw[<- e1] at hq;rcases hx with hx|⟨id,hx⟩
       . subst hx;exact wpIn_ret (fin _ _ hq)
       . subst hx;exact wpIn_exit (fin _ _ hq)
end
def thenG (next:St->Bool->Prop) (Q:Exit->St->Bool->Prop):Exit->St->Bool->Prop
 | .normal,s,b=>next s b
 | e,s,b=>Q e s b
def blockG (id:Nat) (Q:Exit->St->Bool->Prop):Exit->St->Bool->Prop
 | .exit i,s,b=>if i=id then Q .normal s b else Q (.exit i) s b
 | e,s,b=>Q e s b
section
variable (P:Program) (Γ:Nat->Option (List Data))
def regG (i:Nat) (ops:Array Oper) (draw:Bool) (Q:Exit->St->Bool->Prop) (s:St):Bool->Prop
 | true=>ifW draw False (opsW P Γ ops ops.toList s (fun s'=>Q .normal s' true))
 | false=>wpF P Γ (.region i ops draw) (fun e s'=>Q e s' false) s
def RngX (g:Operand) (ps:Array Tmp) (assign body:Code) (Q:Exit->St->Bool->Prop) (s:St):Prop :=
 RngW P Γ g ps assign body (fun s'=>Q .normal s' true) s \/ RngZ P Γ g ps assign body (fun e s'=>Q e s' true) s
def wpG:Code->(Exit->St->Bool->Prop)->St->Bool->Prop
 | .skip,Q,s,b=>Q .normal s b
 | .region i ops draw,Q,s,b=>regG P Γ i ops draw Q s b
 | .loop c,Q,s,b=>b=false/\wpF P Γ (.loop c) (fun e s'=>Q e s' false) s
 | .seq x y,Q,s,b=>wpG x (thenG (wpG y Q) Q) s b
 | .cond c x y,Q,s,b=>(match evalD Γ s.env c with
   | .data (.bool t)=>ifW t (wpG x Q s b) (wpG y Q s b)
   | _=>False)
 | .block id c,Q,s,b=>wpG c (blockG id Q) s b
 | .rangeFunc g ps assign body,Q,s,b=>b=false/\RngX P Γ g ps assign body Q s
 | .exit id,Q,s,b=>Q (.exit id) s b
 | .ret,Q,s,b=>Q .ret s b
 | _,_,_,_=>False
def retG (fn:Func) (r:Data):Exit->St->Bool->Prop
 | .normal,s,_ | .ret,s,_=>resK P fn.results.toList s fun ds=>∃ xs,FrzL true s.hp ds xs/\r=tupD xs
 | _,_,_=>False
end
def RG (Γ:Nat->Option (List Data)) (L:Nat->Prop) (wst:World) (m:Nat->MB) (s:St) (a:Act) (W:World):Bool->Prop
 | false=>Rel Γ L (W0.of wst) m s a W
 | true=>∃ D w1,wst.heap.size<=D/\W.heap[D]?=some (.deferred (some []))/\a.defers=[{ target:=.collected D,args:=#[] }]/\w1.base=wst.heap.size/\Rel Γ (fun b=>L b \/ b=D) w1 m s { a with defers:=[] } W/\Below wst.heap.size wst W
section
variable {P:Program} {Γ:Nat->Option (List Data)} {L:Nat->Prop} {wst:World}
theorem RG.eval {m:Nat->MB} {s:St} {a:Act} {W:World} {b:Bool} (h:RG Γ L wst m s a W b) (x:Operand):∃ L1,VV (Live L1 m s.hp) W m (evalD Γ s.env x) (a.eval x):=by
 cases b with
 | false=>exact⟨L,eval_ok (Rel.glob h) (Rel.vals h) x⟩
 | true =>
   obtain⟨D,w1,_,_,_,_,h,_⟩:=h;have:=eval_ok h.glob h.vals x;have e:({ a with defers:=[] }:Act).eval x=a.eval x:=by cases x<;>rfl
   rw[e] at this;exact⟨_,this⟩
def LiftG (Γ:Nat->Option (List Data)) (L:Nat->Prop) (wst:World) (Q:Exit->St->Bool->Prop) (e:Exit) (a':Act) (w':World):Prop:=∃ m' s' b',RG Γ L wst m' s' a' w' b'/\Q e s' b'
theorem wpG_sound (hm:P.follows .mixedOrders=true) {n:Nat}:∀ (c:Code) (Q:Exit->St->Bool->Prop) (b:Bool) (m:Nat->MB) (s:St) (a:Act) (W:World),RG Γ L wst m s a W b->wpG P Γ c Q s b->c.wpIn Fence.wide n P (LiftG Γ L wst Q) a W
 | .skip,Q,b,m,s,a,W,h,hk=>wpIn_skip ⟨m,s,b,h,hk⟩
 | .exit id,Q,b,m,s,a,W,h,hk=>wpIn_exit ⟨m,s,b,h,hk⟩
 | .ret,Q,b,m,s,a,W,h,hk=>wpIn_ret ⟨m,s,b,h,hk⟩
 | .region i ops draw,Q,b,m,s,a,W,h,hk=>by
   cases b with
   | false =>
     have hk:wpF P Γ (.region i ops draw) (fun e s'=>Q e s' false) s:=hk;exact wpIn_wide.2 (wp_mono (wp_sound hm (.region i ops draw) _ m s a W h hk) fun e a' w' ⟨m',s',h1,_,h3⟩=>⟨m',s',false,h1,h3⟩)
   | true =>
     cases draw with
     | true=>exact hk.elim
     | false =>
       obtain⟨D,w1,hD,hDw,had,hb,h,hbel⟩:=h;have e:a=shA [{ target:=.collected D,args:=#[] }] { a with defers:=[] }:=by
        obtain⟨T,d⟩:=a;subst had;rfl
       rw[e];refine wpIn_wide.2 (wp_region_list (wpList_shift _ _ _ (ops_sound ops.toList m s _ W h hk fun m' s' a' w' h1 x1 h2=>?_)));have had':a'.defers=[]:=h1.defers;refine⟨m',s',true,⟨D,w1,hD,((h1.l0 D (.inr rfl)).2.trans (h.l0 D (.inr rfl)).2.symm).trans hDw,by simp[shA,had'],hb,?_,?_⟩,h2⟩
       . have e2:({ shA [{ target:=.collected D,args:=#[] }] a' with defers:=[] }:Act)=a':=by
          obtain⟨T,d⟩:=a';subst had';rfl
         rw[e2];exact h1
       . exact⟨(h1.below.os.trans h.below.os.symm).trans hbel.os,(h1.below.tape.trans h.below.tape.symm).trans hbel.tape,(h1.below.output.trans h.below.output.symm).trans hbel.output,Nat.le_trans hbel.size x1.grow.size,
          fun k hk=>((h1.below.block k (by omega)).trans (h.below.block k (by omega)).symm).trans (hbel.block k hk)⟩
 | .loop c,Q,b,m,s,a,W,h,hk=>by
   obtain⟨rfl,hk⟩:=hk;exact wpIn_wide.2 (wp_mono (wp_sound hm (.loop c) _ m s a W h hk) fun e a' w' ⟨m',s',h1,_,h3⟩=>⟨m',s',false,h1,h3⟩)
 | .seq x y,Q,b,m,s,a,W,h,hk=>by
   refine wpIn_seq (wpIn_mono (wpG_sound hm x _ b m s a W h hk) fun e a' w' ⟨m',s',b',h1,h2⟩=>?_);cases e with
   | normal=>exact wpG_sound hm y Q b' m' s' a' w' h1 h2
   | exit id=>exact⟨m',s',b',h1,h2⟩
   | goto l=>exact⟨m',s',b',h1,h2⟩
   | ret=>exact⟨m',s',b',h1,h2⟩
   | panic ch=>exact⟨m',s',b',h1,h2⟩
   | outgrown=>exact⟨m',s',b',h1,h2⟩
 | .cond c x y,Q,b,m,s,a,W,h,hk=>by
   simp only[wpG] at hk;split at hk
   . rename_i t hc;obtain⟨L1,hcv⟩:=h.eval c;rw[hc] at hcv;have:=hcv.data_inv;generalize hce:a.eval c=vc at this;cases this;refine wpIn_cond hce ?_;cases t with
     | true=>exact wpG_sound hm x Q b m s a W h hk
     | false=>exact wpG_sound hm y Q b m s a W h hk
   . exact hk.elim
 | .block id c,Q,b,m,s,a,W,h,hk=>by
   refine wpIn_block (wpIn_mono (wpG_sound hm c _ b m s a W h hk) fun e a' w' ⟨m',s',b',h1,h2⟩=>?_);cases e with
   | exit i =>
     simp only[Exit.inBlock,blockG] at h2 ⊢;split at h2
     . rename_i e;rw[if_pos e];exact⟨m',s',b',h1,h2⟩
     . rename_i e;rw[if_neg e];exact⟨m',s',b',h1,h2⟩
   | normal=>exact⟨m',s',b',h1,h2⟩
   | goto l=>exact⟨m',s',b',h1,h2⟩
   | ret=>exact⟨m',s',b',h1,h2⟩
   | panic ch=>exact⟨m',s',b',h1,h2⟩
   | outgrown=>exact⟨m',s',b',h1,h2⟩
 | .rangeFunc g ps assign body,Q,b,m,s,a,W,h,hk=>by
   obtain⟨rfl,hk⟩:=hk;have h:Rel Γ L (W0.of wst) m s a W:=h;have fin:∀ e a' w',(a'={ a with defers:=[{ target:=.collected W.heap.size,args:=#[] }] }/\∃ m' s' w1,Q e s' true/\w'.heap[W.heap.size]?=some (.deferred (some []))/\w1.base=(W0.of wst).base /\
    Rel Γ (fun b=>L b \/ b=W.heap.size) w1 m' s' a w'/\Below 0 W w'/\(∀ b,L b->w'.heap[b]?=W.heap[b]?)/\Grow (Live L m s.hp) W (Live L m' s'.hp) w'/\(∀ g,g<s.lo->m' g=m g)/\s'.lo=s.lo/\s'.nt=s.nt)->LiftG Γ L wst Q e a' w':=by
    rintro e a' w' ⟨rfl,m',s',w1,hK,k1,k2,k3,k4,k5,k6,k7,k8,k9⟩;refine⟨m',s',true,⟨W.heap.size,w1,h.below.size,k1,rfl,k2,?_,?_⟩,hK⟩
    . have had:a.defers=[]:=h.defers;have e2:({ ({ a with defers:=[{ target:=.collected W.heap.size,args:=#[] }] }:Act) with defers:=[] }:Act)=a:=by
       obtain⟨T,d⟩:=a;subst had;rfl
      rw[e2];exact k3
    . refine⟨k4.os.trans h.below.os,k4.tape.trans h.below.tape,k4.output.trans h.below.output,Nat.le_trans h.below.size k4.size,fun k hk=>?_⟩;have hlt:k<W.heap.size:=Nat.lt_of_lt_of_le hk h.below.size;have hsame:w'.heap[k]?=W.heap[k]?:=by
       by_cases hl:L k
       . exact k5 k hl
       . exact (k6.keep k hlt fun q=>q.elim hl fun q=>by
          have:=(h.liv q).1;have:wst.heap.size<=k:=this;omega).1
      exact hsame.trans (h.below.block k hk)
   rcases hk with hk|hk
   . refine wpIn_mono (rng_sound h hk) ?_;rintro e a' w' ⟨rfl,h1⟩;exact fin _ _ _ h1
   . exact wpIn_mono (rngZ_sound hm h hk) fin
 | .label _,Q,b,m,s,a,W,h,hk=>hk.elim
 | .scope _,Q,b,m,s,a,W,h,hk=>hk.elim
 | .goto _,Q,b,m,s,a,W,h,hk=>hk.elim
 | .refuse _,Q,b,m,s,a,W,h,hk=>hk.elim
theorem ret_key {fn:Func} {m':Nat->MB} {s':St} {a':Act} {w w':World} {r:Data} (hL:∀ b,L b->b<w.heap.size) (h1:Rel Γ L (W0.of w) m' s' a' w') (hk:resK P fn.results.toList s' fun ds=>∃ xs,FrzL true s'.hp ds xs/\r=tupD xs) :
 ∃ v,(results fn a'.tmps).run P w' = .ok v w'/\∃ v',Ending.returned v = .returned v'/\VD L w' r v'/\Below w.heap.size w w':=by
 obtain⟨ds,us,⟨ys,⟨hyl,hyf⟩,hr⟩,k1,k2,k3⟩:=res_ok h1 _ _ hk;subst hr;refine⟨_,results_run k3,_,rfl,?_,h1.below⟩;have each:∀ (i:Nat) (y:Data) (u:Value),ys[i]?=some y->us[i]?=some u->VD L w' y u:=fun i y u hy hu=>by
  have hi:i<ds.length:=by rw[hyl];exact (List.getElem?_eq_some_iff.1 hy).1
  refine (hyf i _ y (List.getElem?_eq_getElem hi) hy).vd (m:=m') (L:=Live L m' s'.hp) (fun b hb=>.inl hb) (fun g rw cells b sz hg _ hm=>?_) (fun g rw cells hg hm=>?_) (fun _ g o b hg hm=>?_) (k2 i _ u (List.getElem?_eq_getElem hi) hu);rotate_left 2
  . obtain⟨b',v',q1,q2,q3,q4⟩:=h1.heap.obj g o hg;rw[q1] at hm;cases hm;exact⟨h1.wr.ltO hg q1,fun hb=>by have:=hL b hb;have:w.heap.size<=_:=q2.1;omega,v',q3,q4⟩
  . obtain⟨vs,ty,e1,e2,e3,_,e5⟩:=at_of h1.wr hg hm;have hbase:w.heap.size<=b:=by
     rcases h1.heap.blk g rw cells hg with⟨q,_⟩|⟨b',sz',_,_,q1,q2,_⟩
     . rw[q] at hm;cases hm
     . rw[q1] at hm;cases hm;exact q2.1
    exact⟨h1.wr.lt hg hm,fun hb=>by have:=hL b hb;omega,vs,ty,e1,fun i d hd=>by obtain⟨v,a1,_,a3⟩:=e5 i d hd;exact⟨v,a1,a3⟩⟩
  . rcases h1.heap.blk g rw cells hg with⟨_,q⟩|⟨_,_,_,_,q,_⟩
    . exact q
    . rw[hm] at q;cases q
 have hly:ys.length=us.length:=by omega
 match ys,us,hly,each with
 | [],[],_,_=>exact .tup [] #[] rfl (fun i x v hx=>by simp at hx)
 | [y],[u],_,each=>exact each 0 y u rfl rfl
 | y::y2::ys,u::u2::us,hly,each=>exact .tup _ _ (by simp at hly ⊢;omega) (fun i x v hx hv=>each i x v hx (by simpa using hv))
 | [],u::us,hly,_=>simp at hly
 | [y],[],hly,_=>simp at hly
 | [y],u::u2::us,hly,_=>simp at hly
 | y::y2::ys,[],hly,_=>simp at hly
 | y::y2::ys,[u],hly,_=>simp at hly
theorem pc_rng (hm:P.follows .mixedOrders=true) {f:FuncId} {fn:Func} {c:Code} {xs:List Data} {r:Data} (hf:P.funcs[f]?=some fn) (hb:fn.body=some c) (hc:CallOk P f)
 (h:startK (xs.map toD) (xs.length+(fn.ntmps-xs.length)) fun ds n=>wpG P Γ c (retG P fn r) ⟨envArgs ds,fun _=>.dead,0,0,n⟩ false):PC P Γ f xs r:=by
 refine⟨hc,fun L w vs hg hL hl hv=>(callsIn_wide (n:=0)).1 (callsIn_of_wp_marks hf hb trivial ?_)⟩;have hlive:∀ b,Live L (fun _=>.res) (fun _=>Blk.dead) b ↔ L b:=fun b=>⟨(fun h=>by
  rcases h with h|⟨g,sz,hg,_⟩
  . exact h
  . cases hg),.inl⟩
 have hrel:Rel Γ L (W0.of w) (fun _=>.res) ⟨envArgs (xs.map toD),fun _=>.dead,0,0,xs.length+(fn.ntmps-xs.length)⟩ { tmps:=vs++Array.replicate (fn.ntmps-vs.size) undef,defers:=[] } w:=by
  refine⟨rfl,fun t=>?_,⟨(fun g rw cells hg=>by cases hg),(fun g g' cells rw' cells' b sz sz' hg=>by cases hg),(fun g o hg=>by cases hg),(fun g g' o o' b sz sz' hg=>by cases hg)⟩,fun _ _=>rfl,fun _ _=>rfl,Below.refl _ _,(fun b hb=>⟨hL b hb,rfl⟩),hg.mono (Grow.less w fun b hb=>(hlive b).1 hb),Nat.le_refl _,by simp[hl]⟩;refine args_env (by simpa using hl) (fun i d v hd hvi=>?_) t;rw[List.getElem?_map,Option.map_eq_some_iff] at hd;obtain⟨x,hx,rfl⟩:=hd;exact toD_ok ((hv i x v hx hvi).mono (Grow.less w fun b hb=>(hlive b).1 hb))
 refine wpIn_mono (wpG_sound (L:=L) (wst:=w) hm c _ false _ _ _ w hrel h) fun e a' w' ⟨m',s',b',h1,h3⟩=>?_;have key:(resK P fn.results.toList s' fun ds=>∃ xs,FrzL true s'.hp ds xs/\r=tupD xs)->LeavesInM Fence.wide 0 P fn a'.tmps (fun e w'=>∃ v,e = .returned v/\VD L w' r v/\Below w.heap.size w w') a'.defers .returning w':=by
  intro hk;cases b' with
  | false =>
    have h1:Rel Γ L (W0.of w) m' s' a' w':=h1;have had:a'.defers=[]:=h1.defers;rw[had];exact ret_key hL h1 hk
  | true =>
    obtain⟨D,w1,hD,hDw,had,hb1,h1,hbel⟩:=h1;rw[had];refine⟨by simp,.inl ⟨D,_,rfl,run_takeDeferred hDw,?_⟩⟩;have r2:=h1.poke (.deferred none) (.inr rfl);have hbel2:Below w.heap.size w (w'.putObj D (.deferred none)):=⟨hbel.os,hbel.tape,hbel.output,by simpa using hbel.size,fun k hk=>(World.putObj_heap_other (by omega)).trans (hbel.block k hk)⟩;exact ret_key (a':={ a' with defers:=[] }) hL (r2.back (fun b hb=>.inl hb) hb1 hbel2 fun b hb=>hbel2.block b (hL b hb)) hk
 cases e with
 | normal=>exact key h3
 | ret=>exact key h3
 | _=>exact h3.elim
end
def yldK (d:D) (l:Nat) (ds:List D) (ys:List Data) (k:Nat) (K:Prop):Prop:=match d with
 | .yld l'=>l'=l/\(match ds with
   | [.data y]=>ys[k]?=some y/\K
   | _=>False)
 | _=>False
@[congr] theorem yldK_congr {n0:Nat} (tk:tick=n0) {d d':D} (h:d=d') (l:Nat) {ds ds':List D} (h2:ds=ds') (ys:List Data) {k k':Nat} (h3:k=k') (K:Prop):yldK d l ds ys k K=yldK d' l ds' ys k' K:=by rw[h,h2,h3]
@[go_sem] theorem yldK_data (x:Data) (l:Nat) (ds:List D) (ys:List Data) (k:Nat) (K:Prop):yldK (.data x) l ds ys k K=False:=rfl
@[go_sem] theorem yldK_fn (f:FuncId) (c:List D) (l:Nat) (ds:List D) (ys:List Data) (k:Nat) (K:Prop):yldK (.fn f c) l ds ys k K=False:=rfl
@[go_sem] theorem fn_cells (f:FuncId) (c:List Data):Data.cells (.fn f c)=[.fn f c]:=rfl
@[go_sem] theorem fnD_yld (l:Nat):fnD (.yld l)=none:=rfl
section
variable (P:Program) (Γ:Nat->Option (List Data)) (l:Nat) (ys:List Data)
@[congr] theorem yieldK_congr {n0:Nat} (tk:tick=n0) (o:Oper) (e:Nat->D) (k:Nat) (K:Prop):yieldK Γ l ys o e k K=yieldK Γ l ys o e k K:=rfl
@[go_sem] theorem wpY_skip (Q:Exit->St->Nat->Prop) (s:St) (k:Nat):wpY P Γ l ys .skip Q s k=Q .normal s k:=rfl
@[go_sem] theorem wpY_row (i:Nat) (ops:List Oper) (Q:Exit->St->Nat->Prop) (s:St) (k:Nat):wpY P Γ l ys (.region i ops.toArray false) Q s k=opsY P Γ l ys ops.toArray ops s k (Q .normal):=rfl
@[go_sem] theorem wpY_seq (x y:Code) (Q:Exit->St->Nat->Prop) (s:St) (k:Nat):wpY P Γ l ys (.seq x y) Q s k=wpY P Γ l ys x (thenY (wpY P Γ l ys y Q) Q) s k:=rfl
@[go_sem] theorem wpY_cond (c:Operand) (x y:Code) (Q:Exit->St->Nat->Prop) (s:St) (k:Nat):wpY P Γ l ys (.cond c x y) Q s k=condK (evalD Γ s.env c) (wpY P Γ l ys x Q s k) (wpY P Γ l ys y Q s k):=rfl
@[go_sem] theorem wpY_block (id:Nat) (b:Code) (Q:Exit->St->Nat->Prop) (s:St) (k:Nat):wpY P Γ l ys (.block id b) Q s k=wpY P Γ l ys b (blockY id Q) s k:=rfl
@[go_sem] theorem wpY_loop (b:Code) (Q:Exit->St->Nat->Prop) (s:St) (k:Nat):wpY P Γ l ys (.loop b) Q s k=LoopY (wpY P Γ l ys b) Q s k:=rfl
@[go_sem] theorem wpY_exit (id:Nat) (Q:Exit->St->Nat->Prop) (s:St) (k:Nat):wpY P Γ l ys (.exit id) Q s k=Q (.exit id) s k:=rfl
@[go_sem] theorem wpY_ret (Q:Exit->St->Nat->Prop) (s:St) (k:Nat):wpY P Γ l ys .ret Q s k=Q .ret s k:=rfl
@[go_sem] theorem thenY_normal (n:St->Nat->Prop) (Q:Exit->St->Nat->Prop) (s:St) (k:Nat):thenY n Q .normal s k=n s k:=rfl
@[go_sem] theorem thenY_exit (n:St->Nat->Prop) (Q:Exit->St->Nat->Prop) (s:St) (k id:Nat):thenY n Q (.exit id) s k=Q (.exit id) s k:=rfl
@[go_sem] theorem thenY_ret (n:St->Nat->Prop) (Q:Exit->St->Nat->Prop) (s:St) (k:Nat):thenY n Q .ret s k=Q .ret s k:=rfl
@[go_sem] theorem blockY_normal (id:Nat) (Q:Exit->St->Nat->Prop) (s:St) (k:Nat):blockY id Q .normal s k=Q .normal s k:=rfl
@[go_sem] theorem blockY_exit (id i:Nat) (Q:Exit->St->Nat->Prop) (s:St) (k:Nat):blockY id Q (.exit i) s k=ifW (decide (i=id)) (Q .normal s k) (Q (.exit i) s k):=by
 by_cases h:i=id<;>simp[blockY,ifW,h]
@[go_sem] theorem blockY_ret (id:Nat) (Q:Exit->St->Nat->Prop) (s:St) (k:Nat):blockY id Q .ret s k=Q .ret s k:=rfl
@[go_sem] theorem endY_normal (n:Nat) (s:St) (k:Nat):endY n .normal s k=(k=n):=rfl
@[go_sem] theorem endY_ret (n:Nat) (s:St) (k:Nat):endY n .ret s k=(k=n):=rfl
@[congr] theorem thenY_congr {n0:Nat} (tk:tick=n0) (n:St->Nat->Prop) (Q:Exit->St->Nat->Prop) (x:Exit) (s:St) (k:Nat):thenY n Q x s k=thenY n Q x s k:=rfl
@[congr] theorem blockY_congr {n0:Nat} (tk:tick=n0) (id:Nat) (Q:Exit->St->Nat->Prop) (x:Exit) (s:St) (k:Nat):blockY id Q x s k=blockY id Q x s k:=rfl
@[congr] theorem wpY_congr {n0:Nat} (tk:tick=n0) (c:Code) (Q:Exit->St->Nat->Prop) (s:St) (k:Nat):wpY P Γ l ys c Q s k=wpY P Γ l ys c Q s k:=rfl
@[congr] theorem opsY_congr {n0:Nat} (tk:tick=n0) (ops:Array Oper) (ls:List Oper) (s:St) (k:Nat) (Q:St->Nat->Prop):opsY P Γ l ys ops ls s k Q=opsY P Γ l ys ops ls s k Q:=rfl
@[congr] theorem LoopY_congr {n0:Nat} (tk:tick=n0) (body:(Exit->St->Nat->Prop)->St->Nat->Prop) (Q:Exit->St->Nat->Prop) {s s':St} (h:s=s') {k k':Nat} (h2:k=k'):LoopY body Q s k=LoopY body Q s' k':=by rw[h,h2]
@[go_sem] theorem opsY_nil (ops:Array Oper) (s:St) (k:Nat) (Q:St->Nat->Prop):opsY P Γ l ys ops [] s k Q=Q s k:=rfl
@[go_sem] theorem wpG_skip (Q:Exit->St->Bool->Prop) (s:St) (b:Bool):wpG P Γ .skip Q s b=Q .normal s b:=rfl
@[go_sem] theorem wpG_before (i:Nat) (ops:Array Oper) (draw:Bool) (Q:Exit->St->Bool->Prop) (s:St):wpG P Γ (.region i ops draw) Q s false=wpF P Γ (.region i ops draw) (fun e s'=>Q e s' false) s:=rfl
@[go_sem] theorem wpG_behind (i:Nat) (ops:List Oper) (Q:Exit->St->Bool->Prop) (s:St):wpG P Γ (.region i ops.toArray false) Q s true=opsW P Γ ops.toArray ops s (fun s'=>Q .normal s' true):=rfl
@[go_sem] theorem wpG_seq (x y:Code) (Q:Exit->St->Bool->Prop) (s:St) (b:Bool):wpG P Γ (.seq x y) Q s b=wpG P Γ x (thenG (wpG P Γ y Q) Q) s b:=rfl
@[go_sem] theorem wpG_cond (c:Operand) (x y:Code) (Q:Exit->St->Bool->Prop) (s:St) (b:Bool):wpG P Γ (.cond c x y) Q s b=condK (evalD Γ s.env c) (wpG P Γ x Q s b) (wpG P Γ y Q s b):=rfl
@[go_sem] theorem wpG_block (id:Nat) (c:Code) (Q:Exit->St->Bool->Prop) (s:St) (b:Bool):wpG P Γ (.block id c) Q s b=wpG P Γ c (blockG id Q) s b:=rfl
@[go_sem] theorem wpG_rng (g:Operand) (ps:Array Tmp) (assign body:Code) (Q:Exit->St->Bool->Prop) (s:St):wpG P Γ (.rangeFunc g ps assign body) Q s false=RngX P Γ g ps assign body Q s:=by simp[wpG]
@[go_sem] theorem wpG_exit (id:Nat) (Q:Exit->St->Bool->Prop) (s:St) (b:Bool):wpG P Γ (.exit id) Q s b=Q (.exit id) s b:=rfl
@[go_sem] theorem wpG_ret (Q:Exit->St->Bool->Prop) (s:St) (b:Bool):wpG P Γ .ret Q s b=Q .ret s b:=rfl
@[go_sem] theorem thenG_normal (n:St->Bool->Prop) (Q:Exit->St->Bool->Prop) (s:St) (b:Bool):thenG n Q .normal s b=n s b:=rfl
@[go_sem] theorem thenG_exit (n:St->Bool->Prop) (Q:Exit->St->Bool->Prop) (s:St) (b:Bool) (id:Nat):thenG n Q (.exit id) s b=Q (.exit id) s b:=rfl
@[go_sem] theorem thenG_ret (n:St->Bool->Prop) (Q:Exit->St->Bool->Prop) (s:St) (b:Bool):thenG n Q .ret s b=Q .ret s b:=rfl
@[go_sem] theorem blockG_normal (id:Nat) (Q:Exit->St->Bool->Prop) (s:St) (b:Bool):blockG id Q .normal s b=Q .normal s b:=rfl
@[go_sem] theorem blockG_ret (id:Nat) (Q:Exit->St->Bool->Prop) (s:St) (b:Bool):blockG id Q .ret s b=Q .ret s b:=rfl
@[go_sem] theorem retG_ret (fn:Func) (r:Data) (s:St) (b:Bool):retG P fn r .ret s b=resK P fn.results.toList s fun ds=>∃ xs,FrzL true s.hp ds xs/\r=tupD xs:=rfl
@[go_sem] theorem retG_normal (fn:Func) (r:Data) (s:St) (b:Bool):retG P fn r .normal s b=resK P fn.results.toList s fun ds=>∃ xs,FrzL true s.hp ds xs/\r=tupD xs:=rfl
@[congr] theorem thenG_congr {n0:Nat} (tk:tick=n0) (n:St->Bool->Prop) (Q:Exit->St->Bool->Prop) (x:Exit) (s:St) (b:Bool):thenG n Q x s b=thenG n Q x s b:=rfl
@[congr] theorem blockG_congr {n0:Nat} (tk:tick=n0) (id:Nat) (Q:Exit->St->Bool->Prop) (x:Exit) (s:St) (b:Bool):blockG id Q x s b=blockG id Q x s b:=rfl
@[congr] theorem wpG_congr {n0:Nat} (tk:tick=n0) (c:Code) (Q:Exit->St->Bool->Prop) (s:St) (b:Bool):wpG P Γ c Q s b=wpG P Γ c Q s b:=rfl
@[congr] theorem retG_congr {n0:Nat} (tk:tick=n0) (fn:Func) (r:Data) (x:Exit) (s:St) (b:Bool):retG P fn r x s b=retG P fn r x s b:=rfl
@[congr] theorem RngX_congr {n0:Nat} (tk:tick=n0) (g:Operand) (ps:Array Tmp) (assign body:Code) (Q:Exit->St->Bool->Prop) {s s':St} (h:s=s'):RngX P Γ g ps assign body Q s=RngX P Γ g ps assign body Q s':=by rw[h]
@[congr] theorem RngW_congr {n0:Nat} (tk:tick=n0) (g:Operand) (ps:Array Tmp) (assign body:Code) (K:St->Prop) {s s':St} (h:s=s'):RngW P Γ g ps assign body K s=RngW P Γ g ps assign body K s':=by rw[h]
end
def NextY {σ:Type} (st:σ->St) (κ μ:σ->Nat) (x:σ) (s:St) (k:Nat):Prop:=∃ y,WeakX s (st y)/\κ y=k/\μ y<μ x
@[congr] theorem NextY_congr {n0:Nat} (tk:tick=n0) {σ:Type} (st:σ->St) (κ μ:σ->Nat) (x:σ) (s:St) (k:Nat):NextY st κ μ x s k=NextY st κ μ x s k:=rfl
theorem nextY_ren {σ:Type} {st:σ->St} {κ μ:σ->Nat} {x:σ} {s:St} {k:Nat} (y:σ) (hk:κ y=k) (hm:μ y<μ x) (F:List Nat) (ρ:Nat->Option Nat) (h:WeakR F ρ s (st y)):NextY st κ μ x s k:=⟨y,.inr ⟨F,ρ,h⟩,hk,hm⟩
theorem loopY_ren {body:(Exit->St->Nat->Prop)->St->Nat->Prop} {Q:Exit->St->Nat->Prop} {s:St} {k:Nat} {σ:Type} (st:σ->St) (κ μ:σ->Nat) (x0:σ) (hk:κ x0=k) (F:List Nat) (ρ:Nat->Option Nat) (h0:WeakR F ρ s (st x0)) (h:∀ x,body (thenY (NextY st κ μ x) Q) (st x) (κ x)):LoopY body Q s k :=
 ⟨σ,st,κ,μ,x0,.inr ⟨F,ρ,h0⟩,hk,h⟩
def RoundW (st:Nat->St) (k:Nat) (s:St):Prop:=WeakX ⟨(st k).env,s.hp,s.nx,(st k).lo,(st k).nt⟩ (st (k+1))
@[congr] theorem RoundW_congr {n0:Nat} (tk:tick=n0) (st:Nat->St) (k:Nat) (s:St):RoundW st k s=RoundW st k s:=rfl
section
variable {P:Program} {Γ:Nat->Option (List Data)}
theorem itZ_by {f:FuncId} {fn:Func} {c:Code} {caps:List Data} {ys:List (List Data)} (hm:P.follows .mixedOrders=true) (hf:P.funcs[f]?=some fn) (hb:fn.body=some c) (hres:fn.results = #[]) (hc:CallOk P f)
 (h:∀ l K,startK (.yld l::caps.map toD) ((caps.length+1)+(fn.ntmps-(caps.length+1))) fun ds n=>wpZ P Γ l ys K c (endY (min ys.length (K+1))) ⟨envArgs ds,fun _=>.dead,0,0,n⟩ 0):ITZ P Γ f caps ys:=itZ_of hm hf hb hres hc h
def RoundZ (K:Nat) (x:Exit) (st:Nat->St) (k:Nat) (e:Exit) (s:St):Prop:=e=(if k=K then x else .normal)/\WeakX ⟨(st k).env,s.hp,s.nx,(st k).lo,(st k).nt⟩ (st (k+1))
@[congr] theorem RoundZ_congr {n0:Nat} (tk:tick=n0) (K:Nat) (x:Exit) (st:Nat->St) (k:Nat) (e:Exit) (s:St):RoundZ K x st k e s=RoundZ K x st k e s:=rfl
theorem roundZ_ren {K k:Nat} {x e:Exit} {st:Nat->St} {s:St} (he:e=if k=K then x else .normal) (F:List Nat) (ρ:Nat->Option Nat) (h:WeakR F ρ ⟨(st k).env,s.hp,s.nx,(st k).lo,(st k).nt⟩ (st (k+1))):RoundZ K x st k e s:=⟨he,.inr ⟨F,ρ,h⟩⟩
theorem rngZ_ren {f:FuncId} {caps:List Data} {ys:List (List Data)} {g:Operand} {ps:Array Tmp} {assign body:Code} {Q:Exit->St->Bool->Prop} {s:St} (K:Nat) (x:Exit) (hx:StopX x) (st:Nat->St) (hit:ITZ P Γ f caps ys) (hg:evalD Γ s.env g = .data (.fn f caps))
 (hyl:∀ y∈ys,y.length=ps.size) (hp:∀ p∈ps,p<s.nt) (F:List Nat) (ρ:Nat->Option Nat) (h0:WeakR F ρ s (st 0)) (hst:∀ k,(st k).env=(st 0).env/\(st k).lo=s.lo/\(st k).nt=s.nt)
 (hr:∀ k y,ys[k]?=some y->k<=K->wpZ P Γ 0 [] 0 assign (fun e s1 _=>e = .normal/\wpZ P Γ 0 [] 0 body (fun e s2 _=>RoundZ K x st k e s2) s1 0) ⟨Env.sets (st k).env ps.toList y,(st k).hp,(st k).nx,(st k).nx,(st k).nt⟩ 0)
 (hK1:K<ys.length->Q x (st (K+1)) true) (hK2:ys.length<=K->Q .normal (st ys.length) true):RngX P Γ g ps assign body Q s :=
 .inr ⟨f,caps,ys,K,x,st,hg,hit,hx,hyl,hp,.inr ⟨F,ρ,h0⟩,hst,hr,hK1,hK2⟩
end
section
variable (P:Program) (Γ:Nat->Option (List Data)) (l:Nat) (ys:List (List Data)) (K:Nat)
@[go_sem] theorem givK_data (x:Data) (ds:List D) (k:Nat) (H:Nat->Blk) (C:List (Nat×Blk)->Prop):givK (.data x) l ds ys K k H C=False:=rfl
@[go_sem] theorem givK_fn (f:FuncId) (c:List D) (ds:List D) (k:Nat) (H:Nat->Blk) (C:List (Nat×Blk)->Prop):givK (.fn f c) l ds ys K k H C=False:=rfl
@[congr] theorem givK_congr {n0:Nat} (tk:tick=n0) {d d':D} (h:d=d') {ds ds':List D} (h2:ds=ds') {k k':Nat} (h3:k=k') (H:Nat->Blk) (C:List (Nat×Blk)->Prop):givK d l ds ys K k H C=givK d' l ds' ys K k' H C:=by rw[h,h2,h3]
@[go_sem] theorem giveK_eq (dst:Option Nat) (ty:TypeId) (pos:String) (af:Array Edge) (gd:Option (Nat×Bool)) (e:Nat->D) (k:Nat) (H:Nat->Blk) (C:List (Nat×Blk)->Prop) (x:Operand) (args:Array Operand) (ts:Array TypeId) :
 giveK Γ l ys K ⟨dst,.call ⟨.value x,args,ts⟩,ty,pos,af,gd⟩ e k H C=givK (evalD Γ e x) l (args.toList.map (evalD Γ e)) ys K k H C:=rfl
@[go_sem] theorem giveK_builtin (dst:Option Nat) (ty:TypeId) (pos:String) (af:Array Edge) (gd:Option (Nat×Bool)) (e:Nat->D) (k:Nat) (H:Nat->Blk) (C:List (Nat×Blk)->Prop) (x:Builtin) (args:Array Operand) (ts:Array TypeId) :
 giveK Γ l ys K ⟨dst,.call ⟨.builtin x,args,ts⟩,ty,pos,af,gd⟩ e k H C=False:=rfl
@[congr] theorem giveK_congr {n0:Nat} (tk:tick=n0) (o:Oper) (e:Nat->D) (k:Nat) (H:Nat->Blk) (C:List (Nat×Blk)->Prop):giveK Γ l ys K o e k H C=giveK Γ l ys K o e k H C:=rfl
@[congr] theorem splitOk_congr {n0:Nat} (tk:tick=n0) (ops:Array Oper) (tr:List Tr) (p a b:Nat):splitOk ops tr p a b=splitOk ops tr p a b:=rfl
@[congr] theorem splitZ_congr {n0:Nat} (tk:tick=n0) (ops:Array Oper) {s s':St} (h:s=s') {k k':Nat} (h2:k=k') (Q:St->Nat->Prop):splitZ P Γ l ys K ops s k Q=splitZ P Γ l ys K ops s' k' Q:=by rw[h,h2]
@[go_sem] theorem wpZ_skip (Q:Exit->St->Nat->Prop) (s:St) (k:Nat):wpZ P Γ l ys K .skip Q s k=Q .normal s k:=rfl
@[go_sem] theorem wpZ_row (i:Nat) (ops:List Oper) (Q:Exit->St->Nat->Prop) (s:St) (k:Nat):wpZ P Γ l ys K (.region i ops.toArray false) Q s k=opsZ P Γ l ys K ops.toArray ops s k (Q .normal):=rfl
@[go_sem] theorem wpZ_draw (i:Nat) (ops:List Oper) (Q:Exit->St->Nat->Prop) (s:St) (k:Nat):wpZ P Γ l ys K (.region i ops.toArray true) Q s k=splitZ P Γ l ys K ops.toArray s k (Q .normal):=rfl
@[go_sem] theorem wpZ_seq (x y:Code) (Q:Exit->St->Nat->Prop) (s:St) (k:Nat):wpZ P Γ l ys K (.seq x y) Q s k=wpZ P Γ l ys K x (thenY (wpZ P Γ l ys K y Q) Q) s k:=rfl
@[go_sem] theorem wpZ_cond (c:Operand) (x y:Code) (Q:Exit->St->Nat->Prop) (s:St) (k:Nat):wpZ P Γ l ys K (.cond c x y) Q s k=condK (evalD Γ s.env c) (wpZ P Γ l ys K x Q s k) (wpZ P Γ l ys K y Q s k):=rfl
@[go_sem] theorem wpZ_block (id:Nat) (b:Code) (Q:Exit->St->Nat->Prop) (s:St) (k:Nat):wpZ P Γ l ys K (.block id b) Q s k=wpZ P Γ l ys K b (blockY id Q) s k:=rfl
@[go_sem] theorem wpZ_loop (b:Code) (Q:Exit->St->Nat->Prop) (s:St) (k:Nat):wpZ P Γ l ys K (.loop b) Q s k=LoopY (wpZ P Γ l ys K b) Q s k:=rfl
@[go_sem] theorem wpZ_exit (id:Nat) (Q:Exit->St->Nat->Prop) (s:St) (k:Nat):wpZ P Γ l ys K (.exit id) Q s k=Q (.exit id) s k:=rfl
@[go_sem] theorem wpZ_ret (Q:Exit->St->Nat->Prop) (s:St) (k:Nat):wpZ P Γ l ys K .ret Q s k=Q .ret s k:=rfl
@[congr] theorem wpZ_congr {n0:Nat} (tk:tick=n0) (c:Code) (Q:Exit->St->Nat->Prop) (s:St) (k:Nat):wpZ P Γ l ys K c Q s k=wpZ P Γ l ys K c Q s k:=rfl
@[congr] theorem opsZ_congr {n0:Nat} (tk:tick=n0) (ops:Array Oper) (ls:List Oper) (s:St) (k:Nat) (Q:St->Nat->Prop):opsZ P Γ l ys K ops ls s k Q=opsZ P Γ l ys K ops ls s k Q:=rfl
@[go_sem] theorem opsZ_nil (ops:Array Oper) (s:St) (k:Nat) (Q:St->Nat->Prop):opsZ P Γ l ys K ops [] s k Q=Q s k:=rfl
@[go_sem] theorem opsZ_cons (ops:Array Oper) (o:Oper) (rest:List Oper) (e:Nat->D) (H:Nat->Blk) (nx lo nt:Nat) (k:Nat) (Q:St->Nat->Prop):opsZ P Γ l ys K ops (o::rest) ⟨e,H,nx,lo,nt⟩ k Q =
 sideK (dstOk o nt=true) (someK (wantedD ops e o) fun b=>ifW b (ifW (isCall o)
  ((opK P Γ o e H nx fun d _ u=>opsZ P Γ l ys K ops rest ⟨Env.dst e o.dst d,Hp.upd H u,nx+1,lo,nt⟩ k Q) \/ giveK Γ l ys K o e k H fun u=>opsZ P Γ l ys K ops rest ⟨Env.dst e o.dst (.data (.bool (!decide (k=K)))),Hp.upd H u,nx+1,lo,nt⟩ (k+1) Q)
  (opK P Γ o e H nx fun d _ u=>opsZ P Γ l ys K ops rest ⟨Env.dst e o.dst d,Hp.upd H u,nx+1,lo,nt⟩ k Q)) (opsZ P Γ l ys K ops rest ⟨Env.dst e o.dst undefD,H,nx+1,lo,nt⟩ k Q)):=by
 unfold sideK someK;rw[opsZ];congr 1;simp only;cases wantedD ops e o<;>rfl
@[go_sem] theorem sets_cons (e:Nat->D) (p:Tmp) (ps:List Tmp) (y:Data) (ys:List Data):Env.sets e (p::ps) (y::ys)=Env.sets (Env.set e p (.data y)) ps ys:=rfl
@[go_sem] theorem sets_nil (e:Nat->D):Env.sets e [] []=e:=rfl
end
section
variable {P:Program} {Γ:Nat->Option (List Data)} {l:Nat} {ys:List (List Data)} {K:Nat}
def takeW:Nat->List Oper->List Oper->(List Oper->List Oper->Prop)->Prop
 | 0,l,acc,C=>C acc l
 | p+1,o::l,acc,C=>takeW p l (acc++[o]) C
 | _+1,[],acc,C=>C acc []
@[go_sem] theorem takeW_zero (l acc:List Oper) (C:List Oper->List Oper->Prop):takeW 0 l acc C=C acc l:=rfl
@[go_sem] theorem takeW_succ (p:Nat) (o:Oper) (l acc:List Oper) (C:List Oper->List Oper->Prop):takeW (p+1) (o::l) acc C=takeW p l (acc++[o]) C:=rfl
@[congr] theorem takeW_congr {n0:Nat} (tk:tick=n0) (p:Nat) (l:List Oper) {acc acc':List Oper} (h:acc=acc') (C:List Oper->List Oper->Prop):takeW p l acc C=takeW p l acc' C:=by rw[h]
theorem give_by {ds:List D} {k:Nat} {H:Nat->Blk} {C:List (Nat×Blk)->Prop} (F:List Nat) {xs:List Data} (hk:k<=K) (hF:∀ g∈F,∃ rw cells,H g = .blk rw cells) (hf:FrzL false (Hp.upd H (F.map fun g=>(g,fz (H g)))) ds xs) (hy:ys[k]?=some xs) (hC:C (F.map fun g=>(g,fz (H g)))):givK (.yld l) l ds ys K k H C :=
 ⟨rfl,hk,F,xs,hF,hf,hy,hC⟩
end
namespace Gt
open Bk
def lockY (b:Book):List (List Data):=b.locks.map fun l=>[.str l.user,lock l]
theorem lockY_len (b:Book):(lockY b).length=b.locks.length:=by simp[lockY]
theorem lockY_get (b:Book) (i:Nat) (h:i<b.locks.length):(lockY b)[i]?=some [.str b.locks[i].user,lock b.locks[i]]:=by simp[lockY,h]
def failuresD (b:Book):Data:=.fn 35 [.pc [.int .i64 b.next,.sl 6 (sesss b.opn),.sl 5 (items b.items),.sl 3 (locks b.locks)]]
def lockOfL (b:Book) (u:ByteArray):Lock:=(lockU b u).getD ⟨⟨#[]⟩,0,0⟩
section
variable (Γ:Nat->Option (List Data))
theorem failures_pc (b:Book):PC Try.prog Γ 32 [book b] (failuresD b):=by
 refine pc_by mixed Try.func32 rfl (fun args w=>Try.call32 args w) ?_;unfold book;simp -implicitDefEqProofs (disch:=omega) [go_sem,failuresD,Try.f32];exact⟨_,⟨_,rfl,_,rfl,_,rfl,frz_ptr (rw:=true) (l:=[.int .i64 b.next,.sl 6 (sesss b.opn),.sl 5 (items b.items),.sl 3 (locks b.locks)]) (by simp[go_sem]) (.inl rfl)⟩,rfl⟩
set_option maxHeartbeats 2000000 in
theorem failures_it (b:Book) (hb:Fits b):ITZ Try.prog Γ 35 [.pc [.int .i64 b.next,.sl 6 (sesss b.opn),.sl 5 (items b.items),.sl 3 (locks b.locks)]] (lockY b):=by
 refine itZ_by mixed Try.func35 rfl rfl (fun args w=>Try.call35 args w) fun L K=>?_;have hlen:=lockY_len b;have hl:=hb.l;simp -implicitDefEqProofs (disch:=omega) [go_sem];refine loopY_ren (σ:={ i:Nat // i<=b.locks.length/\i<=K }) (fun i=>⟨envL [(0,.yld L),(6,.data (.sl 3 (locks b.locks))),(7,.data (.int .i64 b.locks.length)),(8,.data (.int .i64 i.1))],hpL [],0,0,19⟩) (fun i=>i.1) (fun i=>b.locks.length-i.1) ⟨0,by omega,by omega⟩ rfl [] (rhoL []) ?_ ?_
 . apply ren_lists<;>simp -implicitDefEqProofs [go_sem]
 rintro⟨i,hi,hiK⟩;by_cases h:i<b.locks.length
 . have hy:=lockY_get b i h;unfold lock at hy;simp -implicitDefEqProofs (disch:=omega) [go_sem,lock];refine give_by [] hiK (by simp) (frzL_c (.data _) (frzL_c (.data _) frzL_n)) hy ?_;by_cases hK:i=K
   . simp -implicitDefEqProofs (disch:=omega) [go_sem,hK,hlen]
   . simp -implicitDefEqProofs (disch:=omega) [go_sem,hK];refine nextY_ren ⟨i+1,by omega,by omega⟩ rfl (by simp only;omega) [] (rhoL []) ?_;apply ren_lists<;>simp -implicitDefEqProofs [go_sem]
 . simp -implicitDefEqProofs (disch:=omega) [go_sem,hlen];omega
set_option maxHeartbeats 2000000 in
theorem lockOf_pc (b:Book) (hb:Fits b) (u:ByteArray):PC Try.prog Γ 19 [book b,.str u] (.tup [lock (lockOfL b u),.bool (lockU b u).isSome]):=by
 have hit:=failures_it Γ b hb;have c1:=failures_pc Γ b;have hlen:=lockY_len b;refine pc_rng mixed Try.func19 rfl (fun args w=>Try.call19 args w) ?_;unfold failuresD at c1;obtain⟨K,hK⟩:∃ K:Nat,(∀ i (hi:i<b.locks.length),i<K->b.locks[i].user≠u)/\(∀ hi:K<b.locks.length,b.locks[K].user=u)/\K<=b.locks.length:=by
  rcases first_some (p:=fun l:Lock=>decide (l.user=u)) (l:=b.locks) (n:=0) with⟨e1,e2⟩|⟨i,hi,e1,e2⟩
  . rw[List.find?_eq_none] at e2;exact⟨b.locks.length,fun i hi _ h=>e2 _ (List.getElem_mem hi) (by simpa using h),fun hi=>absurd hi (Nat.lt_irrefl _),Nat.le_refl _⟩
  . rw[List.find?_eq_some_iff_getElem] at e2;obtain⟨h1,j,hj,h2,h3⟩:=e2;exact⟨j,fun k hk hkj h=>by have:=h3 k hkj;simp[h] at this,fun _=>by rw[h2];simpa using h1,Nat.le_of_lt hj⟩
 obtain⟨hK1,hK2,hK3⟩:=hK;have hf:lockU b u=b.locks[K]?:=by
  unfold lockU;by_cases h:K<b.locks.length
  . rw[List.getElem?_eq_getElem h,List.find?_eq_some_iff_getElem];exact⟨by simpa using hK2 h,K,h,rfl,fun j hj=>by simpa using hK1 j (by omega) hj⟩
  . rw[List.getElem?_eq_none (by omega),List.find?_eq_none];intro x hx;obtain⟨i,hi,rfl⟩:=List.getElem_of_mem hx;simpa using hK1 i hi (by omega)
 unfold lockOfL;rw[hf];unfold book at *;simp -implicitDefEqProofs (disch:=omega) [go_sem];refine .inl (call_data c1 (by simp[go_sem]) ?_);simp -implicitDefEqProofs (disch:=omega) [go_sem]
 refine rngZ_ren K .ret (.inl rfl) (fun k=>⟨envL [(3,.ptr 1 0),(4,.ptr 2 0),(5,.ptr 3 0)],if k<=K then hpL [(1,.blk true [.data (.str u)]),(2,.blk true [.data (.str ⟨#[]⟩),.data (.int .i64 0),.data (.int .i64 0)]),(3,.blk true [.data (.bool false)])] else hpL [(2,.blk true [.data (.str u),.data (.int .i64 (b.locks[K]?.getD default).n),.data (.int .i64 (b.locks[K]?.getD default).at_)]),(3,.blk true [.data (.bool true)])],4,0,17⟩) hit (by simp[go_sem]) ?_ (by simp) [] (rhoL [(1,some 1),(2,some 2),(3,some 3)]) ?_ ?_ ?_ ?_ ?_
 . intro y hy;unfold lockY at hy;obtain⟨o,_,rfl⟩:=List.mem_map.1 hy;rfl
 . simp only[Nat.zero_le,if_true];apply ren_lists<;>simp -implicitDefEqProofs [go_sem];rfl
 . intro k;exact⟨rfl,rfl,rfl⟩
 . intro k y hy hk;rw[if_pos hk];have hlt:k<b.locks.length:=by have:=(List.getElem?_eq_some_iff.1 hy).1;rw[hlen] at this;exact this
   rw[lockY_get b k hlt] at hy;cases hy;by_cases hkK:k=K
   . subst hkK;have hu:=hK2 hlt;simp -implicitDefEqProofs (disch:=omega) [go_sem,lock,hu];refine roundZ_ren (by rw[if_pos rfl]) [] (rhoL [(2,some 2),(3,some 3)]) ?_;simp only[show ¬ k+1<=k by omega,if_false];apply ren_lists<;>simp -implicitDefEqProofs [go_sem,hlt]
   . have hu:=hK1 k hlt (by omega);simp -implicitDefEqProofs (disch:=omega) [go_sem,lock,hu];refine roundZ_ren (by rw[if_neg hkK]) [] (rhoL [(1,some 1),(2,some 2),(3,some 3)]) ?_;simp only[show k+1<=K by omega,if_true];apply ren_lists<;>simp -implicitDefEqProofs [go_sem]
 . intro hk;rw[hlen] at hk;have hu:=hK2 hk;simp only[show ¬ K+1<=K by omega,if_false];simp -implicitDefEqProofs (disch:=omega) [go_sem,lock,hk,hu,Try.f19]
 . intro hk;rw[hlen] at hk;have e:K=b.locks.length:=by omega
   subst e;rw[hlen];simp only[Nat.le_refl,if_true];simp -implicitDefEqProofs (disch:=omega) [go_sem,lock,Try.f19];rfl
theorem shuts_pc (l:Lock) (now:Int) (h:l.at_<=1000000000000) (h2:-1000000000000<=l.at_):PC Try.prog Γ 20 [lock l,.int .i64 now] (.bool (decide (3<=l.n) && decide (now<l.at_+20))):=by
 refine pc_by mixed Try.func20 rfl (fun args w=>Try.call20 args w) ?_;unfold lock;by_cases h3:3<=l.n<;>by_cases h4:now<l.at_+20 <;>
  simp -implicitDefEqProofs (disch:=omega) [go_sem,h3,h4,Try.f20]
theorem first_pc (l:List Data) (hl:l.length<=1000000000):PC Try.prog Γ 21 [.sl 9 l] (.sl 9 l):=by
 refine pc_by mixed Try.func21 rfl (fun args w=>Try.call21 args w) ?_;simp -implicitDefEqProofs (disch:=omega) [go_sem,Try.f21]
end
end Gt
namespace Gt
open Bk
theorem gops_cells (l:List Bk.Op):∀ x∈ops l,x.cells.length=9:=fun x hx=>by
 obtain⟨o,_,rfl⟩:=List.mem_map.1 hx;rfl
theorem failedN_is (b:Book) (u:ByteArray):failedN b u=((lockOfL b u).n,(lockOfL b u).at_):=by
 unfold failedN lockOfL;cases lockU b u<;>rfl
theorem lockOf_ok {b:Book} {u:ByteArray} (hr:RightL b):(lockU b u=none/\lockOfL b u=⟨⟨#[]⟩,0,0⟩) \/ ∃ l,lockU b u=some l/\lockOfL b u=l/\1<=l.n/\l.n<=255/\0<=l.at_/\l.at_<=1000000000:=by
 unfold lockOfL;cases h:lockU b u with
 | none=>exact .inl ⟨rfl,rfl⟩
 | some l =>
   have hg:=hr.lg l (List.mem_of_find?_eq_some h);exact .inr ⟨l,rfl,rfl,hg.n0,hg.n1,hg.t0,hg.t1⟩
section
variable (Γ:Nat->Option (List Data))
theorem gfailed_pc (b:Book) (u:ByteArray) (hb:Fits b):PC Try.prog Γ 12 [book b,.str u] (.tup [.int .i64 (failedN b u).1,.int .i64 (failedN b u).2]):=by
 refine pc_by mixed Try.func12 rfl (fun args w=>Try.call12 args w) ?_;have c1:=lockOf_pc Γ b hb u;rw[failedN_is];unfold lock at c1;unfold book at *;simp -implicitDefEqProofs (disch:=omega) [go_sem];refine .inl (call_data c1 (by simp[go_sem]) ?_);simp -implicitDefEqProofs (disch:=omega) [go_sem];refine side (by kernel_rfl) ?_;simp -implicitDefEqProofs (disch:=omega) [go_sem,Try.f12]
theorem glocked_pc (b:Book) (u:ByteArray) (now:Int) (hb:Fits b) (hr:RightL b):PC Try.prog Γ 13 [book b,.str u,.int .i64 now] (.bool (lockedN b u now)):=by
 refine pc_by mixed Try.func13 rfl (fun args w=>Try.call13 args w) ?_;have c1:=lockOf_pc Γ b hb u;have hk:(lockOfL b u).at_<=1000000000000/\-1000000000000<=(lockOfL b u).at_:=by
  rcases lockOf_ok (u:=u) hr with⟨_,e⟩|⟨l,_,e,_,_,_,_⟩
  . rw[e];decide
  . rw[e];omega
 have c2:=shuts_pc Γ (lockOfL b u) now hk.1 hk.2;unfold lockedN;rw[failedN_is];unfold lock at c1 c2;unfold book at *;simp -implicitDefEqProofs (disch:=omega) [go_sem];refine .inl (call_data c1 (by simp[go_sem]) ?_);simp -implicitDefEqProofs (disch:=omega) [go_sem];refine .inl (call_data c2 (by simp[go_sem]) ?_);simp -implicitDefEqProofs (disch:=omega) [go_sem,Try.f13]
theorem guntil_pc (b:Book) (u:ByteArray) (hb:Fits b) (hr:RightL b):PC Try.prog Γ 15 [book b,.str u] (.int .i64 (untilN b u)):=by
 refine pc_by mixed Try.func15 rfl (fun args w=>Try.call15 args w) ?_;have c1:=lockOf_pc Γ b hb u;have hk:(lockOfL b u).at_<=1000000000000/\-1000000000000<=(lockOfL b u).at_:=by
  rcases lockOf_ok (u:=u) hr with⟨_,e⟩|⟨l,_,e,_,_,_,_⟩
  . rw[e];decide
  . rw[e];omega
 unfold untilN;rw[failedN_is];unfold lock at c1;unfold book at *;by_cases h:3<=(lockOfL b u).n
 . simp -implicitDefEqProofs (disch:=omega) [go_sem];refine .inl (call_data c1 (by simp[go_sem]) ?_);simp -implicitDefEqProofs (disch:=omega) [go_sem,h,Try.f15]
 . simp -implicitDefEqProofs (disch:=omega) [go_sem];refine .inl (call_data c1 (by simp[go_sem]) ?_);simp -implicitDefEqProofs (disch:=omega) [go_sem,h,Try.f15]
set_option maxHeartbeats 4000000 in
theorem gverdict_pc (b:Book) (u:ByteArray) (known good:Bool) (now:Int) (hb:Fits b) (hr:RightL b) (hnow:0<=now):PC Try.prog Γ 11 [book b,.str u,.bool known,.bool good,.int .i64 now] (.tup [.bool (verdictN b u known good now).1,.sl 9 (ops (verdictN b u known good now).2)]):=by
 refine pc_by mixed Try.func11 rfl (fun args w=>Try.call11 args w) ?_;have c1:=lockOf_pc Γ b hb u;have c0:=first_pc Γ [] (by simp);have hs:(lockU b u).isSome=decide ((lockOfL b u).n≠0):=by
  rcases lockOf_ok (u:=u) hr with⟨e0,e⟩|⟨l,e0,e,_,_,_,_⟩
  . rw[e,e0];rfl
  . rw[e,e0];simp;omega
 have hk:0<=(lockOfL b u).n/\(lockOfL b u).at_<=1000000000000/\-1000000000000<=(lockOfL b u).at_:=by
  rcases lockOf_ok (u:=u) hr with⟨_,e⟩|⟨l,_,e,_,_,_,_⟩
  . rw[e];decide
  . rw[e];omega
 have hk0:(lockOfL b u).n=0->(lockOfL b u).at_=0:=by
  rcases lockOf_ok (u:=u) hr with⟨_,e⟩|⟨l,_,e,_,_,_,_⟩
  . rw[e];intro _;rfl
  . rw[e];intro h;omega
 have c2:=shuts_pc Γ (lockOfL b u) now hk.2.1 hk.2.2;unfold verdictN lockedN;rw[failedN_is];rw[hs] at c1;generalize lockOfL b u=l at *;unfold lock at c1 c2;unfold book at *;by_cases hkn:known=true
 . subst hkn;by_cases hlk:3<=l.n/\now<l.at_+20
   . obtain⟨h3,h4⟩:=hlk;simp -implicitDefEqProofs (disch:=omega) [go_sem];refine .inl (call_data c1 (by simp[go_sem]) ?_);simp -implicitDefEqProofs (disch:=omega) [go_sem];refine .inl (call_data c2 (by simp[go_sem]) ?_);simp -implicitDefEqProofs (disch:=omega) [go_sem,h3,h4];refine .inl (call_frz [] [] (by simp) c0 (fun H' hH'=>frzL_c (.emp _ _) frzL_n) ?_);simp -implicitDefEqProofs (disch:=omega) [go_sem,h3,h4,ops,Try.f11]
   . have hlf:(decide (3<=l.n) && decide (now<l.at_+20))=false:=by simpa using hlk
     rw[hlf] at c2;rw[hlf];by_cases hg:good=true
     . subst hg;by_cases hn:l.n=0
       . simp -implicitDefEqProofs (disch:=omega) [go_sem];refine .inl (call_data c1 (by simp[go_sem]) ?_);simp -implicitDefEqProofs (disch:=omega) [go_sem];refine .inl (call_data c2 (by simp[go_sem]) ?_);simp -implicitDefEqProofs (disch:=omega) [go_sem,hn];refine .inl (call_frz [] [] (by simp) c0 (fun H' hH'=>frzL_c (.emp _ _) frzL_n) ?_);simp -implicitDefEqProofs (disch:=omega) [go_sem,hn,ops,Try.f11]
       . have c3:=first_pc Γ (ops [⟨5,0,0,0,u,0,0,0,0⟩]) (by simp[ops]);simp -implicitDefEqProofs (disch:=omega) [go_sem];refine .inl (call_data c1 (by simp[go_sem]) ?_);simp -implicitDefEqProofs (disch:=omega) [go_sem];refine .inl (call_data c2 (by simp[go_sem]) ?_);simp -implicitDefEqProofs (disch:=omega) [go_sem,hn]
         refine .inl (call_keep 27 (rw:=true) (cells:=[.data (.int .i64 5),.data (.int .i64 0),.data (.int .i64 0),.data (.int .u32 0),.data (.str u),.data (.int .u64 0),.data (.int .u64 0),.data (.int .i64 0),.data (.int .i64 0)]) c3 (by simp[Hp.upd,Hp.set]) (fun H' hH'=>frzL_c (frz_ref (rw:=false) hH' (.inr rfl) rfl (gops_cells _) rfl) frzL_n) ?_);simp -implicitDefEqProofs (disch:=omega) [go_sem,hn,ops,Bk.op,Try.f11]
     . have hg':good=false:=by simpa using hg
       subst hg';have c3:=first_pc Γ (ops [⟨4,0,0,0,u,0,0,0,max l.at_ now⟩]) (by simp[ops]);by_cases hn:l.n=0
       . have hm:max l.at_ now=now:=by rw[hk0 hn];omega
         rw[hm] at c3;simp -implicitDefEqProofs (disch:=omega) [go_sem];refine .inl (call_data c1 (by simp[go_sem]) ?_);simp -implicitDefEqProofs (disch:=omega) [go_sem];refine .inl (call_data c2 (by simp[go_sem]) ?_);simp -implicitDefEqProofs (disch:=omega) [go_sem,hn]
         refine .inl (call_keep 32 (rw:=true) (cells:=[.data (.int .i64 4),.data (.int .i64 0),.data (.int .i64 0),.data (.int .u32 0),.data (.str u),.data (.int .u64 0),.data (.int .u64 0),.data (.int .i64 0),.data (.int .i64 now)]) c3 (by simp[Hp.upd,Hp.set]) (fun H' hH'=>frzL_c (frz_ref (rw:=false) hH' (.inr rfl) rfl (gops_cells _) rfl) frzL_n) ?_);simp -implicitDefEqProofs (disch:=omega) [go_sem,hn,hm,ops,Bk.op,Try.f11]
       . simp -implicitDefEqProofs (disch:=omega) [go_sem];refine .inl (call_data c1 (by simp[go_sem]) ?_);simp -implicitDefEqProofs (disch:=omega) [go_sem];refine .inl (call_data c2 (by simp[go_sem]) ?_);simp -implicitDefEqProofs (disch:=omega) [go_sem,hn]
         refine .inl (call_keep 37 (rw:=true) (cells:=[.data (.int .i64 4),.data (.int .i64 0),.data (.int .i64 0),.data (.int .u32 0),.data (.str u),.data (.int .u64 0),.data (.int .u64 0),.data (.int .i64 0),.data (.int .i64 (max l.at_ now))]) c3 (by simp[Hp.upd,Hp.set]<;>omega) (fun H' hH'=>frzL_c (frz_ref (rw:=false) hH' (.inr rfl) rfl (gops_cells _) rfl) frzL_n) ?_);simp -implicitDefEqProofs (disch:=omega) [go_sem,hn,ops,Bk.op,Try.f11]
 . have hkn':known=false:=by simpa using hkn
   subst hkn';simp -implicitDefEqProofs (disch:=omega) [go_sem];refine .inl (call_data c1 (by simp[go_sem]) ?_);simp -implicitDefEqProofs (disch:=omega) [go_sem];refine .inl (call_frz [] [] (by simp) c0 (fun H' hH'=>frzL_c (.emp _ _) frzL_n) ?_);simp -implicitDefEqProofs (disch:=omega) [go_sem,ops,Try.f11]
theorem progG:ProgG Γ where
 failed b u hb _ _ _:=gfailed_pc Γ b u hb
 locked b u now hb _ hr _ _ _:=glocked_pc Γ b u now hb hr
 until_ b u hb _ hr _:=guntil_pc Γ b u hb hr
 verdict b u known good now hb _ hr _ hn _:=gverdict_pc Γ b u known good now hb hr hn
end
end Gt
section
variable (Γ:Nat->Option (List Data))
theorem law_GateOps {x0:Data} (a0:argD Try.prog 8 28 x0):PC Try.prog Γ 3 [x0] (.bool true):=Gt.at_GateOps Γ (Gt.progG Γ) a0
theorem law_GateLocks {x0:Data} (a0:argD Try.prog 8 44 x0):PC Try.prog Γ 4 [x0] (.bool true):=Gt.at_GateLocks Γ (Gt.progG Γ) a0
theorem law_GateTime {x0:Data} (a0:argD Try.prog 8 49 x0):PC Try.prog Γ 5 [x0] (.bool true):=Gt.at_GateTime Γ (Gt.progG Γ) a0
theorem law_GateOthers {x0:Data} (a0:argD Try.prog 8 52 x0):PC Try.prog Γ 6 [x0] (.bool true):=Gt.at_GateOthers Γ (Gt.progG Γ) a0
theorem law_GateKnown {x0:Data} (a0:argD Try.prog 8 56 x0):PC Try.prog Γ 7 [x0] (.bool true):=Gt.at_GateKnown Γ (Gt.progG Γ) a0
theorem law_GateRight {x0:Data} (a0:argD Try.prog 8 59 x0):PC Try.prog Γ 8 [x0] (.bool true):=Gt.at_GateRight Γ (Gt.progG Γ) a0
end
end Go.Proofs.Ytndnlfgchmjbjaa
