/- Stores: how they go on, and what a crash leaves. Stores: snapshots laid, begun anew, crashes in the midst; stores behind acts. Disks: the document's example, at the head of all statements. Disks: what comes in; DiskDoes, DiskTwice. Stores: held against each other. Stores: the document's example. Stores: what comes in; StoreFinds, StoreDoes. Stores: StoreMidst, StoreAgain. Stores: StoreDoes. Stores: StoreCrash. Stores: StoreAgain. Stores: StoreSafe, StoreGens. -/
import Derived.Test.YtjkpeebajibgiaaGreatPk10
namespace Go.Proofs.YtjkpeebajibgiaaGreat
open Go.RowKit
set_option linter.unusedSimpArgs false
set_option linter.unusedVariables false
set_option maxRecDepth 100000
theorem std_app (a:Int) (o:List Nat) (u v:List Wr):std a o (u++v) = std a (std a o u) v:=by unfold std;rw [List.foldl_append]
theorem std_cons (a:Int) (o:List Nat) (p:Wr) (v:List Wr):std a o (p :: v) = std a (if p.1 = a then p.2 else o) v:=rfl
theorem std_no {a:Int}:∀ {ws:List Wr} {o:List Nat},(∀ p∈ws,p.1≠a)->std a o ws = o
 | [],_,_=>rfl
 | p :: ws,o,h=>by
   rw [std_cons,if_neg (h p (by simp))]
   exact std_no fun q hq=>h q (by simp [hq])
theorem std_kept {keep:List Bool} {a:Int} {v:List Nat}:∀ (w:List Wr) (n j:Nat) (hj:j < w.length),w[j] = (a,v)->(∀ (i:Nat) (hi:i < w.length),i≠j->w[i].1≠a)->∀ b,std a b (kept keep n w) = if keepAt keep (n + j) then v else b
 | p :: w,n,0,_,he,hd,b=>by
   have hp:p = (a,v):=he
   have hno:∀ q∈kept keep (n + 1) w,q.1≠a:=fun q hq=>by
    obtain ⟨i,hi,rfl⟩:=List.getElem_of_mem (kept_sub keep w (n + 1) q hq)
    exact hd (i + 1) (by simp;omega) (by omega)
   show std a b (if keepAt keep n = true then p :: kept keep (n + 1) w else kept keep (n + 1) w) = if keepAt keep n = true then v else b
   by_cases hk:keepAt keep n = true
   · rw [if_pos hk,if_pos hk,std_cons,hp,if_pos rfl,std_no hno]
   · rw [if_neg hk,if_neg hk,std_no hno]
 | p :: w,n,j + 1,hj,he,hd,b=>by
   have hp:p.1≠a:=hd 0 (by simp) (by omega)
   have ih:=fun c=>std_kept (keep:=keep) w (n + 1) j (by simpa using hj) he (fun i hi hne=>hd (i + 1) (by simp;omega) (by omega)) c
   rw [show n + (j + 1) = n + 1 + j by omega]
   unfold kept
   by_cases hk:keepAt keep n = true
   · rw [if_pos hk,std_cons,if_neg hp];exact ih b
   · rw [if_neg hk];exact ih b
theorem kept_full {keep:List Bool}:∀ (w:List Wr) (n:Nat),(∀ i,i < w.length->keepAt keep (n + i) = true)->kept keep n w = w
 | [],_,_=>rfl
 | p :: w,n,h=>by
   unfold kept
   have h0:keepAt keep n = true:=h 0 (by simp)
   rw [if_pos h0,kept_full w (n + 1) fun i hi=>by rw [show n + 1 + i = n + (i + 1) by omega];exact h (i + 1) (by simp;omega)]
namespace Bk
/-- A disk behind a crash. -/
def crashed (x:Disk) (keep:List Bool):Disk:=⟨flush x.s (Go.Proofs.YtjkpeebajibgiaaGreat.kept keep 0 x.w),[]⟩
theorem crashed_ok {x:Disk} (h:Dok x.s x.w) (keep:List Bool):Dok (crashed x keep).s (crashed x keep).w:=flush_ok h (kept_sub keep x.w 0)
theorem secAt_flat {s:List (List Nat)} (a:Int):secAt ⟨s,[]⟩ a = s.getD a.toNat []:=rfl
theorem flush_at2 {s:List (List Nat)} (hn:s.length = 64) {a:Int} (ha:0≤a∧a < 64) (w:List Wr):(flush s w).getD a.toNat [] = std a (s.getD a.toNat []) w:=by
 have hlt:a.toNat < s.length:=by omega
 have hlf:a.toNat < (flush s w).length:=by rw [flush_length];exact hlt
 rw [List.getD_eq_getElem?_getD,List.getElem?_eq_getElem hlf,flush_at s w a.toNat hlt,List.getD_eq_getElem?_getD,List.getElem?_eq_getElem hlt]
 have e:((a.toNat:Nat):Int) = a:=by omega
 rw [e]
 rfl
theorem secAt_crashed {x:Disk} (h:Dok x.s x.w) (keep:List Bool) {a:Int} (ha:0≤a∧a < 64):secAt (crashed x keep) a = std a (x.s.getD a.toNat []) (Go.Proofs.YtjkpeebajibgiaaGreat.kept keep 0 x.w):=by
 unfold crashed
 rw [secAt_flat,flush_at2 h.n ha]
theorem secAt_flushed {x:Disk} (h:Dok x.s x.w) {a:Int} (ha:0≤a∧a < 64):secAt (flushTo x) a = secAt x a:=by
 unfold flushTo
 rw [secAt_flat,flush_at2 h.n ha]
 rfl
theorem flushed_ok {x:Disk} (h:Dok x.s x.w):Dok (flushTo x).s (flushTo x).w:=flush_ok h fun p hp=>hp
/-- The records of ops that aren't flushed,from the k-th on. -/
def pend (g:Int) (k:Nat):List Op->List Wr
 | []=>[]
 | o :: l=>(34 + (k:Int),recL g k o) :: pend g (k + 1) l
theorem pend_length (g:Int):∀ (l:List Op) (k:Nat),(pend g k l).length = l.length
 | [],_=>rfl
 | _ :: l,k=>by simp [pend,pend_length g l (k + 1)]
theorem pend_at (g:Int):∀ (l:List Op) (k i:Nat) (h:i < l.length),(pend g k l)[i]'(by rw [pend_length];exact h) = (34 + ((k + i:Nat):Int),recL g ((k + i:Nat):Int) l[i])
 | _ :: l,k,0,_=>by simp [pend]
 | _ :: l,k,i + 1,h=>by
   simp only [pend,List.getElem_cons_succ]
   rw [pend_at g l (k + 1) i (by simpa using h)]
   rw [show k + 1 + i = k + (i + 1) by omega]
theorem pend_snoc (g:Int) (o:Op):∀ (l:List Op) (k:Nat),pend g k (l++[o]) = pend g k l++[(34 + ((k + l.length:Nat):Int),recL g ((k + l.length:Nat):Int) o)]
 | [],k=>by simp [pend]
 | p :: l,k=>by
   simp only [List.cons_append,pend,pend_snoc g o l (k + 1),List.length_cons]
   rw [show k + 1 + l.length = k + (l.length + 1) by omega]
/-- A store that has been begun,with so many ops done behind its snapshot,and so many of them synced. -/
structure Inv (t:Sto) (b:Book) (ops:List Op) (k:Nat):Prop where
 gb:GB b
 ch:Chain b ops
 n:ops.length≤30
 kl:k≤ops.length
 gg:1≤t.gen∧t.gen≤1000000000
 d:Dok t.x.s t.x.w
 w:t.x.w = pend t.gen k (ops.drop k)
 head:t.x.s.getD (t.gen % 2).toNat [] = headL t.gen
 other:headOf ⟨t.x.s,[]⟩ ((t.gen + 1) % 2) < t.gen
 snap:∀ i:Nat,i < 16->t.x.s.getD (2 + t.gen % 2 * 16 + (i:Int)).toNat [] = chunk (snapB b) i
 recs:∀ (i:Nat) (h:i < ops.length),i < k->t.x.s.getD (34 + (i:Int)).toNat [] = recL t.gen i ops[i]
 rest:∀ i:Nat,k≤i->i < 30->NoRec t.gen (t.x.s.getD (34 + (i:Int)).toNat [])
 seq:t.seq = ops.length
 bk:t.b = bookAt b ops
 fk:t.f = bookAt b (ops.take k)
section
variable {t:Sto} {b:Book} {ops:List Op} {k:Nat}
theorem Inv.wlen (h:Inv t b ops k):t.x.w.length = ops.length - k:=by rw [h.w,pend_length,List.length_drop]
theorem Inv.wat (h:Inv t b ops k) (i:Nat) (hi:i < t.x.w.length):∃ hk:k + i < ops.length,t.x.w[i] = (34 + ((k + i:Nat):Int),recL t.gen ((k + i:Nat):Int) ops[k + i]):=by
 have hl:=h.wlen
 refine ⟨by omega,?_⟩
 have e:=pend_at t.gen (ops.drop k) k i (by rw [List.length_drop];omega)
 rw [List.getElem_drop] at e
 have hw:=h.w
 simp only [hw]
 exact e
theorem Inv.gbt (h:Inv t b ops k):GB t.b:=by rw [h.bk];exact gb_bookAt h.gb h.ch.ty
theorem Inv.gbf (h:Inv t b ops k):GB t.f:=by rw [h.fk];exact gb_bookAt h.gb fun o ho=>h.ch.ty o (List.mem_of_mem_take ho)
theorem Inv.gs (h:Inv t b ops k):GS t:=⟨h.d,by have:=h.wlen;have:=h.n;omega,by have:=h.gg;omega,by have:=h.seq;have:=h.n;omega,h.gbt,h.gbf⟩
/-- Where no record is under way,a crash changes nothing. -/
theorem Inv.still (h:Inv t b ops k) (keep:List Bool) {a:Int} (ha:0≤a∧a < 64) (h2:a < 34 + (k:Int) ∨ 34 + (ops.length:Int)≤a):secAt (crashed t.x keep) a = t.x.s.getD a.toNat []:=by
 rw [secAt_crashed h.d keep ha]
 refine std_no fun p hp=>?_
 obtain ⟨i,hi,rfl⟩:=List.getElem_of_mem (kept_sub keep t.x.w 0 p hp)
 obtain ⟨hk,e⟩:=h.wat i hi
 rw [e]
 simp only
 omega
/-- Where one is,it stands if it was kept. -/
theorem Inv.came (h:Inv t b ops k) (keep:List Bool) {i:Nat} (hi:k≤i) (hi2:i < ops.length):secAt (crashed t.x keep) (34 + (i:Int)) = if keepAt keep (i - k) then recL t.gen i ops[i] else t.x.s.getD (34 + (i:Int)).toNat []:=by
 have hl:=h.wlen
 have hn:=h.n
 rw [secAt_crashed h.d keep (by omega)]
 obtain ⟨hk,e⟩:=h.wat (i - k) (by omega)
 have e2:k + (i - k) = i:=by omega
 simp only [e2] at e
 have:=std_kept (keep:=keep) t.x.w 0 (i - k) (by omega) e (fun j hj hne=>by
  obtain ⟨hk2,e3⟩:=h.wat j hj
  rw [e3]
  simp only
  omega) (t.x.s.getD (34 + (i:Int)).toNat [])
 rw [Nat.zero_add] at this
 exact this
theorem lead_at {keep:List Bool} {i:Nat} (h:i < leadOf keep):keepAt keep i = true:=by
 have:=leadOf_le keep
 unfold keepAt
 rw [List.getD_eq_getElem?_getD,List.getElem?_eq_getElem (by omega)]
 exact leadOf_yes keep i (by omega) h
theorem lead_end (keep:List Bool):keepAt keep (leadOf keep) = false:=by
 unfold keepAt
 rw [List.getD_eq_getElem?_getD]
 by_cases h:leadOf keep < keep.length
 · rw [List.getElem?_eq_getElem h];exact leadOf_no keep h
 · rw [List.getElem?_eq_none (by omega)];rfl
theorem Inv.recP (h:Inv t b ops k) (i:Nat) (hi:i < ops.length):RecP t.gen i ops[i]∧OpRange ops[i]:=⟨⟨h.gg,by have:=h.n;omega,h.ch.may i hi⟩,op_range (h.ch.ty _ (List.getElem_mem hi))⟩
/-- What a crash leaves: the first ones of the ops,as many as are synced,and are kept without one that isn't. -/
theorem Inv.crash (h:Inv t b ops k) (keep:List Bool):On (crashed t.x keep) t.gen b (ops.take (k + min (leadOf keep) (ops.length - k))):=by
 have hn:=h.n
 have hk:=h.kl
 have hg:=h.gg
 have hlen:(ops.take (k + min (leadOf keep) (ops.length - k))).length = k + min (leadOf keep) (ops.length - k):=by rw [List.length_take];omega
 refine ⟨crashed_ok h.d keep,h.gg,by omega,?_,?_,fun i hi=>?_,fun i hi=>?_,fun hs=>?_,fun i hi=>?_⟩
 · rw [h.still keep (by omega) (by omega)];exact h.head
 · rw [headOf_congr (x:=⟨t.x.s,[]⟩) (by rw [h.still keep (by omega) (by omega)];rfl)];exact h.other
 · rw [h.still keep (by omega) (by omega)];exact h.snap i hi
 · have hi2:i < ops.length:=by omega
   rw [List.getElem_take]
   by_cases q:i < k
   · rw [h.still keep (by omega) (by omega)];exact h.recs i hi2 q
   · rw [h.came keep (by omega) hi2,if_pos (lead_at (by omega))]
 · rw [hlen] at hs ⊢
   by_cases q:leadOf keep < ops.length - k
   · have e:k + min (leadOf keep) (ops.length - k) = k + leadOf keep:=by omega
     rw [e,h.came keep (by omega) (by omega),show k + leadOf keep - k = leadOf keep by omega,lead_end keep]
     simp only [Bool.false_eq_true,if_false]
     exact h.rest _ (by omega) (by omega)
   · have e:k + min (leadOf keep) (ops.length - k) = ops.length:=by omega
     rw [e] at hs ⊢
     rw [h.still keep (by omega) (by omega)]
     exact h.rest _ hk hs
 · by_cases q:i < k
   · have hi2:i < ops.length:=by omega
     rw [h.still keep (by omega) (by omega),h.recs i hi2 q]
     exact noRec_rec (h.recP i hi2).1 (h.recP i hi2).2
   · by_cases q2:i < ops.length
     · rw [h.came keep (by omega) q2]
       split
       · exact noRec_rec (h.recP i q2).1 (h.recP i q2).2
       · exact (h.rest i (by omega) hi).up (by omega)
     · rw [h.still keep (by omega) (by omega)]
       exact (h.rest i (by omega) hi).up (by omega)
/-- What stands on its disk,with all that is under way. -/
theorem Inv.on (h:Inv t b ops k):On t.x t.gen b ops:=by
 have hl:=h.wlen
 have hall:=h.crash (List.replicate (ops.length - k) true)
 have hlead:∀ n,leadOf (List.replicate n true) = n:=fun n=>by
  induction n with
  | zero=>rfl
  | succ n ih=>rw [List.replicate_succ];simp only [leadOf,ih]
 rw [hlead,Nat.min_self,show k + (ops.length - k) = ops.length by have:=h.kl;omega,List.take_length] at hall
 refine hall.congr h.d fun a h0 h1 _=>?_
 rw [secAt_crashed h.d _ ⟨h0,h1⟩,kept_full t.x.w 0 fun i hi=>?_]
 · rfl
 · unfold keepAt
   rw [List.getD_eq_getElem?_getD,Nat.zero_add,List.getElem?_replicate,if_pos (by omega)]
   rfl
theorem Inv.flush (h:Inv t b ops k):On (flushTo t.x) t.gen b ops:=h.on.congr (flushed_ok h.d) fun a h0 h1 _=>secAt_flushed h.d ⟨h0,h1⟩
theorem Inv.do_ (h:Inv t b ops k) {o:Op} (ho:o.Ty) (h1:t.seq < 30) (h2:(applyOp t.b o).2 = 0):Inv (doOf t o).1 b (ops++[o]) k:=by
 have hs:=h.seq
 have hk:=h.kl
 have hr:=h.gs
 have hp:RecP t.gen t.seq o:=⟨h.gg,by omega,may_of_ok h2⟩
 have hf:=hp.fit (op_range ho)
 have e:(doOf t o).1 = ⟨wroteTo t.x (34 + t.seq) (padB 128 (recB t.gen t.seq o)),t.gen,t.seq + 1,(applyOp t.b o).1,t.f⟩:=by
  unfold doOf
  rw [if_neg (by omega),if_neg (by simp [h2])]
 rw [e]
 refine ⟨h.gb,h.ch.snoc (by rw [<- h.bk];exact h2) ho,by rw [List.length_append,List.length_singleton];omega,by rw [List.length_append];omega,h.gg,wroteTo_ok h.d hr.w (by omega) (by omega) (padB_length (by rw [recB_length hf];omega)) (padB_bytes (recB_bytes hf.op.user)),?_,h.head,h.other,h.snap,fun i hi hik=>?_,h.rest,?_,?_,?_⟩
 · show t.x.w++[(34 + t.seq,padB 128 (recB t.gen t.seq o))] = _
   rw [List.drop_append_of_le_length hk,pend_snoc,<- h.w,List.length_drop,hs]
   rw [show k + (ops.length - k) = ops.length by omega]
   rfl
 · rw [List.getElem_append_left (by omega)]
   exact h.recs i (by omega) hik
 · show t.seq + 1 = _
   rw [List.length_append,List.length_singleton];omega
 · show (applyOp t.b o).1 = _
   rw [bookAt_snoc,h.bk]
 · show t.f = _
   rw [List.take_append_of_le_length hk];exact h.fk
theorem Inv.doNo (h:Inv t b ops k) {o:Op} (h1:¬ (t.seq < 30∧(applyOp t.b o).2 = 0)):(doOf t o).1 = t∧(doOf t o).2≠0:=by
 unfold doOf
 by_cases h2:30≤t.seq
 · rw [if_pos h2];exact ⟨rfl,by simp⟩
 · rw [if_neg h2,if_pos (fun e=>h1 ⟨by omega,e⟩)]
   exact ⟨rfl,fun e=>h1 ⟨by omega,e⟩⟩
theorem Inv.doYes (h:Inv t b ops k) {o:Op} (h1:t.seq < 30) (h2:(applyOp t.b o).2 = 0):(doOf t o).2 = 0∧(doOf t o).1.b = (applyOp t.b o).1∧(doOf t o).1.gen = t.gen∧(doOf t o).1.seq = t.seq + 1∧(doOf t o).1.x.w.length = t.x.w.length + 1:=by
 unfold doOf
 rw [if_neg (by omega),if_neg (by simp [h2])]
 simp [wroteTo]
theorem Inv.sync (h:Inv t b ops k):Inv (syncOf t) b ops ops.length:=by
 have hf:=h.flush
 have hd:=flushed_ok h.d
 have hn:=h.n
 have hg:=h.gg
 have e:∀ a:Int,secAt (flushTo t.x) a = (flushTo t.x).s.getD a.toNat []:=fun a=>rfl
 refine ⟨h.gb,h.ch,h.n,Nat.le_refl _,h.gg,hd,?_,?_,hf.other,fun i hi=>?_,fun i hi _=>?_,fun i hi hi2=>?_,h.seq,h.bk,?_⟩
 · rw [List.drop_length];rfl
 · exact hf.head
 · exact hf.snap i hi
 · exact hf.recs i hi
 · show NoRec t.gen ((flushTo t.x).s.getD (34 + (i:Int)).toNat [])
   have hk:=h.kl
   rw [<- e,secAt_flushed h.d (by omega)]
   have:secAt t.x (34 + (i:Int)) = t.x.s.getD (34 + (i:Int)).toNat []:=std_no fun p hp=>by
    obtain ⟨j,hj,rfl⟩:=List.getElem_of_mem hp
    obtain ⟨hk2,e3⟩:=h.wat j hj
    rw [e3]
    simp only
    omega
   rw [this]
   exact h.rest i (by omega) hi2
 · show t.b = _
   rw [List.take_length];exact h.bk
end
end Bk
namespace Bk
/-- The writes of a snapshot's first sectors. -/
def snapW (side:Int) (snap:List Nat) (n:Nat):List Wr:=(List.range n).map fun j:Nat=>(2 + side * 16 + (j:Int),chunk snap j)
theorem snapW_length (side:Int) (snap:List Nat) (n:Nat):(snapW side snap n).length = n:=by simp [snapW]
theorem snapW_at (side:Int) (snap:List Nat) (n i:Nat) (h:i < n):(snapW side snap n)[i]'(by rw [snapW_length];exact h) = (2 + side * 16 + (i:Int),chunk snap i):=by simp [snapW]
theorem snapW_mem {side:Int} {snap:List Nat} {n:Nat} {p:Wr} (h:p∈snapW side snap n):∃ i:Nat,i < n∧p = (2 + side * 16 + (i:Int),chunk snap i):=by
 obtain ⟨i,hi,rfl⟩:=List.mem_map.1 h
 exact ⟨i,List.mem_range.1 hi,rfl⟩
theorem laid_upto (x:Disk) (side:Int) (snap head:List Nat):∀ i,i≤16->laid x side snap head i = ⟨x.s,x.w++snapW side snap i⟩
 | 0,_=>by simp [laid,snapW]
 | i + 1,hi=>by
   show (if i < 16 then wroteTo (laid x side snap head i) (2 + side * 16 + i) (chunk snap i) else _) = _
   rw [if_pos (by omega),laid_upto x side snap head i (by omega)]
   unfold wroteTo snapW
   simp only [List.range_succ,List.map_append,List.map_cons,List.map_nil,List.append_assoc]
theorem laid_17 (x:Disk) (side:Int) (snap head:List Nat):laid x side snap head 17 = ⟨flush x.s (x.w++snapW side snap 16),[]⟩:=by
 show (if 16 < 16 then _ else if 16 = 17 then _ else flushTo (laid x side snap head 16)) = _
 rw [if_neg (by omega),if_neg (by omega),laid_upto x side snap head 16 (by omega)]
 rfl
theorem laid_18 (x:Disk) (side:Int) (snap head:List Nat):laid x side snap head 18 = ⟨flush x.s (x.w++snapW side snap 16),[(side,head)]⟩:=by
 show (if 17 < 16 then _ else if 17 = 17 then wroteTo (laid x side snap head 17) side head else _) = _
 rw [if_neg (by omega),if_pos rfl,laid_17]
 rfl
theorem laid_19 (x:Disk) (side:Int) (snap head:List Nat):laid x side snap head 19 = ⟨flush (flush x.s (x.w++snapW side snap 16)) [(side,head)],[]⟩:=by
 show (if 18 < 16 then _ else if 18 = 17 then _ else flushTo (laid x side snap head 18)) = _
 rw [if_neg (by omega),if_neg (by omega),laid_18]
 rfl
theorem std_snap (side:Int) (snap:List Nat) (j:Nat) (h:j < 16) (b:List Nat):std (2 + side * 16 + (j:Int)) b (snapW side snap 16) = chunk snap j:=by
 have e:=snapW_at side snap 16 j h
 have:=std_kept (keep:=List.replicate 16 true) (snapW side snap 16) 0 j (by rw [snapW_length];exact h) e (fun i hi hne=>by
  rw [snapW_length] at hi
  rw [snapW_at side snap 16 i hi]
  simp only
  omega) b
 rw [kept_full _ 0 fun i hi=>by
  rw [snapW_length] at hi
  unfold keepAt
  rw [List.getD_eq_getElem?_getD,Nat.zero_add,List.getElem?_replicate,if_pos (by omega)]
  rfl] at this
 rw [this,Nat.zero_add]
 unfold keepAt
 rw [List.getD_eq_getElem?_getD,List.getElem?_replicate,if_pos h]
 rfl
theorem std_nosnap {side:Int} {snap:List Nat} {n:Nat} {a:Int} (hn:n≤16) (ha:a < 2 + side * 16 ∨ 18 + side * 16≤a) (b:List Nat):std a b (snapW side snap n) = b :=
 std_no fun p hp=>by
  obtain ⟨i,hi,rfl⟩:=snapW_mem hp
  simp only
  omega
theorem laid17_at {x:Disk} (h:Dok x.s x.w) (side:Int) (snap head:List Nat) {a:Int} (ha:0≤a∧a < 64):secAt (laid x side snap head 17) a = std a (secAt x a) (snapW side snap 16):=by
 rw [laid_17,secAt_flat,flush_at2 h.n ha,std_app]
 rfl
theorem laid19_at {x:Disk} (h:Dok x.s x.w) (side:Int) (snap head:List Nat) {a:Int} (ha:0≤a∧a < 64):secAt (laid x side snap head 19) a = if side = a then head else std a (secAt x a) (snapW side snap 16):=by
 rw [laid_19,secAt_flat,flush_at2 (by rw [flush_length];exact h.n) ha,flush_at2 h.n ha,std_app,std_cons]
 rfl
section
variable {x:Disk} {g:Int} {b c:Book} {ops:List Op}
theorem snapC (hb:GB c) (g:Int):Snap (g % 2) (snapB c) (headL g):=snap_ok hb.r hb.ty g
/-- A snapshot that is laid. -/
theorem laid_inv (hd:Dok x.s x.w) (hw:x.w.length≤100) (hg:0≤g∧g < 1000000000) (hb:GB c) (h0:headOf x (g % 2)≤g) (hold:∀ i:Nat,i < 30->NoRec (g + 1) (secAt x (34 + (i:Int)))) :
 Inv ⟨laid x ((g + 1) % 2) (snapB c) (headL (g + 1)) 19,g + 1,0,c,c⟩ c [] 0:=by
 have hok:=(laid_ok hd hw (snapC hb (g + 1)) 19 (Nat.le_refl _)).1
 have at_:∀ a:Int,(laid x ((g + 1) % 2) (snapB c) (headL (g + 1)) 19).s.getD a.toNat [] = secAt (laid x ((g + 1) % 2) (snapB c) (headL (g + 1)) 19) a:=fun a=>by rw [laid_19];rfl
 refine ⟨hb,Chain.nil c,by simp,by simp,by simp only;omega,hok,?_,?_,?_,fun i hi=>?_,fun i hi=>absurd hi (by simp),fun i _ hi=>?_,rfl,rfl,rfl⟩
 · rw [laid_19];rfl
 · show (laid x ((g + 1) % 2) (snapB c) (headL (g + 1)) 19).s.getD ((g + 1) % 2).toNat [] = _
   rw [at_,laid19_at hd _ _ _ (by omega),if_pos rfl]
 · show headOf ⟨(laid x ((g + 1) % 2) (snapB c) (headL (g + 1)) 19).s,[]⟩ ((g + 1 + 1) % 2) < g + 1
   have e:(g + 1 + 1) % 2 = g % 2:=by omega
   rw [e,headOf_congr (x:=x)]
   · omega
   · rw [secAt_flat,at_,laid19_at hd _ _ _ (by omega),if_neg (by omega),std_nosnap (Nat.le_refl _) (by omega)]
 · show (laid x ((g + 1) % 2) (snapB c) (headL (g + 1)) 19).s.getD (2 + (g + 1) % 2 * 16 + (i:Int)).toNat [] = _
   rw [at_,laid19_at hd _ _ _ (by omega),if_neg (by omega),std_snap _ _ i hi]
 · show NoRec (g + 1) ((laid x ((g + 1) % 2) (snapB c) (headL (g + 1)) 19).s.getD (34 + (i:Int)).toNat [])
   rw [at_,laid19_at hd _ _ _ (by omega),if_neg (by omega),std_nosnap (Nat.le_refl _) (by omega)]
   exact hold i hi
theorem On.lay (h:On x g b ops) (hw:x.w.length≤100) (hg:g < 1000000000) (hb:GB c):Inv ⟨laid x ((g + 1) % 2) (snapB c) (headL (g + 1)) 19,g + 1,0,c,c⟩ c [] 0 :=
 laid_inv h.d hw ⟨by have:=h.gg;omega,hg⟩ hb (by rw [headOf_head h.gg h.head];omega) h.old
/-- In the midst of it,ahead of the head,what stood stands still. -/
theorem On.lay17 (h:On x g b ops) (hw:x.w.length≤100) (hb:GB c):On (laid x ((g + 1) % 2) (snapB c) (headL (g + 1)) 17) g b ops :=
 h.congr (laid_ok h.d hw (snapC hb (g + 1)) 17 (by omega)).1 fun a h0 h1 h2=>by rw [laid17_at h.d _ _ _ ⟨h0,h1⟩,std_nosnap (Nat.le_refl _) h2]
theorem crashed_none {x:Disk} (h:x.w = []) (keep:List Bool):crashed x keep = x:=by
 unfold crashed
 rw [h]
 show (⟨flush x.s [],[]⟩:Disk) = x
 rw [flush_nil]
 obtain ⟨s,w⟩:=x
 simp only at h
 subst h
 rfl
theorem On.mid (h:On x g b ops) (hw:x.w = []) (hb:GB c) (i:Nat) (hi:i≤17) (keep:List Bool):On (crashed (laid x ((g + 1) % 2) (snapB c) (headL (g + 1)) i) keep) g b ops:=by
 have hl:x.w.length≤100:=by rw [hw];simp
 have hok:=(laid_ok h.d hl (snapC hb (g + 1)) i (by omega)).1
 by_cases h17:i = 17
 · subst h17
   rw [crashed_none (by rw [laid_17]) keep]
   exact h.lay17 hl hb
 · refine h.congr (crashed_ok hok keep) fun a h0 h1 h2=>?_
   rw [secAt_crashed hok keep ⟨h0,h1⟩,laid_upto x _ _ _ i (by omega),hw]
   simp only [List.nil_append]
   rw [std_no fun p hp=>?_]
   · unfold secAt;rw [hw];rfl
   · obtain ⟨j,hj,rfl⟩:=snapW_mem (kept_sub keep _ 0 p hp)
     simp only
     omega
/-- With the head under way,one of the two stands. -/
theorem On.late (h:On x g b ops) (hw:x.w = []) (hg:g < 1000000000) (hb:GB c) (keep:List Bool):On (crashed (laid x ((g + 1) % 2) (snapB c) (headL (g + 1)) 18) keep) g b ops ∨ On (crashed (laid x ((g + 1) % 2) (snapB c) (headL (g + 1)) 18) keep) (g + 1) c []:=by
 have hl:x.w.length≤100:=by rw [hw];simp
 by_cases hk:keepAt keep 0 = true
 · right
   have e:crashed (laid x ((g + 1) % 2) (snapB c) (headL (g + 1)) 18) keep = laid x ((g + 1) % 2) (snapB c) (headL (g + 1)) 19:=by
    rw [laid_18,laid_19]
    unfold crashed
    rw [show Go.Proofs.YtjkpeebajibgiaaGreat.kept keep 0 [(((g + 1) % 2),headL (g + 1))] = [(((g + 1) % 2),headL (g + 1))] by
     show (if keepAt keep 0 = true then _ else _) = _
     rw [if_pos hk];rfl]
   rw [e]
   exact (h.lay hl hg hb).on
 · left
   have e:crashed (laid x ((g + 1) % 2) (snapB c) (headL (g + 1)) 18) keep = laid x ((g + 1) % 2) (snapB c) (headL (g + 1)) 17:=by
    rw [laid_18,laid_17]
    unfold crashed
    rw [show Go.Proofs.YtjkpeebajibgiaaGreat.kept keep 0 [(((g + 1) % 2),headL (g + 1))] = [] by
     show (if keepAt keep 0 = true then _ else _) = _
     rw [if_neg hk];rfl]
    simp only
    rw [flush_nil]
   rw [e]
   exact h.lay17 hl hb
theorem On.end_ (h:On x g b ops) (hw:x.w.length≤100) (hg:g < 1000000000) (hb:GB c) (keep:List Bool):On (crashed (laid x ((g + 1) % 2) (snapB c) (headL (g + 1)) 19) keep) (g + 1) c []:=by
 rw [crashed_none (by rw [laid_19]) keep]
 exact (h.lay hw hg hb).on
/-- What begins anew. -/
theorem On.recover (h:On x g b ops) (hw:x.w.length≤100) (hg:g < 1000000000) (hb:GB b) (hc:Chain b ops) :
 recoverOf x = (⟨laid x ((g + 1) % 2) (snapB (closeOp (bookAt b ops))) (headL (g + 1)) 19,g + 1,0,closeOp (bookAt b ops),closeOp (bookAt b ops)⟩,0):=by
 have hf:=h.found hb hc
 have e:checkOf (shutOf (foundOf x).1) = (⟨laid x ((g + 1) % 2) (snapB (closeOp (bookAt b ops))) (headL (g + 1)) 19,g + 1,0,closeOp (bookAt b ops),closeOp (bookAt b ops)⟩,0):=by
  rw [hf]
  unfold checkOf shutOf
  simp only
  rw [if_neg (by omega)]
  rfl
 unfold recoverOf
 rw [e,hf]
 simp
theorem close_twice (b:Book):closeOp (closeOp b) = closeOp b:=by simp [closeOp,ends]
end
/-- A store that has been begun. -/
def Begun (t:Sto):Prop:=∃ b ops k,Inv t b ops k
theorem Begun.check {t:Sto} (h:Begun t) (hg:t.gen < 1000000000):Inv (checkOf t).1 t.b [] 0∧(checkOf t).2 = 0∧(checkOf t).1 = ⟨laidOf t 19,t.gen + 1,0,t.b,t.b⟩:=by
 obtain ⟨b,ops,k,h⟩:=h
 have e:checkOf t = (⟨laidOf t 19,t.gen + 1,0,t.b,t.b⟩,0):=if_neg (by omega)
 rw [e]
 exact ⟨h.on.lay h.gs.w hg h.gbt,rfl,rfl⟩
theorem headOf_zero (i:Int) (hi:i = 0 ∨ i = 1):headOf ⟨zeroS,[]⟩ i = 0:=by
 have e:secAt ⟨zeroS,[]⟩ i = List.replicate 128 0:=by
  rcases hi with rfl | rfl <;> rfl
 unfold headOf
 rw [e]
 have:headP (List.replicate 128 0) = none:=by kernel_rfl
 rw [this]
 simp [gotE]
theorem zero_sec (i:Nat) (hi:i < 64):secAt ⟨zeroS,[]⟩ (i:Int) = List.replicate 128 0:=by
 have h:zeroS.getD ((i:Int)).toNat [] = List.replicate 128 0:=by
  have hn:zeroS.length = 64:=zero_dok.n
  rw [Int.toNat_natCast,List.getD_eq_getElem?_getD,List.getElem?_eq_getElem (by omega)]
  have h2:zeroS[i]'(by omega) = Go.Proofs.YtjkpeebajibgiaaGreat.noughts:=List.eq_of_mem_replicate (n:=64) (List.getElem_mem _)
  rw [Option.getD_some,h2]
  rfl
 exact h
theorem format_inv:Inv formatOf nilBook [] 0:=by
 have:=laid_inv (x:=⟨zeroS,[]⟩) (g:=0) (c:=nilBook) zero_dok (by simp) (by omega) gb_nil (by rw [headOf_zero _ (by omega)];omega) (fun i hi=>by
  have e:(34 + (i:Int)) = ((34 + i:Nat):Int):=by omega
  rw [e,zero_sec (34 + i) (by omega)]
  exact noRec_zero _)
 exact this
/-- A store behind an act. -/
noncomputable def oneOf (t:Sto) (a:Act6):Sto :=
 if a.kind = 0 then (doOf t a.o).1 else if a.kind = 1 then syncOf t else if a.kind = 2 then (checkOf t).1 else if a.kind = 3 then (if (recoverOf (crashed t.x a.keep)).2 = 0 then (recoverOf (crashed t.x a.keep)).1 else t) else t
noncomputable def runOf (l:List Act6):Nat->Sto
 | 0=>formatOf
 | i + 1=>if h:i < l.length then oneOf (runOf l i) l[i] else runOf l i
theorem crashed_w (x:Disk) (keep:List Bool):(crashed x keep).w = []:=rfl
theorem Begun.crash {t:Sto} (h:Begun t) (keep:List Bool) (hg:t.gen < 1000000000):(recoverOf (crashed t.x keep)).2 = 0∧Begun (recoverOf (crashed t.x keep)).1∧(recoverOf (crashed t.x keep)).1.gen = t.gen + 1:=by
 obtain ⟨b,ops,k,h⟩:=h
 have ho:=h.crash keep
 have hc:=h.ch.take (k + min (leadOf keep) (ops.length - k))
 have hw:(crashed t.x keep).w.length≤100:=by simp [crashed_w]
 rw [ho.recover hw hg h.gb hc]
 exact ⟨rfl,⟨_,_,_,ho.lay hw hg (gb_close (gb_bookAt h.gb hc.ty))⟩,rfl⟩
theorem Begun.one {t:Sto} (h:Begun t) (a:Act6) (ha:a.o.Ty) (hg:t.gen < 1000000000):Begun (oneOf t a)∧(oneOf t a).gen≤t.gen + 1:=by
 have hh:=h
 obtain ⟨b,ops,k,hi⟩:=hh
 unfold oneOf
 by_cases h0:a.kind = 0
 · rw [if_pos h0]
   by_cases h1:t.seq < 30∧(applyOp t.b a.o).2 = 0
   · exact ⟨⟨_,_,_,hi.do_ ha h1.1 h1.2⟩,by rw [(hi.doYes h1.1 h1.2).2.2.1];omega⟩
   · rw [(hi.doNo h1).1];exact ⟨h,by omega⟩
 rw [if_neg h0]
 by_cases h1:a.kind = 1
 · rw [if_pos h1]
   exact ⟨⟨_,_,_,hi.sync⟩,by show t.gen≤_;omega⟩
 rw [if_neg h1]
 by_cases h2:a.kind = 2
 · rw [if_pos h2]
   obtain ⟨q1,q2,q3⟩:=h.check hg
   exact ⟨⟨_,_,_,q1⟩,by rw [q3];simp⟩
 rw [if_neg h2]
 by_cases h3:a.kind = 3
 · rw [if_pos h3]
   obtain ⟨q1,q2,q3⟩:=h.crash a.keep hg
   rw [if_pos q1]
   exact ⟨q2,by omega⟩
 · rw [if_neg h3];exact ⟨h,by omega⟩
theorem run_begun (l:List Act6) (hl:l.length≤1000) (ht:∀ a∈l,a.o.Ty):∀ i,i≤l.length->Begun (runOf l i)∧(runOf l i).gen≤i + 1
 | 0,_=>⟨⟨_,_,_,format_inv⟩,by simp [runOf,formatOf]⟩
 | i + 1,hi=>by
   obtain ⟨h1,h2⟩:=run_begun l hl ht i (by omega)
   have hlt:i < l.length:=by omega
   show Begun (if h:i < l.length then oneOf (runOf l i) l[i] else runOf l i)∧(if h:i < l.length then oneOf (runOf l i) l[i] else runOf l i).gen≤_
   rw [dif_pos hlt]
   obtain ⟨q1,q2⟩:=h1.one l[i] (ht _ (List.getElem_mem hlt)) (by omega)
   exact ⟨q1,by omega⟩
section
variable (Γ:Nat->Option (List Data))
theorem rcrash3_pc {t:Sto} (h:Begun t) (keep:List Bool) (hk:keep.length≤1000):PC Tryz.prog Γ 33 [dk t.x.s t.x.w,.sl 1 (bools keep)] (dk (crashed t.x keep).s (crashed t.x keep).w):=by
 obtain ⟨b,ops,k,h⟩:=h
 exact rcrash_pc Γ t.x.s t.x.w h.d keep hk
theorem do3_pc {t:Sto} (h:Begun t) (o:Op) (ho:o.Ty):PC Tryz.prog Γ 13 [sto t,op o] (.tup [sto (doOf t o).1,.int .i64 (doOf t o).2]):=by
 obtain ⟨b,ops,k,h⟩:=h
 have hs:=h.gs
 exact do2_pc Γ t o hs.ok hs.q.1 (hs.b.fine o) (op_range ho) fun h1 h2=>⟨h.gg,by have:=hs.q;omega,may_of_ok h1⟩
theorem rdo3_pc {t:Sto} (h:Begun t) (o:Op) (ho:o.Ty) (hu:o.user.size≤1000):PC Tryz.prog Γ 14 [sto t,op o] (.tup [sto (doOf t o).1,.int .i64 (doOf t o).2]):=by
 obtain ⟨b,ops,k,h⟩:=h
 have hs:=h.gs
 exact rdo2_pc Γ t o hs.ok hs.q.1 (hs.b.fine o) (op_range ho) (by omega) fun h1 h2=>⟨h.gg,by have:=hs.q;omega,may_of_ok h1⟩
theorem Begun.gs {t:Sto} (h:Begun t):GS t:=by obtain ⟨b,ops,k,h⟩:=h;exact h.gs
theorem one_pc {t:Sto} (h:Begun t) (a:Act6) (ha:a.o.Ty) (hu:a.o.user.size≤1000) (hk:a.keep.length≤1000) (hg:t.gen < 1000000000):PC Tryz.prog Γ 37 [sto t,act6 a] (sto (oneOf t a)):=by
 unfold oneOf
 by_cases h0:a.kind = 0
 · rw [if_pos h0];exact oneDo_pc Γ t _ a h0 _ (rdo3_pc Γ h a.o ha hu)
 rw [if_neg h0]
 by_cases h1:a.kind = 1
 · rw [if_pos h1];exact oneSync_pc Γ t _ a h1 (rsync_pc Γ t h.gs.d)
 rw [if_neg h1]
 by_cases h2:a.kind = 2
 · rw [if_pos h2];exact oneCheck_pc Γ t _ a h2 _ (rcheck2_pc Γ t h.gs.ok)
 rw [if_neg h2]
 by_cases h3:a.kind = 3
 · rw [if_pos h3]
   obtain ⟨q1,q2,q3⟩:=h.crash a.keep hg
   have:=oneCrash_pc Γ t (recoverOf (crashed t.x a.keep)).1 a h3 (crashed t.x a.keep) (recoverOf (crashed t.x a.keep)).2 (rcrash3_pc Γ h a.keep hk) (rrecover3_pc Γ _ (crashed_ok h.gs.d _) (by simp [crashed_w]))
   rw [if_pos q1] at this ⊢
   exact this
 · rw [if_neg h3];exact oneElse_pc Γ t a h0 h1 h2 h3
theorem run3_pc (l:List Act6) (hl:l.length≤1000) (ht:∀ a∈l,a.o.Ty) (hf:∀ a∈l,a.o.user.size≤1000∧a.keep.length≤1000):PC Tryz.prog Γ 12 [.sl 11 (acts6 l)] (sto (runOf l l.length)):=by
 refine run6_pc Γ l (by omega) (runOf l) (rformat3_pc Γ) fun i hi=>?_
 obtain ⟨h1,h2⟩:=run_begun l hl ht i (by omega)
 have hm:=List.getElem_mem hi
 have:=one_pc Γ h1 l[i] (ht _ hm) (hf _ hm).1 (hf _ hm).2 (by omega)
 show PC _ _ _ _ (sto (if h:i < l.length then oneOf (runOf l i) l[i] else runOf l i))
 rw [dif_pos hi]
 exact this
end
end Bk
theorem lift_list {α:Type} {f:α->Data} {p:α->Prop}:∀ {l:List Data},(∀ x∈l,∃ a,p a∧x = f a)->∃ m:List α,l = m.map f∧∀ a∈m,p a
 | [],_=>⟨[],rfl,by simp⟩
 | x :: l,h=>by
   obtain ⟨a,ha,rfl⟩:=h x (by simp)
   obtain ⟨m,rfl,hm⟩:=lift_list (l:=l) fun y hy=>h y (by simp [hy])
   exact ⟨a :: m,rfl,by simpa using ⟨ha,hm⟩⟩
/-- What is known of a disk that comes in. -/
structure Din (s:List (List Nat)) (w:List Wr):Prop where
 sn:s.length≤140737488351232
 wn:w.length≤140737488351232
 lt:∀ b∈s,∀ x∈b,x < 256
 wlt:∀ p∈w,∀ x∈p.2,x < 256
theorem ok_disk {n:Nat} {ds:List Data} (h:okD Tryz.prog (n + 5) 32 ds):∃ s w,Din s w∧ds = [.sl 1 (secs s),.sl 2 (wrs w)]:=by
 unfold okD at h
 simp only [Tryz.underlying32] at h
 obtain ⟨d1,r1,rfl,h1,h⟩:=okF_cons h
 obtain ⟨d2,r2,rfl,h2,h⟩:=okF_cons h
 obtain rfl:=okF_nil h
 obtain ⟨l,rfl,hl,he⟩:=ok_slice Tryz.underlying29 h1
 obtain ⟨v,rfl,hv,hf⟩:=ok_slice Tryz.underlying30 h2
 obtain ⟨s,rfl,hs⟩:=lift_list (f:=sec) (p:=fun b:List Nat=>∀ x∈b,x < 256) fun x hx=>by
  obtain ⟨b,hb,_,rfl⟩:=arg_bytes Tryz.underlying77 Tryz.underlying5 (by kernel_rfl) (he x hx)
  exact ⟨b,hb,rfl⟩
 obtain ⟨w,rfl,hw⟩:=lift_list (f:=wr) (p:=fun q:Wr=>∀ x∈q.2,x < 256) fun x hx=>by
  obtain ⟨ds,rfl,h⟩:=arg_struct Tryz.underlying99 (hf x hx)
  obtain ⟨d1,r1,rfl,h1,h⟩:=okF_cons h
  obtain ⟨d2,r2,rfl,h2,h⟩:=okF_cons h
  obtain rfl:=okF_nil h
  obtain ⟨i,_,_,rfl⟩:=ok_i64 Tryz.underlying3 h1
  obtain ⟨b,hb,_,rfl⟩:=ok_bytes Tryz.underlying77 Tryz.underlying5 (by kernel_rfl) h2
  exact ⟨(i,b),hb,rfl⟩
 exact ⟨s,w,⟨by simpa using hl,by simpa using hv,hs,hw⟩,by rw [show Tryz.prog.cellsOf 77 = 1 by kernel_rfl,show Tryz.prog.cellsOf 99 = 2 by kernel_rfl];rfl⟩
theorem arg_disk {n:Nat} {x:Data} (a:argD Tryz.prog (n + 5) 32 x):∃ s w,Din s w∧x = dk s w:=by
 obtain ⟨ds,rfl,h⟩:=a
 obtain ⟨s,w,hd,rfl⟩:=ok_disk h
 exact ⟨s,w,hd,by simp [mkE,Tryz.underlying32,dk]⟩
theorem ok_bools {n:Nat} {ds:List Data} (h:okD Tryz.prog (n + 2) 59 ds):∃ k:List Bool,k.length≤140737488351232∧ds = [.sl 1 (bools k)]:=by
 obtain ⟨l,rfl,hl,he⟩:=ok_slice Tryz.underlying59 h
 obtain ⟨k,rfl,_⟩:=lift_list (f:=Data.bool) (p:=fun _=>True) fun x hx=>by
  obtain ⟨b,rfl⟩:=arg_bool Tryz.underlying4 (he x hx)
  exact ⟨b,trivial,rfl⟩
 exact ⟨k,by simpa using hl,by rw [show Tryz.prog.cellsOf 4 = 1 by kernel_rfl];rfl⟩
theorem arg_bools {n:Nat} {x:Data} (a:argD Tryz.prog (n + 2) 59 x):∃ k:List Bool,k.length≤140737488351232∧x = .sl 1 (bools k):=by
 obtain ⟨ds,rfl,h⟩:=a
 obtain ⟨k,hk,rfl⟩:=ok_bools h
 exact ⟨k,hk,by simp [mkE,Tryz.underlying59]⟩
theorem dok_of {s:List (List Nat)} {w:List Wr} (d:Din s w) (h1:Sm s w) (h2:Rt s w):Dok s w where
 n:=h2.1
 len:=h2.2.1
 lt:=d.lt
 wlen:=fun p hp=>(h2.2.2 p hp).2.2
 wat:=fun p hp=>by have:=h2.2.2 p hp;omega
 wlt:=d.wlt
 wn:=by have:=h1.2.1;omega
namespace Bk
section
variable (Γ:Nat->Option (List Data))
set_option maxHeartbeats 2000000 in
theorem psame_pc (s t:Sto) (p q r:Bool) (c1:PC Tryz.prog Γ 55 [dk s.x.s s.x.w,dk t.x.s t.x.w] (.bool p)) (c2:PC Tryz.prog Γ 56 [book s.b,book t.b] (.bool q)) (c3:PC Tryz.prog Γ 56 [book s.f,book t.f] (.bool r)) :
 PC Tryz.prog Γ 25 [sto s,sto t] (.bool (decide (s.gen = t.gen) && (decide (s.seq = t.seq) && (p && (q && r))))):=by
 refine pc_by mixed Tryz.func25 rfl (fun args w=>Tryz.call25 args w) ?_
 unfold sto bookL
 unfold dk book at *
 by_cases h1:s.gen = t.gen
 · rw [decide_eq_true h1,Bool.true_and]
   by_cases h2:s.seq = t.seq
   · rw [decide_eq_true h2,Bool.true_and]
     simp -implicitDefEqProofs (disch:=omega) [go_sem,h1,h2]
     refine .inl (call_data c1 (by simp [go_sem]) ?_)
     cases p with
     | false=>simp -implicitDefEqProofs (disch:=omega) [go_sem,Tryz.f25]
     | true =>
       rw [Bool.true_and]
       simp -implicitDefEqProofs (disch:=omega) [go_sem]
       refine .inl (call_data c2 (by simp [go_sem]) ?_)
       cases q with
       | false=>simp -implicitDefEqProofs (disch:=omega) [go_sem,Tryz.f25]
       | true =>
         rw [Bool.true_and]
         simp -implicitDefEqProofs (disch:=omega) [go_sem]
         refine .inl (call_data c3 (by simp [go_sem]) ?_)
         simp -implicitDefEqProofs (disch:=omega) [go_sem,Tryz.f25]
   · rw [decide_eq_false h2,Bool.false_and]
     simp -implicitDefEqProofs (disch:=omega) [go_sem,h1,h2,Tryz.f25]
 · rw [decide_eq_false h1,Bool.false_and]
   simp -implicitDefEqProofs (disch:=omega) [go_sem,h1,Tryz.f25]
set_option maxHeartbeats 2000000 in
theorem rsame06_pc (s t:Sto) (p q r:Bool) (c1:PC Tryz.prog Γ 22 [dk s.x.s s.x.w,dk t.x.s t.x.w] (.bool p)) (c2:PC Tryz.prog Γ 34 [book s.b,book t.b] (.bool q)) (c3:PC Tryz.prog Γ 34 [book s.f,book t.f] (.bool r)) :
 PC Tryz.prog Γ 17 [sto s,sto t] (.bool (p && (q && (r && (decide (s.gen = t.gen) && decide (s.seq = t.seq)))))):=by
 refine pc_by mixed Tryz.func17 rfl (fun args w=>Tryz.call17 args w) ?_
 unfold sto bookL
 unfold dk book at *
 simp -implicitDefEqProofs (disch:=omega) [go_sem]
 refine .inl (call_data c1 (by simp [go_sem]) ?_)
 simp -implicitDefEqProofs (disch:=omega) [go_sem]
 refine .inl (call_data c2 (by simp [go_sem]) ?_)
 simp -implicitDefEqProofs (disch:=omega) [go_sem]
 refine .inl (call_data c3 (by simp [go_sem]) ?_)
 cases p with
 | false=>simp -implicitDefEqProofs (disch:=omega) [go_sem,Tryz.f17]
 | true =>
   cases q with
   | false=>simp -implicitDefEqProofs (disch:=omega) [go_sem,Tryz.f17]
   | true =>
     cases r with
     | false=>simp -implicitDefEqProofs (disch:=omega) [go_sem,Tryz.f17]
     | true =>
       simp only [Bool.true_and]
       by_cases h1:s.gen = t.gen
       · rw [decide_eq_true h1,Bool.true_and]
         by_cases h2:s.seq = t.seq
         · rw [decide_eq_true h2]
           simp -implicitDefEqProofs (disch:=omega) [go_sem,h1,h2,Tryz.f17]
         · rw [decide_eq_false h2]
           simp -implicitDefEqProofs (disch:=omega) [go_sem,h1,h2,Tryz.f17]
       · rw [decide_eq_false h1,Bool.false_and]
         simp -implicitDefEqProofs (disch:=omega) [go_sem,h1,Tryz.f17]
end
end Bk
namespace Bk
def uS:ByteArray:=⟨#[117]⟩
theorem uS_size:uS.size = 1:=rfl
def opS:Op:=⟨4,0,0,0,uS,0,0,0,7⟩
theorem opS_ty:opS.Ty:=by
 refine ⟨?_,?_,?_,?_,?_,?_,?_,?_,?_⟩ <;> first | (unfold R64;decide) | (unfold U64;decide) | decide
theorem opS_apply:applyOp nilBook opS = (⟨0,[],[],[⟨uS,1,7⟩]⟩,0):=by
 have hm:MayP opS:=by simp [MayP,opS,uS_size]
 unfold applyOp
 rw [if_neg (by simpa using hm),if_neg (by decide),if_neg (by decide),if_pos (by decide)]
 unfold failedOp failedAt
 rw [if_neg (by decide)]
 have:failed nilBook opS.user = -1:=failed_no (by simp [nilBook])
 rw [this,if_pos (by decide)]
 rfl
section
variable (Γ:Nat->Option (List Data))
theorem psame_self {t:Sto} (h:GS t):PC Tryz.prog Γ 25 [sto t,sto t] (.bool true):=by
 have:=psame_pc Γ t t true true true (by have:=Go.Proofs.YtjkpeebajibgiaaGreat.same_pc Γ t.x.s t.x.s t.x.w t.x.w h.d h.d;rwa [decide_eq_true ⟨rfl,rfl⟩] at this)
  (by have:=same2_pc Γ t.b t.b h.b.fits h.b.fits h.b.ty h.b.ty;rwa [decide_eq_true rfl] at this) (by have:=same2_pc Γ t.f t.f h.f.fits h.f.fits h.f.ty h.f.ty;rwa [decide_eq_true rfl] at this)
 simpa using this
theorem rsame_self {t:Sto} (h:GS t):PC Tryz.prog Γ 17 [sto t,sto t] (.bool true):=by
 have:=rsame06_pc Γ t t true true true (by have:=Go.Proofs.YtjkpeebajibgiaaGreat.rsame_pc Γ t.x.s t.x.s t.x.w t.x.w h.d h.d;rwa [decide_eq_true ⟨rfl,rfl⟩] at this)
  (by have:=Bk.same_pc Γ t.b t.b h.b.fits h.b.fits h.b.ty h.b.ty;rwa [decide_eq_true rfl] at this) (by have:=Bk.same_pc Γ t.f t.f h.f.fits h.f.fits h.f.ty h.f.ty;rwa [decide_eq_true rfl] at this)
 simpa using this
set_option maxHeartbeats 8000000 in
theorem shown6_pc:PC Tryz.prog Γ 10 [] (.bool true):=by
 refine pc_by mixed Tryz.func10 rfl (fun args w=>Tryz.call10 args w) ?_
 have i0:=format_inv
 have b0:Begun formatOf:=⟨_,_,_,i0⟩
 have hap:(applyOp formatOf.b opS).2 = 0:=by show (applyOp nilBook opS).2 = 0;rw [opS_apply]
 have hb1:(applyOp formatOf.b opS).1 = ⟨0,[],[],[⟨uS,1,7⟩]⟩:=by show (applyOp nilBook opS).1 = _;rw [opS_apply]
 have i1:=i0.do_ opS_ty (by decide) hap
 obtain ⟨e1,e2,e3,e4,e5⟩:=i0.doYes (o:=opS) (by decide) hap
 have c1:=format3_pc Γ
 have c2:=do3_pc Γ b0 opS opS_ty
 rw [e1] at c2
 rw [hb1] at e2
 have bg1:Begun (doOf formatOf opS).1:=⟨_,_,_,i1⟩
 have g1:(doOf formatOf opS).1.gen = 1:=e3
 generalize (doOf formatOf opS).1 = t1 at *
 have s1:=i1.sync
 have bs:Begun (syncOf t1):=⟨_,_,_,s1⟩
 have c3:=rcrash3_pc Γ bg1 [] (by simp)
 have c4:=rcrash3_pc Γ bg1 [true] (by simp)
 have c5:=rcrash3_pc Γ bs [] (by simp)
 have f3:=found3_pc Γ _ (crashed_ok bg1.gs.d [])
 have f4:=found3_pc Γ _ (crashed_ok bg1.gs.d [true])
 have f5:=recover3_pc Γ _ (crashed_ok bs.gs.d []) (by simp [crashed_w])
 have o3:=i1.crash []
 have o4:=i1.crash [true]
 have o5:=s1.crash []
 rw [g1] at o3 o4
 have gs1:(syncOf t1).gen = 1:=g1
 rw [gs1] at o5
 have n3:=o3.found gb_nil (i1.ch.take _)
 have n4:=o4.found gb_nil (i1.ch.take _)
 have n5:=o5.recover (by simp [crashed_w]) (by decide) gb_nil (s1.ch.take _)
 have bk:bookAt nilBook [opS] = ⟨0,[],[],[⟨uS,1,7⟩]⟩:=by show (applyOp nilBook opS).1 = _;rw [opS_apply]
 simp only [List.nil_append,List.length_cons,List.length_nil,leadOf,Nat.zero_add,Nat.sub_zero,Nat.min_self,Nat.sub_self,Nat.zero_min,Nat.add_zero,List.take_zero,List.take_succ_cons,Nat.min_zero] at n3 n4 n5
 rw [bk] at n4 n5
 rw [n3] at f3
 rw [n4] at f4
 rw [n5] at f5
 have c6:=psame_self Γ bg1.gs
 have c7:=steps2_pc Γ t1 bg1.gs.ok (by omega)
 have c8:=sync_pc Γ t1 bg1.gs.d bg1.gs.b.short
 obtain ⟨r3,l3,f3⟩:∃ r:Sto,r.b.locks = []∧PC Tryz.prog Γ 28 [dk (crashed t1.x []).s (crashed t1.x []).w] (.tup [sto r,.int .i64 0]):=⟨_,rfl,f3⟩
 obtain ⟨r4,l4,f4⟩:∃ r:Sto,r.b.locks.length = 1∧PC Tryz.prog Γ 28 [dk (crashed t1.x [true]).s (crashed t1.x [true]).w] (.tup [sto r,.int .i64 0]):=⟨_,rfl,f4⟩
 obtain ⟨r5,l5,q5,f5⟩:∃ r:Sto,r.b.locks.length = 1∧r.gen = 2∧PC Tryz.prog Γ 30 [dk (crashed (syncOf t1).x []).s (crashed (syncOf t1).x []).w] (.tup [sto r,.int .i64 0]):=⟨_,rfl,rfl,f5⟩
 have c8:PC Tryz.prog Γ 18 [sto t1] (sto (syncOf t1)):=c8
 have hd7:=disksL_length (laidOf t1) 20
 generalize disksL (laidOf t1) 20 = D7 at *
 generalize syncOf t1 = t2 at *
 generalize crashed t1.x [] = y3 at *
 generalize crashed t1.x [true] = y4 at *
 generalize crashed t2.x [] = y5 at *
 clear n3 n4 n5 o3 o4 o5 i0 b0 i1 s1 bs hap hb1 bg1
 generalize formatOf = t0 at *
 unfold op opS at c2
 unfold sto bookL dk at *
 simp -implicitDefEqProofs (disch:=omega) [go_sem]
 refine .inl (call_data c1 (by simp [go_sem]) ?_)
 simp -implicitDefEqProofs (disch:=omega) [go_sem]
 refine .inl (call_data c2 (by simp [go_sem,uS]) ?_)
 simp -implicitDefEqProofs (disch:=omega) [go_sem]
 refine .inl (call_frz [] [] (by simp) c3 (fun H' hH'=>frzL_c (.data _) (frzL_c (.emp ..) frzL_n)) ?_)
 simp -implicitDefEqProofs (disch:=omega) [go_sem]
 refine .inl (call_data f3 (by simp [go_sem]) ?_)
 simp -implicitDefEqProofs (disch:=omega) [go_sem]
 refine .inl (call_keep 22 c4 (rw:=true) (cells:=(bools [true]).map D.data) (by simp [Hp.upd,Hp.set,bools]) (fun H' hg=>frzL_c (.data _) (frzL_c (frz_ref (rw:=false) (cells:=(bools [true]).map D.data) hg (.inr rfl) rfl (by simp [bools,Data.cells]) rfl) frzL_n)) ?_)
 simp -implicitDefEqProofs (disch:=omega) [go_sem]
 refine .inl (call_data f4 (by simp [go_sem]) ?_)
 simp -implicitDefEqProofs (disch:=omega) [go_sem]
 refine .inl (call_data c8 (by simp [go_sem]) ?_)
 simp -implicitDefEqProofs (disch:=omega) [go_sem]
 refine .inl (call_frz [] [] (by simp) c5 (fun H' hH'=>frzL_c (.data _) (frzL_c (.emp ..) frzL_n)) ?_)
 simp -implicitDefEqProofs (disch:=omega) [go_sem]
 refine .inl (call_data f5 (by simp [go_sem]) ?_)
 simp -implicitDefEqProofs (disch:=omega) [go_sem]
 refine .inl (call_data c6 (by simp [go_sem]) ?_)
 simp -implicitDefEqProofs (maxSteps:=4000000) (disch:=omega) [go_sem,l3,l4,l5,q5]
 refine .inl (call_data c7 (by simp [go_sem]) ?_)
 simp -implicitDefEqProofs (maxSteps:=4000000) (disch:=omega) [go_sem,hd7,Tryz.f10]
end
end Bk
namespace Bk
theorem arg_act {n:Nat} {x:Data} (a:argD Tryz.prog (n + 5) 73 x):∃ t:Act6,t.o.Ty∧x = act6 t:=by
 obtain ⟨ds,rfl,h⟩:=arg_struct Tryz.underlying73 a
 obtain ⟨d1,r1,rfl,h1,h⟩:=okF_cons h
 obtain ⟨d2,r2,rfl,h2,h⟩:=okF_cons h
 obtain ⟨d3,r3,rfl,h3,h⟩:=okF_cons h
 obtain rfl:=okF_nil h
 obtain ⟨i,_,_,rfl⟩:=ok_i64 Tryz.underlying3 h1
 obtain ⟨o,ho,rfl⟩:=ok_op h2
 obtain ⟨k,_,rfl⟩:=ok_bools h3
 exact ⟨⟨i,o,k⟩,ho,rfl⟩
theorem arg_acts {n:Nat} {x:Data} (a:argD Tryz.prog (n + 6) 22 x):∃ l:List Act6,x = .sl 11 (acts6 l)∧l.length≤140737488351232∧∀ a∈l,a.o.Ty:=by
 obtain ⟨l,rfl,hl,h⟩:=arg_slice Tryz.underlying22 a
 obtain ⟨m,rfl,hm⟩:=lift_list (f:=act6) (p:=fun t:Act6=>t.o.Ty) fun x hx=>arg_act (h x hx)
 exact ⟨m,by rw [show (Tryz.prog).cellsOf 73 = 11 by kernel_rfl];rfl,by simpa using hl,hm⟩
theorem Begun.ran {l:List Act6} (hl:l.length≤1000) (ht:∀ a∈l,a.o.Ty):Begun (runOf l l.length)∧(runOf l l.length).gen≤l.length + 1:=run_begun l hl ht l.length (Nat.le_refl _)
theorem Begun.did {t:Sto} (h:Begun t) {o:Op} (ho:o.Ty):Begun (doOf t o).1:=by
 have hh:=h
 obtain ⟨b,ops,k,hi⟩:=hh
 by_cases h1:t.seq < 30∧(applyOp t.b o).2 = 0
 · exact ⟨_,_,_,hi.do_ ho h1.1 h1.2⟩
 · rw [(hi.doNo h1).1];exact h
theorem Begun.synced {t:Sto} (h:Begun t):Begun (syncOf t):=by
 obtain ⟨b,ops,k,hi⟩:=h
 exact ⟨_,_,_,hi.sync⟩
theorem Begun.checked {t:Sto} (h:Begun t) (hg:t.gen < 1000000000):Begun (checkOf t).1:=⟨_,_,_,(h.check hg).1⟩
section
variable (Γ:Nat->Option (List Data))
set_option maxHeartbeats 4000000 in
theorem rsame_none:PC Tryz.prog Γ 22 [dk [] [],dk [] []] (.bool true):=by
 refine pc_by mixed Tryz.func22 rfl (fun args w=>Tryz.call22 args w) ?_
 simp -implicitDefEqProofs (disch:=omega) [go_sem,dk,secs,wrs]
 refine loop_ren (σ:=Unit) (fun _=>⟨envL [(2,.ptr 0 0),(3,.ptr 1 0),(5,.data (.int .i64 0))],hpL [(0,.blk true [.data (.sl 1 []),.data (.sl 2 [])]),(1,.blk true [.data (.sl 1 []),.data (.sl 2 [])])],2,0,82⟩) (fun _=>0) () [] (rhoL [(0,some 0),(1,some 1)]) ?_ ?_
 · apply ren_lists <;> simp -implicitDefEqProofs [go_sem]
 rintro ⟨⟩
 simp -implicitDefEqProofs (disch:=omega) [go_sem]
 refine loop_ren (σ:=Unit) (fun _=>⟨envL [(2,.ptr 0 0),(3,.ptr 1 0),(7,.data (.int .i64 0))],hpL [(0,.blk true [.data (.sl 1 []),.data (.sl 2 [])]),(1,.blk true [.data (.sl 1 []),.data (.sl 2 [])])],2,0,82⟩) (fun _=>0) () [] (rhoL [(0,some 0),(1,some 1)]) ?_ ?_
 · apply ren_lists <;> simp -implicitDefEqProofs [go_sem]
 rintro ⟨⟩
 simp -implicitDefEqProofs (disch:=omega) [go_sem,Tryz.f22]
theorem rsame_noSto:PC Tryz.prog Γ 17 [sto noSto,sto noSto] (.bool true):=by
 have:=rsame06_pc Γ noSto noSto true true true (rsame_none Γ)
  (by have:=Bk.same_pc Γ nilBook nilBook gb_nil.fits gb_nil.fits gb_nil.ty gb_nil.ty;rwa [decide_eq_true rfl] at this) (by have:=Bk.same_pc Γ nilBook nilBook gb_nil.fits gb_nil.fits gb_nil.ty gb_nil.ty;rwa [decide_eq_true rfl] at this)
 simpa using this
theorem gs_recover {x:Disk} (h:Dok x.s x.w) (hw:x.w.length≤100) (h0:(recoverOf x).2 = 0):GS (recoverOf x).1:=by
 unfold recoverOf at h0 ⊢
 by_cases h1:(foundOf x).2 = 0
 · rw [if_neg (by simp [h1])] at h0 ⊢
   have gs:=gs_shut (gs_found h hw h1)
   by_cases h2:(checkOf (shutOf (foundOf x).1)).2 = 0
   · rw [if_neg (by simp [h2])]
     unfold checkOf at h2 ⊢
     by_cases h3:1000000000≤(shutOf (foundOf x).1).gen
     · rw [if_pos h3] at h2;simp at h2
     · rw [if_neg h3]
       have hl:=laid_ok gs.d gs.w (snapC gs.b ((shutOf (foundOf x).1).gen + 1)) 19 (Nat.le_refl _)
       have hg:=gs.g
       exact ⟨hl.1,by
        show (laidOf (shutOf (foundOf x).1) 19).w.length≤100
        unfold laidOf
        rw [laid_19];simp,by simp only;omega,by simp,gs.b,gs.b⟩
   · rw [if_pos h2] at h0;exact absurd h0 h2
 · rw [if_pos h1] at h0;exact absurd h0 h1
theorem recover_no {x:Disk} (h0:(recoverOf x).2≠0):(recoverOf x).1 = noSto:=by
 unfold recoverOf at h0 ⊢
 by_cases h1:(foundOf x).2 = 0
 · rw [if_neg (by simp [h1])] at h0 ⊢
   by_cases h2:(checkOf (shutOf (foundOf x).1)).2 = 0
   · rw [if_neg (by simp [h2])] at h0;exact absurd h2 h0
   · rw [if_pos h2]
 · rw [if_pos h1]
theorem found_no {x:Disk} (h0:(foundOf x).2≠0):(foundOf x).1 = noSto:=by
 unfold foundOf at h0 ⊢
 split
 · rfl
 · split
   · rfl
   · rename_i h1 h2
     rw [if_neg h1,if_neg h2] at h0
     simp at h0
theorem rsame_found {x:Disk} (h:Dok x.s x.w) (hw:x.w.length≤100):PC Tryz.prog Γ 17 [sto (foundOf x).1,sto (foundOf x).1] (.bool true):=by
 by_cases h0:(foundOf x).2 = 0
 · exact rsame_self Γ (gs_found h hw h0)
 · rw [found_no h0];exact rsame_noSto Γ
theorem rsame_recover {x:Disk} (h:Dok x.s x.w) (hw:x.w.length≤100):PC Tryz.prog Γ 17 [sto (recoverOf x).1,sto (recoverOf x).1] (.bool true):=by
 by_cases h0:(recoverOf x).2 = 0
 · exact rsame_self Γ (gs_recover h hw h0)
 · rw [recover_no h0];exact rsame_noSto Γ
set_option maxHeartbeats 8000000 in
theorem finds_pc (s:List (List Nat)) (w:List Wr) (d:Din s w):PC Tryz.prog Γ 4 [dk s w] (.bool true):=by
 refine pc_by mixed Tryz.func4 rfl (fun args w=>Tryz.call4 args w) ?_
 have c0:=shown6_pc Γ
 have c1:=Go.Proofs.YtjkpeebajibgiaaGreat.rsmall_pc Γ s w d.sn d.wn
 have c2:=Go.Proofs.YtjkpeebajibgiaaGreat.rright_pc Γ s w d.sn d.wn
 simp -implicitDefEqProofs (disch:=omega) [go_sem,dk]
 refine .inl (call_data c0 (by simp [go_sem]) ?_)
 simp -implicitDefEqProofs (disch:=omega) [go_sem]
 refine .inl (call_data c1 (by simp [go_sem,dk]) ?_)
 by_cases h1:Sm s w
 rotate_left
 · simp -implicitDefEqProofs (disch:=omega) [go_sem,h1,Tryz.f4]
 simp -implicitDefEqProofs (disch:=omega) [go_sem,h1]
 refine .inl (call_data c2 (by simp [go_sem,dk]) ?_)
 by_cases h2:Rt s w
 rotate_left
 · simp -implicitDefEqProofs (disch:=omega) [go_sem,h2,Tryz.f4]
 have hok:Dok (Disk.mk s w).s (Disk.mk s w).w:=dok_of d h1 h2
 have hw:(Disk.mk s w).w.length≤100:=by have:=h1.2.1;simp only;omega
 have c3:=found3_pc Γ ⟨s,w⟩ hok
 have c4:=rfound3_pc Γ ⟨s,w⟩ hok
 have c5:=recover3_pc Γ ⟨s,w⟩ hok hw
 have c6:=rrecover3_pc Γ ⟨s,w⟩ hok hw
 have c7:=rsame_found Γ hok hw
 have c8:=rsame_recover Γ hok hw
 have e1:(foundOf ⟨s,w⟩).2 = 0 ∨ (foundOf ⟨s,w⟩).2 = 8:=by unfold foundOf;split;exact .inr rfl;split;exact .inr rfl;exact .inl rfl
 have e2:(recoverOf ⟨s,w⟩).2 = 0 ∨ (recoverOf ⟨s,w⟩).2 = 8 ∨ (recoverOf ⟨s,w⟩).2 = 4:=by
  unfold recoverOf
  split
  · rename_i h;rcases e1 with e | e
    · exact absurd e h
    · exact .inr (.inl e)
  · split
    · rename_i h
      unfold checkOf at h ⊢
      split
      · exact .inr (.inr rfl)
      · rename_i h3;rw [if_neg h3] at h;exact absurd rfl h
    · rename_i h;exact .inl (by simpa using h)
 generalize (foundOf ⟨s,w⟩).1 = r1 at *
 generalize (foundOf ⟨s,w⟩).2 = k1 at *
 generalize (recoverOf ⟨s,w⟩).1 = r2 at *
 generalize (recoverOf ⟨s,w⟩).2 = k2 at *
 unfold sto bookL dk at *
 simp -implicitDefEqProofs (disch:=omega) [go_sem,h2]
 refine .inl (call_data c3 (by simp [go_sem]) ?_)
 simp -implicitDefEqProofs (disch:=omega) [go_sem]
 refine .inl (call_data c4 (by simp [go_sem]) ?_)
 simp -implicitDefEqProofs (disch:=omega) [go_sem]
 refine .inl (call_data c5 (by simp [go_sem]) ?_)
 simp -implicitDefEqProofs (disch:=omega) [go_sem]
 refine .inl (call_data c6 (by simp [go_sem]) ?_)
 simp -implicitDefEqProofs (disch:=omega) [go_sem]
 refine .inl (call_data c7 (by simp [go_sem]) ?_)
 simp -implicitDefEqProofs (disch:=omega) [go_sem]
 refine .inl (call_data c8 (by simp [go_sem]) ?_)
 simp -implicitDefEqProofs (maxSteps:=4000000) (disch:=omega) [go_sem,Tryz.f4]
end
end Bk
theorem law_StoreFinds (Γ:Nat->Option (List Data)) {x0:Data} (a0:argD Tryz.prog 8 32 x0):PC Tryz.prog Γ 4 [x0] (.bool true):=by
 obtain ⟨s,w,d,rfl⟩:=arg_disk (n:=3) a0
 exact Bk.finds_pc Γ s w d
namespace Bk
theorem FewP.short {l:List Act6} {n:Int} (h:FewP l n):(∀ a∈l,a.o.user.size≤1000∧a.keep.length≤1000):=fun a ha=>by
 obtain ⟨i,hi,rfl⟩:=List.getElem_of_mem ha
 have:=h.2 i hi
 omega
section
variable (Γ:Nat->Option (List Data))
theorem bsame_me {b:Book} (h:GB b):PC Tryz.prog Γ 34 [book b,book b] (.bool true):=by
 have:=Bk.same_pc Γ b b h.fits h.fits h.ty h.ty
 rwa [decide_eq_true rfl] at this
theorem dsame_me {x:Disk} (h:Dok x.s x.w):PC Tryz.prog Γ 22 [dk x.s x.w,dk x.s x.w] (.bool true):=by
 have:=Go.Proofs.YtjkpeebajibgiaaGreat.rsame_pc Γ x.s x.s x.w x.w h h
 rwa [decide_eq_true ⟨rfl,rfl⟩] at this
/-- What is found behind a crash in the midst of laying a snapshot. -/
theorem mid_found {x:Disk} {g:Int} {b c:Book} {ops:List Op} (h:On x g b ops) (hw:x.w = []) (hg:g < 1000000000) (hb:GB b) (hch:Chain b ops) (hc:GB c) (i:Nat) (hi:i < 20) (keep:List Bool) :
 foundOf (crashed (laid x ((g + 1) % 2) (snapB c) (headL (g + 1)) i) keep) = (⟨crashed (laid x ((g + 1) % 2) (snapB c) (headL (g + 1)) i) keep,g,ops.length,bookAt b ops,bookAt b ops⟩,0) ∨
 (18≤i∧foundOf (crashed (laid x ((g + 1) % 2) (snapB c) (headL (g + 1)) i) keep) = (⟨crashed (laid x ((g + 1) % 2) (snapB c) (headL (g + 1)) i) keep,g + 1,0,c,c⟩,0)):=by
 by_cases h1:i≤17
 · exact .inl ((h.mid hw hc i h1 keep).found hb hch)
 by_cases h2:i = 18
 · subst h2
   rcases h.late hw hg hc keep with h3 | h3
   · exact .inl (h3.found hb hch)
   · exact .inr ⟨by omega,h3.found hc (Chain.nil c)⟩
 · have:i = 19:=by omega
   subst this
   exact .inr ⟨by omega,(h.end_ (by rw [hw];simp) hg hc keep).found hc (Chain.nil c)⟩
set_option maxHeartbeats 8000000 in
theorem midst_pc (l:List Act6) (hl:l.length≤140737488351232) (ht:∀ a∈l,a.o.Ty) (at_:Int) (keep:List Bool) (hk:keep.length≤140737488351232):PC Tryz.prog Γ 8 [.sl 11 (acts6 l),.int .i64 at_,.sl 1 (bools keep)] (.bool true):=by
 refine pc_by mixed Tryz.func8 rfl (fun args w=>Tryz.call8 args w) ?_
 have c0:=shown6_pc Γ
 obtain ⟨q,hq⟩:=dec_ex (FewP l 30)
 have cf:=few_pc Γ l 30 hl hq
 simp -implicitDefEqProofs (disch:=omega) [go_sem]
 refine .inl (call_data c0 (by simp [go_sem]) ?_)
 simp -implicitDefEqProofs (disch:=omega) [go_sem]
 refine .inl (call_data cf (by simp [go_sem]) ?_)
 cases q
 · simp -implicitDefEqProofs (disch:=omega) [go_sem,Tryz.f8]
 by_cases hk2:60 < keep.length
 · simp -implicitDefEqProofs (disch:=omega) [go_sem,Tryz.f8]
 have hF:=hq.1 rfl
 have hl40:=hF.1
 obtain ⟨bg,hg⟩:=Begun.ran (l:=l) (by omega) ht
 have c1:=run3_pc Γ l (by omega) ht hF.short
 generalize runOf l l.length = T0 at *
 have c2:PC Tryz.prog Γ 18 [sto T0] (sto (syncOf T0)):=sync_pc Γ T0 bg.gs.d bg.gs.b.short
 have bs:=bg.synced
 have hg2:(syncOf T0).gen < 1000000000:=by show T0.gen < _;omega
 have hw:(syncOf T0).x.w = []:=rfl
 generalize syncOf T0 = T at *
 have c3:=steps2_pc Γ T bs.gs.ok (by omega)
 have hD:=disksL_length (laidOf T) 20
 have hDg:=fun i hi=>disksL_get (laidOf T) 20 i hi
 have c4:=check2_pc Γ T bs.gs.ok
 obtain ⟨_,k1,k2⟩:=bs.check hg2
 rw [k1] at c4
 have bs2:=bs
 obtain ⟨b,ops,k,hi⟩:=bs2
 have hlo:∀ i,i≤19->Dok (laidOf T i).s (laidOf T i).w:=fun i hi2=>(laid_ok hi.d hi.gs.w (snapC hi.gbt (T.gen + 1)) i hi2).1
 obtain ⟨r4,a1,c4⟩:∃ r:Sto,r.x = laidOf T 19∧PC Tryz.prog Γ 15 [sto T] (.tup [sto r,.int .i64 0]):=⟨_,by rw [k2],c4⟩
 have c5:=dsame_me Γ (hlo 19 (Nat.le_refl _))
 have c6:=bsame_me Γ hi.gbt
 by_cases h0:at_ < 0
 · clear hi bs bg
   unfold sto bookL dk at *
   simp -implicitDefEqProofs (disch:=omega) [go_sem]
   refine .inl (call_data c1 (by simp [go_sem]) ?_)
   simp -implicitDefEqProofs (disch:=omega) [go_sem]
   refine .inl (call_data c2 (by simp [go_sem]) ?_)
   simp -implicitDefEqProofs (disch:=omega) [go_sem]
   refine .inl (call_data c3 (by simp [go_sem]) ?_)
   simp -implicitDefEqProofs (disch:=omega) [go_sem,hD,h0,Tryz.f8]
 by_cases h20:20≤at_
 · clear hi bs bg
   unfold sto bookL dk at *
   simp -implicitDefEqProofs (disch:=omega) [go_sem]
   refine .inl (call_data c1 (by simp [go_sem]) ?_)
   simp -implicitDefEqProofs (disch:=omega) [go_sem]
   refine .inl (call_data c2 (by simp [go_sem]) ?_)
   simp -implicitDefEqProofs (disch:=omega) [go_sem]
   refine .inl (call_data c3 (by simp [go_sem]) ?_)
   simp -implicitDefEqProofs (disch:=omega) [go_sem,hD,h0,h20,Tryz.f8]
 obtain ⟨i,rfl⟩:∃ i:Nat,at_ = i:=⟨at_.toNat,by omega⟩
 have hi20:i < 20:=by omega
 have hok:=hlo i (by omega)
 have c7:=Go.Proofs.YtjkpeebajibgiaaGreat.rcrash_pc Γ (laidOf T i).s (laidOf T i).w hok keep (by omega)
 have f1:=found3_pc Γ (crashed (laidOf T i) keep) (crashed_ok hok keep)
 have hon:=hi.on
 have hm:=mid_found hon hw hg2 hi.gb hi.ch hi.gbt i hi20 keep
 obtain ⟨r1,a2,a3,f1⟩:∃ r:Sto,r.b = T.b∧(r.gen = T.gen ∨ r.gen = T.gen + 1∧18≤i)∧PC Tryz.prog Γ 28 [dk (crashed (laidOf T i) keep).s (crashed (laidOf T i) keep).w] (.tup [sto r,.int .i64 0]):=by
  unfold laidOf at f1 ⊢
  rcases hm with e | ⟨e0,e⟩
  · rw [e] at f1
    refine ⟨_,?_,?_,f1⟩
    · exact hi.bk.symm
    · exact .inl rfl
  · rw [e] at f1
    refine ⟨_,?_,?_,f1⟩
    · rfl
    · exact .inr ⟨rfl,e0⟩
 have hgi:=hDg i hi20
 have hg19:=hDg 19 (by omega)
 unfold Disk.d at hgi hg19
 have f2:PC Tryz.prog Γ 28 [dk (flush (laidOf T i).s (Go.Proofs.YtjkpeebajibgiaaGreat.kept keep 0 (laidOf T i).w)) []] (.tup [sto r1,.int .i64 0]):=f1
 clear f1
 have hgg:=hi.gg
 generalize flush (laidOf T i).s (Go.Proofs.YtjkpeebajibgiaaGreat.kept keep 0 (laidOf T i).w) = y1 at *
 generalize disksL (laidOf T) 20 = D at *
 clear hlo hDg hok hon hm hi
 generalize laidOf T i = X at *
 generalize laidOf T 19 = Y at *
 have e1:r4.x.s = Y.s:=by rw [a1]
 have e2:r4.x.w = Y.w:=by rw [a1]
 unfold sto bookL dk at *
 simp -implicitDefEqProofs (disch:=omega) [go_sem]
 refine .inl (call_data c1 (by simp [go_sem]) ?_)
 simp -implicitDefEqProofs (disch:=omega) [go_sem]
 refine .inl (call_data c2 (by simp [go_sem]) ?_)
 simp -implicitDefEqProofs (disch:=omega) [go_sem]
 refine .inl (call_data c3 (by simp [go_sem]) ?_)
 simp -implicitDefEqProofs (disch:=omega) [-getElem?_pos,go_sem,hD,hgi]
 refine .inl (call_data c7 (by simp [go_sem]) ?_)
 simp -implicitDefEqProofs (disch:=omega) [go_sem]
 refine .inl (call_data f2 (by simp [go_sem,wrs]) ?_)
 simp -implicitDefEqProofs (disch:=omega) [go_sem]
 refine .inl (call_data c4 (by simp [go_sem]) ?_)
 simp -implicitDefEqProofs (disch:=omega) [go_sem]
 refine .inl (call_data c6 (by simp [go_sem,book,a2]) ?_)
 by_cases hge:r1.gen = T.gen
 · simp -implicitDefEqProofs (maxSteps:=4000000) (disch:=omega) [-getElem?_pos,go_sem,hge,hg19]
   refine .inl (call_data c5 (by simp [go_sem,e1,e2]) ?_)
   simp -implicitDefEqProofs (maxSteps:=4000000) (disch:=omega) [go_sem]
   refine side (by kernel_rfl) ?_
   simp -implicitDefEqProofs (disch:=omega) [go_sem,Tryz.f8]
 · have h18:r1.gen = T.gen + 1∧18≤i:=by rcases a3 with e | e;exact absurd e hge;exact e
   obtain ⟨h18,h19⟩:=h18
   simp -implicitDefEqProofs (maxSteps:=4000000) (disch:=omega) [-getElem?_pos,go_sem,h18,hg19]
   refine .inl (call_data c5 (by simp [go_sem,e1,e2]) ?_)
   simp -implicitDefEqProofs (maxSteps:=4000000) (disch:=omega) [go_sem]
   refine side (by kernel_rfl) ?_
   simp -implicitDefEqProofs (disch:=omega) [go_sem,Tryz.f8]
end
end Bk
theorem law_StoreMidst (Γ:Nat->Option (List Data)) {x0 x1 x2:Data} (a0:argD Tryz.prog 8 22 x0) (a1:argD Tryz.prog 8 3 x1) (a2:argD Tryz.prog 8 59 x2):PC Tryz.prog Γ 8 [x0,x1,x2] (.bool true):=by
 obtain ⟨l,rfl,hl,ht⟩:=Bk.arg_acts (n:=2) a0
 obtain ⟨i,_,_,rfl⟩:=arg_i64 Tryz.underlying3 a1
 obtain ⟨k,hk,rfl⟩:=arg_bools (n:=6) a2
 exact Bk.midst_pc Γ l hl ht i k hk
namespace Bk
section
variable (Γ:Nat->Option (List Data))
theorem bool_perm (p q r g s:Bool):(p && (q && (r && (g && s)))) = (g && (s && (p && (q && r)))):=by cases p <;> cases q <;> cases r <;> cases g <;> cases s <;> rfl
theorem same_both {s t:Sto} (h:GS s) (k:GS t):∃ v:Bool,PC Tryz.prog Γ 25 [sto s,sto t] (.bool v)∧PC Tryz.prog Γ 17 [sto s,sto t] (.bool v):=by
 have a:=psame_pc Γ s t _ _ _ (Go.Proofs.YtjkpeebajibgiaaGreat.same_pc Γ s.x.s t.x.s s.x.w t.x.w h.d k.d) (same2_pc Γ s.b t.b h.b.fits k.b.fits h.b.ty k.b.ty) (same2_pc Γ s.f t.f h.f.fits k.f.fits h.f.ty k.f.ty)
 have b:=rsame06_pc Γ s t _ _ _ (Go.Proofs.YtjkpeebajibgiaaGreat.rsame_pc Γ s.x.s t.x.s s.x.w t.x.w h.d k.d) (Bk.same_pc Γ s.b t.b h.b.fits k.b.fits h.b.ty k.b.ty) (Bk.same_pc Γ s.f t.f h.f.fits k.f.fits h.f.ty k.f.ty)
 rw [bool_perm] at b
 exact ⟨_,a,b⟩
set_option maxHeartbeats 8000000 in
theorem does6_pc (l:List Act6) (hl:l.length≤140737488351232) (ht:∀ a∈l,a.o.Ty) (o:Op) (ho:o.Ty):PC Tryz.prog Γ 3 [.sl 11 (acts6 l),op o] (.bool true):=by
 refine pc_by mixed Tryz.func3 rfl (fun args w=>Tryz.call3 args w) ?_
 have c0:=shown6_pc Γ
 obtain ⟨q,hq⟩:=dec_ex (FewP l 40)
 have cf:=few_pc Γ l 40 hl hq
 simp -implicitDefEqProofs (disch:=omega) [go_sem,op]
 refine .inl (call_data c0 (by simp [go_sem]) ?_)
 simp -implicitDefEqProofs (disch:=omega) [go_sem]
 refine .inl (call_data cf (by simp [go_sem]) ?_)
 cases q
 · simp -implicitDefEqProofs (disch:=omega) [go_sem,Tryz.f3]
 by_cases hu:50 < o.user.size
 · simp -implicitDefEqProofs (disch:=omega) [go_sem,Tryz.f3]
 have hF:=hq.1 rfl
 have hl40:=hF.1
 obtain ⟨bg,hg⟩:=Begun.ran (l:=l) (by omega) ht
 have c1:=run3_pc Γ l (by omega) ht hF.short
 generalize runOf l l.length = T at *
 have c2:=do3_pc Γ bg o ho
 have c3:=rdo3_pc Γ bg o ho (by omega)
 have c4:=check2_pc Γ T bg.gs.ok
 have c5:=rcheck2_pc Γ T bg.gs.ok
 have gd:=(bg.did ho).gs
 have gc:=(bg.checked (by omega)).gs
 have gy:=bg.synced.gs
 have s1:=rsame_self Γ gd
 have s2:=rsame_self Γ gc
 have s3:=rsame_self Γ gy
 have c6:PC Tryz.prog Γ 18 [sto T] (sto (syncOf T)):=sync_pc Γ T bg.gs.d bg.gs.b.short
 have c7:PC Tryz.prog Γ 19 [sto T] (sto (syncOf T)):=rsync_pc Γ T bg.gs.d
 have c8:=steps2_pc Γ T bg.gs.ok (by omega)
 have c9:=rsteps2_pc Γ T bg.gs.ok (by omega)
 have hD:=disksL_length (laidOf T) 20
 have hDg:∀ i,i < 20->∃ x:Disk,(disksL (laidOf T) 20)[i]? = some (dk x.s x.w)∧PC Tryz.prog Γ 22 [dk x.s x.w,dk x.s x.w] (.bool true):=fun i hi=>by
  refine ⟨laidOf T i,disksL_get (laidOf T) 20 i hi,dsame_me Γ ?_⟩
  exact (laid_ok bg.gs.d bg.gs.w (snapC bg.gs.b (T.gen + 1)) i (by omega)).1
 have c10:=format3_pc Γ
 have c11:=rformat3_pc Γ
 have gf:GS formatOf:=format_inv.gs
 have s4:=rsame_self Γ gf
 obtain ⟨v,s5,s6⟩:=same_both Γ bg.gs gd
 have e2:(doOf T o).2 = (doOf T o).2:=rfl
 have r1:∃ e:Int,(doOf T o).2 = e:=⟨_,rfl⟩
 generalize (doOf T o).1 = t1 at *
 generalize (doOf T o).2 = k1 at *
 generalize (checkOf T).1 = t2 at *
 generalize (checkOf T).2 = k2 at *
 generalize syncOf T = t3 at *
 generalize disksL (laidOf T) 20 = D at *
 generalize formatOf = t4 at *
 clear bg gd gc gy gf r1 e2
 unfold sto bookL op at *
 simp -implicitDefEqProofs (disch:=omega) [go_sem]
 refine .inl (call_data c1 (by simp [go_sem]) ?_)
 simp -implicitDefEqProofs (disch:=omega) [go_sem]
 refine .inl (call_data c2 (by simp [go_sem]) ?_)
 simp -implicitDefEqProofs (disch:=omega) [go_sem]
 refine .inl (call_data c3 (by simp [go_sem]) ?_)
 simp -implicitDefEqProofs (disch:=omega) [go_sem]
 refine .inl (call_data c4 (by simp [go_sem]) ?_)
 simp -implicitDefEqProofs (disch:=omega) [go_sem]
 refine .inl (call_data c5 (by simp [go_sem]) ?_)
 simp -implicitDefEqProofs (disch:=omega) [go_sem]
 refine .inl (call_data s1 (by simp [go_sem]) ?_)
 simp -implicitDefEqProofs (disch:=omega) [go_sem]
 refine .inl (call_data s2 (by simp [go_sem]) ?_)
 simp -implicitDefEqProofs (disch:=omega) [go_sem]
 refine .inl (call_data c6 (by simp [go_sem]) ?_)
 simp -implicitDefEqProofs (disch:=omega) [go_sem]
 refine .inl (call_data c7 (by simp [go_sem]) ?_)
 simp -implicitDefEqProofs (disch:=omega) [go_sem]
 refine .inl (call_data s3 (by simp [go_sem]) ?_)
 simp -implicitDefEqProofs (disch:=omega) [go_sem]
 refine side (by kernel_rfl) ?_
 simp -implicitDefEqProofs (disch:=omega) [go_sem]
 refine .inl (call_data c8 (by simp [go_sem]) ?_)
 simp -implicitDefEqProofs (disch:=omega) [go_sem]
 refine .inl (call_data c9 (by simp [go_sem]) ?_)
 simp -implicitDefEqProofs (disch:=omega) [go_sem,hD]
 refine loop_ren (σ:={ i:Nat // i≤20 }) (fun i=>⟨envL [(5,.data (.bool true)),(6,.ptr 0 0),(7,.ptr 1 0),(15,.data (.sl 2 D)),(16,.data (.sl 2 D)),(17,.data (.int .i64 i.1))],hpL [(0,.blk true [.data (.sl 1 (secs T.x.s)),.data (.sl 2 (wrs T.x.w)),.data (.int .i64 T.gen),.data (.int .i64 T.seq),.data (.int .i64 T.b.next),.data (.sl 6 (sesss T.b.opn)),.data (.sl 5 (items T.b.items)),.data (.sl 3 (locks T.b.locks)),.data (.int .i64 T.f.next),.data (.sl 6 (sesss T.f.opn)),.data (.sl 5 (items T.f.items)),.data (.sl 3 (locks T.f.locks))]),
  (1,.blk true [.data (.sl 1 (secs t1.x.s)),.data (.sl 2 (wrs t1.x.w)),.data (.int .i64 t1.gen),.data (.int .i64 t1.seq),.data (.int .i64 t1.b.next),.data (.sl 6 (sesss t1.b.opn)),.data (.sl 5 (items t1.b.items)),.data (.sl 3 (locks t1.b.locks)),.data (.int .i64 t1.f.next),.data (.sl 6 (sesss t1.f.opn)),.data (.sl 5 (items t1.f.items)),.data (.sl 3 (locks t1.f.locks))])],2,0,121⟩) (fun i=>20 - i.1) ⟨0,by omega⟩ [] (rhoL [(0,some 15),(1,some 23)]) ?_ ?_
 · apply ren_lists <;> simp -implicitDefEqProofs [go_sem]
 rintro ⟨i,hi⟩
 by_cases h:i < 20
 · obtain ⟨x,hx,cx⟩:=hDg i h
   unfold dk at hx cx
   simp -implicitDefEqProofs (disch:=omega) [-getElem?_pos,go_sem,hD,hx]
   refine .inl (call_data cx (by simp [go_sem]) ?_)
   simp -implicitDefEqProofs (disch:=omega) [go_sem]
   refine side (by kernel_rfl) ?_
   simp -implicitDefEqProofs (disch:=omega) [go_sem]
   refine next_ren ⟨i + 1,by omega⟩ (by simp only;omega) [] (rhoL [(0,some 0),(1,some 1)]) ?_
   apply ren_lists <;> simp -implicitDefEqProofs [go_sem]
 have:i = 20:=by omega
 subst this
 simp -implicitDefEqProofs (disch:=omega) [go_sem,hD]
 refine .inl (call_data c10 (by simp [go_sem]) ?_)
 simp -implicitDefEqProofs (disch:=omega) [go_sem]
 refine .inl (call_data c11 (by simp [go_sem]) ?_)
 simp -implicitDefEqProofs (disch:=omega) [go_sem]
 refine .inl (call_data s4 (by simp [go_sem]) ?_)
 simp -implicitDefEqProofs (disch:=omega) [go_sem]
 refine .inl (call_data s5 (by simp [go_sem]) ?_)
 simp -implicitDefEqProofs (disch:=omega) [go_sem]
 refine .inl (call_data s6 (by simp [go_sem]) ?_)
 cases v
 · simp -implicitDefEqProofs (disch:=omega) [go_sem]
   refine side (by kernel_rfl) ?_
   simp -implicitDefEqProofs (disch:=omega) [go_sem,Tryz.f3]
 · simp -implicitDefEqProofs (disch:=omega) [go_sem]
   refine side (by kernel_rfl) ?_
   simp -implicitDefEqProofs (disch:=omega) [go_sem,Tryz.f3]
end
end Bk
theorem law_StoreDoes (Γ:Nat->Option (List Data)) {x0 x1:Data} (a0:argD Tryz.prog 8 22 x0) (a1:argD Tryz.prog 8 26 x1):PC Tryz.prog Γ 3 [x0,x1] (.bool true):=by
 obtain ⟨l,rfl,hl,ht⟩:=Bk.arg_acts (n:=2) a0
 obtain ⟨o,ho,rfl⟩:=Bk.arg_op (n:=6) a1
 exact Bk.does6_pc Γ l hl ht o ho
namespace Bk
def bks (l:List Book):List Data:=l.map book
def opsD (l:List Op):List Data:=l.map op
@[go_sem] theorem bks_length (l:List Book):(bks l).length = l.length:=by simp [bks]
@[go_sem] theorem opsD_length (l:List Op):(opsD l).length = l.length:=by simp [opsD]
@[go_sem] theorem opsD_get (l:List Op) (i:Nat):(opsD l)[i]? = (l[i]?).map op:=by simp [opsD]
theorem bks_cells (l:List Book):∀ x∈bks l,x.cells.length = 4:=fun x hx=>by obtain ⟨p,_,rfl⟩:=List.mem_map.1 hx;rfl
theorem bks_snoc (l:List Book) (b:Book):(flat (bks (l++[b]))).map D.data = (flat (bks l)).map D.data++[.data (.int .i64 b.next),.data (.sl 6 (sesss b.opn)),.data (.sl 5 (items b.items)),.data (.sl 3 (locks b.locks))]:=by
 simp [bks,flat,book,Data.cells]
theorem bks_cut (l:List Book) (n:Nat) (h:n < l.length):List.take 4 (List.drop (n * 4) (flat (bks l))) = [.int .i64 l[n].next,.sl 6 (sesss l[n].opn),.sl 5 (items l[n].items),.sl 3 (locks l[n].locks)]:=by
 have e:(bks l).drop n = bks (l.drop n):=by simp [bks,List.map_drop]
 rw [<- flat_drop (bks_cells l) n (by rw [bks_length];omega),e,List.drop_eq_getElem_cons h]
 rfl
/-- The books behind the synced ones,one by one. -/
noncomputable def booksOf (b:Book) (ops:List Op) (k:Nat):List Book:=(List.range (ops.length - k + 1)).map fun j=>bookAt b (ops.take (k + j))
theorem arg_ops {n:Nat} {x:Data} (a:argD Tryz.prog (n + 6) 58 x):∃ l:List Op,x = .sl 9 (opsD l)∧l.length≤140737488351232∧∀ a∈l,a.Ty:=by
 obtain ⟨l,rfl,hl,h⟩:=arg_slice Tryz.underlying58 a
 obtain ⟨m,rfl,hm⟩:=lift_list (f:=op) (p:=fun o:Op=>o.Ty) fun x hx=>by
  obtain ⟨o,ho,e⟩:=arg_op (h x hx)
  exact ⟨o,ho,e⟩
 exact ⟨m,by rw [show (Tryz.prog).cellsOf 26 = 9 by kernel_rfl];rfl,by simpa using hl,hm⟩
theorem booksOf_length (b:Book) (ops:List Op) (k:Nat):(booksOf b ops k).length = ops.length - k + 1:=by simp [booksOf]
theorem booksOf_at (b:Book) (ops:List Op) (k n:Nat) (h:n < (booksOf b ops k).length):(booksOf b ops k)[n] = bookAt b (ops.take (k + n)):=by simp [booksOf]
theorem booksOf_first (b:Book) (ops:List Op):booksOf b ops ops.length = [bookAt b ops]:=by simp [booksOf]
theorem booksOf_snoc (b:Book) (ops:List Op) (o:Op) (k:Nat) (h:k≤ops.length):booksOf b (ops++[o]) k = booksOf b ops k++[(applyOp (bookAt b ops) o).1]:=by
 unfold booksOf
 rw [List.length_append,List.length_singleton,show ops.length + 1 - k + 1 = (ops.length - k + 1) + 1 by omega,List.range_succ,List.map_append,List.map_singleton]
 congr 1
 · refine List.map_congr_left fun j hj=>?_
   have:=List.mem_range.1 hj
   rw [List.take_append_of_le_length (by omega)]
 · rw [show k + (ops.length - k + 1) = (ops++[o]).length by rw [List.length_append,List.length_singleton];omega,List.take_length,bookAt_snoc]
/-- Where the loop over the ops stands. -/
structure Cst (l:List Op) (b:Book) (k:Nat) (g:Int) where
 i:Nat
 T:Sto
 ops:List Op
 hi:i≤l.length
 inv:Inv T b ops k
 gen:T.gen = g
def stoC (t:Sto):List D:=[.data (.sl 1 (secs t.x.s)),.data (.sl 2 (wrs t.x.w)),.data (.int .i64 t.gen),.data (.int .i64 t.seq),.data (.int .i64 t.b.next),.data (.sl 6 (sesss t.b.opn)),.data (.sl 5 (items t.b.items)),.data (.sl 3 (locks t.b.locks)),.data (.int .i64 t.f.next),.data (.sl 6 (sesss t.f.opn)),.data (.sl 5 (items t.f.items)),.data (.sl 3 (locks t.f.locks))]
section
variable (Γ:Nat->Option (List Data))
set_option maxHeartbeats 16000000 in
theorem crash_law (l:List Act6) (hl:l.length≤140737488351232) (ht:∀ a∈l,a.o.Ty) (os:List Op) (hol:os.length≤140737488351232) (hot:∀ o∈os,o.Ty) (keep:List Bool) (hk:keep.length≤140737488351232):PC Tryz.prog Γ 5 [.sl 11 (acts6 l),.sl 9 (opsD os),.sl 1 (bools keep)] (.bool true):=by
 refine pc_by mixed Tryz.func5 rfl (fun args w=>Tryz.call5 args w) ?_
 have c0:=shown6_pc Γ
 obtain ⟨q,hq⟩:=dec_ex (FewP l 30)
 have cf:=few_pc Γ l 30 hl hq
 simp -implicitDefEqProofs (disch:=omega) [go_sem]
 refine .inl (call_data c0 (by simp [go_sem]) ?_)
 simp -implicitDefEqProofs (disch:=omega) [go_sem]
 refine .inl (call_data cf (by simp [go_sem]) ?_)
 cases q
 · simp -implicitDefEqProofs (disch:=omega) [go_sem,Tryz.f5]
 by_cases ho2:40 < os.length
 · simp -implicitDefEqProofs (disch:=omega) [go_sem,Tryz.f5]
 by_cases hk2:60 < keep.length
 · simp -implicitDefEqProofs (disch:=omega) [go_sem,Tryz.f5]
 have hF:=hq.1 rfl
 have hl40:=hF.1
 obtain ⟨bg,hg⟩:=Begun.ran (l:=l) (by omega) ht
 have c1:=run3_pc Γ l (by omega) ht hF.short
 generalize runOf l l.length = T0 at *
 have c2:PC Tryz.prog Γ 18 [sto T0] (sto (syncOf T0)):=sync_pc Γ T0 bg.gs.d bg.gs.b.short
 obtain ⟨b,ops0,k0,hi0⟩:=bg
 have his:=hi0.sync
 have hgs:(syncOf T0).gen = T0.gen:=rfl
 have hbs:(syncOf T0).b = bookAt b ops0:=his.bk
 generalize syncOf T0 = T at *
 have hgg:=hi0.gg
 unfold sto bookL at *
 simp -implicitDefEqProofs (disch:=omega) [go_sem]
 refine .inl (call_data c1 (by simp [go_sem]) ?_)
 simp -implicitDefEqProofs (disch:=omega) [go_sem]
 refine .inl (call_data c2 (by simp [go_sem]) ?_)
 simp -implicitDefEqProofs (disch:=omega) [go_sem]
 refine loop_ren (σ:=Cst os b ops0.length T.gen) (fun c=>⟨envL [(1,.data (.sl 9 (opsD os))),(2,.data (.sl 1 (bools keep))),(7,.data (.bool true)),(8,.ptr 0 0),(9,.ref 1 0 (c.ops.length - ops0.length + 1) 4),(10,.data (.int .i64 c.i))],hpL [(0,.blk true (stoC c.T)),(1,.blk true ((flat (bks (booksOf b c.ops ops0.length))).map D.data))],2,0,133⟩) (fun c=>os.length - c.i) ⟨0,T,ops0,by omega,his,rfl⟩ [] (rhoL [(0,some 19),(1,some 23)]) ?_ ?_
 · apply ren_lists <;> simp -implicitDefEqProofs [go_sem,stoC]
   exact renCells_plain (by rw [hbs,booksOf_first];simp [bks,flat,book,Data.cells]) (by simp [plainD])
 rintro ⟨i,T1,ops,hi,inv,hgen⟩
 simp only [stoC]
 have hnn:=inv.n
 have hkl:=inv.kl
 have hseq:=inv.seq
 have hfl:(flat (bks (booksOf b ops ops0.length))).length = (ops.length - ops0.length + 1) * 4:=by rw [flat_length (bks_cells _),bks_length,booksOf_length]
 by_cases hlt:i < os.length
 · have hot1:=hot _ (List.getElem_mem hlt)
   by_cases hu:50 < os[i].user.size
   · simp -implicitDefEqProofs (disch:=omega) [go_sem,op,Tryz.f5]
   have bg1:Begun T1:=⟨_,_,_,inv⟩
   have cd:=do3_pc Γ bg1 os[i] hot1
   by_cases hd:T1.seq < 30∧(applyOp T1.b os[i]).2 = 0
   · obtain ⟨e1,e2,e3,e4,e5⟩:=inv.doYes (o:=os[i]) hd.1 hd.2
     have inv2:=inv.do_ hot1 hd.1 hd.2
     have hsn:=booksOf_snoc b ops os[i] ops0.length hkl
     rw [<- inv.bk,<- e2] at hsn
     rw [e1] at cd
     generalize (doOf T1 os[i]).1 = T2 at *
     unfold sto bookL op at cd
     simp -implicitDefEqProofs (disch:=omega) [go_sem,op,stoC]
     refine .inl (call_data cd (by simp [go_sem]) ?_)
     simp -implicitDefEqProofs (disch:=omega) [go_sem]
     refine side (by kernel_rfl) ?_
     simp -implicitDefEqProofs (disch:=omega) [go_sem,hfl]
     refine next_ren (Cst.mk (l:=os) (i + 1) T2 (ops++[os[i]]) (by omega) inv2 (e3.trans hgen)) (by show os.length - (i + 1) < os.length - i;omega) [] (rhoL [(0,some 0),(1,some 31)]) ?_
     apply ren_lists <;> simp -implicitDefEqProofs [go_sem,stoC]
     · omega
     · exact renCells_plain (by rw [hsn,bks_snoc]) (by simp [plainD])
   · obtain ⟨e1,e2⟩:=inv.doNo (o:=os[i]) hd
     rw [e1] at cd
     generalize (doOf T1 os[i]).2 = r4 at *
     unfold sto bookL op at cd
     simp -implicitDefEqProofs (disch:=omega) [go_sem,op,stoC]
     refine .inl (call_data cd (by simp [go_sem]) ?_)
     simp -implicitDefEqProofs (disch:=omega) [go_sem,e2]
     refine side (by kernel_rfl) ?_
     simp -implicitDefEqProofs (disch:=omega) [go_sem,e2]
     refine next_ren (Cst.mk (l:=os) (i + 1) T1 ops (by omega) inv hgen) (by show os.length - (i + 1) < os.length - i;omega) [] (rhoL [(0,some 0),(1,some 1)]) ?_
     apply ren_lists <;> simp -implicitDefEqProofs [go_sem,stoC]
 have hei:i = os.length:=by omega
 subst hei
 have cl:=lead_pc Γ keep hk
 have bg1:Begun T1:=⟨_,_,_,inv⟩
 have hle:=leadOf_le keep
 have hdk:=crashed_ok inv.d keep
 have cc:=rcrash3_pc Γ bg1 keep (by omega)
 have cf:=found3_pc Γ _ hdk
 have cr:=recover3_pc Γ _ hdk (by simp [crashed_w])
 have hch:=inv.ch.take (ops0.length + min (leadOf keep) (ops.length - ops0.length))
 have hcr:=inv.crash keep
 rw [hcr.found inv.gb hch] at cf
 rw [hcr.recover (by simp [crashed_w]) (by omega) inv.gb hch] at cr
 have gbk:=gb_bookAt inv.gb hch.ty
 have hget:=booksOf_at b ops ops0.length (min (leadOf keep) (ops.length - ops0.length)) (by rw [booksOf_length];omega)
 have hcut:=bks_cut (booksOf b ops ops0.length) (min (leadOf keep) (ops.length - ops0.length)) (by rw [booksOf_length];omega)
 rw [hget] at hcut
 have hmin:(if ops.length - ops0.length < leadOf keep then ((ops.length - ops0.length:Nat):Int) else (leadOf keep:Int)).toNat = min (leadOf keep) (ops.length - ops0.length):=by split <;> omega
 generalize bookAt b (ops.take (ops0.length + min (leadOf keep) (ops.length - ops0.length))) = B at *
 rw [<- hmin] at hcut
 clear hmin
 have s1:=bsame_me Γ gbk
 have s2:=bsame_me Γ (gb_close gbk)
 have c9:=rclose_pc Γ gbk
 have ho:(closeOp B).opn = []:=rfl
 obtain ⟨r1,a1,f1⟩:∃ r:Sto,r.b = B∧PC Tryz.prog Γ 28 [dk (crashed T1.x keep).s (crashed T1.x keep).w] (.tup [sto r,.int .i64 0]):=⟨_,rfl,cf⟩
 obtain ⟨r2,a2,a3,f2⟩:∃ r:Sto,r.b = closeOp B∧r.x.w = []∧PC Tryz.prog Γ 30 [dk (crashed T1.x keep).s (crashed T1.x keep).w] (.tup [sto r,.int .i64 0]):=⟨_,rfl,by simp only;rw [laid_19],cr⟩
 clear cf cr
 generalize hy:crashed T1.x keep = y at *
 generalize closeOp B = C at *
 have hbl:=booksOf_length b ops ops0.length
 clear hget hcr hch
 generalize leadOf keep = m at *
 generalize booksOf b ops ops0.length = BK at *
 generalize hM:ops.length - ops0.length = M at *
 unfold sto bookL dk at *
 simp -implicitDefEqProofs (disch:=omega) [go_sem,stoC]
 refine .inl (call_data cl (by simp [go_sem]) ?_)
 simp -implicitDefEqProofs (disch:=omega) [go_sem]
 refine .inl (call_data cc (by simp [go_sem]) ?_)
 simp -implicitDefEqProofs (disch:=omega) [go_sem]
 refine .inl (call_data f1 (by simp [go_sem]) ?_)
 simp -implicitDefEqProofs (disch:=omega) [go_sem]
 refine .inl (call_data f2 (by simp [go_sem]) ?_)
 simp -implicitDefEqProofs (disch:=omega) [go_sem,hfl,hcut]
 refine .inl (call_data s1 (by simp [go_sem,book,a1,hcut]) ?_)
 simp -implicitDefEqProofs (disch:=omega) [go_sem,hfl,hcut]
 refine .inl (call_data c9 (by simp [go_sem,book]) ?_)
 unfold book at s2
 simp -implicitDefEqProofs (disch:=omega) [go_sem,hfl,hcut,book]
 refine .inl (call_data s2 (by simp [go_sem,a2]) ?_)
 simp -implicitDefEqProofs (maxSteps:=4000000) (disch:=omega) [go_sem,ho,a2,a3]
 refine side (by kernel_rfl) ?_
 simp -implicitDefEqProofs (maxSteps:=4000000) (disch:=omega) [go_sem,ho,a2,a3,Tryz.f5]
end
end Bk
theorem law_StoreCrash (Γ:Nat->Option (List Data)) {x0 x1 x2:Data} (a0:argD Tryz.prog 8 22 x0) (a1:argD Tryz.prog 8 58 x1) (a2:argD Tryz.prog 8 59 x2):PC Tryz.prog Γ 5 [x0,x1,x2] (.bool true):=by
 obtain ⟨l,rfl,hl,ht⟩:=Bk.arg_acts (n:=2) a0
 obtain ⟨os,rfl,hol,hot⟩:=Bk.arg_ops (n:=2) a1
 obtain ⟨k,hk,rfl⟩:=arg_bools (n:=6) a2
 exact Bk.crash_law Γ l hl ht os hol hot k hk
namespace Bk
/-- What begins anew behind a crash in the midst of beginning anew. -/
theorem mid_recover {x:Disk} {g:Int} {b:Book} {ops:List Op} (h:On x g b ops) (hw:x.w = []) (hg:g + 1 < 1000000000) (hb:GB b) (hch:Chain b ops) (i:Nat) (hi:i < 20) (keep:List Bool) :
 (recoverOf (crashed (laid x ((g + 1) % 2) (snapB (closeOp (bookAt b ops))) (headL (g + 1)) i) keep)).2 = 0∧(recoverOf (crashed (laid x ((g + 1) % 2) (snapB (closeOp (bookAt b ops))) (headL (g + 1)) i) keep)).1.b = closeOp (bookAt b ops):=by
 have hc:GB (closeOp (bookAt b ops)):=gb_close (gb_bookAt hb hch.ty)
 have hl:(crashed (laid x ((g + 1) % 2) (snapB (closeOp (bookAt b ops))) (headL (g + 1)) i) keep).w.length≤100:=by simp [crashed_w]
 have old:On (crashed (laid x ((g + 1) % 2) (snapB (closeOp (bookAt b ops))) (headL (g + 1)) i) keep) g b ops->_:=fun h3=>h3.recover hl (by omega) hb hch
 have new:On (crashed (laid x ((g + 1) % 2) (snapB (closeOp (bookAt b ops))) (headL (g + 1)) i) keep) (g + 1) (closeOp (bookAt b ops)) []->_:=fun h3=>h3.recover hl hg hc (Chain.nil _)
 have e1:On (crashed (laid x ((g + 1) % 2) (snapB (closeOp (bookAt b ops))) (headL (g + 1)) i) keep) g b ops ∨ On (crashed (laid x ((g + 1) % 2) (snapB (closeOp (bookAt b ops))) (headL (g + 1)) i) keep) (g + 1) (closeOp (bookAt b ops)) []:=by
  by_cases h1:i≤17
  · exact .inl (h.mid hw hc i h1 keep)
  by_cases h2:i = 18
  · subst h2
    exact h.late hw (by omega) hc keep
  · have:i = 19:=by omega
    subst this
    exact .inr (h.end_ (by rw [hw];simp) (by omega) hc keep)
 rcases e1 with h3 | h3
 · rw [old h3];exact ⟨rfl,rfl⟩
 · rw [new h3]
   refine ⟨rfl,?_⟩
   show closeOp (bookAt (closeOp (bookAt b ops)) []) = _
   exact close_twice _
theorem ok_acts {n:Nat} {ds:List Data} (h:okD Tryz.prog (n + 6) 22 ds):∃ l:List Act6,ds = [.sl 11 (acts6 l)]∧l.length≤140737488351232∧∀ a∈l,a.o.Ty:=by
 obtain ⟨l,rfl,hl,h⟩:=ok_slice Tryz.underlying22 h
 obtain ⟨m,rfl,hm⟩:=lift_list (f:=act6) (p:=fun t:Act6=>t.o.Ty) fun x hx=>arg_act (h x hx)
 exact ⟨m,by rw [show (Tryz.prog).cellsOf 73 = 11 by kernel_rfl];rfl,by simpa using hl,hm⟩
section
variable (Γ:Nat->Option (List Data))
set_option maxHeartbeats 8000000 in
theorem again_pc (l:List Act6) (hl:l.length≤140737488351232) (ht:∀ a∈l,a.o.Ty) (keep:List Bool) (hk:keep.length≤140737488351232) (at_:Int) (again:List Bool) (hk':again.length≤140737488351232):PC Tryz.prog Γ 6 [.agg [.sl 11 (acts6 l),.sl 1 (bools keep),.int .i64 at_,.sl 1 (bools again)]] (.bool true):=by
 refine pc_by mixed Tryz.func6 rfl (fun args w=>Tryz.call6 args w) ?_
 have c0:=shown6_pc Γ
 obtain ⟨q,hq⟩:=dec_ex (FewP l 30)
 have cf:=few_pc Γ l 30 hl hq
 simp -implicitDefEqProofs (disch:=omega) [go_sem]
 refine .inl (call_data c0 (by simp [go_sem]) ?_)
 simp -implicitDefEqProofs (disch:=omega) [go_sem]
 refine .inl (call_data cf (by simp [go_sem]) ?_)
 cases q
 · simp -implicitDefEqProofs (disch:=omega) [go_sem,Tryz.f6]
 by_cases hk2:60 < keep.length
 · simp -implicitDefEqProofs (disch:=omega) [go_sem,Tryz.f6]
 by_cases hk3:60 < again.length
 · simp -implicitDefEqProofs (disch:=omega) [go_sem,Tryz.f6]
 have hF:=hq.1 rfl
 have hl40:=hF.1
 obtain ⟨bg,hg⟩:=Begun.ran (l:=l) (by omega) ht
 have c1:=run3_pc Γ l (by omega) ht hF.short
 generalize runOf l l.length = T at *
 have c2:=rcrash3_pc Γ bg keep (by omega)
 obtain ⟨b,ops,k,hi⟩:=bg
 have hon:=hi.crash keep
 have hch:=hi.ch.take (k + min (leadOf keep) (ops.length - k))
 have hgb:=gb_bookAt hi.gb hch.ty
 have hdok:=crashed_ok hi.d keep
 have hw:(crashed T.x keep).w = []:=rfl
 have f1:=found3_pc Γ _ hdok
 rw [hon.found hi.gb hch] at f1
 have f2:=recover3_pc Γ _ hdok (by simp [hw])
 rw [hon.recover (by simp [hw]) (by omega) hi.gb hch] at f2
 have hm:=fun i hi2=>mid_recover hon hw (by omega) hi.gb hch i hi2 again
 have hgg:=hi.gg
 generalize hN:((ops.take (k + min (leadOf keep) (ops.length - k))).length:Int) = N at *
 have hNr:0≤N∧N≤30:=by have:=hi.n;rw [<- hN,List.length_take];omega
 generalize hB:bookAt b (ops.take (k + min (leadOf keep) (ops.length - k))) = B at *
 have hsh:GS ⟨crashed T.x keep,T.gen,N,closeOp B,B⟩:=⟨hdok,by simp [hw],by simp only;omega,hNr,gb_close hgb,hgb⟩
 have c3:=rclose_pc Γ hgb
 have c4:=steps2_pc Γ _ hsh.ok (by simp only;omega)
 have hD:=disksL_length (laidOf ⟨crashed T.x keep,T.gen,N,closeOp B,B⟩) 20
 have hDg:=fun i hi=>disksL_get (laidOf ⟨crashed T.x keep,T.gen,N,closeOp B,B⟩) 20 i hi
 have hlo:∀ i,i≤19->Dok (laidOf ⟨crashed T.x keep,T.gen,N,closeOp B,B⟩ i).s (laidOf ⟨crashed T.x keep,T.gen,N,closeOp B,B⟩ i).w:=fun i hi2=>(laid_ok hdok (by simp [hw]) (snapC hsh.b (T.gen + 1)) i hi2).1
 obtain ⟨r2,a2,f2⟩:∃ r:Sto,r.b = closeOp B∧PC Tryz.prog Γ 30 [dk (crashed T.x keep).s (crashed T.x keep).w] (.tup [sto r,.int .i64 0]):=by
  refine ⟨_,?_,f2⟩
  rfl
 have c5:=bsame_me Γ (gb_close hgb)
 have hm:∀ i,i < 20->(recoverOf (crashed (laidOf ⟨crashed T.x keep,T.gen,N,closeOp B,B⟩ i) again)).2 = 0∧(recoverOf (crashed (laidOf ⟨crashed T.x keep,T.gen,N,closeOp B,B⟩ i) again)).1.b = closeOp B:=hm
 by_cases h0:at_ < 0 ∨ 20≤at_
 · clear hi
   generalize disksL (laidOf ⟨crashed T.x keep,T.gen,N,closeOp B,B⟩) 20 = D at *
   clear hDg hlo hm hon
   generalize crashed T.x keep = y at *
   unfold sto bookL dk book at *
   by_cases h1:at_ < 0
   · simp -implicitDefEqProofs (disch:=omega) [go_sem]
     refine .inl (call_data c1 (by simp [go_sem]) ?_)
     simp -implicitDefEqProofs (disch:=omega) [go_sem]
     refine .inl (call_data c2 (by simp [go_sem]) ?_)
     simp -implicitDefEqProofs (disch:=omega) [go_sem]
     refine .inl (call_data f1 (by simp [go_sem]) ?_)
     simp -implicitDefEqProofs (disch:=omega) [go_sem]
     refine .inl (call_data c3 (by simp [go_sem]) ?_)
     simp -implicitDefEqProofs (disch:=omega) [go_sem]
     refine .inl (call_data c4 (by simp [go_sem]) ?_)
     simp -implicitDefEqProofs (disch:=omega) [go_sem,hD,Tryz.f6]
   · have h2:20≤at_:=by omega
     simp -implicitDefEqProofs (disch:=omega) [go_sem]
     refine .inl (call_data c1 (by simp [go_sem]) ?_)
     simp -implicitDefEqProofs (disch:=omega) [go_sem]
     refine .inl (call_data c2 (by simp [go_sem]) ?_)
     simp -implicitDefEqProofs (disch:=omega) [go_sem]
     refine .inl (call_data f1 (by simp [go_sem]) ?_)
     simp -implicitDefEqProofs (disch:=omega) [go_sem]
     refine .inl (call_data c3 (by simp [go_sem]) ?_)
     simp -implicitDefEqProofs (disch:=omega) [go_sem]
     refine .inl (call_data c4 (by simp [go_sem]) ?_)
     simp -implicitDefEqProofs (disch:=omega) [go_sem,hD,Tryz.f6]
 obtain ⟨i,rfl⟩:∃ i:Nat,at_ = i:=⟨at_.toNat,by omega⟩
 have hi20:i < 20:=by omega
 have hok:=hlo i (by omega)
 obtain ⟨m1,m2⟩:=hm i hi20
 have c7:=Go.Proofs.YtjkpeebajibgiaaGreat.rcrash_pc Γ (laidOf ⟨crashed T.x keep,T.gen,N,closeOp B,B⟩ i).s (laidOf ⟨crashed T.x keep,T.gen,N,closeOp B,B⟩ i).w hok again (by omega)
 have f3:=recover3_pc Γ _ (crashed_ok hok again) (by simp [crashed_w])
 rw [m1] at f3
 obtain ⟨r3,a3,f3⟩:∃ r:Sto,r.b = closeOp B∧PC Tryz.prog Γ 30 [dk (crashed (laidOf ⟨crashed T.x keep,T.gen,N,closeOp B,B⟩ i) again).s (crashed (laidOf ⟨crashed T.x keep,T.gen,N,closeOp B,B⟩ i) again).w] (.tup [sto r,.int .i64 0]):=⟨_,m2,f3⟩
 have f4:PC Tryz.prog Γ 30 [dk (flush (laidOf ⟨crashed T.x keep,T.gen,N,closeOp B,B⟩ i).s (Go.Proofs.YtjkpeebajibgiaaGreat.kept again 0 (laidOf ⟨crashed T.x keep,T.gen,N,closeOp B,B⟩ i).w)) []] (.tup [sto r3,.int .i64 0]):=f3
 clear f3
 have hgi:=hDg i hi20
 unfold Disk.d at hgi
 generalize flush (laidOf ⟨crashed T.x keep,T.gen,N,closeOp B,B⟩ i).s (Go.Proofs.YtjkpeebajibgiaaGreat.kept again 0 (laidOf ⟨crashed T.x keep,T.gen,N,closeOp B,B⟩ i).w) = y1 at *
 generalize disksL (laidOf ⟨crashed T.x keep,T.gen,N,closeOp B,B⟩) 20 = D at *
 clear hDg hlo hm hon hok m1 m2 hi
 generalize laidOf ⟨crashed T.x keep,T.gen,N,closeOp B,B⟩ i = X at *
 generalize crashed T.x keep = y at *
 unfold sto bookL dk book at *
 simp -implicitDefEqProofs (disch:=omega) [go_sem]
 refine .inl (call_data c1 (by simp [go_sem]) ?_)
 simp -implicitDefEqProofs (disch:=omega) [go_sem]
 refine .inl (call_data c2 (by simp [go_sem]) ?_)
 simp -implicitDefEqProofs (disch:=omega) [go_sem]
 refine .inl (call_data f1 (by simp [go_sem]) ?_)
 simp -implicitDefEqProofs (disch:=omega) [go_sem]
 refine .inl (call_data c3 (by simp [go_sem]) ?_)
 simp -implicitDefEqProofs (disch:=omega) [go_sem]
 refine .inl (call_data c4 (by simp [go_sem]) ?_)
 simp -implicitDefEqProofs (disch:=omega) [-getElem?_pos,go_sem,hD,hgi]
 refine .inl (call_data c7 (by simp [go_sem]) ?_)
 simp -implicitDefEqProofs (disch:=omega) [go_sem]
 refine .inl (call_data f4 (by simp [go_sem,wrs]) ?_)
 simp -implicitDefEqProofs (disch:=omega) [go_sem]
 refine .inl (call_data f2 (by simp [go_sem]) ?_)
 simp -implicitDefEqProofs (disch:=omega) [go_sem]
 refine .inl (call_data c5 (by simp [go_sem,a2,a3]) ?_)
 simp -implicitDefEqProofs (disch:=omega) [go_sem]
 refine .inl (call_data c5 (by simp [go_sem,a2]) ?_)
 simp -implicitDefEqProofs (maxSteps:=4000000) (disch:=omega) [go_sem,Tryz.f6]
end
end Bk
theorem law_StoreAgain (Γ:Nat->Option (List Data)) {x0:Data} (a0:argD Tryz.prog 8 67 x0):PC Tryz.prog Γ 6 [x0] (.bool true):=by
 obtain ⟨ds,rfl,h⟩:=arg_struct Tryz.underlying67 a0
 obtain ⟨d1,r1,rfl,h1,h⟩:=okF_cons h
 obtain ⟨d2,r2,rfl,h2,h⟩:=okF_cons h
 obtain ⟨d3,r3,rfl,h3,h⟩:=okF_cons h
 obtain ⟨d4,r4,rfl,h4,h⟩:=okF_cons h
 obtain rfl:=okF_nil h
 obtain ⟨l,rfl,hl,ht⟩:=Bk.ok_acts (n:=1) h1
 obtain ⟨k,hk,rfl⟩:=ok_bools (n:=5) h2
 obtain ⟨i,_,_,rfl⟩:=ok_i64 Tryz.underlying3 h3
 obtain ⟨k',hk',rfl⟩:=ok_bools (n:=5) h4
 exact Bk.again_pc Γ l hl ht k hk i k' hk'
namespace Bk
section
variable (Γ:Nat->Option (List Data))
theorem FewP.few {l:List Act6} {n:Int} (h:FewP l n):(∀ a∈l,a.o.user.size≤1000∧a.keep.length≤1000):=fun a ha=>by
 obtain ⟨i,hi,rfl⟩:=List.getElem_of_mem ha
 have:=h.2 i hi
 omega
theorem bsame_self {b:Book} (h:GB b):PC Tryz.prog Γ 34 [book b,book b] (.bool true):=by
 have:=Bk.same_pc Γ b b h.fits h.fits h.ty h.ty
 rwa [decide_eq_true rfl] at this
set_option maxHeartbeats 8000000 in
theorem safe_pc (l:List Act6) (hl:l.length≤140737488351232) (ht:∀ a∈l,a.o.Ty) (keep:List Bool) (hk:keep.length≤140737488351232):PC Tryz.prog Γ 7 [.sl 11 (acts6 l),.sl 1 (bools keep)] (.bool true):=by
 refine pc_by mixed Tryz.func7 rfl (fun args w=>Tryz.call7 args w) ?_
 have c0:=shown6_pc Γ
 obtain ⟨q,hq⟩:=dec_ex (FewP l 40)
 have cf:=few_pc Γ l 40 hl hq
 simp -implicitDefEqProofs (disch:=omega) [go_sem]
 refine .inl (call_data c0 (by simp [go_sem]) ?_)
 simp -implicitDefEqProofs (disch:=omega) [go_sem]
 refine .inl (call_data cf (by simp [go_sem]) ?_)
 cases q
 · simp -implicitDefEqProofs (disch:=omega) [go_sem,Tryz.f7]
 by_cases hk2:60 < keep.length
 · simp -implicitDefEqProofs (disch:=omega) [go_sem,Tryz.f7]
 have hF:=hq.1 rfl
 have hl40:=hF.1
 obtain ⟨bg,hg⟩:=Begun.ran (l:=l) (by omega) ht
 have c1:=run3_pc Γ l (by omega) ht hF.few
 generalize runOf l l.length = T at *
 have c2:=rcrash3_pc Γ bg keep (by omega)
 have c3:=rcrash3_pc Γ bg [] (by simp)
 have bg2:=bg
 obtain ⟨b,ops,k,hi⟩:=bg2
 have hkl:=hi.kl
 have hseq:=hi.seq
 have c4:=Go.Proofs.YtjkpeebajibgiaaGreat.rflush_pc Γ T.x.s T.x.w hi.d
 have f1:=found3_pc Γ _ (crashed_ok hi.d keep)
 have f2:=found3_pc Γ _ (crashed_ok hi.d [])
 have f3:=found3_pc Γ _ (flushed_ok hi.d)
 rw [(hi.crash keep).found hi.gb (hi.ch.take _)] at f1
 rw [(hi.crash []).found hi.gb (hi.ch.take _)] at f2
 rw [hi.flush.found hi.gb hi.ch] at f3
 obtain ⟨r1,a1,a2,f1⟩:∃ r:Sto,r.gen = T.gen∧((k:Int)≤r.seq∧r.seq≤T.seq)∧PC Tryz.prog Γ 28 [dk (crashed T.x keep).s (crashed T.x keep).w] (.tup [sto r,.int .i64 0]):=by
  refine ⟨_,?_,?_,f1⟩
  · rfl
  · simp only [List.length_take];omega
 obtain ⟨r2,a3,a4,f2⟩:∃ r:Sto,r.b = T.f∧r.seq = k∧PC Tryz.prog Γ 28 [dk (crashed T.x []).s (crashed T.x []).w] (.tup [sto r,.int .i64 0]):=⟨_,by simp only [leadOf];rw [Nat.zero_min,Nat.add_zero];exact hi.fk.symm,by simp only [List.length_take,leadOf];omega,f2⟩
 obtain ⟨r3,a5,a6,f3⟩:∃ r:Sto,r.b = T.b∧r.seq = T.seq∧PC Tryz.prog Γ 28 [dk (flush T.x.s T.x.w) []] (.tup [sto r,.int .i64 0]):=⟨_,hi.bk.symm,hseq.symm,f3⟩
 have c5:=bsame_self Γ hi.gbf
 have c6:=bsame_self Γ hi.gbt
 generalize crashed T.x keep = y1 at *
 generalize crashed T.x [] = y2 at *
 generalize flush T.x.s T.x.w = y3 at *
 clear hi bg
 unfold sto bookL dk at *
 simp -implicitDefEqProofs (disch:=omega) [go_sem]
 refine .inl (call_data c1 (by simp [go_sem]) ?_)
 simp -implicitDefEqProofs (disch:=omega) [go_sem]
 refine .inl (call_data c2 (by simp [go_sem]) ?_)
 simp -implicitDefEqProofs (disch:=omega) [go_sem]
 refine .inl (call_data f1 (by simp [go_sem]) ?_)
 simp -implicitDefEqProofs (disch:=omega) [go_sem]
 refine .inl (call_frz [] [] (by simp) c3 (fun H' hH'=>frzL_c (.data _) (frzL_c (.emp ..) frzL_n)) ?_)
 simp -implicitDefEqProofs (disch:=omega) [go_sem]
 refine .inl (call_data f2 (by simp [go_sem]) ?_)
 simp -implicitDefEqProofs (disch:=omega) [go_sem]
 refine .inl (call_data c4 (by simp [go_sem]) ?_)
 simp -implicitDefEqProofs (disch:=omega) [go_sem]
 refine .inl (call_data f3 (by simp [go_sem,wrs]) ?_)
 simp -implicitDefEqProofs (disch:=omega) [go_sem,a1]
 refine .inl (call_data c5 (by simp [go_sem,book,a3]) ?_)
 simp -implicitDefEqProofs (disch:=omega) [go_sem]
 refine .inl (call_data c6 (by simp [go_sem,book,a5]) ?_)
 simp -implicitDefEqProofs (maxSteps:=4000000) (disch:=omega) [go_sem,a4,a6,Tryz.f7]
set_option maxHeartbeats 8000000 in
theorem gens_pc (l:List Act6) (hl:l.length≤140737488351232) (ht:∀ a∈l,a.o.Ty) (o:Op) (ho:o.Ty):PC Tryz.prog Γ 9 [.sl 11 (acts6 l),op o] (.bool true):=by
 refine pc_by mixed Tryz.func9 rfl (fun args w=>Tryz.call9 args w) ?_
 have c0:=shown6_pc Γ
 obtain ⟨q,hq⟩:=dec_ex (FewP l 40)
 have cf:=few_pc Γ l 40 hl hq
 simp -implicitDefEqProofs (disch:=omega) [go_sem,op]
 refine .inl (call_data c0 (by simp [go_sem]) ?_)
 simp -implicitDefEqProofs (disch:=omega) [go_sem]
 refine .inl (call_data cf (by simp [go_sem]) ?_)
 cases q
 · simp -implicitDefEqProofs (disch:=omega) [go_sem,Tryz.f9]
 by_cases hu:50 < o.user.size
 · simp -implicitDefEqProofs (disch:=omega) [go_sem,Tryz.f9]
 have hF:=hq.1 rfl
 have hl40:=hF.1
 obtain ⟨bg,hg⟩:=Begun.ran (l:=l) (by omega) ht
 have c1:=run3_pc Γ l (by omega) ht hF.few
 generalize runOf l l.length = T at *
 have c2:=check2_pc Γ T bg.gs.ok
 obtain ⟨_,k1,k2⟩:=bg.check (by omega)
 rw [k1] at c2
 have bg2:=bg
 obtain ⟨b,ops,k,hi⟩:=bg2
 have hgg:=hi.gg
 have hn:=hi.n
 have hseq:=hi.seq
 have c3:=recover3_pc Γ T.x hi.d hi.gs.w
 rw [hi.on.recover hi.gs.w (by omega) hi.gb hi.ch] at c3
 obtain ⟨r2,a1,a2,a3,c2⟩:∃ r:Sto,r.gen = T.gen + 1∧r.seq = 0∧r.x.w = []∧PC Tryz.prog Γ 15 [sto T] (.tup [sto r,.int .i64 0]):=⟨_,by rw [k2],by rw [k2],by rw [k2];show (laidOf T 19).w = [];unfold laidOf;rw [laid_19],c2⟩
 obtain ⟨r3,a4,a5,a6,c3⟩:∃ r:Sto,r.gen = T.gen + 1∧r.seq = 0∧r.x.w = []∧PC Tryz.prog Γ 30 [dk T.x.s T.x.w] (.tup [sto r,.int .i64 0]):=⟨_,rfl,rfl,by simp only;rw [laid_19],c3⟩
 have c4:=do3_pc Γ bg o ho
 have c5:=psame_self Γ bg.gs
 have e0:(wrs r2.x.w).length + (wrs r3.x.w).length = 0:=by rw [a3,a6];rfl
 have lw2:r2.x.w.length = 0:=by rw [a3];rfl
 have lw3:r3.x.w.length = 0:=by rw [a6];rfl
 have hwl:=hi.wlen
 by_cases hd:T.seq < 30∧(applyOp T.b o).2 = 0
 · obtain ⟨e1,e2,e3,e4,e5⟩:=hi.doYes (o:=o) hd.1 hd.2
   rw [e1] at c4
   generalize (doOf T o).1 = r4 at *
   clear hi bg
   unfold sto bookL dk op at *
   simp -implicitDefEqProofs (disch:=omega) [go_sem]
   refine .inl (call_data c1 (by simp [go_sem]) ?_)
   simp -implicitDefEqProofs (disch:=omega) [go_sem]
   refine .inl (call_data c2 (by simp [go_sem]) ?_)
   simp -implicitDefEqProofs (disch:=omega) [go_sem]
   refine .inl (call_data c3 (by simp [go_sem]) ?_)
   simp -implicitDefEqProofs (disch:=omega) [go_sem]
   refine .inl (call_data c4 (by simp [go_sem]) ?_)
   simp -implicitDefEqProofs (maxSteps:=4000000) (disch:=omega) [go_sem,a1,a2,a4,a5,lw2,lw3,e3,e4,e5,hd.1,Tryz.f9]
 · obtain ⟨e1,e2⟩:=hi.doNo (o:=o) hd
   rw [e1] at c4
   have e3:T.seq < 30 ∨ (doOf T o).2 = 4:=by
    by_cases h30:30≤T.seq
    · right;unfold doOf;rw [if_pos h30]
    · left;omega
   generalize (doOf T o).2 = r4 at *
   clear hi bg
   unfold sto bookL dk op at *
   simp -implicitDefEqProofs (disch:=omega) [go_sem]
   refine .inl (call_data c1 (by simp [go_sem]) ?_)
   simp -implicitDefEqProofs (disch:=omega) [go_sem]
   refine .inl (call_data c2 (by simp [go_sem]) ?_)
   simp -implicitDefEqProofs (disch:=omega) [go_sem]
   refine .inl (call_data c3 (by simp [go_sem]) ?_)
   simp -implicitDefEqProofs (disch:=omega) [go_sem]
   refine .inl (call_data c4 (by simp [go_sem]) ?_)
   simp -implicitDefEqProofs (maxSteps:=4000000) (disch:=omega) [go_sem,a1,a2,a4,a5,lw2,lw3,e2]
   refine .inl (call_data c5 (by simp [go_sem]) ?_)
   by_cases h30:T.seq < 30
   · simp -implicitDefEqProofs (maxSteps:=4000000) (disch:=omega) [go_sem,h30,Tryz.f9]
   · have e4:r4 = 4:=by omega
     simp -implicitDefEqProofs (maxSteps:=4000000) (disch:=omega) [go_sem,h30,e4,Tryz.f9]
end
end Bk
theorem law_StoreSafe (Γ:Nat->Option (List Data)) {x0 x1:Data} (a0:argD Tryz.prog 8 22 x0) (a1:argD Tryz.prog 8 59 x1):PC Tryz.prog Γ 7 [x0,x1] (.bool true):=by
 obtain ⟨l,rfl,hl,ht⟩:=Bk.arg_acts (n:=2) a0
 obtain ⟨k,hk,rfl⟩:=arg_bools (n:=6) a1
 exact Bk.safe_pc Γ l hl ht k hk
theorem law_StoreGens (Γ:Nat->Option (List Data)) {x0 x1:Data} (a0:argD Tryz.prog 8 22 x0) (a1:argD Tryz.prog 8 26 x1):PC Tryz.prog Γ 9 [x0,x1] (.bool true):=by
 obtain ⟨l,rfl,hl,ht⟩:=Bk.arg_acts (n:=2) a0
 obtain ⟨o,ho,rfl⟩:=Bk.arg_op (n:=6) a1
 exact Bk.gens_pc Γ l hl ht o ho
end Go.Proofs.YtjkpeebajibgiaaGreat
