/- Rules: what comes in, the document's example, RulesAnswer, RulesLearn. Rules: RulesAnswer, RulesLearn, RulesAsk. Rules: RulesAddress, RulesStays. Rules: RulesAgree. Rules: the laws. -/
import Derived.Test.YtmappnpigpcimaaPk5
namespace Go.Proofs.Ytmappnpigpcimaa
open Go.RowKit
set_option linter.unusedSimpArgs false
set_option linter.unusedVariables false
set_option maxRecDepth 100000
namespace Ru
open Op9
theorem peer_flat:∃ fs,FlatS Try.prog 35 fs [.i .i64,.i .u32,.i .u32,.b,.b]:=⟨_,{
 ut:=Try.underlying35
 n:=rfl
 ct:=by kernel_rfl
 names:=by simp
 each:=by kernel_rfl
 deep:=run_equalIn_deep 9998 2 35 (by kernel_rfl)
 guard:=by kernel_rfl }⟩
structure PeerT (p:Peer):Prop where
 mru:p.mru < 4294967296
 accm:p.accm < 4294967296
 magic:p.magic < 4294967296
def peeC (p:Peer):List Data:=[.int .i64 p.mru,.int .u32 p.accm,.int .u32 p.magic,.bool p.pfc,.bool p.acfc]
theorem peer_fit {p:Peer} (h:PeerT p):FitD [.i .i64,.i .u32,.i .u32,.b,.b] (peeC p):=by
 unfold peeC
 simp only [fitD_cons,fitD_nil]
 obtain ⟨h1,h2,h3⟩:=h
 refine ⟨fit_int ?_,fit_int ?_,fit_int ?_,fit_bool _,fit_bool _,trivial⟩
 · show (-9223372036854775808:Int)≤_∧_≤(9223372036854775807:Int);omega
 · show (0:Int)≤_∧_≤(4294967295:Int);omega
 · show (0:Int)≤_∧_≤(4294967295:Int);omega
theorem peer_eq (p q:Peer):peeC p = peeC q ↔ p = q:=by
 cases p;cases q
 simp only [peeC,List.cons.injEq,Data.int.injEq,Data.bool.injEq,Peer.mk.injEq,Int.ofNat_inj,true_and,and_true]
theorem eqK_peer {p q:Peer} (hp:PeerT p) (hq:PeerT q) {K:Bool->Prop} (hk:K (decide (p = q))):eqK Try.prog 35 (.agg (peeC p)) (.agg (peeC q)) K:=by
 obtain ⟨fs,hf⟩:=peer_flat
 exact eqK_flat hf (peer_fit hp) (peer_fit hq) (peer_eq p q) hk
theorem first_lt {l:List Ot} (hl:∀ o∈l,OptF o) (t d:Nat) (hd:d < 4294967296):(firstR l t).getD d < 4294967296:=by
 unfold firstR
 cases hq:l.find? fun o=>knownR false o && decide (o.t = t) with
 | none=>exact hd
 | some o=>exact numO_lt (hl o (List.mem_of_find?_eq_some hq)).1
theorem learn_ty {l:List Ot} (hl:∀ o∈l,OptF o):PeerT (learnR l):=⟨first_lt hl 1 1500 (by decide),first_lt hl 2 4294967295 (by decide),first_lt hl 5 0 (by decide)⟩
theorem ok_bol {P:Program} {n:Nat} {t:TypeId} {ds:List Data} (hu:P.underlying t = some .bool) (h:okD P (n + 1) t ds):∃ b:Bool,ds = [.bool b]:=by
 unfold okD at h
 simp only [hu] at h
 obtain ⟨b,rfl⟩:=h
 exact ⟨b,rfl⟩
theorem arg_rule {n:Nat} {x:Data} (a:argD Try.prog (n + 2) 24 x):∃ r:Rule,r.Ty∧x = rul r:=by
 obtain ⟨ds,rfl,h⟩:=arg_struct Try.underlying24 a
 obtain ⟨d1,r1,rfl,h1,h⟩:=okF_cons h
 obtain ⟨d2,r2,rfl,h2,h⟩:=okF_cons h
 obtain ⟨d3,r3,rfl,h3,h⟩:=okF_cons h
 obtain ⟨d4,r4,rfl,h4,h⟩:=okF_cons h
 obtain ⟨d5,r5,rfl,h5,h⟩:=okF_cons h
 obtain rfl:=okF_nil h
 obtain ⟨b,rfl⟩:=ok_bol Try.underlying4 h1
 obtain ⟨i2,a2,b2,rfl⟩:=ok_int Try.underlying22 h2
 obtain ⟨i3,a3,b3,rfl⟩:=ok_int Try.underlying22 h3
 obtain ⟨i4,a4,b4,rfl⟩:=ok_int Try.underlying22 h4
 obtain ⟨i5,a5,b5,rfl⟩:=ok_int Try.underlying22 h5
 have e1:IntKind.u32.min = 0:=by decide
 have e2:IntKind.u32.max = 4294967295:=by decide
 obtain ⟨m2,rfl⟩:∃ m:Nat,i2 = m:=⟨i2.toNat,by omega⟩
 obtain ⟨m3,rfl⟩:∃ m:Nat,i3 = m:=⟨i3.toNat,by omega⟩
 obtain ⟨m4,rfl⟩:∃ m:Nat,i4 = m:=⟨i4.toNat,by omega⟩
 obtain ⟨m5,rfl⟩:∃ m:Nat,i5 = m:=⟨i5.toNat,by omega⟩
 exact ⟨⟨b,m2,m3,m4,m5⟩,⟨by show m2 < _;omega,by show m3 < _;omega,by show m4 < _;omega,by show m5 < _;omega⟩,rfl⟩
theorem few_fine {l:List Ot} (h:FewO l) (hi:∀ o∈l,InO o):Fine l∧OpsF l:=by
 refine ⟨⟨by have:=h.1;omega,fun o ho=>⟨(hi o ho).1.d,by have:=h.2 o ho;omega⟩⟩,by have:=h.1;omega,fun o ho=>⟨(hi o ho).1.d,by have:=h.2 o ho;omega⟩,fun o ho=>(hi o ho).1.t⟩
/-- What is answered is few,too. -/
theorem four_le (n:Nat):(fourO n).length≤253:=by simp [fourO]
theorem should_le {r:Rule} {o:Ot} (h:o.d.length≤253):(shouldR r o).1.d.length≤253:=by
 unfold shouldR
 split
 · exact four_le _
 · split
   · simp
   · split
     · exact four_le _
     · exact h
theorem answer_few {r:Rule} {l:List Ot} {n:Int} (h:FewO l):(answerR r l n).2.length≤31∧∀ o∈(answerR r l n).2,o.d.length≤253:=by
 obtain ⟨h1,h2⟩:=h
 unfold answerR
 split
 · exact ⟨by have:=odd_len r.ip l;simp only;omega,fun o ho=>h2 o (List.mem_filter.1 ho).1⟩
 split
 · exact ⟨by have:=as_len r l;simp only;omega,fun o ho=>h2 o (List.mem_filter.1 ho).1⟩
 split
 · constructor
   · have:=to_len r l
     unfold toA
     simp only [List.length_append]
     split <;> simp <;> omega
   · intro o ho
     unfold toA at ho
     simp only [List.mem_append] at ho
     rcases ho with ho | ho
     · unfold toR at ho
       obtain ⟨x,hx,rfl⟩:=List.mem_map.1 ho
       exact should_le (h2 x (List.mem_filter.1 hx).1)
     · split at ho
       · rw [List.mem_singleton.1 ho];exact four_le _
       · cases ho
 · exact ⟨by simp only;omega,h2⟩
theorem ask_few (r:Rule):(askR r).length≤2∧∀ o∈askR r,o.d.length≤253:=by
 unfold askR
 cases r.ip <;> simp [fourO]
section
variable (Γ:Nat->Option (List Data))
set_option maxHeartbeats 4000000 in
theorem shown13_pc:PC Try.prog Γ 9 [] (.bool true):=by
 refine pc_by mixed Try.func9 rfl (fun args w=>Try.call9 args w) ?_
 have t0:∀ a b c d:Nat,a < 100->b < 100->c < 100->d < 100->∀ ip,(⟨ip,a,b,c,d⟩:Rule).Ty:=fun a b c d h1 h2 h3 h4 ip=>⟨by show a < _;omega,by show b < _;omega,by show c < _;omega,by show d < _;omega⟩
 have o7:OpsF [⟨7,[]⟩]:=⟨by decide,by simp [OptF],by simp⟩
 have o0:OpsF []:=⟨by decide,by simp,by simp⟩
 have o9:OpsF [⟨3,[0,0,0,9]⟩]:=⟨by decide,by simp [OptF],by simp⟩
 have o5:OpsF [⟨5,[]⟩]:=⟨by decide,by simp [OptF],by simp⟩
 have oa:OpsF [⟨3,[194,35,5]⟩,⟨5,[0,0,0,5]⟩]:=⟨by decide,by simp [OptF],by simp⟩
 have c1:=answer13_pc Γ ⟨false,1,2,0,0⟩ [⟨7,[]⟩] 0 (t0 _ _ _ _ (by decide) (by decide) (by decide) (by decide) _) o7
 rw [show answerR ⟨false,1,2,0,0⟩ [⟨7,[]⟩] 0 = (2,[⟨7,[]⟩]) by decide] at c1
 have c2:=answer13_pc Γ ⟨true,0,0,9,0⟩ [] 0 (t0 _ _ _ _ (by decide) (by decide) (by decide) (by decide) _) o0
 rw [show answerR ⟨true,0,0,9,0⟩ [] 0 = (3,[⟨3,[0,0,0,9]⟩]) by decide] at c2
 have c3:=address13_pc Γ [⟨3,[0,0,0,9]⟩] o9.len o9.opt
 rw [show addrR [⟨3,[0,0,0,9]⟩] = some 9 by decide] at c3
 have c4:=ask13_pc Γ ⟨false,5,0,0,0⟩ (t0 _ _ _ _ (by decide) (by decide) (by decide) (by decide) _)
 rw [show askR ⟨false,5,0,0,0⟩ = [⟨3,[194,35,5]⟩,⟨5,[0,0,0,5]⟩] by decide] at c4
 have c5:=turn13_pc Γ ⟨false,0,7,0,0⟩ [⟨3,[194,35,5]⟩,⟨5,[0,0,0,5]⟩] 3 [⟨5,[]⟩] (t0 _ _ _ _ (by decide) (by decide) (by decide) (by decide) _) oa o5
 rw [show turnR ⟨false,0,7,0,0⟩ [⟨3,[194,35,5]⟩,⟨5,[0,0,0,5]⟩] 3 [⟨5,[]⟩] = ([⟨3,[194,35,5]⟩,⟨5,[0,0,0,7]⟩],true) by decide] at c5
 have c6:=learn13_pc Γ [⟨7,[]⟩] o7.len o7.opt
 rw [show learnR [⟨7,[]⟩] = ⟨1500,4294967295,0,true,false⟩ by decide] at c6
 have c7:=learn13_pc Γ [] o0.len o0.opt
 rw [show learnR [] = ⟨1500,4294967295,0,false,false⟩ by decide] at c7
 unfold natO at c3
 unfold pee at c6 c7
 simp -implicitDefEqProofs (disch:=omega) [go_sem]
 refine .inl (call_frz [3] [3] (fun g hg=>?_) c1 (fun H' hH'=>?_) ?_)
 · simp only [List.mem_cons,List.not_mem_nil,or_false] at hg
   subst hg;exact ⟨true,_,by simp [Hp.upd,Hp.set];rfl⟩
 · refine frzL_c (.data _) (frzL_c (frz_rows (rw:=false) (cells:=[.data (.int .u8 7),.emp 0]) (by simp [Hp.upd,Hp.set,fz]) (.inr rfl) rfl (ots_cells _) ?_) (frzL_c (.data _) frzL_n))
   exact frzL_c (.data _) (frzL_c (.emp _ _) frzL_n)
 simp -implicitDefEqProofs (disch:=omega) [go_sem]
 refine .inl (call_frz [] [] (by simp) c2 (fun H' hH'=>frzL_c (.data _) (frzL_c (.emp _ _) (frzL_c (.data _) frzL_n))) ?_)
 simp -implicitDefEqProofs (disch:=omega) [go_sem]
 refine .inl (call_data c3 (by simp [go_sem]) ?_)
 simp -implicitDefEqProofs (disch:=omega) [go_sem]
 refine .inl (call_data c4 rfl ?_)
 simp -implicitDefEqProofs (disch:=omega) [go_sem]
 refine .inl (call_frz [28] [28] (fun g hg=>?_) c5 (fun H' hH'=>?_) ?_)
 · simp only [List.mem_cons,List.not_mem_nil,or_false] at hg
   subst hg;exact ⟨true,_,by simp [Hp.upd,Hp.set];rfl⟩
 · refine frzL_c (.data _) (frzL_c (.data _) (frzL_c (.data _) (frzL_c (frz_rows (rw:=false) (cells:=[.data (.int .u8 5),.emp 0]) (by simp [Hp.upd,Hp.set,fz]) (.inr rfl) rfl (ots_cells _) ?_) frzL_n)))
   exact frzL_c (.data _) (frzL_c (.emp _ _) frzL_n)
 simp -implicitDefEqProofs (maxSteps:=4000000) (disch:=omega) [go_sem,ots,ot,bys]
 refine .inl (call_data c6 rfl ?_)
 simp -implicitDefEqProofs (maxSteps:=4000000) (disch:=omega) [go_sem]
 refine .inl (call_frz [] [] (by simp) c7 (fun H' hH'=>frzL_c (.emp _ _) frzL_n) ?_)
 simp -implicitDefEqProofs (maxSteps:=4000000) (disch:=omega) [go_sem,Try.f9]
end
end Ru
namespace Ru
open Op9
section
variable (Γ:Nat->Option (List Data))
theorem rosame_refl (l:List Ot) (hl:l.length≤1000) (hd:∀ o∈l,o.d.length≤1000):PC Try.prog Γ 15 [.sl 2 (ots l),.sl 2 (ots l)] (.bool true):=by
 have:=rosame_pc Γ l l (by omega) (by omega) (fun o ho=>by have:=hd o ho;omega) (fun o ho=>by have:=hd o ho;omega)
 rwa [decide_eq_true rfl] at this
set_option maxHeartbeats 4000000 in
theorem ranswerL_pc (r:Rule) (l:List Ot) (n:Int) (hr:r.Ty) (hl:l.length≤140737488351232) (hlo:∀ o∈l,InO o):PC Try.prog Γ 3 [rul r,.sl 2 (ots l),.int .i64 n] (.bool true):=by
 refine pc_by mixed Try.func3 rfl (fun args w=>Try.call3 args w) ?_
 have f1:=rfew_pc Γ l hl (fun o ho=>(hlo o ho).2) (q:=decide (FewO l)) decide_eq_true_iff
 unfold rul
 simp -implicitDefEqProofs (disch:=omega) [go_sem]
 refine .inl (call_data (shown13_pc Γ) (by simp [go_sem]) ?_)
 simp -implicitDefEqProofs (disch:=omega) [go_sem]
 refine .inl (call_data f1 (by simp [go_sem]) ?_)
 by_cases g1:FewO l
 rotate_left
 · rw [decide_eq_false g1]
   simp -implicitDefEqProofs (disch:=omega) [go_sem,Try.f3]
 rw [decide_eq_true g1]
 obtain ⟨hf,ho⟩:=few_fine g1 hlo
 have c1:=answer13_pc Γ r l n hr ho
 have c2:=ranswer_pc Γ r l n hr hf
 have c3:=address13_pc Γ l ho.len ho.opt
 have c4:=raddress_pc Γ l hf
 have c5:=rosame_refl Γ (answerR r l n).2 (by have:=(answer_few (r:=r) (n:=n) g1).1;omega) (fun o ho=>by have:=(answer_few (r:=r) (n:=n) g1).2 o ho;omega)
 have c6:=ask13_pc Γ r hr
 have c7:=rask_pc Γ r hr
 have c8:=rosame_refl Γ (askR r) (by have:=(ask_few r).1;omega) (fun o ho=>by have:=(ask_few r).2 o ho;omega)
 have c9:=learn13_pc Γ l ho.len ho.opt
 have c10:=rlearn_pc Γ l hf
 have lt:=learn_ty ho.opt
 rw [show pee (learnR l) = .agg (peeC (learnR l)) from rfl] at c9 c10
 unfold rul at c1 c2 c6 c7
 unfold natO at c3 c4
 have hk:∀ K:Bool->Prop,K true->eqK Try.prog 35 (.agg (peeC (learnR l))) (.agg (peeC (learnR l))) K:=fun K k=>eqK_peer lt lt (by rw [decide_eq_true rfl];exact k)
 generalize peeC (learnR l) = p at *
 generalize ots (askR r) = a at *
 generalize (answerR r l n).2 = m at *
 generalize (answerR r l n).1 = c at *
 generalize addrR l = ad at *
 simp -implicitDefEqProofs (disch:=omega) [go_sem]
 refine .inl (call_data c1 (by simp [go_sem]) ?_)
 simp -implicitDefEqProofs (disch:=omega) [go_sem]
 refine .inl (call_data c2 (by simp [go_sem]) ?_)
 simp -implicitDefEqProofs (disch:=omega) [go_sem]
 refine .inl (call_data c3 (by simp [go_sem]) ?_)
 simp -implicitDefEqProofs (disch:=omega) [go_sem]
 refine .inl (call_data c4 (by simp [go_sem]) ?_)
 simp -implicitDefEqProofs (disch:=omega) [go_sem]
 refine .inl (call_data c5 (by simp [go_sem]) ?_)
 simp -implicitDefEqProofs (disch:=omega) [go_sem]
 refine .inl (call_data c6 (by simp [go_sem]) ?_)
 simp -implicitDefEqProofs (disch:=omega) [go_sem]
 refine .inl (call_data c7 (by simp [go_sem]) ?_)
 simp -implicitDefEqProofs (disch:=omega) [go_sem]
 refine .inl (call_data c8 (by simp [go_sem]) ?_)
 simp -implicitDefEqProofs (disch:=omega) [go_sem]
 refine .inl (call_data c9 (by simp [go_sem]) ?_)
 simp -implicitDefEqProofs (disch:=omega) [go_sem]
 refine .inl (call_data c10 (by simp [go_sem]) ?_)
 simp -implicitDefEqProofs (disch:=omega) [go_sem]
 refine hk _ ?_
 simp -implicitDefEqProofs (disch:=omega) [go_sem]
 refine side (by kernel_rfl) ?_
 simp -implicitDefEqProofs (disch:=omega) [go_sem,Try.f3]
theorem law_RulesAnswer {x0 x1 x2:Data} (a0:argD Try.prog 8 24 x0) (a1:argD Try.prog 8 25 x1) (a2:argD Try.prog 8 3 x2):PC Try.prog Γ 3 [x0,x1,x2] (.bool true):=by
 obtain ⟨r,hr,rfl⟩:=arg_rule a0
 obtain ⟨l,rfl,hl,hlo⟩:=arg_opts a1
 obtain ⟨n,_,_,rfl⟩:=arg_i64 Try.underlying3 a2
 exact ranswerL_pc Γ r l n hr hl hlo
set_option maxHeartbeats 4000000 in
theorem rlearnL_pc (l:List Ot) (hl:l.length≤140737488351232) (hlo:∀ o∈l,InO o):PC Try.prog Γ 6 [.sl 2 (ots l)] (.bool true):=by
 refine pc_by mixed Try.func6 rfl (fun args w=>Try.call6 args w) ?_
 have f1:=rfew_pc Γ l hl (fun o ho=>(hlo o ho).2) (q:=decide (FewO l)) decide_eq_true_iff
 simp -implicitDefEqProofs (disch:=omega) [go_sem]
 refine .inl (call_data (shown13_pc Γ) (by simp [go_sem]) ?_)
 simp -implicitDefEqProofs (disch:=omega) [go_sem]
 refine .inl (call_data f1 (by simp [go_sem]) ?_)
 by_cases g1:FewO l
 rotate_left
 · rw [decide_eq_false g1]
   simp -implicitDefEqProofs (disch:=omega) [go_sem,Try.f6]
 rw [decide_eq_true g1]
 obtain ⟨hf,ho⟩:=few_fine g1 hlo
 have hlen:=g1.1
 have c1:=learn13_pc Γ l ho.len ho.opt
 have c2:=learn13_pc Γ (l.filter (knownR false)) (Nat.le_trans (List.length_filter_le _ _) ho.len) (fun o h=>ho.opt o (List.mem_filter.1 h).1)
 rw [learn_known] at c2
 have lt:=learn_ty ho.opt
 have lm:=learn_mru fun o h=>(hlo o h).1
 have l0:l.filter (knownR false) = []->learnR l = learnR []:=fun e=>by rw [<- learn_known,e]
 rw [show pee (learnR l) = .agg (peeC (learnR l)) from rfl] at c1 c2
 have lf:∀ i,(((l.take i).filter (knownR false)).length:Nat)≤l.length:=fun i=>Nat.le_trans (List.length_filter_le _ _) (by rw [List.length_take];omega)
 simp -implicitDefEqProofs (disch:=omega) [go_sem]
 refine loop_ren (σ:={ i:Nat // i≤l.length }) (fun i=>⟨envL [(0,.data (.sl 2 (ots l))),(3,.data (.bool true)),(4,.ref 0 0 ((l.take i.1).filter (knownR false)).length 2),(5,.data (.int .i64 i.1))],hpL [(0,.blk true ((flat (ots ((l.take i.1).filter (knownR false)))).map .data))],1,0,59⟩) (fun i=>l.length - i.1) ⟨0,by omega⟩ [] (rhoL [(0,none)]) ?_ ?_
 · apply ren_lists <;> simp -implicitDefEqProofs [go_sem,ots,flat]
 rintro ⟨i,hi⟩
 have lf:=lf i
 by_cases h:i < l.length
 · have st:=filter_take (p:=knownR false) l i h
   have c3:=rknown_pc Γ false l[i]
   unfold ot at c3
   cases hk:knownR false l[i] <;> rw [hk] at c3 st
   · rw [if_neg (by simp),List.append_nil] at st
     simp -implicitDefEqProofs (disch:=omega) [go_sem,ot]
     refine .inl (call_data c3 (by simp [go_sem]) ?_)
     simp -implicitDefEqProofs (disch:=omega) [go_sem]
     refine next_ren ⟨i + 1,by omega⟩ (by simp only;omega) [] (rhoL [(0,some 0)]) ?_
     simp only [st]
     apply ren_lists <;> simp -implicitDefEqProofs [go_sem]
   · rw [if_pos rfl] at st
     simp -implicitDefEqProofs (disch:=omega) [go_sem,ot]
     refine .inl (call_data c3 (by simp [go_sem]) ?_)
     simp -implicitDefEqProofs (disch:=omega) [go_sem,flat_ots,ot]
     refine next_ren ⟨i + 1,by omega⟩ (by simp only;omega) [] (rhoL [(0,some 16)]) ?_
     simp only [st]
     apply ren_lists <;> simp -implicitDefEqProofs [go_sem]
     exact renCells_plain (by rw [ots_snoc]) (by simp [plainD])
 · have:i = l.length:=by omega
   subst this
   have hk:∀ K:Bool->Prop,K true->eqK Try.prog 35 (.agg (peeC (learnR l))) (.agg (peeC (learnR l))) K:=fun K k=>eqK_peer lt lt (by rw [decide_eq_true rfl];exact k)
   have hk0:l.filter (knownR false) = []->∀ K:Bool->Prop,K true->eqK Try.prog 35 (.agg (peeC (learnR l))) (.agg [.int .i64 1500,.int .u32 4294967295,.int .u32 0,.bool false,.bool false]) K:=fun e K k=>by
    have:=eqK_peer (K:=K) lt (learn_ty (l:=[]) (by simp)) (by rw [l0 e,decide_eq_true rfl];exact k)
    exact this
   have hb:Bare (.agg (peeC (learnR l))):=by
    refine .agg _ fun x hx=>?_
    simp only [peeC,List.mem_cons,List.not_mem_nil,or_false] at hx
    rcases hx with rfl | rfl | rfl | rfl | rfl
    · exact .int _ _
    · exact .int _ _
    · exact .int _ _
    · exact .bool _
    · exact .bool _
   clear l0 lt hlo f1 ho hf
   unfold peeC at *
   generalize learnR l = p at *
   simp -implicitDefEqProofs (disch:=omega) [go_sem,List.take_length]
   refine .inl (call_data c1 (by simp [go_sem]) ?_)
   simp -implicitDefEqProofs (disch:=omega) [go_sem]
   refine .inl (call_bare [0] c2 hb (fun H' hH'=>frzL_c (frz_ref (rw:=true) (l:=ots (l.filter (knownR false))) (cells:=(flat (ots (l.filter (knownR false)))).map D.data) (by rw [hH' 0 (by simp)];simp [Hp.upd,Hp.set,hpL]) (.inl rfl) (ots_length _) (ots_cells _) rfl) frzL_n) ?_)
   simp -implicitDefEqProofs (disch:=omega) [go_sem]
   refine hk _ ?_
   by_cases hz:l.filter (knownR false) = []
   · have hz2:(l.filter (knownR false)).length = 0:=by rw [hz];rfl
     simp -implicitDefEqProofs (disch:=omega) [go_sem,hz2]
     refine hk0 hz _ ?_
     simp -implicitDefEqProofs (disch:=omega) [go_sem]
     refine side (by kernel_rfl) ?_
     simp -implicitDefEqProofs (disch:=omega) [go_sem,Try.f6]
   · have hz2:0 < (l.filter (knownR false)).length:=List.length_pos_iff.2 hz
     have hz3:∃ x,x∈l∧knownR false x = true:=by
      obtain ⟨x,hx⟩:=List.exists_mem_of_ne_nil _ hz
      exact ⟨x,(List.mem_filter.1 hx).1,(List.mem_filter.1 hx).2⟩
     simp -implicitDefEqProofs (disch:=omega) [go_sem,hz3]
     refine side (by kernel_rfl) ?_
     simp -implicitDefEqProofs (disch:=omega) [go_sem,Try.f6]
theorem law_RulesLearn {x0:Data} (a0:argD Try.prog 8 25 x0):PC Try.prog Γ 6 [x0] (.bool true):=by
 obtain ⟨l,rfl,hl,hlo⟩:=arg_opts a0
 exact rlearnL_pc Γ l hl hlo
set_option maxHeartbeats 4000000 in
theorem raskL_pc (r:Rule) (other:Nat) (hr:r.Ty) (ho:other < 4294967296):PC Try.prog Γ 7 [rul r,.int .u32 other] (.bool true):=by
 refine pc_by mixed Try.func7 rfl (fun args w=>Try.call7 args w) ?_
 have c1:=ask13_pc Γ r hr
 have lt4:=four_lt hr.ours
 have lt5:=four_lt hr.magic
 unfold rul at c1 ⊢
 cases hi:r.ip
 · rw [ask_lcp hi] at c1
   have om:OpsF [⟨5,fourO r.magic⟩]:=⟨(by simp),fun o h=>by rw [List.mem_singleton.1 h];exact ⟨lt5,by simp [fourO]⟩,fun o h=>by rw [List.mem_singleton.1 h];show 5 < 256;decide⟩
   have c2:=rfind_pc Γ [⟨3,[194,35,5]⟩,⟨5,fourO r.magic⟩] 3 (by simp)
   rw [show findO [⟨3,[194,35,5]⟩,⟨5,fourO r.magic⟩] 3 = some ⟨3,[194,35,5]⟩ from rfl] at c2
   have c3:=rdrop_pc Γ [⟨3,[194,35,5]⟩,⟨5,fourO r.magic⟩] 3 (by simp)
   rw [show dropO [⟨3,[194,35,5]⟩,⟨5,fourO r.magic⟩] 3 = [⟨5,fourO r.magic⟩] from rfl] at c3
   have c4:PC Try.prog Γ 11 [.agg [.bool false,.int .u32 other,.int .u32 9,.int .u32 0,.int .u32 0],.sl 2 (ots [⟨5,fourO r.magic⟩]),.int .i64 0] _:=answer13_pc Γ ⟨false,other,9,0,0⟩ [⟨5,fourO r.magic⟩] 0 ⟨ho,Nat.lt_of_sub_pos (by decide:0 < 4294967296 - 9),Nat.zero_lt_succ _,Nat.zero_lt_succ _⟩ om
   rw [ask_rest hr.magic] at c4
   have c5:=rnumber_pc Γ [0,0,0,9] (by simp) (by simp)
   rw [show numO [0,0,0,9] = 9 from rfl] at c5
   unfold foundO ot at c2
   generalize hA:ots [⟨3,[194,35,5]⟩,⟨5,fourO r.magic⟩] = A at *
   have hB:(ots [⟨5,fourO r.magic⟩]).length = 1:=rfl
   rw [hi] at c1
   simp -implicitDefEqProofs (disch:=omega) [go_sem]
   refine .inl (call_data (shown13_pc Γ) (by simp [go_sem]) ?_)
   simp -implicitDefEqProofs (disch:=omega) [go_sem]
   refine .inl (call_data c1 (by simp [go_sem]) ?_)
   simp -implicitDefEqProofs (disch:=omega) [go_sem]
   refine .inl (call_data c2 (by simp [go_sem]) ?_)
   simp -implicitDefEqProofs (disch:=omega) [go_sem]
   refine .inl (call_data c3 (by simp [go_sem]) ?_)
   simp -implicitDefEqProofs (disch:=omega) [go_sem]
   refine .inl (call_data c4 (by simp [go_sem]) ?_)
   by_cases h1:r.magic≠other∧r.magic≠0
   · rw [if_pos h1]
     obtain ⟨h1,h2⟩:=h1
     have e1:¬ (r.magic:Int) = other:=by omega
     have e2:¬ (r.magic:Int) = 0:=by omega
     simp -implicitDefEqProofs (disch:=omega) [go_sem,e1,e2,bys,Try.f7]
   · rw [if_neg h1]
     have h2:r.magic = other ∨ r.magic = 0:=by omega
     by_cases h3:r.magic = other
     · have e1:(r.magic:Int) = other:=by omega
       simp -implicitDefEqProofs (disch:=omega) [go_sem,e1,bys,ot,ots]
       refine .inl (call_data c5 rfl ?_)
       simp -implicitDefEqProofs (disch:=omega) [go_sem,Try.f7]
     · have e1:¬ (r.magic:Int) = other:=by omega
       have e2:(r.magic:Int) = 0:=by omega
       simp -implicitDefEqProofs (disch:=omega) [go_sem,e1,e2,bys,ot,ots]
       refine .inl (call_data c5 rfl ?_)
       simp -implicitDefEqProofs (disch:=omega) [go_sem,Try.f7]
 · rw [hi] at c1
   obtain ⟨q1,q2,q3⟩:=ask_ip hi hr.ours
   have oo:OpsF (askR r):=by
    rw [q1]
    exact ⟨(by simp),fun o h=>by rw [List.mem_singleton.1 h];exact ⟨lt4,by simp [fourO]⟩,fun o h=>by rw [List.mem_singleton.1 h];show 3 < 256;decide⟩
   have c2:=address13_pc Γ (askR r) oo.len oo.opt
   have c3:PC Try.prog Γ 11 [.agg [.bool true,.int .u32 0,.int .u32 0,.int .u32 r.ours,.int .u32 0],.sl 2 (ots (askR r)),.int .i64 0] _:=answer13_pc Γ ⟨true,0,0,r.ours,0⟩ (askR r) 0 ⟨Nat.zero_lt_succ _,Nat.zero_lt_succ _,hr.ours,Nat.zero_lt_succ _⟩ oo
   rw [q2] at c2
   rw [q3] at c3
   unfold natO at c2
   generalize ots (askR r) = A at *
   generalize (answerR ⟨true,0,0,r.ours,0⟩ (askR r) 0).2 = B at *
   simp -implicitDefEqProofs (disch:=omega) [go_sem]
   refine .inl (call_data (shown13_pc Γ) (by simp [go_sem]) ?_)
   simp -implicitDefEqProofs (disch:=omega) [go_sem]
   refine .inl (call_data c1 (by simp [go_sem]) ?_)
   simp -implicitDefEqProofs (disch:=omega) [go_sem]
   refine .inl (call_data c2 (by simp [go_sem]) ?_)
   simp -implicitDefEqProofs (disch:=omega) [go_sem]
   refine .inl (call_data c3 (by simp [go_sem]) ?_)
   simp -implicitDefEqProofs (disch:=omega) [go_sem,Try.f7]
theorem law_RulesAsk {x0 x1:Data} (a0:argD Try.prog 8 24 x0) (a1:argD Try.prog 8 22 x1):PC Try.prog Γ 7 [x0,x1] (.bool true):=by
 obtain ⟨r,hr,rfl⟩:=arg_rule a0
 obtain ⟨n,hn,rfl⟩:=arg_nat (k:=.u32) rfl Try.underlying22 a1
 exact raskL_pc Γ r n hr hn
end
end Ru
namespace Ru
open Op9
theorem fnd_is (o:Option Ot):∃ x:Ot,foundO o = .tup [ot x,.bool o.isSome]:=by cases o with | none=>exact ⟨noO,rfl⟩ | some o=>exact ⟨o,rfl⟩
section
variable (Γ:Nat->Option (List Data))
set_option maxHeartbeats 8000000 in
theorem raddrL_pc (r:Rule) (l:List Ot) (n:Int) (hr:r.Ty) (hl:l.length≤140737488351232) (hlo:∀ o∈l,InO o):PC Try.prog Γ 5 [rul r,.sl 2 (ots l),.int .i64 n] (.bool true):=by
 refine pc_by mixed Try.func5 rfl (fun args w=>Try.call5 args w) ?_
 have f1:=rfew_pc Γ l hl (fun o ho=>(hlo o ho).2) (q:=decide (FewO l)) decide_eq_true_iff
 unfold rul
 simp -implicitDefEqProofs (disch:=omega) [go_sem]
 refine .inl (call_data (shown13_pc Γ) (by simp [go_sem]) ?_)
 simp -implicitDefEqProofs (disch:=omega) [go_sem]
 refine .inl (call_data f1 (by simp [go_sem]) ?_)
 by_cases g1:FewO l
 rotate_left
 · rw [decide_eq_false g1]
   simp -implicitDefEqProofs (disch:=omega) [go_sem,Try.f5]
 rw [decide_eq_true g1]
 obtain ⟨hf,ho⟩:=few_fine g1 hlo
 have hlen:=g1.1
 have c1:=answer13_pc Γ r l n hr ho
 have hcodes:=answer_codes r l n
 have hack:=@ack_facts r l n
 unfold rul at c1
 generalize (answerR r l n).2 = m at *
 generalize (answerR r l n).1 = c at *
 simp -implicitDefEqProofs (disch:=omega) [go_sem]
 refine .inl (call_data c1 (by simp [go_sem]) ?_)
 by_cases h2:c = 2
 rotate_left
 · rcases hcodes with h | h | h
   · exact absurd h h2
   · subst h
     simp -implicitDefEqProofs (disch:=omega) [go_sem,Try.f5]
   · subst h
     simp -implicitDefEqProofs (disch:=omega) [go_sem,Try.f5]
 subst h2
 obtain ⟨hall,hend⟩:=hack rfl
 simp -implicitDefEqProofs (disch:=omega) [go_sem]
 refine loop_ren (σ:={ i:Nat // i≤l.length }) (fun i=>⟨envL [(1,.data (.sl 2 (ots l))),(2,.data (.int .i64 n)),(3,.ptr 0 0),(7,.data (.bool true)),(10,.data (.int .i64 i.1))],hpL [(0,.blk true ((rulC r).map .data))],1,0,120⟩) (fun i=>l.length - i.1) ⟨0,by omega⟩ [] (rhoL [(0,some 0)]) ?_ ?_
 · apply ren_lists <;> simp -implicitDefEqProofs [go_sem,rulC]
 rintro ⟨i,hi⟩
 unfold rulC
 by_cases h:i < l.length
 · obtain ⟨k1,k2,k3,k4⟩:=hall _ (List.getElem_mem h)
   have c2:=rnumber_pc Γ l[i].d (ho.opt _ (List.getElem_mem h)).2 (ho.opt _ (List.getElem_mem h)).1
   have c3:=rknown_pc Γ r.ip l[i]
   rw [k1] at c3
   unfold ot at c3
   clear hall hend hack hf ho c1 f1 hlo
   generalize numO l[i].d = x at *
   cases hip:r.ip
   · rw [hip] at c3
     simp only [hip,true_implies] at k3 k4
     by_cases h5:l[i].t = 5
     · obtain ⟨k5,k6⟩:=k3 h5
       have e5:(l[i].t:Int) = 5:=by omega
       have e6:¬ (x:Int) = 0:=by omega
       have e7:¬ (x:Int) = r.magic:=by omega
       simp -implicitDefEqProofs (disch:=omega) [go_sem,ot]
       refine .inl (call_data c2 (by simp [go_sem]) ?_)
       simp -implicitDefEqProofs (disch:=omega) [go_sem,ot,hip]
       refine .inl (call_data c3 (by simp [go_sem]) ?_)
       simp -implicitDefEqProofs (disch:=omega) [go_sem,ot,hip,e5,e6,e7]
       refine side (by kernel_rfl) ?_
       simp -implicitDefEqProofs (disch:=omega) [go_sem]
       refine next_ren ⟨i + 1,by omega⟩ (by simp only;omega) [] (rhoL [(0,some 0)]) ?_
       apply ren_lists <;> simp -implicitDefEqProofs [go_sem]
     · have e5:¬ (l[i].t:Int) = 5:=by omega
       by_cases h1:l[i].t = 1
       · have k5:=k4 h1
         have e1:(l[i].t:Int) = 1:=by omega
         have e6:¬ (x:Int) < 64:=by omega
         simp -implicitDefEqProofs (disch:=omega) [go_sem,ot]
         refine .inl (call_data c2 (by simp [go_sem]) ?_)
         simp -implicitDefEqProofs (disch:=omega) [go_sem,ot,hip]
         refine .inl (call_data c3 (by simp [go_sem]) ?_)
         simp -implicitDefEqProofs (disch:=omega) [go_sem,ot,hip,e1,e6]
         refine side (by kernel_rfl) ?_
         simp -implicitDefEqProofs (disch:=omega) [go_sem]
         refine next_ren ⟨i + 1,by omega⟩ (by simp only;omega) [] (rhoL [(0,some 0)]) ?_
         apply ren_lists <;> simp -implicitDefEqProofs [go_sem]
       · have e1:¬ (l[i].t:Int) = 1:=by omega
         simp -implicitDefEqProofs (disch:=omega) [go_sem,ot]
         refine .inl (call_data c2 (by simp [go_sem]) ?_)
         simp -implicitDefEqProofs (disch:=omega) [go_sem,ot,hip]
         refine .inl (call_data c3 (by simp [go_sem]) ?_)
         simp -implicitDefEqProofs (disch:=omega) [go_sem,ot,hip,e1,e5]
         refine side (by kernel_rfl) ?_
         simp -implicitDefEqProofs (disch:=omega) [go_sem]
         refine next_ren ⟨i + 1,by omega⟩ (by simp only;omega) [] (rhoL [(0,some 0)]) ?_
         apply ren_lists <;> simp -implicitDefEqProofs [go_sem]
   · rw [hip] at c3
     have k5:=k2 hip
     have e5:(x:Int) = r.addr:=by omega
     simp -implicitDefEqProofs (disch:=omega) [go_sem,ot]
     refine .inl (call_data c2 (by simp [go_sem]) ?_)
     simp -implicitDefEqProofs (disch:=omega) [go_sem,ot,hip]
     refine .inl (call_data c3 (by simp [go_sem]) ?_)
     simp -implicitDefEqProofs (disch:=omega) [go_sem,ot,hip,e5]
     refine side (by kernel_rfl) ?_
     simp -implicitDefEqProofs (disch:=omega) [go_sem]
     refine next_ren ⟨i + 1,by omega⟩ (by simp only;omega) [] (rhoL [(0,some 0)]) ?_
     apply ren_lists <;> simp -implicitDefEqProofs [go_sem]
 · have:i = l.length:=by omega
   subst this
   rcases hend with hip | hne | hn
   · simp -implicitDefEqProofs (disch:=omega) [go_sem,hip,Try.f5]
   · have hpos:0 < l.length:=List.length_pos_iff.2 hne
     cases hip:r.ip
     · simp -implicitDefEqProofs (disch:=omega) [go_sem,hip,Try.f5]
     · simp -implicitDefEqProofs (disch:=omega) [go_sem,hip,Try.f5]
   · cases hip:r.ip
     · simp -implicitDefEqProofs (disch:=omega) [go_sem,hip,Try.f5]
     · by_cases hpos:0 < l.length
       · simp -implicitDefEqProofs (disch:=omega) [go_sem,hip,Try.f5]
       · have hz:l.length = 0:=by omega
         simp -implicitDefEqProofs (disch:=omega) [go_sem,hip,Try.f5]
theorem law_RulesAddress {x0 x1 x2:Data} (a0:argD Try.prog 8 24 x0) (a1:argD Try.prog 8 25 x1) (a2:argD Try.prog 8 3 x2):PC Try.prog Γ 5 [x0,x1,x2] (.bool true):=by
 obtain ⟨r,hr,rfl⟩:=arg_rule a0
 obtain ⟨l,rfl,hl,hlo⟩:=arg_opts a1
 obtain ⟨n,_,_,rfl⟩:=arg_i64 Try.underlying3 a2
 exact raddrL_pc Γ r l n hr hl hlo
set_option maxHeartbeats 8000000 in
theorem rstaysL_pc (r:Rule) (c:Nat) (l:List Ot) (hr:r.Ty) (hl:l.length≤140737488351232) (hlo:∀ o∈l,InO o):PC Try.prog Γ 8 [rul r,.int .u8 c,.sl 2 (ots l)] (.bool true):=by
 refine pc_by mixed Try.func8 rfl (fun args w=>Try.call8 args w) ?_
 have f1:=rfew_pc Γ l hl (fun o ho=>(hlo o ho).2) (q:=decide (FewO l)) decide_eq_true_iff
 unfold rul
 simp -implicitDefEqProofs (disch:=omega) [go_sem]
 refine .inl (call_data (shown13_pc Γ) (by simp [go_sem]) ?_)
 simp -implicitDefEqProofs (disch:=omega) [go_sem]
 refine .inl (call_data f1 (by simp [go_sem]) ?_)
 by_cases g1:FewO l
 rotate_left
 · rw [decide_eq_false g1]
   simp -implicitDefEqProofs (disch:=omega) [go_sem,Try.f8]
 rw [decide_eq_true g1]
 obtain ⟨hf,ho⟩:=few_fine g1 hlo
 have oa:OpsF (askR r):=by
  have lt4:=four_lt hr.ours
  have lt5:=four_lt hr.magic
  unfold askR
  cases r.ip
  · refine ⟨by simp,?_,?_⟩
    · intro o h
      simp only [List.mem_cons,List.not_mem_nil,or_false] at h
      rcases h with rfl | rfl
      · exact ⟨by simp,by simp⟩
      · exact ⟨lt5,by simp [fourO]⟩
    · intro o h
      simp only [List.mem_cons,List.not_mem_nil,or_false] at h
      rcases h with rfl | rfl
      · show 3 < 256;decide
      · show 5 < 256;decide
  · exact ⟨(by simp),fun o h=>by rw [List.mem_singleton.1 h];exact ⟨lt4,by simp [fourO]⟩,fun o h=>by rw [List.mem_singleton.1 h];show 3 < 256;decide⟩
 have c1:=ask13_pc Γ r hr
 have c2:=turn13_pc Γ r (askR r) c l hr oa ho
 obtain ⟨s1,s2,s3,s4,s5⟩:=@stays r c l
 have al:=(ask_few r).1
 have cs:=rosame_refl Γ (askR r) (by have:=(ask_few r).1;omega) (fun o ho=>by have:=(ask_few r).2 o ho;omega)
 have cf:∀ t:Nat,PC Try.prog Γ 20 [.sl 2 (ots (askR r)),.int .u8 t] (foundO (findO (askR r) t)):=fun t=>rfind_pc Γ (askR r) t oa.len
 have cg:=rfind_pc Γ (turnR r (askR r) c l).1 3 (by omega)
 obtain ⟨y,hy⟩:=fnd_is (findO (turnR r (askR r) c l).1 3)
 rw [hy] at cg
 unfold rul at c1 c2
 unfold ot at cg
 generalize (findO (turnR r (askR r) c l).1 3).isSome = z at *
 generalize (turnR r (askR r) c l).1 = m at *
 generalize (turnR r (askR r) c l).2 = may at *
 generalize hA:askR r = A at *
 simp -implicitDefEqProofs (disch:=omega) [go_sem]
 refine .inl (call_data c1 (by simp [go_sem]) ?_)
 simp -implicitDefEqProofs (disch:=omega) [go_sem]
 refine .inl (call_data c2 (by simp [go_sem]) ?_)
 simp -implicitDefEqProofs (disch:=omega) [go_sem]
 refine loop_ren (σ:={ i:Nat // i≤m.length }) (fun i=>⟨envL [(1,.data (.int .u8 c)),(3,.ptr 0 0),(7,.data (.bool true)),(8,.data (.sl 2 (ots A))),(9,.data (.sl 2 (ots m))),(10,.data (.bool may)),(11,.data (.int .i64 i.1))],hpL [(0,.blk true ((rulC r).map .data))],1,0,96⟩) (fun i=>m.length - i.1) ⟨0,by omega⟩ [] (rhoL [(0,some 0)]) ?_ ?_
 · apply ren_lists <;> simp -implicitDefEqProofs [go_sem,rulC]
 rintro ⟨i,hi⟩
 unfold rulC
 by_cases h:i < m.length
 · have c3:=cf m[i].t
   obtain ⟨x,hx⟩:=fnd_is (findO A m[i].t)
   rw [hx,s1 _ (List.getElem_mem h)] at c3
   unfold ot at c3
   simp -implicitDefEqProofs (disch:=omega) [go_sem,ot]
   refine .inl (call_data c3 (by simp [go_sem]) ?_)
   simp -implicitDefEqProofs (disch:=omega) [go_sem]
   refine next_ren ⟨i + 1,by omega⟩ (by simp only;omega) [] (rhoL [(0,some 0)]) ?_
   apply ren_lists <;> simp -implicitDefEqProofs [go_sem]
 · have:i = m.length:=by omega
   subst this
   simp -implicitDefEqProofs (disch:=omega) [go_sem]
   refine .inl (call_data cg (by simp [go_sem]) ?_)
   clear c2 c1 cg cf f1 hf ho oa hlo
   cases may
   · have s4:=s4 rfl
     subst s4
     cases hip:r.ip
     · have hz:z = true:=by rcases s2 with h | h;rw [hip] at h;cases h;exact h
       subst hz
       by_cases h3:c = 3
       · subst h3
         simp -implicitDefEqProofs (disch:=omega) [go_sem]
         refine .inl (call_data cs (by simp [go_sem]) ?_)
         simp -implicitDefEqProofs (disch:=omega) [go_sem,hip,Try.f8]
       have e3:¬ (c:Int) = 3:=by omega
       by_cases h4:c = 4
       · subst h4
         simp -implicitDefEqProofs (disch:=omega) [go_sem]
         refine .inl (call_data cs (by simp [go_sem]) ?_)
         simp -implicitDefEqProofs (disch:=omega) [go_sem,hip,Try.f8]
       have e4:¬ (c:Int) = 4:=by omega
       simp -implicitDefEqProofs (disch:=omega) [go_sem]
       refine .inl (call_data cs (by simp [go_sem]) ?_)
       simp -implicitDefEqProofs (disch:=omega) [go_sem,hip,e3,e4,Try.f8]
     · have hc:¬ (c = 3 ∨ c = 4):=by
        rcases s5 with h | h
        · exact of_decide_eq_false h.symm
        · rw [hip] at h;cases h.2
       have e3:¬ (c:Int) = 3:=by omega
       have e4:¬ (c:Int) = 4:=by omega
       simp -implicitDefEqProofs (disch:=omega) [go_sem]
       refine .inl (call_data cs (by simp [go_sem]) ?_)
       simp -implicitDefEqProofs (disch:=omega) [go_sem,hip,e3,e4,Try.f8]
   · have hc:c = 3 ∨ c = 4:=by
      rcases s5 with h | h
      · exact of_decide_eq_true h.symm
      · cases h.1
     cases hip:r.ip
     · have hz:z = true:=by rcases s2 with h | h;rw [hip] at h;cases h;exact h
       subst hz
       rcases hc with rfl | rfl
       · simp -implicitDefEqProofs (disch:=omega) [go_sem,hip,Try.f8]
       · simp -implicitDefEqProofs (disch:=omega) [go_sem,hip,Try.f8]
     · rcases hc with rfl | rfl
       · simp -implicitDefEqProofs (disch:=omega) [go_sem,hip,Try.f8]
       · simp -implicitDefEqProofs (disch:=omega) [go_sem,hip,Try.f8]
theorem law_RulesStays {x0 x1 x2:Data} (a0:argD Try.prog 8 24 x0) (a1:argD Try.prog 8 5 x1) (a2:argD Try.prog 8 25 x2):PC Try.prog Γ 8 [x0,x1,x2] (.bool true):=by
 obtain ⟨r,hr,rfl⟩:=arg_rule a0
 obtain ⟨c,hc,rfl⟩:=arg_nat (k:=.u8) rfl Try.underlying5 a1
 obtain ⟨l,rfl,hl,hlo⟩:=arg_opts a2
 exact rstaysL_pc Γ r c l hr hl hlo
end
end Ru
namespace Ru
open Op9
theorem putG_mem {o x:Ot}:∀ {l:List Ot} {lg:Bool},x∈putG o lg l->x∈l ∨ x = o:=by
 intro l
 induction l with
 | nil =>
   intro lg h
   cases lg with
   | true=>cases h
   | false=>exact .inr (List.mem_singleton.1 h)
 | cons y l ih =>
   intro lg h
   unfold putG at h
   split at h
   · rcases List.mem_cons.1 h with h | h
     · exact .inr h
     · rcases ih h with h | h
       · exact .inl (List.mem_cons_of_mem _ h)
       · exact .inr h
   · rcases List.mem_cons.1 h with h | h
     · exact .inl (by rw [h];exact List.mem_cons_self)
     · rcases ih h with h | h
       · exact .inl (List.mem_cons_of_mem _ h)
       · exact .inr h
theorem puts_mem {x:Ot}:∀ {m l:List Ot},x∈m.foldl putO l->x∈l ∨ x∈m:=by
 intro m
 induction m with
 | nil=>intro l h;exact .inl h
 | cons y m ih =>
   intro l h
   rcases ih h with h | h
   · rcases putG_mem h with h | h
     · exact .inl h
     · exact .inr (by rw [h];exact List.mem_cons_self)
   · exact .inr (List.mem_cons_of_mem _ h)
theorem puts_len:∀ (m l:List Ot),(m.foldl putO l).length≤l.length + m.length:=by
 intro m
 induction m with
 | nil=>intro l;exact Nat.le_refl _
 | cons y m ih =>
   intro l
   have h1:=ih (putO l y)
   have h2:=putG_len y l false
   rw [List.foldl_cons,List.length_cons]
   unfold putO at h1 ⊢
   omega
/-- An option as it may be told. -/
structure OpB (o:Ot):Prop where
 b:∀ x∈o.d,x < 256
 n:o.d.length≤253
 t:o.t < 256
theorem OpB.ops {l:List Ot} (h:∀ o∈l,OpB o) (hl:l.length≤1000):OpsF l:=⟨by omega,fun o ho=>⟨(h o ho).b,by have:=(h o ho).n;omega⟩,fun o ho=>(h o ho).t⟩
theorem should_b {r:Rule} {o:Ot} (hr:r.Ty) (h:OpB o):OpB (shouldR r o).1:=by
 unfold shouldR
 split
 · exact ⟨four_lt hr.addr,four_le _,by show 3 < 256;decide⟩
 · split
   · exact ⟨by simp,by simp,by show 1 < 256;decide⟩
   · split
     · exact ⟨four_lt hr.other,four_le _,by show 5 < 256;decide⟩
     · exact h
theorem toA_b {r:Rule} {l:List Ot} (hr:r.Ty) (h:∀ o∈l,OpB o):∀ o∈toA r l,OpB o:=by
 intro o ho
 unfold toA at ho
 rcases List.mem_append.1 ho with ho | ho
 · unfold toR at ho
   obtain ⟨x,hx,rfl⟩:=List.mem_map.1 ho
   exact should_b hr (h x (List.mem_filter.1 hx).1)
 · split at ho
   · rw [List.mem_singleton.1 ho];exact ⟨four_lt hr.addr,four_le _,by show 3 < 256;decide⟩
   · cases ho
theorem few_b {l:List Ot} (h:FewO l) (hi:∀ o∈l,InO o):∀ o∈l,OpB o:=fun o ho=>⟨(hi o ho).1.d,h.2 o ho,(hi o ho).1.t⟩
theorem once_of {l:List Ot} (h:∀ (j:Nat) (hj:j < l.length),findO (l.take j) l[j].t = none):Once l:=by
 unfold Once
 rw [List.pairwise_iff_getElem]
 intro i j hi hj hij e
 have:=h j hj
 unfold findO at this
 rw [List.find?_eq_none] at this
 refine this l[i] ?_ (by simpa using e)
 rw [List.mem_take_iff_getElem]
 exact ⟨i,by omega,rfl⟩
theorem puts_take (l m:List Ot) (i:Nat) (h:i < m.length):(m.take (i + 1)).foldl putO l = putO ((m.take i).foldl putO l) m[i]:=by
 rw [List.take_add_one,List.getElem?_eq_getElem h,Option.toList_some,List.foldl_append]
 rfl
section
variable (Γ:Nat->Option (List Data))
set_option maxHeartbeats 16000000 in
theorem ragreeL_pc (r:Rule) (l:List Ot) (n:Int) (hr:r.Ty) (hl:l.length≤140737488351232) (hlo:∀ o∈l,InO o):PC Try.prog Γ 4 [rul r,.sl 2 (ots l),.int .i64 n] (.bool true):=by
 refine pc_by mixed Try.func4 rfl (fun args w=>Try.call4 args w) ?_
 have f1:=rfew_pc Γ l hl (fun o ho=>(hlo o ho).2) (q:=decide (FewO l)) decide_eq_true_iff
 unfold rul
 simp -implicitDefEqProofs (disch:=omega) [go_sem]
 refine .inl (call_data (shown13_pc Γ) (by simp [go_sem]) ?_)
 simp -implicitDefEqProofs (disch:=omega) [go_sem]
 refine .inl (call_data f1 (by simp [go_sem]) ?_)
 by_cases g1:FewO l
 rotate_left
 · rw [decide_eq_false g1]
   simp -implicitDefEqProofs (disch:=omega) [go_sem,Try.f4]
 rw [decide_eq_true g1]
 by_cases g2:r.magic = r.other
 · have e2:(r.magic:Int) = r.other:=by omega
   simp -implicitDefEqProofs (disch:=omega) [go_sem,e2,Try.f4]
 have e2:¬ (r.magic:Int) = r.other:=by omega
 by_cases g3:r.other = 0
 · have e3:(r.other:Int) = 0:=by omega
   have e4:¬ (r.magic:Int) = 0:=by omega
   simp -implicitDefEqProofs (disch:=omega) [go_sem,e2,e3,e4,Try.f4]
 have e3:¬ (r.other:Int) = 0:=by omega
 obtain ⟨hf,ho⟩:=few_fine g1 hlo
 have hb:=few_b g1 hlo
 have hlen:=g1.1
 clear f1 hlo
 simp -implicitDefEqProofs (disch:=omega) [go_sem,e2,e3]
 refine loop_ren (σ:={ i:Nat // i≤l.length∧∀ (j:Nat) (hj:j < l.length),j < i->findO (l.take j) l[j].t = none }) (fun i=>⟨envL [(1,.data (.sl 2 (ots l))),(2,.data (.int .i64 n)),(3,.ptr 0 0),(7,.data (.bool true)),(8,.data (.int .i64 i.1))],hpL [(0,.blk true ((rulC r).map .data))],1,0,172⟩) (fun i=>l.length - i.1) ⟨0,by omega,fun j _ h=>absurd h (Nat.not_lt_zero _)⟩ [] (rhoL [(0,some 0)]) ?_ ?_
 · apply ren_lists <;> simp -implicitDefEqProofs [go_sem,rulC]
 rintro ⟨i,hi,hone⟩
 unfold rulC
 by_cases h:i < l.length
 · have c1:=rfind_pc Γ (l.take i) l[i].t (by rw [List.length_take];omega)
   have tk:(ots l).take i = ots (l.take i):=by simp [ots,List.map_take]
   cases hq:findO (l.take i) l[i].t with
   | none =>
     rw [hq] at c1
     unfold foundO ot at c1
     simp -implicitDefEqProofs (disch:=omega) [go_sem,ot,tk]
     refine .inl (call_data c1 (by simp [go_sem]) ?_)
     simp -implicitDefEqProofs (disch:=omega) [go_sem]
     refine side (by kernel_rfl) ?_
     simp -implicitDefEqProofs (disch:=omega) [go_sem]
     refine next_ren ⟨i + 1,by omega,fun j hj hji=>by
      by_cases e:j = i
      · subst e;exact hq
      · exact hone j hj (by omega)⟩ (by simp only;omega) [] (rhoL [(0,some 0)]) ?_
     apply ren_lists <;> simp -implicitDefEqProofs [go_sem]
   | some x =>
     rw [hq] at c1
     unfold foundO ot at c1
     simp -implicitDefEqProofs (disch:=omega) [go_sem,ot,tk]
     refine .inl (call_data c1 (by simp [go_sem]) ?_)
     simp -implicitDefEqProofs (disch:=omega) [go_sem]
     refine side (by kernel_rfl) ?_
     simp -implicitDefEqProofs (disch:=omega) [go_sem,Try.f4]
 have:i = l.length:=by omega
 subst this
 have once:=once_of fun j hj=>hone j hj hj
 have c1:=answer13_pc Γ r l n hr ho
 have hcodes:=answer_codes r l n
 unfold rul at c1
 simp -implicitDefEqProofs (disch:=omega) [go_sem]
 refine .inl (call_data c1 (by simp [go_sem]) ?_)
 rcases hcodes with hc | hc | hc
 · have c2:=rosame_refl Γ l (by omega) (fun o ho=>by have:=g1.2 o ho;omega)
   rw [(answer_two hc).1,hc]
   simp -implicitDefEqProofs (disch:=omega) [go_sem]
   refine .inl (call_data c2 (by simp [go_sem]) ?_)
   simp -implicitDefEqProofs (disch:=omega) [go_sem,Try.f4]
 · obtain ⟨hn,hm,hz⟩:=nak_again hr g2 g3 once hc
   have ma:=(answer_few (r:=r) (n:=n) g1).1
   rw [hm] at ma
   rw [hc,hm]
   have tb:=toA_b hr hb
   generalize toA r l = m at *
   have pl:=fun i=>puts_len (m.take i) l
   have mt:∀ i,(m.take i).length≤31:=fun i=>by rw [List.length_take];omega
   simp -implicitDefEqProofs (disch:=omega) [go_sem]
   refine loop_ren (σ:={ i:Nat // i≤m.length }) (fun i=>⟨envL [(2,.data (.int .i64 n)),(3,.ptr 0 0),(7,.data (.bool true)),(12,.data (.sl 2 (ots m))),(13,.data (.sl 2 (ots ((m.take i.1).foldl putO l)))),(14,.data (.int .i64 i.1))],hpL [(0,.blk true ((rulC r).map .data))],1,0,172⟩) (fun i=>m.length - i.1) ⟨0,by omega⟩ [] (rhoL [(0,some 0)]) ?_ ?_
   · apply ren_lists <;> simp -implicitDefEqProofs [go_sem,rulC]
   rintro ⟨i,hi⟩
   unfold rulC
   have pl:=pl i
   have mt:=mt i
   by_cases h:i < m.length
   · have c3:=roput_pc Γ ((m.take i).foldl putO l) m[i] (by omega)
     rw [<- puts_take l m i h] at c3
     unfold ot at c3
     simp -implicitDefEqProofs (disch:=omega) [go_sem,ot]
     refine .inl (call_data c3 (by simp [go_sem]) ?_)
     simp -implicitDefEqProofs (disch:=omega) [go_sem]
     refine next_ren ⟨i + 1,by omega⟩ (by simp only;omega) [] (rhoL [(0,some 0)]) ?_
     apply ren_lists <;> simp -implicitDefEqProofs [go_sem]
   · have:i = m.length:=by omega
     subst this
     rw [List.take_length] at pl mt
     have nb:∀ o∈m.foldl putO l,OpB o:=fun o ho=>by
      rcases puts_mem ho with h | h
      · exact hb o h
      · exact tb o h
     have c4:=answer13_pc Γ r (m.foldl putO l) n hr (OpB.ops nb (by omega))
     rw [hz] at c4
     have c5:=rosame_refl Γ (m.foldl putO l) (by omega) (fun o ho=>by have:=(nb o ho).n;omega)
     unfold rul at c4
     simp -implicitDefEqProofs (disch:=omega) [go_sem,List.take_length]
     refine .inl (call_data c4 (by simp [go_sem]) ?_)
     simp -implicitDefEqProofs (disch:=omega) [go_sem]
     refine .inl (call_data c5 (by simp [go_sem]) ?_)
     simp -implicitDefEqProofs (disch:=omega) [go_sem,Try.f4]
 · obtain ⟨z1,z2,z3⟩:=rej_again hc
   have ma:=(answer_few (r:=r) (n:=n) g1).1
   rw [hc]
   generalize (answerR r l n).2 = m at *
   have hpos:0 < m.length:=List.length_pos_iff.2 z1
   simp -implicitDefEqProofs (disch:=omega) [go_sem]
   refine loop_ren (σ:={ i:Nat // i≤m.length }) (fun i=>⟨envL [(1,.data (.sl 2 (ots l))),(2,.data (.int .i64 n)),(3,.ptr 0 0),(7,.data (.bool true)),(11,.data (.int .u8 4)),(12,.data (.sl 2 (ots m))),(13,.data (.sl 2 (ots (dropAll l (m.take i.1))))),(17,.data (.int .i64 i.1))],hpL [(0,.blk true ((rulC r).map .data))],1,0,172⟩) (fun i=>m.length - i.1) ⟨0,by omega⟩ [] (rhoL [(0,some 0)]) ?_ ?_
   · apply ren_lists <;> simp -implicitDefEqProofs [go_sem,rulC,dropAll]
   rintro ⟨i,hi⟩
   unfold rulC
   have dl:=dropAll_len l (m.take i)
   by_cases h:i < m.length
   · have c3:=rfind_pc Γ l m[i].t (by omega)
     have fs:(findO l m[i].t).isSome = true:=find_some.2 ⟨m[i],z2 _ (List.getElem_mem h),rfl⟩
     obtain ⟨x,hx⟩:=fnd_is (findO l m[i].t)
     rw [hx,fs] at c3
     unfold ot at c3
     have c4:=rdrop_pc Γ (dropAll l (m.take i)) m[i].t (by omega)
     rw [<- dropAll_take l m i h] at c4
     simp -implicitDefEqProofs (disch:=omega) [go_sem,ot]
     refine .inl (call_data c3 (by simp [go_sem]) ?_)
     simp -implicitDefEqProofs (disch:=omega) [go_sem,ot]
     refine .inl (call_data c4 (by simp [go_sem]) ?_)
     simp -implicitDefEqProofs (disch:=omega) [go_sem]
     refine next_ren ⟨i + 1,by omega⟩ (by simp only;omega) [] (rhoL [(0,some 0)]) ?_
     apply ren_lists <;> simp -implicitDefEqProofs [go_sem]
   · have:i = m.length:=by omega
     subst this
     rw [List.take_length] at dl
     have nb:∀ o∈dropAll l m,OpB o:=fun o ho=>hb o (dropAll_mem.1 ho).1
     have fq:FewO (dropAll l m):=⟨by omega,fun o ho=>(nb o ho).n⟩
     have c4:=answer13_pc Γ r (dropAll l m) n hr (OpB.ops nb (by omega))
     have qa:=(answer_few (r:=r) (n:=n) fq).1
     have hq:=answer_codes r (dropAll l m) n
     unfold rul at c4
     generalize (answerR r (dropAll l m) n).1 = code at *
     generalize (answerR r (dropAll l m) n).2 = q at *
     simp -implicitDefEqProofs (disch:=omega) [go_sem,List.take_length]
     refine .inl (call_data c4 (by simp [go_sem]) ?_)
     simp -implicitDefEqProofs (disch:=omega) [go_sem]
     refine loop_ren (σ:={ i:Nat // i≤q.length }) (fun i=>⟨envL [(3,.ptr 0 0),(7,.data (.bool true)),(11,.data (.int .u8 4)),(12,.data (.sl 2 (ots m))),(20,.data (.int .u8 code)),(21,.data (.sl 2 (ots q))),(22,.data (.int .i64 i.1))],hpL [(0,.blk true ((rulC r).map .data))],1,0,172⟩) (fun i=>q.length - i.1) ⟨0,by omega⟩ [] (rhoL [(0,some 0)]) ?_ ?_
     · apply ren_lists <;> simp -implicitDefEqProofs [go_sem,rulC]
     rintro ⟨i,hi⟩
     unfold rulC
     by_cases h:i < q.length∧code = 4
     · obtain ⟨h,h4⟩:=h
       subst h4
       have c5:=rknown_pc Γ r.ip q[i]
       rw [z3 rfl _ (List.getElem_mem h)] at c5
       unfold ot at c5
       simp -implicitDefEqProofs (disch:=omega) [go_sem,ot]
       refine .inl (call_data c5 (by simp [go_sem]) ?_)
       simp -implicitDefEqProofs (disch:=omega) [go_sem]
       refine side (by kernel_rfl) ?_
       simp -implicitDefEqProofs (disch:=omega) [go_sem]
       refine next_ren ⟨i + 1,by omega⟩ (by simp only;omega) [] (rhoL [(0,some 0)]) ?_
       apply ren_lists <;> simp -implicitDefEqProofs [go_sem]
     · by_cases h4:code = 4
       · subst h4
         have hz:¬ (i:Int) < q.length:=by omega
         simp -implicitDefEqProofs (disch:=omega) [go_sem,hz,Try.f4]
       · have h4i:¬ (code:Int) = 4:=by omega
         by_cases hz:i < q.length
         · simp -implicitDefEqProofs (disch:=omega) [go_sem,hz,h4i,Try.f4]
         · have hz:¬ (i:Int) < q.length:=by omega
           simp -implicitDefEqProofs (disch:=omega) [go_sem,hz,Try.f4]
theorem law_RulesAgree {x0 x1 x2:Data} (a0:argD Try.prog 8 24 x0) (a1:argD Try.prog 8 25 x1) (a2:argD Try.prog 8 3 x2):PC Try.prog Γ 4 [x0,x1,x2] (.bool true):=by
 obtain ⟨r,hr,rfl⟩:=arg_rule a0
 obtain ⟨l,rfl,hl,hlo⟩:=arg_opts a1
 obtain ⟨n,_,_,rfl⟩:=arg_i64 Try.underlying3 a2
 exact ragreeL_pc Γ r l n hr hl hlo
end
end Ru
theorem law_RulesAnswer (Γ:Nat->Option (List Data)) {x0 x1 x2:Data} (a0:argD Try.prog 8 24 x0) (a1:argD Try.prog 8 25 x1) (a2:argD Try.prog 8 3 x2):PC Try.prog Γ 3 [x0,x1,x2] (.bool true):=Ru.law_RulesAnswer Γ a0 a1 a2
theorem law_RulesAgree (Γ:Nat->Option (List Data)) {x0 x1 x2:Data} (a0:argD Try.prog 8 24 x0) (a1:argD Try.prog 8 25 x1) (a2:argD Try.prog 8 3 x2):PC Try.prog Γ 4 [x0,x1,x2] (.bool true):=Ru.law_RulesAgree Γ a0 a1 a2
theorem law_RulesAddress (Γ:Nat->Option (List Data)) {x0 x1 x2:Data} (a0:argD Try.prog 8 24 x0) (a1:argD Try.prog 8 25 x1) (a2:argD Try.prog 8 3 x2):PC Try.prog Γ 5 [x0,x1,x2] (.bool true):=Ru.law_RulesAddress Γ a0 a1 a2
theorem law_RulesLearn (Γ:Nat->Option (List Data)) {x0:Data} (a0:argD Try.prog 8 25 x0):PC Try.prog Γ 6 [x0] (.bool true):=Ru.law_RulesLearn Γ a0
theorem law_RulesAsk (Γ:Nat->Option (List Data)) {x0 x1:Data} (a0:argD Try.prog 8 24 x0) (a1:argD Try.prog 8 22 x1):PC Try.prog Γ 7 [x0,x1] (.bool true):=Ru.law_RulesAsk Γ a0 a1
theorem law_RulesStays (Γ:Nat->Option (List Data)) {x0 x1 x2:Data} (a0:argD Try.prog 8 24 x0) (a1:argD Try.prog 8 5 x1) (a2:argD Try.prog 8 25 x2):PC Try.prog Γ 8 [x0,x1,x2] (.bool true):=Ru.law_RulesStays Γ a0 a1 a2
end Go.Proofs.Ytmappnpigpcimaa
