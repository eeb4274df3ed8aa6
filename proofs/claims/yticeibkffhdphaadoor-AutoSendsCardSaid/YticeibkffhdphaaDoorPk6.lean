/- Automata: the program's own functions. The state table: the document's example, and the eight laws. Automata: the program's work, Do, Tick, Quiet. Automata left alone: how often they send, and when; what an event does to the counter and the number. Structs of numbers, truth values and strings, held against each other. Automata held against each other, and as they come in. Automata: the document's example, and the six laws. Automata: the six laws. Automata: those that are left alone; numbers of requests. Automata: the other laws. -/
import Derived.Test.YticeibkffhdphaaDoorPk5
import Derived.DeepKeys
import Derived.Laws.StructEq
namespace Go.Proofs.YticeibkffhdphaaDoor
open Go.RowKit
set_option linter.unusedSimpArgs false
set_option linter.unusedVariables false
set_option maxRecDepth 100000
namespace Fs
/-- Where a number stands first. -/
def idxI (l:List Int) (v:Int):Int:=if l.findIdx (fun x=>decide (x = v)) < l.length then ((l.findIdx (fun x=>decide (x = v)):Nat):Int) else -1
theorem idxI_iff (l:List Int) (v:Int):decide (0≤idxI l v) = decide (v∈l):=by
 refine decide_eq_decide.2 ?_
 unfold idxI
 have h:=List.findIdx_lt_length (p:=fun x:Int=>decide (x = v)) (xs:=l)
 have h2:(∃ x,x∈l∧decide (x = v) = true) ↔ v∈l:=by simp
 by_cases k:l.findIdx (fun x=>decide (x = v)) < l.length
 · rw [if_pos k]
   exact ⟨fun _=>h2.1 (h.1 k),fun _=>by omega⟩
 · rw [if_neg k]
   exact ⟨fun q=>by omega,fun q=>absurd (h.2 (h2.2 q)) k⟩
/-- An automaton at work,and what it does. -/
def wk (a:Au) (l:List Int):List Data:=[.int .i64 a.s,.int .i64 a.c,.int .i64 a.l,.int .u8 a.id,.sl 1 (l.map fun n=>Data.int .i64 n)]
section
variable (Γ:Nat->Option (List Data))
theorem index_pc (l:List Int) (v:Int) (hl:l.length≤1000):PC Tryd.prog Γ 56 [nums l,.int .i64 v] (.int .i64 (idxI l v)):=by
 refine pc_by mixed Tryd.func56 rfl (fun args w=>Tryd.call56 args w) ?_
 unfold idxI nums
 have hk:=List.findIdx_le_length (p:=fun x:Int=>decide (x = v)) (xs:=l)
 have hat:∀ (h:l.findIdx (fun x=>decide (x = v)) < l.length),l[l.findIdx (fun x=>decide (x = v))] = v:=fun h=>by simpa using List.findIdx_getElem (w:=h)
 have hno:∀ (i:Nat),i < l.findIdx (fun x=>decide (x = v))->∀ (h:i < l.length),l[i]≠v:=fun i h _=>by simpa using List.not_of_lt_findIdx h
 generalize l.findIdx (fun x=>decide (x = v)) = k at *
 simp -implicitDefEqProofs (disch:=omega) [go_sem]
 refine loop_ren (σ:={ i:Nat // i≤k }) (fun i=>⟨envL [(0,.data (.sl 1 (l.map fun n=>Data.int .i64 n))),(1,.data (.int .i64 v)),(7,.data (.int .i64 l.length)),(8,.data (.int .i64 i.1))],hpL [],0,0,19⟩) (fun i=>k - i.1) ⟨0,by omega⟩ [] (rhoL []) ?_ ?_
 · apply ren_lists <;> simp -implicitDefEqProofs [go_sem]
 rintro ⟨i,hi⟩
 by_cases h:i < k
 · have hlt:i < l.length:=by omega
   have hv:¬ v = l[i]:=fun e=>hno i h hlt e.symm
   simp -implicitDefEqProofs (disch:=omega) [go_sem,hv]
   refine next_ren ⟨i + 1,by omega⟩ (by simp only;omega) [] (rhoL []) ?_
   apply ren_lists <;> simp -implicitDefEqProofs [go_sem]
 · have:i = k:=by omega
   subst this
   by_cases h2:i < l.length
   · have hv:v = l[i]:=(hat h2).symm
     rw [if_pos h2]
     subst hv
     simp -implicitDefEqProofs (disch:=omega) [go_sem,Tryd.f56]
   · rw [if_neg h2]
     simp -implicitDefEqProofs (disch:=omega) [go_sem,Tryd.f56]
theorem contains_pc (l:List Int) (v:Int) (hl:l.length≤1000):PC Tryd.prog Γ 53 [nums l,.int .i64 v] (.bool (decide (v∈l))):=by
 refine pc_by mixed Tryd.func53 rfl (fun args w=>Tryd.call53 args w) ?_
 have c1:=index_pc Γ l v hl
 rw [<- idxI_iff]
 generalize idxI l v = k at *
 unfold nums at *
 simp -implicitDefEqProofs (disch:=omega) [go_sem]
 refine .inl (call_data c1 (by simp [go_sem]) ?_)
 simp -implicitDefEqProofs (disch:=omega) [go_sem,Tryd.f53]
theorem bound_pc:PC Tryd.prog Γ 12 [] (.int .i64 18):=by
 refine pc_by mixed Tryd.func12 rfl (fun args w=>Tryd.call12 args w) ?_
 simp -implicitDefEqProofs (disch:=omega) [go_sem,Tryd.f12]
theorem timeoutA_pc (a:Au):PC Tryd.prog Γ 26 [au a] (.int .i64 (if 0 < a.c then 4 else 5)):=by
 refine pc_by mixed Tryd.func26 rfl (fun args w=>Tryd.call26 args w) ?_
 unfold au
 by_cases h:0 < a.c
 · rw [if_pos h]
   simp -implicitDefEqProofs (disch:=omega) [go_sem,Tryd.f26]
 · rw [if_neg h]
   simp -implicitDefEqProofs (disch:=omega) [go_sem,Tryd.f26]
def TimeR (a:Au):Prop:=Tm a.s∧1≤a.l∧a.l≤3 ∨ ¬ Tm a.s∧a.l = 0
instance (a:Au):Decidable (TimeR a):=by unfold TimeR;infer_instance
theorem timerRight_pc (a:Au):PC Tryd.prog Γ 22 [au a] (.bool (decide (TimeR a))):=by
 refine pc_by mixed Tryd.func22 rfl (fun args w=>Tryd.call22 args w) ?_
 have c1:=timed_pc Γ a.s
 unfold au
 have no:¬ TimeR a->decide (TimeR a) = false:=fun h=>decide_eq_false h
 simp -implicitDefEqProofs (disch:=omega) [go_sem]
 refine .inl (call_data c1 (by simp [go_sem]) ?_)
 by_cases ht:4≤a.s∧a.s≤8
 · rw [decide_eq_true ht] at *
   by_cases h5:1≤a.l
   · by_cases h6:a.l≤3
     · rw [show decide (TimeR a) = true from decide_eq_true (.inl ⟨ht,h5,h6⟩)]
       simp -implicitDefEqProofs (disch:=omega) [go_sem,ht,Tryd.f22]
     · rw [no fun h=>by unfold TimeR Tm at h;omega]
       simp -implicitDefEqProofs (disch:=omega) [go_sem,ht,Tryd.f22]
   · rw [no fun h=>by unfold TimeR Tm at h;omega]
     simp -implicitDefEqProofs (disch:=omega) [go_sem,ht,Tryd.f22]
 · rw [decide_eq_false ht] at *
   by_cases h7:a.l = 0
   · rw [show decide (TimeR a) = true from decide_eq_true (.inr ⟨ht,h7⟩)]
     simp -implicitDefEqProofs (disch:=omega) [go_sem,ht,h7,Tryd.f22]
   · rw [no fun h=>by unfold TimeR Tm at h;omega]
     simp -implicitDefEqProofs (disch:=omega) [go_sem,ht,h7,Tryd.f22]
theorem aright_pc (a:Au):PC Tryd.prog Γ 11 [au a] (.bool (decide (RightA a))):=by
 refine pc_by mixed Tryd.func11 rfl (fun args w=>Tryd.call11 args w) ?_
 have c1:=timerRight_pc Γ a
 unfold au at *
 have no:¬ RightA a->decide (RightA a) = false:=fun h=>decide_eq_false h
 by_cases h1:0≤a.s
 rotate_left
 · rw [no fun h=>by unfold RightA at h;omega]
   simp -implicitDefEqProofs (disch:=omega) [go_sem,Tryd.f11]
 by_cases h2:a.s < 10
 rotate_left
 · rw [no fun h=>by unfold RightA at h;omega]
   simp -implicitDefEqProofs (disch:=omega) [go_sem,Tryd.f11]
 by_cases h3:0≤a.c
 rotate_left
 · rw [no fun h=>by unfold RightA at h;omega]
   simp -implicitDefEqProofs (disch:=omega) [go_sem,Tryd.f11]
 by_cases h4:a.c≤5
 rotate_left
 · rw [no fun h=>by unfold RightA at h;omega]
   simp -implicitDefEqProofs (disch:=omega) [go_sem,Tryd.f11]
 have e:decide (RightA a) = decide (TimeR a):=decide_eq_decide.2 ⟨fun h=>h.2.2,fun h=>⟨by omega,by omega,h⟩⟩
 rw [e]
 generalize decide (TimeR a) = b at *
 simp -implicitDefEqProofs (disch:=omega) [go_sem]
 refine .inl (call_data c1 (by simp [go_sem]) ?_)
 simp -implicitDefEqProofs (disch:=omega) [go_sem,Tryd.f11]
theorem zero_dc (a:Au) (l:List Int):DC Tryd.prog Γ 50 [.ptr 0 0] (hpL [(0,.blk true ((wk a l).map D.data))]) 1 (fun d H' _=>∃ r c,d = .data r∧H' 0 = .blk true (c.map D.data)∧r = .tup []∧c = wk { a with c:=0,l:=3 } l):=by
 refine dc_by mixed Tryd.func50 rfl (fun args w=>Tryd.call50 args w) ?_
 unfold wk
 simp -implicitDefEqProofs (disch:=omega) [go_sem,Tryd.f50]
 rfl
theorem send_dc (a:Au) (l:List Int) (hc:0≤a.c∧a.c≤5) (hi:a.id < 256):DC Tryd.prog Γ 51 [.ptr 0 0] (hpL [(0,.blk true ((wk a l).map D.data))]) 1 (fun d H' _=>∃ r c,d = .data r∧H' 0 = .blk true (c.map D.data)∧r = .tup []∧c = wk { a with c:=if 1 < a.c then a.c - 1 else 0,l:=3,id:=(a.id + 1) % 256 } l):=by
 refine dc_by mixed Tryd.func51 rfl (fun args w=>Tryd.call51 args w) ?_
 unfold wk
 by_cases h:1 < a.c
 · simp only [if_pos h]
   simp -implicitDefEqProofs (disch:=omega) [go_sem,Tryd.f51]
   exact ⟨_,rfl,rfl,fun k=>by omega⟩
 · simp only [if_neg h]
   simp -implicitDefEqProofs (disch:=omega) [go_sem,Tryd.f51]
   exact ⟨_,rfl,rfl,fun k=>by omega⟩
theorem begin_dc (a:Au) (l:List Int) (hl:l.length≤1000):DC Tryd.prog Γ 49 [.ptr 0 0] (hpL [(0,.blk true ((wk a l).map D.data))]) 1 (fun d H' _=>∃ r c,d = .data r∧H' 0 = .blk true (c.map D.data)∧r = .tup []∧c = wk { a with c:=if decide (10∈l) = true then 2 else 5 } l):=by
 refine dc_by mixed Tryd.func49 rfl (fun args w=>Tryd.call49 args w) ?_
 have c1:=contains_pc Γ l 10 hl
 generalize decide (10∈l) = b at *
 unfold wk
 unfold nums at c1
 simp -implicitDefEqProofs (disch:=omega) [go_sem]
 refine .inl (call_data c1 (by simp [go_sem]) ?_)
 cases b
 · simp -implicitDefEqProofs (disch:=omega) [go_sem,Tryd.f49]
   rfl
 · simp -implicitDefEqProofs (disch:=omega) [go_sem,Tryd.f49]
   rfl
end
end Fs
namespace Fs
theorem next_no {s e:Int} (h:(nextF s e).2.2 = false):nextF s e = ([],s,false):=by
 unfold nextF at h ⊢
 by_cases ho:Out s e
 · rw [if_pos ho]
 rw [if_neg ho] at h ⊢
 have hs:0≤s∧s≤9:=by unfold Out at ho;omega
 have he:0≤e∧e≤15:=by unfold Out at ho;omega
 have key:∀ (s:Fin 10) (e:Fin 16),(rowF (s.val:Int) (e.val:Int)).2.2 = false->rowF (s.val:Int) (e.val:Int) = ([],(s.val:Int),false):=by decide +kernel
 have k:=key ⟨s.toNat,by omega⟩ ⟨e.toNat,by omega⟩
 rw [show (((⟨s.toNat,by omega⟩:Fin 10).val:Int)) = s from by show ((s.toNat:Nat):Int) = s;omega,show (((⟨e.toNat,by omega⟩:Fin 16).val:Int)) = e from by show ((e.toNat:Nat):Int) = e;omega] at k
 exact k h
theorem next_in {s e:Int} (h:(nextF s e).2.2 = true):(0≤s∧s≤9)∧0≤e∧e≤15:=by
 unfold nextF at h
 by_cases ho:Out s e
 · rw [if_pos ho] at h;cases h
 unfold Out at ho
 omega
/-- What is true of the whole table. -/
theorem next_all (p:Int->Int->Prop) (h:∀ (s:Fin 10) (e:Fin 16),(nextF s.val e.val).2.2 = true->p s.val e.val) {s e:Int} (hn:(nextF s e).2.2 = true):p s e:=by
 obtain ⟨hs,he⟩:=next_in hn
 have k:=h ⟨s.toNat,by omega⟩ ⟨e.toNat,by omega⟩
 rw [show (((⟨s.toNat,by omega⟩:Fin 10).val:Int)) = s from by show ((s.toNat:Nat):Int) = s;omega,show (((⟨e.toNat,by omega⟩:Fin 16).val:Int)) = e from by show ((e.toNat:Nat):Int) = e;omega] at k
 exact k hn
theorem next_len (s e:Int):(nextF s e).1.length≤3:=by
 cases h:(nextF s e).2.2 with
 | false=>rw [next_no h];simp
 | true=>exact next_all (fun s e=>(nextF s e).1.length≤3) (by decide +kernel) h
end Fs
namespace Fs
/-- What the deeds are: a map of methods. -/
def deedsB (g:Nat):Blk:=.obj (.mp [.int .i64 5,.int .i64 6,.int .i64 7,.int .i64 10] [.bnd 49 (.ptr g 0),.bnd 50 (.ptr g 0),.bnd 51 (.ptr g 0),.bnd 51 (.ptr g 0)])
theorem beq_int {c k:Int} (h:c≠k):(c == k) = false:=beq_eq_false_iff_ne.2 h
theorem stepA_s (ends:Bool) (a:Au) (x:Int):(stepA ends a x).s = a.s:=by
 unfold stepA
 repeat' split
 all_goals rfl
theorem foldl_s (ends:Bool):∀ (l:List Int) (a:Au),(l.foldl (stepA ends) a).s = a.s
 | [],a=>rfl
 | x :: l,a=>by rw [List.foldl_cons,foldl_s ends l,stepA_s]
theorem stepA_at (ends:Bool) (a:Au) (t x:Int):stepA ends { a with s:=t } x = { stepA ends a x with s:=t }:=by
 unfold stepA
 repeat' split
 all_goals rfl
theorem foldl_at (ends:Bool) (t:Int):∀ (l:List Int) (a:Au),l.foldl (stepA ends) { a with s:=t } = { l.foldl (stepA ends) a with s:=t }
 | [],a=>rfl
 | x :: l,a=>by rw [List.foldl_cons,stepA_at,foldl_at ends t l,List.foldl_cons]
theorem fold_at (a:Au) (l:List Int) (t:Int):setA (foldA { a with s:=t } l) t = setA (foldA a l) t:=by
 unfold foldA
 rw [foldl_at]
 rfl
section
variable (Γ:Nat->Option (List Data))
set_option maxHeartbeats 4000000 in
theorem wdo_dc (a:Au) (l:List Int) (hc:0≤a.c∧a.c≤5) (hi:a.id < 256) (hl:l.length≤1000):DC Tryd.prog Γ 24 [.ptr 0 0] (hpL [(0,.blk true ((wk a l).map D.data))]) 1 (fun d H' _=>∃ r c,d = .data r∧H' 0 = .blk true (c.map D.data)∧r = .tup []∧c = wk (setA (foldA a l) a.s) l):=by
 refine dc_by mixed Tryd.func24 rfl (fun args w=>Tryd.call24 args w) ?_
 have c1:=timed_pc Γ a.s
 have fit:=fun i=>foldl_fit (ends:=decide (10∈l)) (l.take i) hc hi
 have fs:=fun i=>foldl_s (decide (10∈l)) (l.take i) a
 unfold foldA wk
 simp -implicitDefEqProofs (disch:=omega) [go_sem]
 refine .inr (dc_by mixed Tryd.func32 rfl (fun args w=>Tryd.call32 args w) ?_)
 simp -implicitDefEqProofs (disch:=omega) [go_sem,Tryd.f32]
 refine loop_ren (σ:={ i:Nat // i≤l.length }) (fun i=>⟨envL [(0,.ptr 0 0),(2,.mref 1),(12,.data (.sl 1 (l.map fun n=>Data.int .i64 n))),(13,.data (.int .i64 l.length)),(14,.data (.int .i64 i.1))],hpL [(0,.blk true ((wk ((l.take i.1).foldl (stepA (decide (10∈l))) a) l).map D.data)),(1,deedsB 0)],2,1,39⟩) (fun i=>l.length - i.1) ⟨0,by omega⟩ [] (rhoL [(1,some 3)]) ?_ ?_
 · apply ren_lists <;> simp -implicitDefEqProofs [go_sem,deedsB,wk]
 rintro ⟨i,hile⟩
 have fi:=fit i
 have fs:=fs i
 by_cases h:i < l.length
 · have hst:=foldl_take (ends:=decide (10∈l)) l a i h
   generalize (l.take i).foldl (stepA (decide (10∈l))) a = A at *
   have c2:=begin_dc Γ A l hl
   have c3:=zero_dc Γ A l
   have c4:=send_dc Γ A l fi.1 fi.2
   generalize hx:l[i] = x at *
   by_cases h5:x = 5
   · subst h5
     have e2:stepA (decide (10∈l)) A 5 = { A with c:=if decide (10∈l) = true then 2 else 5 }:=rfl
     rw [e2] at hst
     simp -implicitDefEqProofs (disch:=omega) [go_sem,hx,deedsB,wk]
     refine .inr (dc_lent c2 (by simp [go_sem,wk]) (.ptr _) (by simp) (fun r c hrc=>?_))
     obtain ⟨rfl,rfl⟩:=hrc
     simp -implicitDefEqProofs (disch:=omega) [go_sem]
     refine next_ren ⟨i + 1,by omega⟩ (by simp only;omega) [] (rhoL []) ?_
     simp only [hst]
     apply ren_lists <;> simp -implicitDefEqProofs [go_sem,wk,deedsB]
   by_cases h6:x = 6
   · subst h6
     have e2:stepA (decide (10∈l)) A 6 = { A with c:=0,l:=3 }:=rfl
     rw [e2] at hst
     simp -implicitDefEqProofs (disch:=omega) [go_sem,hx,deedsB,wk]
     refine .inr (dc_lent c3 (by simp [go_sem,wk]) (.ptr _) (by simp) (fun r c hrc=>?_))
     obtain ⟨rfl,rfl⟩:=hrc
     simp -implicitDefEqProofs (disch:=omega) [go_sem]
     refine next_ren ⟨i + 1,by omega⟩ (by simp only;omega) [] (rhoL []) ?_
     simp only [hst]
     apply ren_lists <;> simp -implicitDefEqProofs [go_sem,wk,deedsB]
   by_cases h7:x = 7
   · subst h7
     have e2:stepA (decide (10∈l)) A 7 = { A with c:=if 1 < A.c then A.c - 1 else 0,l:=3,id:=(A.id + 1) % 256 }:=rfl
     rw [e2] at hst
     simp -implicitDefEqProofs (disch:=omega) [go_sem,hx,deedsB,wk]
     refine .inr (dc_lent c4 (by simp [go_sem,wk]) (.ptr _) (by simp) (fun r c hrc=>?_))
     obtain ⟨rfl,rfl⟩:=hrc
     simp -implicitDefEqProofs (disch:=omega) [go_sem]
     refine next_ren ⟨i + 1,by omega⟩ (by simp only;omega) [] (rhoL []) ?_
     simp only [hst]
     apply ren_lists <;> simp -implicitDefEqProofs [go_sem,wk,deedsB]
   by_cases h10:x = 10
   · subst h10
     have e2:stepA (decide (10∈l)) A 10 = { A with c:=if 1 < A.c then A.c - 1 else 0,l:=3,id:=(A.id + 1) % 256 }:=rfl
     rw [e2] at hst
     simp -implicitDefEqProofs (disch:=omega) [go_sem,hx,deedsB,wk]
     refine .inr (dc_lent c4 (by simp [go_sem,wk]) (.ptr _) (by simp) (fun r c hrc=>?_))
     obtain ⟨rfl,rfl⟩:=hrc
     simp -implicitDefEqProofs (disch:=omega) [go_sem]
     refine next_ren ⟨i + 1,by omega⟩ (by simp only;omega) [] (rhoL []) ?_
     simp only [hst]
     apply ren_lists <;> simp -implicitDefEqProofs [go_sem,wk,deedsB]
   have e2:stepA (decide (10∈l)) A x = A:=by unfold stepA;rw [if_neg h5,if_neg h6,if_neg (by rintro (k | k);exact h7 k;exact h10 k)]
   rw [e2] at hst
   have k5:=beq_int h5
   have k6:=beq_int h6
   have k7:=beq_int h7
   have k10:=beq_int h10
   clear h5 h6 h7 h10
   simp -implicitDefEqProofs (disch:=omega) [go_sem,hx,deedsB,wk,k5,k6,k7,k10]
   refine next_ren ⟨i + 1,by omega⟩ (by simp only;omega) [] (rhoL []) ?_
   simp only [hst]
   apply ren_lists <;> simp -implicitDefEqProofs [go_sem,wk,deedsB]
 · have:i = l.length:=by omega
   subst this
   simp only [List.take_length] at *
   generalize l.foldl (stepA (decide (10∈l))) a = A at *
   have hs:A.s = a.s:=fs
   unfold wk deedsB
   simp -implicitDefEqProofs (disch:=omega) [go_sem,hs]
   refine .inl (call_data c1 (by simp [go_sem]) ?_)
   by_cases ht:4≤a.s∧a.s≤8
   · rw [show setA A a.s = ⟨a.s,A.c,A.l,A.id⟩ by unfold setA;rw [if_pos (show Tm a.s from ht)]]
     simp -implicitDefEqProofs (disch:=omega) [go_sem,ht,Tryd.f24]
     exact ⟨_,rfl,rfl,hs⟩
   · rw [show setA A a.s = ⟨a.s,A.c,0,A.id⟩ by unfold setA;rw [if_neg (show ¬ Tm a.s from ht)]]
     simp -implicitDefEqProofs (disch:=omega) [go_sem,ht,Tryd.f24]
     exact ⟨_,rfl,rfl,hs⟩
set_option maxHeartbeats 4000000 in
theorem ado_pc (hΓ:Spaces Γ) (a:Au) (e:Int) (hc:0≤a.c∧a.c≤5) (hi:a.id < 256):PC Tryd.prog Γ 13 [au a,.int .i64 e] (.tup [au (doA a e),nums (doL a e),.int .i64 (doE a e)]):=by
 refine pc_by mixed Tryd.func13 rfl (fun args w=>Tryd.call13 args w) ?_
 have c1:=next_pc Γ hΓ a.s e
 have hsh:=next_len a.s e
 unfold doA doL doE
 generalize nextF a.s e = r at *
 obtain ⟨l,t,b⟩:=r
 simp only at hsh
 unfold tri nums at c1
 cases b
 · simp only [Bool.false_eq_true,if_false]
   unfold au nums
   simp -implicitDefEqProofs (disch:=omega) [go_sem]
   refine .inl (call_data c1 (by simp [go_sem]) ?_)
   simp -implicitDefEqProofs (disch:=omega) [go_sem,Tryd.f13]
   exact ⟨_,⟨_,_,rfl,rfl,_,rfl,.emp _ _⟩,rfl⟩
 simp only [if_true]
 have c2:=wdo_dc Γ { a with s:=t } l hc hi (by omega)
 rw [fold_at] at c2
 generalize setA (foldA a l) t = B at *
 unfold au nums
 simp -implicitDefEqProofs (disch:=omega) [go_sem]
 refine .inl (call_data c1 (by simp [go_sem]) ?_)
 simp -implicitDefEqProofs (disch:=omega) [go_sem]
 refine .inr (dc_lent c2 (by simp [go_sem,wk]) (.ptr _) (by simp) (fun r c hrc=>?_))
 obtain ⟨rfl,rfl⟩:=hrc
 unfold wk
 simp -implicitDefEqProofs (disch:=omega) [go_sem,Tryd.f13]
set_option maxHeartbeats 4000000 in
theorem atick_pc (hΓ:Spaces Γ) (a:Au) (hc:0≤a.c∧a.c≤5) (hi:a.id < 256) (hl:0≤a.l∧a.l≤1000000):PC Tryd.prog Γ 15 [au a] (.tup [au (tickA a),nums (tickL a)]):=by
 refine pc_by mixed Tryd.func15 rfl (fun args w=>Tryd.call15 args w) ?_
 by_cases h0:a.l = 0
 · rw [show tickA a = a by unfold tickA;rw [if_pos h0],show tickL a = [] by unfold tickL;rw [if_pos h0]]
   unfold au nums
   simp -implicitDefEqProofs (disch:=omega) [go_sem,h0,Tryd.f15]
   exact ⟨_,⟨_,_,rfl,rfl,_,rfl,.emp _ _⟩,rfl⟩
 by_cases h1:1 < a.l
 · rw [show tickA a = downA a by unfold tickA;rw [if_neg h0,if_pos h1],show tickL a = [] by unfold tickL;rw [if_neg h0,if_pos h1]]
   unfold au nums downA
   simp -implicitDefEqProofs (disch:=omega) [go_sem,h0,Tryd.f15]
   exact ⟨_,⟨_,_,rfl,rfl,_,rfl,.emp _ _⟩,rfl⟩
 have hb:tickA a = doA (downA a) (if 0 < a.c then 4 else 5)∧tickL a = doL (downA a) (if 0 < a.c then 4 else 5):=by
  unfold tickA tickL
  rw [if_neg h0,if_neg h1,if_neg h0,if_neg h1]
  by_cases k:0 < a.c
  · simp only [if_pos k];exact ⟨trivial,trivial⟩
  · simp only [if_neg k];exact ⟨trivial,trivial⟩
 rw [hb.1,hb.2]
 have c1:=timeoutA_pc Γ (downA a)
 rw [show (downA a).c = a.c from rfl] at c1
 have c2:=ado_pc Γ hΓ (downA a) (if 0 < a.c then 4 else 5) hc hi
 generalize (if 0 < a.c then (4:Int) else 5) = e at *
 generalize doA (downA a) e = A at *
 generalize doL (downA a) e = L at *
 generalize doE (downA a) e = E at *
 have hl1:a.l = 1:=by omega
 unfold au nums downA at *
 simp -implicitDefEqProofs (disch:=omega) [go_sem,h0,hl1]
 refine .inl (call_data c1 (by simp [go_sem];omega) ?_)
 simp -implicitDefEqProofs (disch:=omega) [go_sem]
 refine .inl (call_data c2 (by simp [go_sem];omega) ?_)
 simp -implicitDefEqProofs (disch:=omega) [go_sem]
 refine side (by kernel_rfl) ?_
 simp -implicitDefEqProofs (disch:=omega) [go_sem,Tryd.f15]
set_option maxHeartbeats 4000000 in
theorem aquiet_pc (hΓ:Spaces Γ) (a:Au) (n:Int) (h:RightA a) (hi:a.id < 256) (hn:-1000000≤n∧n≤1000000):PC Tryd.prog Γ 18 [au a,.int .i64 n] (au (quietA a (min n.toNat 18))):=by
 refine pc_by mixed Tryd.func18 rfl (fun args w=>Tryd.call18 args w) ?_
 have c0:=bound_pc Γ
 obtain ⟨m,hm⟩:∃ m,m = min n.toNat 18:=⟨_,rfl⟩
 rw [<- hm]
 obtain ⟨q,hq⟩:∃ q:Int,q = min n 18:=⟨_,rfl⟩
 unfold au
 simp -implicitDefEqProofs (disch:=omega) [go_sem]
 refine .inl (call_data c0 (by simp [go_sem]) ?_)
 simp -implicitDefEqProofs (disch:=omega) [go_sem]
 refine loop_ren (σ:={ i:Nat // i≤m }) (fun i=>⟨envL [(2,.ptr 0 0),(4,.ptr 1 0),(7,.data (.int .i64 q)),(8,.data (.int .i64 i.1))],hpL [(0,.blk true [.data (.int .i64 (quietA a i.1).s),.data (.int .i64 (quietA a i.1).c),.data (.int .i64 (quietA a i.1).l),.data (.int .u8 (quietA a i.1).id)]),(1,.blk true [.data (.int .i64 0),.data (.int .i64 0),.data (.int .i64 0),.data (.int .u8 0)])],2,0,17⟩) (fun i=>18 - i.1) ⟨0,by omega⟩ [] (rhoL [(0,some 0),(1,some 1)]) ?_ ?_
 · apply ren_lists <;> simp -implicitDefEqProofs [go_sem,quietA]
   all_goals omega
 rintro ⟨i,hile⟩
 have hr:=right_quiet h hi i
 have hf:=quietA_fit h.2.1 hi i
 by_cases hlt:i < m
 · have c1:=atick_pc Γ hΓ (quietA a i) hf.1 hf.2 (by have:=hr.2.2;omega)
   rw [show tickA (quietA a i) = quietA a (i + 1) from rfl] at c1
   generalize tickL (quietA a i) = L at *
   unfold au nums at c1
   simp -implicitDefEqProofs (disch:=omega) [go_sem]
   refine .inl (call_data c1 (by simp [go_sem]) ?_)
   simp -implicitDefEqProofs (disch:=omega) [go_sem]
   refine next_ren ⟨i + 1,by omega⟩ (by simp only;omega) [] (rhoL [(0,some 0),(1,some 1)]) ?_
   apply ren_lists <;> simp -implicitDefEqProofs [go_sem]
 · have:i = m:=by omega
   subst this
   simp -implicitDefEqProofs (disch:=omega) [go_sem,Tryd.f18]
end
theorem quiet_all {a:Au} (h:RightA a) (hi:a.id < 256) (n:Nat):quietA a (min n 18) = quietA a n:=by
 by_cases k:n≤18
 · rw [Nat.min_eq_left k]
 · rw [Nat.min_eq_right (by omega)]
   have:=quiet_more h hi 0 (n - 18)
   rw [show 18 + 0 + (n - 18) = n by omega] at this
   exact this.symm
end Fs
namespace Fs
theorem doL_len (a:Au) (e:Int):(doL a e).length≤3:=by
 unfold doL
 split
 · exact next_len _ _
 · simp
theorem tickL_len (a:Au):(tickL a).length≤3:=by
 unfold tickL
 repeat' split
 all_goals first | exact doL_len _ _ | simp
/-- What a tick does where there is a timer. -/
theorem tick_facts {b:Au} (h:RightA b) (ht:Tm b.s):(1 < b.l∧tickA b = downA b∧tickL b = []) ∨
 (b.l = 1∧0 < b.c∧tickA b = ⟨if b.s = 7 then 6 else b.s,b.c - 1,3,(b.id + 1) % 256⟩∧tickL b = (if b.s = 4 ∨ b.s = 5 then [10] else [7])) ∨
 (b.l = 1∧b.c = 0∧tickA b = ⟨if b.s = 4 then 2 else 3,b.c,0,b.id⟩∧tickL b = [4]):=by
 obtain ⟨h1,h2,h3⟩:=h
 obtain ⟨l1,l2⟩:1≤b.l∧b.l≤3:=by
  rcases h3 with ⟨_,k⟩ | ⟨k,_⟩
  · exact k
  · exact absurd ht k
 by_cases hl:1 < b.l
 · refine .inl ⟨hl,?_,?_⟩
   · unfold tickA;rw [if_neg (by omega),if_pos hl]
   · unfold tickL;rw [if_neg (by omega),if_pos hl]
 · refine .inr ?_
   by_cases hc:0 < b.c
   · have e:=do_more (a:=downA b) ht (by show 1≤b.c∧b.c≤5;omega)
     refine .inl ⟨by omega,hc,?_,?_⟩
     · unfold tickA;rw [if_neg (by omega),if_neg hl,if_pos hc,e.1];rfl
     · unfold tickL;rw [if_neg (by omega),if_neg hl,if_pos hc,e.2];rfl
   · have e:=do_over (a:=downA b) ht
     refine .inr ⟨by omega,by omega,?_,?_⟩
     · unfold tickA;rw [if_neg (by omega),if_neg hl,if_neg hc,e.1];rfl
     · unfold tickL;rw [if_neg (by omega),if_neg hl,if_neg hc,e.2]
/-- An automaton that is left alone: how many requests it has sent,how many ticks ago its last timeout was,how often it was told to be finished. -/
structure Run where
 sent:Int
 since:Int
 done:Int
 b:Au
def stepR (r:Run):Run:=⟨if 7∈tickL r.b ∨ 10∈tickL r.b then r.sent + 1 else r.sent,if tickL r.b = [] then r.since + 1 else 0,if 4∈tickL r.b then r.done + 1 else r.done,tickA r.b⟩
def runR (r:Run):Nat->Run
 | 0=>r
 | n + 1=>stepR (runR r n)
structure InvR (a:Au) (s0:Int) (n:Nat) (r:Run):Prop where
 rt:RightA r.b
 id:r.b.id < 256
 si:0≤r.since∧r.since≤3 + n
 se:s0≤r.sent∧r.sent≤s0 + n
 dn:0≤r.done∧r.done≤n
 on:Tm r.b.s->Tm a.s∧r.since = 3 - r.b.l∧r.sent = s0 + a.c - r.b.c∧r.done = 0∧(r.b.s = 4 ↔ a.s = 4)
 off:¬ Tm r.b.s->Tm a.s->r.sent = s0 + a.c∧r.done = 1∧r.b.s = (if a.s = 4 then 2 else 3)
 still:¬ Tm r.b.s->¬ Tm a.s->r.b = a∧r.sent = s0∧r.done = 0
theorem inv_zero {a:Au} (h:RightA a) (hi:a.id < 256) (s0:Int):InvR a s0 0 ⟨s0,3 - a.l,0,a⟩ where
 rt:=h
 id:=hi
 si:=by have:=h.2.2;simp only;omega
 se:=⟨by simp,by simp⟩
 dn:=⟨by simp,by simp⟩
 on:=fun k=>⟨k,rfl,by simp only;omega,rfl,Iff.rfl⟩
 off:=fun k q=>absurd q k
 still:=fun _ _=>⟨rfl,rfl,rfl⟩
theorem inv_step {a:Au} {s0:Int} {n:Nat} {r:Run} (h:InvR a s0 n r):InvR a s0 (n + 1) (stepR r):=by
 obtain ⟨rt,id,si,se,dn,on,off,still⟩:=h
 have rt2:=right_tick rt id
 have id2:=(tickA_fit rt.2.1 id).2
 have n1:((n + 1:Nat):Int) = n + 1:=by omega
 by_cases ht:Tm r.b.s
 · obtain ⟨o1,o2,o3,o4,o5⟩:=on ht
   rcases tick_facts rt ht with ⟨f1,f2,f3⟩ | ⟨f1,f2,f3,f4⟩ | ⟨f1,f2,f3,f4⟩
   · have hb:stepR r = ⟨r.sent,r.since + 1,r.done,downA r.b⟩:=by unfold stepR;rw [f2,f3];simp
     rw [hb]
     rw [f2] at rt2 id2
     exact ⟨rt2,id2,by simp only;omega,by simp only;omega,by simp only;omega,fun _=>⟨o1,by simp only [downA];omega,o3,o4,o5⟩,fun k=>absurd ht k,fun k=>absurd ht k⟩
   · have hb:stepR r = ⟨r.sent + 1,0,r.done,⟨if r.b.s = 7 then 6 else r.b.s,r.b.c - 1,3,(r.b.id + 1) % 256⟩⟩:=by
      unfold stepR
      rw [f3,f4]
      by_cases k:r.b.s = 4 ∨ r.b.s = 5
      · simp only [k,if_true];simp
      · simp only [k,if_false];simp
     rw [hb]
     rw [f3] at rt2 id2
     have ht2:Tm (if r.b.s = 7 then 6 else r.b.s):=by
      unfold Tm at *
      split <;> omega
     exact ⟨rt2,id2,by simp only;omega,by simp only;omega,by simp only;omega,fun _=>⟨o1,by simp only;omega,by simp only;omega,o4,by
      simp only
      rw [<- o5]
      split <;> omega⟩,fun k=>absurd ht2 k,fun k=>absurd ht2 k⟩
   · have hb:stepR r = ⟨r.sent,0,r.done + 1,⟨if r.b.s = 4 then 2 else 3,r.b.c,0,r.b.id⟩⟩:=by
      unfold stepR
      rw [f3,f4]
      simp
     rw [hb]
     rw [f3] at rt2 id2
     have ht2:¬ Tm (if r.b.s = 4 then 2 else 3):=by
      unfold Tm
      split <;> omega
     exact ⟨rt2,id2,by simp only;omega,by simp only;omega,by simp only;omega,fun k=>absurd k ht2,fun _ _=>⟨by simp only;omega,by simp only;omega,by
      simp only
      by_cases k:r.b.s = 4
      · rw [if_pos k,if_pos (o5.1 k)]
      · rw [if_neg k,if_neg fun q=>k (o5.2 q)]⟩,fun _ q=>absurd o1 q⟩
 · have f:=tick_still rt ht
   have hb:stepR r = ⟨r.sent,r.since + 1,r.done,r.b⟩:=by unfold stepR;rw [f.1,f.2];simp
   rw [hb]
   exact ⟨rt,id,by simp only;omega,by simp only;omega,by simp only;omega,fun k=>absurd k ht,off,still⟩
theorem inv_run {a:Au} (h:RightA a) (hi:a.id < 256) (s0:Int):∀ n,InvR a s0 n (runR ⟨s0,3 - a.l,0,a⟩ n)
 | 0=>inv_zero h hi s0
 | n + 1=>inv_step (inv_run h hi s0 n)
/-- A timeout comes Period ticks behind the one ahead. -/
theorem inv_since {a:Au} {s0:Int} {n:Nat} {r:Run} (h:InvR a s0 n r) (hne:tickL r.b≠[]):r.since = 2:=by
 by_cases ht:Tm r.b.s
 · have o:=h.on ht
   rcases tick_facts h.rt ht with ⟨_,_,f⟩ | ⟨f,_⟩ | ⟨f,_⟩
   · exact absurd f hne
   · omega
   · omega
 · exact absurd (tick_still h.rt ht).2 hne
theorem run_b (r:Run):∀ n,(runR r n).b = quietA r.b n
 | 0=>rfl
 | n + 1=>by
   show tickA (runR r n).b = tickA (quietA r.b n)
   rw [run_b r n]
theorem quiet_add (a:Au) (m:Nat):∀ n,quietA (quietA a m) n = quietA a (m + n)
 | 0=>rfl
 | n + 1=>by
   show tickA (quietA (quietA a m) n) = tickA (quietA a (m + n))
   rw [quiet_add a m n]
/-- An event,or,where it can't be,a tick. -/
def evA (a:Au) (e:Int):Au:=if doE a e = 0 then doA a e else tickA a
theorem evA_right {a:Au} (h:RightA a) (hi:a.id < 256) (e:Int):RightA (evA a e)∧(evA a e).id < 256:=by
 unfold evA
 split
 · exact ⟨right_do h hi,(doA_fit h.2.1 hi).2⟩
 · exact ⟨right_tick h hi,(tickA_fit h.2.1 hi).2⟩
def evsA (a:Au) (l:List Int):Au:=l.foldl evA a
theorem evsA_right:∀ (l:List Int) {a:Au},RightA a->a.id < 256->RightA (evsA a l)∧(evsA a l).id < 256
 | [],a,h,hi=>⟨h,hi⟩
 | e :: l,a,h,hi=>evsA_right l (evA_right h hi e).1 (evA_right h hi e).2
theorem evsA_take (l:List Int) (a:Au) (i:Nat) (h:i < l.length):evsA a (l.take (i + 1)) = evA (evsA a (l.take i)) l[i]:=by
 unfold evsA
 rw [List.take_add_one,List.getElem?_eq_getElem h,Option.toList_some,List.foldl_append]
 rfl
theorem doE_is (a:Au) (e:Int):doE a e = 0 ∨ doE a e = 1:=by
 unfold doE
 split
 · exact .inl rfl
 · exact .inr rfl
theorem do_no {a:Au} {e:Int} (h:doE a e = 1):doA a e = a∧doL a e = []:=by
 unfold doE at h
 unfold doA doL
 by_cases k:(nextF a.s e).2.2 = true
 · rw [if_pos k] at h;cases h
 · rw [if_neg k,if_neg k];exact ⟨rfl,rfl⟩
/-- The actions that do anything. -/
def keepA (l:List Int):List Int:=l.filter fun x=>decide (x = 5 ∨ x = 6 ∨ x = 7 ∨ x = 10)
theorem fold_keep (ends:Bool):∀ (l:List Int) (a:Au),l.foldl (stepA ends) a = (keepA l).foldl (stepA ends) a
 | [],a=>rfl
 | x :: l,a=>by
   unfold keepA
   by_cases h:x = 5 ∨ x = 6 ∨ x = 7 ∨ x = 10
   · rw [List.filter_cons_of_pos (by simpa using h),List.foldl_cons,List.foldl_cons,fold_keep ends l];rfl
   · rw [List.filter_cons_of_neg (by simpa using h),List.foldl_cons,fold_keep ends l]
     have:stepA ends a x = a:=by unfold stepA;rw [if_neg fun k=>h (.inl k),if_neg fun k=>h (.inr (.inl k)),if_neg fun k=>h (.inr (.inr k))]
     rw [this];rfl
theorem keep_in (l:List Int):(5∈l ↔ 5∈keepA l)∧(6∈l ↔ 6∈keepA l)∧(7∈l ↔ 7∈keepA l)∧(10∈l ↔ 10∈keepA l):=by
 unfold keepA
 simp [List.mem_filter]
theorem tab_keep:∀ (s:Fin 10) (e:Fin 16),(nextF s.val e.val).2.2 = true->keepA (nextF s.val e.val).1∈([[],[5],[5,7],[5,10],[10],[7],[6]]:List (List Int))∧(7∈(nextF s.val e.val).1 ∨ 10∈(nextF s.val e.val).1->Tm (nextF s.val e.val).2.1):=by decide +kernel
/-- From where the counter goes down. -/
def fromC (c:Int) (l:List Int):Int:=if 6∈l then 0 else if 5∈l then (if 10∈l then 2 else 5) else c
theorem ids_is {a:Au} {e:Int} (h:RightA a) (hi:a.id < 256) (he:doE a e = 0) :
 (7∈doL a e ∨ 10∈doL a e->(doA a e).id = (a.id + 1) % 256∧(doA a e).l = 3∧(doA a e).c = (if 1 < fromC a.c (doL a e) then fromC a.c (doL a e) - 1 else 0)) ∧
 (¬ (7∈doL a e ∨ 10∈doL a e)->(doA a e).id = a.id∧(doA a e).c = fromC a.c (doL a e)):=by
 have hn:(nextF a.s e).2.2 = true:=by
  unfold doE at he
  by_cases k:(nextF a.s e).2.2 = true
  · exact k
  · rw [if_neg k] at he;cases he
 have t:=next_all (fun s e=>keepA (nextF s e).1∈([[],[5],[5,7],[5,10],[10],[7],[6]]:List (List Int))∧(7∈(nextF s e).1 ∨ 10∈(nextF s e).1->Tm (nextF s e).2.1)) tab_keep hn
 unfold doA doL
 rw [if_pos hn,if_pos hn]
 unfold foldA
 rw [fold_keep]
 obtain ⟨k5,k6,k7,k10⟩:=keep_in (nextF a.s e).1
 unfold fromC setA
 simp only [k5,k6,k7,k10] at t ⊢
 obtain ⟨t1,t2⟩:=t
 generalize keepA (nextF a.s e).1 = k at *
 generalize (nextF a.s e).2.1 = s at *
 simp only [List.mem_cons,List.not_mem_nil,or_false] at t1
 rcases t1 with rfl | rfl | rfl | rfl | rfl | rfl | rfl
 all_goals simp [stepA] at t2 ⊢
 all_goals simp [t2]
end Fs
/-- A kind of cell. -/
inductive FK where
 | b
 | i (k:IntKind)
 | s
def FK.okB (P:Program) (t:TypeId):FK->Bool
 | .b=>match P.underlying t with | some .bool=>true | _=>false
 | .i k=>match P.underlying t with | some (.int q)=>decide (q = k) | _=>false
 | .s=>match P.underlying t with | some .string=>true | _=>false
def FK.fit:FK->Data->Prop
 | .b,x=>∃ b,x = .bool b
 | .i k,x=>∃ n:Int,x = .int k n∧(Lit.int k n).wf = true
 | .s,x=>∃ s:ByteArray,x = .str s∧s.size≤maxLen
def FitD (ks:List FK) (xs:List Data):Prop:=xs.length = ks.length∧∀ (i:Nat) (k:FK) (x:Data),ks[i]? = some k->xs[i]? = some x->k.fit x
@[go_sem] theorem fitD_nil:FitD [] [] ↔ True:=iff_true_intro ⟨rfl,fun i k x h=>by simp at h⟩
@[go_sem] theorem fitD_cons (k:FK) (ks:List FK) (x:Data) (xs:List Data):FitD (k :: ks) (x :: xs) ↔ k.fit x∧FitD ks xs:=by
 constructor
 · rintro ⟨h1,h2⟩
   exact ⟨h2 0 k x rfl rfl,by simpa using h1,fun i k' x' hk hx=>h2 (i + 1) k' x' (by simpa using hk) (by simpa using hx)⟩
 · rintro ⟨h1,h2,h3⟩
   refine ⟨by simpa using h2,fun i k' x' hk hx=>?_⟩
   match i with
   | 0=>simp at hk hx;subst hk;subst hx;exact h1
   | i + 1=>exact h3 i k' x' (by simpa using hk) (by simpa using hx)
theorem fit_int {k:IntKind} {n:Int} (h:k.min≤n∧n≤k.max):FK.fit (.i k) (.int k n):=⟨n,rfl,by simp [Lit.wf,h]⟩
def litD:Data->Lit
 | .bool b=>.bool b
 | .int k n=>.int k n
 | .str s=>.string s.data.toList
 | _=>.bool false
def valD:Data->Value
 | .bool b=>.bool b
 | .int k n=>.int k n
 | .str s=>.string s
 | _=>.nilIface
theorem fit_val {k:FK} {x:Data} {v:Value} {L:Nat->Prop} {w:World} (hf:k.fit x) (h:VD L w x v):v = valD x:=by
 cases k with
 | b=>obtain ⟨b,rfl⟩:=hf;cases h;rfl
 | i k=>obtain ⟨n,rfl,_⟩:=hf;cases h;rfl
 | s=>obtain ⟨s,rfl,_⟩:=hf;cases h;rfl
theorem fit_inj {k:FK} {x y:Data} (hx:k.fit x) (hy:k.fit y) (e:litD x = litD y):x = y:=by
 cases k with
 | b=>obtain ⟨b,rfl⟩:=hx;obtain ⟨c,rfl⟩:=hy;simpa [litD] using e
 | i k=>obtain ⟨n,rfl,_⟩:=hx;obtain ⟨m,rfl,_⟩:=hy;simpa [litD] using e
 | s =>
   obtain ⟨s,rfl,_⟩:=hx
   obtain ⟨t,rfl,_⟩:=hy
   have:s.data.toList = t.data.toList:=by simpa [litD] using e
   have h2:s = t:=by
    cases s;cases t
    simp only at this
    congr 1
    exact Array.toList_inj.1 this
   rw [h2]
theorem fitD_inj:∀ {ks:List FK} {xs ys:List Data},FitD ks xs->FitD ks ys->(xs.map litD = ys.map litD ↔ xs = ys)
 | [],xs,ys,hx,hy=>by
   have h1:=List.eq_nil_of_length_eq_zero hx.1
   have h2:=List.eq_nil_of_length_eq_zero hy.1
   subst h1;subst h2;simp
 | k :: ks,[],_,hx,_=>by have:=hx.1;simp at this
 | k :: ks,_ :: _,[],_,hy=>by have:=hy.1;simp at this
 | k :: ks,x :: xs,y :: ys,hx,hy=>by
   obtain ⟨a1,a2⟩:=(fitD_cons k ks x xs).1 hx
   obtain ⟨b1,b2⟩:=(fitD_cons k ks y ys).1 hy
   have ih:=fitD_inj a2 b2
   simp only [List.map_cons,List.cons.injEq,ih]
   constructor
   · rintro ⟨e1,e2⟩;exact ⟨fit_inj a1 b1 e1,e2⟩
   · rintro ⟨e1,e2⟩;exact ⟨by rw [e1],e2⟩
def flatB (P:Program) (fs:Array Field) (ks:List FK):Bool:=(List.range ks.length).all fun i=>match fs[i]?,ks[i]? with
 | some f,some k=>decide (f.offset = i) && decide (P.cellsOf f.type = 1) && k.okB P f.type
 | _,_=>false
/-- A struct of such cells. -/
structure FlatS (P:Program) (t:TypeId) (fs:Array Field) (ks:List FK):Prop where
 ut:P.underlying t = some (.struct fs)
 n:fs.size = ks.length
 ct:P.cellsOf t = ks.length
 names:fs.all (·.name != "_") = true
 each:flatB P fs ks = true
 deep:EqAt P (9998 + 2) t
 guard:P.eqGuardType P.depth t = false
theorem FlatS.lits {P:Program} {t:TypeId} {fs:Array Field} {ks:List FK} (h:FlatS P t fs ks) {xs:List Data} (hx:FitD ks xs):P.keyLits 3 t (xs.map valD) = some (xs.map litD):=by
 rw [Program.keyLits.eq_def]
 simp only [h.ut]
 have hlen:xs.length = P.cellsOf t:=by rw [h.ct,hx.1]
 rw [if_pos ⟨by simp [hlen],h.names⟩]
 have key:∀ (n:Nat) (l:List Field),n + l.length = xs.length->(∀ i,i < l.length->l[i]? = fs[n + i]?)->(l.mapM fun f=>P.keyLits 2 f.type (((xs.map valD).drop f.offset).take (P.cellsOf f.type))) = some ((xs.drop n).map fun x=>[litD x]):=by
  intro n l
  induction l generalizing n with
  | nil=>intro hl _;simp at hl;rw [List.drop_of_length_le (by omega)];rfl
  | cons f l ih =>
    intro hl hf
    simp only [List.length_cons] at hl
    have hnl:n < xs.length:=by omega
    have hnk:n < ks.length:=by rw [<- hx.1];exact hnl
    have hfn:fs[n]? = some f:=by have:=hf 0 (by simp);simpa using this.symm
    have hall:=List.all_eq_true.1 h.each n (List.mem_range.2 hnk)
    rw [hfn,List.getElem?_eq_getElem hnk] at hall
    simp only [Bool.and_eq_true,decide_eq_true_eq] at hall
    obtain ⟨⟨ho,hc⟩,hk⟩:=hall
    have hfit:=hx.2 n ks[n] xs[n] (List.getElem?_eq_getElem hnk) (List.getElem?_eq_getElem hnl)
    rw [List.mapM_cons,ih (n + 1) (by omega) (fun i hi=>by have:=hf (i + 1) (by simp;omega);simpa [Nat.add_assoc,Nat.add_comm 1] using this)]
    have e1:((xs.map valD).drop f.offset).take (P.cellsOf f.type) = [valD xs[n]]:=by
     rw [ho,hc,List.drop_eq_getElem_cons (by simpa using hnl)];simp
    have e2:P.keyLits 2 f.type [valD xs[n]] = some [litD xs[n]]:=by
     generalize ks[n] = kk at hk hfit
     cases kk with
     | b =>
       obtain ⟨b,hb⟩:=hfit
       rw [hb,Program.keyLits.eq_def]
       simp only [FK.okB] at hk
       split at hk
       · rename_i hu;simp only [hu];rfl
       · cases hk
     | i k =>
       obtain ⟨m,hb,hw⟩:=hfit
       rw [hb,Program.keyLits.eq_def]
       simp only [FK.okB] at hk
       split at hk
       · rename_i q hu
         have hq:q = k:=by simpa using hk
         subst hq
         simp only [hu,valD]
         rw [if_pos (by simpa using hw)];rfl
       · cases hk
     | s =>
       obtain ⟨st,hb,hw⟩:=hfit
       rw [hb,Program.keyLits.eq_def]
       simp only [FK.okB] at hk
       split at hk
       · rename_i hu
         simp only [hu,valD]
         rw [if_pos hw];rfl
       · cases hk
    rw [e1,e2,List.drop_eq_getElem_cons hnl]
    rfl
 have:=key 0 fs.toList (by simp [h.n,hx.1]) (fun i hi=>by simp)
 rw [this]
 simp only [List.drop_zero,Option.map_some,Option.some.injEq]
 rw [List.flatten_eq_flatMap,List.flatMap_map]
 have fm:∀ (l:List Data),(l.flatMap fun x=>id [litD x]) = l.map litD:=fun l=>by
  induction l with
  | nil=>rfl
  | cons a l ih =>
    simp only [List.flatMap_cons,List.map_cons,id] at ih ⊢
    rw [ih];rfl
 exact fm xs
theorem fitD_vals {ks:List FK} {xs:List Data} {vs:Array Value} {L:Nat->Prop} {w:World} (hx:FitD ks xs) (hl:xs.length = vs.size) (h:∀ (i:Nat) (x:Data) (v:Value),xs[i]? = some x->vs[i]? = some v->VD L w x v):vs = (xs.map valD).toArray:=by
 apply Array.ext
 · simp [hl]
 · intro i h1 h2
   have hi:i < xs.length:=by simpa using h2
   have hk:i < ks.length:=by rw [<- hx.1];exact hi
   have hv:=h i xs[i] vs[i] (List.getElem?_eq_getElem hi) (Array.getElem?_eq_getElem h1)
   rw [fit_val (hx.2 i ks[i] xs[i] (List.getElem?_eq_getElem hk) (List.getElem?_eq_getElem hi)) hv]
   simp
/-- Two of them,in the walk. -/
theorem eqK_flat {P:Program} {t:TypeId} {fs:Array Field} {ks:List FK} (h:FlatS P t fs ks) {xs ys:List Data} (hx:FitD ks xs) (hy:FitD ks ys) {p:Prop} [Decidable p] (hp:xs = ys ↔ p) {K:Bool->Prop} (hk:K (decide p)):eqK P t (.agg xs) (.agg ys) K:=by
 refine ⟨_,fun L w ox oy vx vy h1 h2=>?_,hk⟩
 cases h1 with
 | agg _ vs hs hv =>
 cases h2 with
 | agg _ us hs2 hv2 =>
 obtain rfl:=fitD_vals hx hs hv
 obtain rfl:=fitD_vals hy hs2 hv2
 refine ⟨fun op=>run_eqGuard_agg w op t ox oy _ _ h.guard,?_⟩
 have formed:∀ (l:List Data),FitD ks l->(Value.agg (l.map valD).toArray).formed P t = true:=by
  intro l hl
  simp only [Value.formed,h.ut,h.ct]
  simp [hl.1]
 obtain ⟨r,hr,hi⟩:=h.deep w 3 3 _ _ (xs.map litD) (ys.map litD) (formed xs hx) (formed ys hy) (by simpa [Value.cells] using h.lits hx) (by simpa [Value.cells] using h.lits hy)
 have e:r = decide p:=by
  rw [Bool.eq_iff_iff,hi,fitD_inj hx hy,hp]
  simp
 rw [<- e]
 exact hr
namespace Fs
theorem auto_flat:∃ fs,FlatS Tryd.prog 23 fs [.i .i64,.i .i64,.i .i64,.i .u8]:=⟨_,{
 ut:=Tryd.underlying23
 n:=rfl
 ct:=by kernel_rfl
 names:=by simp
 each:=by kernel_rfl
 deep:=run_equalIn_deep 9998 2 23 (by kernel_rfl)
 guard:=by kernel_rfl }⟩
def I64 (n:Int):Prop:=-9223372036854775808≤n∧n≤9223372036854775807
/-- An automaton,as it may come. -/
def AuT (a:Au):Prop:=I64 a.s∧I64 a.c∧I64 a.l∧a.id < 256
theorem au_fit {a:Au} (h:AuT a):FitD [.i .i64,.i .i64,.i .i64,.i .u8] [.int .i64 a.s,.int .i64 a.c,.int .i64 a.l,.int .u8 a.id]:=by
 simp only [fitD_cons,fitD_nil]
 exact ⟨fit_int h.1,fit_int h.2.1,fit_int h.2.2.1,fit_int (by have:=h.2.2.2;show (0:Int)≤_∧_≤(255:Int);omega),trivial⟩
theorem au_eq (a c:Au):([.int .i64 a.s,.int .i64 a.c,.int .i64 a.l,.int .u8 a.id]:List Data) = [.int .i64 c.s,.int .i64 c.c,.int .i64 c.l,.int .u8 c.id] ↔ a = c:=by
 cases a;cases c;simp
 intros;omega
theorem eqK_auto {a c:Au} (ha:AuT a) (hc:AuT c) {K:Bool->Prop} (hk:K (decide (a = c))):eqK Tryd.prog 23 (.agg [.int .i64 a.s,.int .i64 a.c,.int .i64 a.l,.int .u8 a.id]) (.agg [.int .i64 c.s,.int .i64 c.c,.int .i64 c.l,.int .u8 c.id]) K:=by
 obtain ⟨fs,hf⟩:=auto_flat
 exact eqK_flat hf (au_fit ha) (au_fit hc) (au_eq a c) hk
theorem RightA.ty {a:Au} (h:RightA a) (hi:a.id < 256):AuT a:=by
 obtain ⟨h1,h2,h3⟩:=h
 refine ⟨⟨by omega,by omega⟩,⟨by omega,by omega⟩,?_,hi⟩
 rcases h3 with ⟨_,k⟩ | ⟨_,k⟩
 · exact ⟨by omega,by omega⟩
 · exact ⟨by omega,by omega⟩
theorem arg_au {n:Nat} {x:Data} (a:argD Tryd.prog (n + 2) 23 x):∃ a:Au,AuT a∧x = au a:=by
 obtain ⟨ds,rfl,h⟩:=arg_struct Tryd.underlying23 a
 obtain ⟨d1,r1,rfl,h1,h⟩:=okF_cons h
 obtain ⟨d2,r2,rfl,h2,h⟩:=okF_cons h
 obtain ⟨d3,r3,rfl,h3,h⟩:=okF_cons h
 obtain ⟨d4,r4,rfl,h4,h⟩:=okF_cons h
 obtain rfl:=okF_nil h
 obtain ⟨i1,a1,b1,rfl⟩:=ok_i64 Tryd.underlying3 h1
 obtain ⟨i2,a2,b2,rfl⟩:=ok_i64 Tryd.underlying3 h2
 obtain ⟨i3,a3,b3,rfl⟩:=ok_i64 Tryd.underlying3 h3
 obtain ⟨i4,a4,b4,rfl⟩:=ok_int Tryd.underlying5 h4
 have e1:IntKind.u8.min = 0:=by decide
 have e2:IntKind.u8.max = 255:=by decide
 obtain ⟨m,rfl⟩:∃ m:Nat,i4 = m:=⟨i4.toNat,by omega⟩
 exact ⟨⟨i1,i2,i3,m⟩,⟨⟨a1,b1⟩,⟨a2,b2⟩,⟨a3,b3⟩,by show m < 256;omega⟩,rfl⟩
theorem arg_ints {n:Nat} {x:Data} (a:argD Tryd.prog (n + 2) 27 x):∃ l:List Int,x = nums l∧l.length≤140737488351232:=by
 obtain ⟨l,rfl,hl,h⟩:=arg_slice Tryd.underlying27 a
 have key:∀ l:List Data,(∀ x∈l,argD Tryd.prog (n + 1) 3 x)->∃ m:List Int,l = m.map fun i=>Data.int .i64 i:=by
  intro l
  induction l with
  | nil=>exact fun _=>⟨[],rfl⟩
  | cons y t ih =>
    intro h
    obtain ⟨i,_,_,rfl⟩:=arg_i64 Tryd.underlying3 (h _ List.mem_cons_self)
    obtain ⟨m,rfl⟩:=ih fun z hz=>h z (List.mem_cons_of_mem _ hz)
    exact ⟨i :: m,rfl⟩
 obtain ⟨m,rfl⟩:=key l h
 exact ⟨m,by unfold nums;rfl,by simpa using hl⟩
end Fs
namespace Fs
theorem do_up (j:Nat):doA ⟨1,0,0,j⟩ 0 = ⟨6,4,3,(j + 1) % 256⟩∧doL ⟨1,0,0,j⟩ 0 = [5,7]∧doE ⟨1,0,0,j⟩ 0 = 0:=by
 have e:nextF 1 0 = ([5,7],6,true):=by decide +kernel
 unfold doA doL doE
 simp only
 rw [e]
 exact ⟨rfl,rfl,rfl⟩
theorem do_close (j:Nat):doA ⟨6,4,3,j⟩ 3 = ⟨4,1,3,(j + 1) % 256⟩∧doL ⟨6,4,3,j⟩ 3 = [5,10]∧doE ⟨6,4,3,j⟩ 3 = 0:=by
 have e:nextF 6 3 = ([5,10],4,true):=by decide +kernel
 unfold doA doL doE
 simp only
 rw [e]
 exact ⟨rfl,rfl,rfl⟩
theorem upA_right (j:Nat):RightA ⟨6,4,3,j⟩:=by unfold RightA Tm;simp
theorem closeA_right (j:Nat):RightA ⟨4,1,3,j⟩:=by unfold RightA Tm;simp
section
variable (Γ:Nat->Option (List Data))
set_option maxHeartbeats 4000000 in
theorem shown12_pc (hΓ:Spaces Γ):PC Tryd.prog Γ 9 [] (.bool true):=by
 refine pc_by mixed Tryd.func9 rfl (fun args w=>Tryd.call9 args w) ?_
 have c1:=ado_pc Γ hΓ ⟨1,0,0,0⟩ 0 (by simp) (by simp)
 rw [(do_up 0).1,(do_up 0).2.1,(do_up 0).2.2] at c1
 have c2:=bound_pc Γ
 have hq:quietA ⟨6,4,3,1⟩ 18 = ⟨3,0,0,5⟩:=by decide +kernel
 have c3:=aquiet_pc Γ hΓ ⟨6,4,3,1⟩ 18 (upA_right 1) (by simp) (by simp)
 rw [show min (18:Int).toNat 18 = 18 from rfl,hq] at c3
 have c4:=atick_pc Γ hΓ ⟨3,0,0,5⟩ (by simp) (by simp) (by simp)
 rw [show tickA ⟨3,0,0,5⟩ = ⟨3,0,0,5⟩ from rfl,show tickL ⟨3,0,0,5⟩ = [] from rfl] at c4
 have c5:=aright_pc Γ ⟨6,4,3,1⟩
 rw [decide_eq_true (upA_right 1)] at c5
 have t1:AuT ⟨6,4,3,1⟩:=(upA_right 1).ty (by simp)
 have t2:AuT ⟨3,0,0,5⟩:=by unfold AuT I64;simp
 unfold au at c1 c3 c4 c5
 unfold nums at c1 c4
 simp -implicitDefEqProofs (disch:=omega) [go_sem]
 refine .inl (call_data c1 (by simp [go_sem]) ?_)
 simp -implicitDefEqProofs (disch:=omega) [go_sem]
 refine .inl (call_data c2 (by simp [go_sem]) ?_)
 simp -implicitDefEqProofs (disch:=omega) [go_sem]
 refine .inl (call_data c3 (by simp [go_sem]) ?_)
 simp -implicitDefEqProofs (disch:=omega) [go_sem]
 refine side (by kernel_rfl) ?_
 simp -implicitDefEqProofs (disch:=omega) [go_sem]
 refine .inl (call_data c4 (by simp [go_sem]) ?_)
 simp -implicitDefEqProofs (disch:=omega) [go_sem]
 refine eqK_auto t1 t1 ?_
 simp -implicitDefEqProofs (disch:=omega) [go_sem]
 refine .inl (call_data c5 (by simp [go_sem]) ?_)
 simp -implicitDefEqProofs (disch:=omega) [go_sem]
 refine .inl (call_data c2 (by simp [go_sem]) ?_)
 simp -implicitDefEqProofs (disch:=omega) [go_sem]
 refine eqK_auto t2 t2 ?_
 simp -implicitDefEqProofs (disch:=omega) [go_sem,Tryd.f9]
end
end Fs
namespace Fs
theorem right_l {a:Au} (h:RightA a):0≤a.l∧a.l≤3:=by have:=h.2.2;omega
section
variable (Γ:Nat->Option (List Data))
set_option maxHeartbeats 4000000 in
theorem tells12_pc (hΓ:Spaces Γ) (a:Au) (e n:Int) (ha:AuT a):PC Tryd.prog Γ 3 [au a,.int .i64 e,.int .i64 n] (.bool true):=by
 refine pc_by mixed Tryd.func3 rfl (fun args w=>Tryd.call3 args w) ?_
 have c0:=shown12_pc Γ hΓ
 by_cases g1:n < 0
 · unfold au
   simp -implicitDefEqProofs (disch:=omega) [go_sem]
   refine .inl (call_data c0 (by simp [go_sem]) ?_)
   simp -implicitDefEqProofs (disch:=omega) [go_sem,Tryd.f3]
 by_cases g2:1000 < n
 · unfold au
   simp -implicitDefEqProofs (disch:=omega) [go_sem]
   refine .inl (call_data c0 (by simp [go_sem]) ?_)
   simp -implicitDefEqProofs (disch:=omega) [go_sem,Tryd.f3]
 have c1:=raright_pc Γ a
 have c2:=aright_pc Γ a
 have c3:=bound_pc Γ
 by_cases hr:RightA a
 rotate_left
 · rw [decide_eq_false hr] at c1 c2
   unfold au at *
   simp -implicitDefEqProofs (disch:=omega) [go_sem]
   refine .inl (call_data c0 (by simp [go_sem]) ?_)
   simp -implicitDefEqProofs (disch:=omega) [go_sem]
   refine .inl (call_data c1 (by simp [go_sem]) ?_)
   simp -implicitDefEqProofs (disch:=omega) [go_sem]
   refine .inl (call_data c2 (by simp [go_sem]) ?_)
   simp -implicitDefEqProofs (disch:=omega) [go_sem]
   refine .inl (call_data c3 (by simp [go_sem]) ?_)
   simp -implicitDefEqProofs (disch:=omega) [go_sem,Tryd.f3]
 rw [decide_eq_true hr] at c1 c2
 have hi:=ha.2.2.2
 have hl:=right_l hr
 have d1:=ado_pc Γ hΓ a e hr.2.1 hi
 have d2:=rado_pc Γ a e hr.2.1 hi
 have d3:=atick_pc Γ hΓ a hr.2.1 hi (by omega)
 have d4:=ratick_pc Γ a hr.2.1 hi (by omega)
 have d5:=aquiet_pc Γ hΓ a n hr hi (by omega)
 have d6:=raquiet_pc Γ a n hr hi (by omega)
 rw [<- quiet_all hr hi (min n.toNat 100),show min (min n.toNat 100) 18 = min n.toNat 18 by omega] at d6
 have i1:=rints_pc Γ (doL a e) (doL a e) (by have:=doL_len a e;omega) (by have:=doL_len a e;omega)
 have i2:=rints_pc Γ (tickL a) (tickL a) (by have:=tickL_len a;omega) (by have:=tickL_len a;omega)
 rw [decide_eq_true rfl] at i1 i2
 have t1:AuT (doA a e):=(right_do hr hi).ty (doA_fit hr.2.1 hi).2
 have t2:AuT (tickA a):=(right_tick hr hi).ty (tickA_fit hr.2.1 hi).2
 have t3:AuT (quietA a (min n.toNat 18)):=(right_quiet hr hi _).ty (quietA_fit hr.2.1 hi _).2
 generalize doA a e = A at *
 generalize doL a e = L at *
 generalize doE a e = E at *
 generalize tickA a = B at *
 generalize tickL a = M at *
 generalize quietA a (min n.toNat 18) = C at *
 unfold au at *
 unfold nums at d1 d2 d3 d4 i1 i2
 simp -implicitDefEqProofs (disch:=omega) [go_sem]
 refine .inl (call_data c0 (by simp [go_sem]) ?_)
 simp -implicitDefEqProofs (disch:=omega) [go_sem]
 refine .inl (call_data c1 (by simp [go_sem]) ?_)
 simp -implicitDefEqProofs (disch:=omega) [go_sem]
 refine .inl (call_data c2 (by simp [go_sem]) ?_)
 simp -implicitDefEqProofs (disch:=omega) [go_sem]
 refine .inl (call_data c3 (by simp [go_sem]) ?_)
 simp -implicitDefEqProofs (disch:=omega) [go_sem]
 refine .inl (call_data d1 (by simp [go_sem]) ?_)
 simp -implicitDefEqProofs (disch:=omega) [go_sem]
 refine .inl (call_data d2 (by simp [go_sem]) ?_)
 simp -implicitDefEqProofs (disch:=omega) [go_sem]
 refine .inl (call_data d3 (by simp [go_sem]) ?_)
 simp -implicitDefEqProofs (disch:=omega) [go_sem]
 refine .inl (call_data d4 (by simp [go_sem]) ?_)
 simp -implicitDefEqProofs (disch:=omega) [go_sem]
 refine eqK_auto t1 t1 ?_
 simp -implicitDefEqProofs (disch:=omega) [go_sem]
 refine .inl (call_data i1 (by simp [go_sem]) ?_)
 simp -implicitDefEqProofs (disch:=omega) [go_sem]
 refine eqK_auto t2 t2 ?_
 simp -implicitDefEqProofs (disch:=omega) [go_sem]
 refine .inl (call_data i2 (by simp [go_sem]) ?_)
 simp -implicitDefEqProofs (disch:=omega) [go_sem]
 refine .inl (call_data d5 (by simp [go_sem]) ?_)
 simp -implicitDefEqProofs (disch:=omega) [go_sem]
 refine .inl (call_data d6 (by simp [go_sem]) ?_)
 simp -implicitDefEqProofs (disch:=omega) [go_sem]
 refine eqK_auto t3 t3 ?_
 simp -implicitDefEqProofs (disch:=omega) [go_sem]
 refine side (by kernel_rfl) ?_
 simp -implicitDefEqProofs (disch:=omega) [go_sem,Tryd.f3]
set_option maxHeartbeats 4000000 in
theorem right12_pc (hΓ:Spaces Γ) (a:Au) (l:List Int) (ha:AuT a):PC Tryd.prog Γ 4 [au a,nums l] (.bool true):=by
 refine pc_by mixed Tryd.func4 rfl (fun args w=>Tryd.call4 args w) ?_
 have c0:=shown12_pc Γ hΓ
 have c1:=raright_pc Γ a
 by_cases hr:RightA a
 rotate_left
 · rw [decide_eq_false hr] at c1
   unfold au nums at *
   simp -implicitDefEqProofs (disch:=omega) [go_sem]
   refine .inl (call_data c0 (by simp [go_sem]) ?_)
   simp -implicitDefEqProofs (disch:=omega) [go_sem]
   refine .inl (call_data c1 (by simp [go_sem]) ?_)
   simp -implicitDefEqProofs (disch:=omega) [go_sem,Tryd.f4]
 rw [decide_eq_true hr] at c1
 by_cases hlen:200 < l.length
 · unfold au nums at *
   simp -implicitDefEqProofs (disch:=omega) [go_sem]
   refine .inl (call_data c0 (by simp [go_sem]) ?_)
   simp -implicitDefEqProofs (disch:=omega) [go_sem]
   refine .inl (call_data c1 (by simp [go_sem]) ?_)
   simp -implicitDefEqProofs (disch:=omega) [go_sem,Tryd.f4]
 have hi:=ha.2.2.2
 have hev:=fun i=>evsA_right (l.take i) hr hi
 unfold au nums at *
 simp -implicitDefEqProofs (disch:=omega) [go_sem]
 refine .inl (call_data c0 (by simp [go_sem]) ?_)
 simp -implicitDefEqProofs (disch:=omega) [go_sem]
 refine .inl (call_data c1 (by simp [go_sem]) ?_)
 simp -implicitDefEqProofs (disch:=omega) [go_sem]
 refine loop_ren (σ:={ i:Nat // i≤l.length }) (fun i=>⟨envL [(1,.data (.sl 1 (l.map fun n=>Data.int .i64 n))),(2,.ptr 0 0),(5,.data (.bool true)),(6,.data (.int .i64 i.1))],hpL [(0,.blk true [.data (.int .i64 (evsA a (l.take i.1)).s),.data (.int .i64 (evsA a (l.take i.1)).c),.data (.int .i64 (evsA a (l.take i.1)).l),.data (.int .u8 (evsA a (l.take i.1)).id)])],1,0,58⟩) (fun i=>l.length - i.1) ⟨0,by omega⟩ [] (rhoL [(0,some 0)]) ?_ ?_
 · apply ren_lists <;> simp -implicitDefEqProofs [go_sem,evsA]
 rintro ⟨i,hile⟩
 obtain ⟨hA,hAi⟩:=hev i
 by_cases h:i < l.length
 · have hst:=evsA_take l a i h
   have hB:=hev (i + 1)
   rw [hst] at hB
   generalize evsA a (l.take i) = A at *
   have hl:=right_l hA
   have d1:=ado_pc Γ hΓ A l[i] hA.2.1 hAi
   have t1:AuT (doA A l[i]):=(right_do hA hAi).ty (doA_fit hA.2.1 hAi).2
   have t0:AuT A:=hA.ty hAi
   have d2:=atick_pc Γ hΓ A hA.2.1 hAi (by omega)
   have c2:=raright_pc Γ (evA A l[i])
   rw [decide_eq_true hB.1] at c2
   rcases doE_is A l[i] with he | he
   · rw [show evA A l[i] = doA A l[i] by unfold evA;rw [if_pos he]] at hst c2
     rw [he] at d1
     generalize doA A l[i] = B at *
     generalize doL A l[i] = L at *
     unfold au nums at d1
     unfold au at c2
     simp -implicitDefEqProofs (disch:=omega) [go_sem]
     refine .inl (call_data d1 (by simp [go_sem]) ?_)
     simp -implicitDefEqProofs (disch:=omega) [go_sem]
     refine side (by kernel_rfl) ?_
     simp -implicitDefEqProofs (disch:=omega) [go_sem]
     refine .inl (call_data c2 (by simp [go_sem]) ?_)
     simp -implicitDefEqProofs (disch:=omega) [go_sem]
     refine next_ren ⟨i + 1,by omega⟩ (by simp only;omega) [] (rhoL [(0,some 0)]) ?_
     simp only [hst]
     apply ren_lists <;> simp -implicitDefEqProofs [go_sem]
   · have hn:=do_no he
     rw [show evA A l[i] = tickA A by unfold evA;rw [if_neg (by omega)]] at hst c2
     rw [he,hn.1,hn.2] at d1
     generalize tickA A = B at *
     generalize tickL A = M at *
     unfold au nums at d1 d2
     unfold au at c2
     simp -implicitDefEqProofs (disch:=omega) [go_sem]
     refine .inl (call_data d1 (by simp [go_sem]) ?_)
     simp -implicitDefEqProofs (disch:=omega) [go_sem]
     refine side (by kernel_rfl) ?_
     simp -implicitDefEqProofs (disch:=omega) [go_sem]
     refine eqK_auto t0 t0 ?_
     simp -implicitDefEqProofs (disch:=omega) [go_sem]
     refine .inl (call_data d2 (by simp [go_sem]) ?_)
     simp -implicitDefEqProofs (disch:=omega) [go_sem]
     refine .inl (call_data c2 (by simp [go_sem]) ?_)
     simp -implicitDefEqProofs (disch:=omega) [go_sem]
     refine next_ren ⟨i + 1,by omega⟩ (by simp only;omega) [] (rhoL [(0,some 0)]) ?_
     simp only [hst]
     apply ren_lists <;> simp -implicitDefEqProofs [go_sem]
 · have:i = l.length:=by omega
   subst this
   simp only [List.take_length] at *
   generalize evsA a l = A at *
   have c2:=aright_pc Γ A
   rw [decide_eq_true hA] at c2
   unfold au at c2
   simp -implicitDefEqProofs (disch:=omega) [go_sem]
   refine .inl (call_data c2 (by simp [go_sem]) ?_)
   simp -implicitDefEqProofs (disch:=omega) [go_sem,Tryd.f4]
end
end Fs
namespace Fs
theorem right_l2 {a:Au} (h:RightA a):0≤a.l∧a.l≤3:=by have:=h.2.2;omega
section
variable (Γ:Nat->Option (List Data))
set_option maxHeartbeats 4000000 in
theorem ends12_pc (hΓ:Spaces Γ) (a:Au) (n:Int) (ha:AuT a):PC Tryd.prog Γ 5 [au a,.int .i64 n] (.bool true):=by
 refine pc_by mixed Tryd.func5 rfl (fun args w=>Tryd.call5 args w) ?_
 have c0:=shown12_pc Γ hΓ
 have c1:=raright_pc Γ a
 by_cases hr:RightA a
 rotate_left
 · rw [decide_eq_false hr] at c1
   unfold au at *
   simp -implicitDefEqProofs (disch:=omega) [go_sem]
   refine .inl (call_data c0 (by simp [go_sem]) ?_)
   simp -implicitDefEqProofs (disch:=omega) [go_sem]
   refine .inl (call_data c1 (by simp [go_sem]) ?_)
   simp -implicitDefEqProofs (disch:=omega) [go_sem,Tryd.f5]
 rw [decide_eq_true hr] at c1
 by_cases g1:n < 0
 · unfold au at *
   simp -implicitDefEqProofs (disch:=omega) [go_sem]
   refine .inl (call_data c0 (by simp [go_sem]) ?_)
   simp -implicitDefEqProofs (disch:=omega) [go_sem]
   refine .inl (call_data c1 (by simp [go_sem]) ?_)
   simp -implicitDefEqProofs (disch:=omega) [go_sem,Tryd.f5]
 by_cases g2:1000 < n
 · unfold au at *
   simp -implicitDefEqProofs (disch:=omega) [go_sem]
   refine .inl (call_data c0 (by simp [go_sem]) ?_)
   simp -implicitDefEqProofs (disch:=omega) [go_sem]
   refine .inl (call_data c1 (by simp [go_sem]) ?_)
   simp -implicitDefEqProofs (disch:=omega) [go_sem,Tryd.f5]
 have hi:=ha.2.2.2
 have hl:=right_l2 hr
 have hinv:=fun i=>inv_run hr hi 0 i
 have hb:=fun i=>run_b ⟨0,3 - a.l,0,a⟩ i
 have c2:=bound_pc Γ
 unfold au at *
 simp -implicitDefEqProofs (disch:=omega) [go_sem]
 refine .inl (call_data c0 (by simp [go_sem]) ?_)
 simp -implicitDefEqProofs (disch:=omega) [go_sem]
 refine .inl (call_data c1 (by simp [go_sem]) ?_)
 simp -implicitDefEqProofs (disch:=omega) [go_sem]
 refine loop_ren (σ:={ i:Nat // i≤18 }) (fun i=>⟨envL [(1,.data (.int .i64 n)),(2,.ptr 0 0),(5,.data (.bool true)),(6,.data (.int .i64 (runR ⟨0,3 - a.l,0,a⟩ i.1).sent)),(7,.data (.int .i64 (runR ⟨0,3 - a.l,0,a⟩ i.1).since)),(8,.ptr 1 0),(9,.data (.int .i64 i.1))],hpL [(0,.blk true [.data (.int .i64 a.s),.data (.int .i64 a.c),.data (.int .i64 a.l),.data (.int .u8 a.id)]),(1,.blk true [.data (.int .i64 (runR ⟨0,3 - a.l,0,a⟩ i.1).b.s),.data (.int .i64 (runR ⟨0,3 - a.l,0,a⟩ i.1).b.c),.data (.int .i64 (runR ⟨0,3 - a.l,0,a⟩ i.1).b.l),.data (.int .u8 (runR ⟨0,3 - a.l,0,a⟩ i.1).b.id)])],2,0,111⟩) (fun i=>18 - i.1) ⟨0,by omega⟩ [] (rhoL [(0,some 0),(1,some 21)]) ?_ ?_
 · apply ren_lists <;> simp -implicitDefEqProofs [go_sem,runR]
 rintro ⟨i,hile⟩
 by_cases h:i < 18
 · have hI:=hinv i
   have hst:runR ⟨0,3 - a.l,0,a⟩ (i + 1) = stepR (runR ⟨0,3 - a.l,0,a⟩ i):=rfl
   unfold stepR at hst
   generalize runR ⟨0,3 - a.l,0,a⟩ i = R at *
   have hd:=right_l2 hI.rt
   have hsi:=hI.si
   have hse:=hI.se
   have d1:=atick_pc Γ hΓ R.b hI.rt.2.1 hI.id (by omega)
   have hsc:=fun k=>inv_since hI k
   have hln:=tickL_len R.b
   generalize tickL R.b = L at *
   generalize tickA R.b = B at *
   have c7:=rhas_pc Γ L 7 (by omega)
   have c10:=rhas_pc Γ L 10 (by omega)
   unfold au nums at d1
   unfold nums at c7 c10
   by_cases hL:L = []
   · subst hL
     rw [if_pos rfl] at hst
     simp only [List.not_mem_nil,or_self,if_false] at hst
     rw [decide_eq_false (by simp)] at c7 c10
     simp -implicitDefEqProofs (disch:=omega) [go_sem]
     refine .inl (call_data c2 (by simp [go_sem]) ?_)
     simp -implicitDefEqProofs (disch:=omega) [go_sem]
     refine .inl (call_data d1 (by simp [go_sem]) ?_)
     simp -implicitDefEqProofs (disch:=omega) [go_sem]
     refine .inl (call_data c7 (by simp [go_sem]) ?_)
     simp -implicitDefEqProofs (disch:=omega) [go_sem]
     refine .inl (call_data c10 (by simp [go_sem]) ?_)
     simp -implicitDefEqProofs (disch:=omega) [go_sem]
     refine next_ren ⟨i + 1,by omega⟩ (by simp only;omega) [] (rhoL [(0,some 0),(1,some 1)]) ?_
     simp only [hst]
     apply ren_lists <;> simp -implicitDefEqProofs [go_sem]
   · have h2:R.since = 2:=hsc hL
     have hpos:0 < L.length:=List.length_pos_iff.2 hL
     rw [if_neg hL] at hst
     by_cases m7:7∈L
     · rw [if_pos (.inl m7)] at hst
       rw [decide_eq_true m7] at c7
       simp -implicitDefEqProofs (disch:=omega) [go_sem,h2]
       refine .inl (call_data c2 (by simp [go_sem]) ?_)
       simp -implicitDefEqProofs (disch:=omega) [go_sem,h2]
       refine .inl (call_data d1 (by simp [go_sem]) ?_)
       simp -implicitDefEqProofs (disch:=omega) [go_sem,h2]
       refine .inl (call_data c7 (by simp [go_sem]) ?_)
       simp -implicitDefEqProofs (disch:=omega) [go_sem]
       refine next_ren ⟨i + 1,by omega⟩ (by simp only;omega) [] (rhoL [(0,some 0),(1,some 1)]) ?_
       simp only [hst]
       apply ren_lists <;> simp -implicitDefEqProofs [go_sem]
     rw [decide_eq_false m7] at c7
     by_cases m10:10∈L
     · rw [if_pos (.inr m10)] at hst
       rw [decide_eq_true m10] at c10
       simp -implicitDefEqProofs (disch:=omega) [go_sem,h2]
       refine .inl (call_data c2 (by simp [go_sem]) ?_)
       simp -implicitDefEqProofs (disch:=omega) [go_sem,h2]
       refine .inl (call_data d1 (by simp [go_sem]) ?_)
       simp -implicitDefEqProofs (disch:=omega) [go_sem,h2]
       refine .inl (call_data c7 (by simp [go_sem]) ?_)
       simp -implicitDefEqProofs (disch:=omega) [go_sem]
       refine .inl (call_data c10 (by simp [go_sem]) ?_)
       simp -implicitDefEqProofs (disch:=omega) [go_sem]
       refine next_ren ⟨i + 1,by omega⟩ (by simp only;omega) [] (rhoL [(0,some 0),(1,some 1)]) ?_
       simp only [hst]
       apply ren_lists <;> simp -implicitDefEqProofs [go_sem]
     · rw [if_neg (by rintro (k | k);exact m7 k;exact m10 k)] at hst
       rw [decide_eq_false m10] at c10
       simp -implicitDefEqProofs (disch:=omega) [go_sem,h2]
       refine .inl (call_data c2 (by simp [go_sem]) ?_)
       simp -implicitDefEqProofs (disch:=omega) [go_sem,h2]
       refine .inl (call_data d1 (by simp [go_sem]) ?_)
       simp -implicitDefEqProofs (disch:=omega) [go_sem,h2]
       refine .inl (call_data c7 (by simp [go_sem]) ?_)
       simp -implicitDefEqProofs (disch:=omega) [go_sem]
       refine .inl (call_data c10 (by simp [go_sem]) ?_)
       simp -implicitDefEqProofs (disch:=omega) [go_sem]
       refine next_ren ⟨i + 1,by omega⟩ (by simp only;omega) [] (rhoL [(0,some 0),(1,some 1)]) ?_
       simp only [hst]
       apply ren_lists <;> simp -implicitDefEqProofs [go_sem]
 · have:i = 18:=by omega
   subst this
   have hI:=hinv 18
   have hq:quietA a 18 = (runR ⟨0,3 - a.l,0,a⟩ 18).b:=(hb 18).symm
   have d1:=aquiet_pc Γ hΓ a 18 hr hi (by omega)
   have d2:=aquiet_pc Γ hΓ a (18 + n) hr hi (by omega)
   rw [show min (18:Int).toNat 18 = 18 from rfl,hq] at d1
   rw [show min (18 + n).toNat 18 = 18 by omega,hq] at d2
   have hend:¬ Tm (runR ⟨0,3 - a.l,0,a⟩ 18).b.s:=by rw [<- hq];exact quiet_end hr hi (Nat.le_refl _)
   generalize runR ⟨0,3 - a.l,0,a⟩ 18 = R at *
   have e1:=rtimed_pc Γ a.s
   have e2:=rtimed_pc Γ R.b.s
   rw [decide_eq_false (show ¬ (4≤R.b.s∧R.b.s≤8) from hend)] at e2
   have t1:AuT R.b:=hI.rt.ty hI.id
   have off:=hI.off hend
   have still:=hI.still hend
   have hst2:R.b.s = 2 ∨ R.b.s = 3 ∨ ¬ Tm a.s:=by
    by_cases k:Tm a.s
    · have:=(off k).2.2
      by_cases q:a.s = 4
      · rw [if_pos q] at this;exact .inl this
      · rw [if_neg q] at this;exact .inr (.inl this)
    · exact .inr (.inr k)
   clear hinv hb hI
   unfold au at d1 d2
   by_cases ht:Tm a.s
   · have hs:R.sent = a.c:=by have:=(off ht).1;omega
     rw [decide_eq_true (show 4≤a.s∧a.s≤8 from ht)] at e1
     rcases hst2 with k | k | k
     · simp -implicitDefEqProofs (disch:=omega) [go_sem]
       refine .inl (call_data c2 (by simp [go_sem]) ?_)
       simp -implicitDefEqProofs (disch:=omega) [go_sem]
       refine .inl (call_data e1 (by simp [go_sem]) ?_)
       simp -implicitDefEqProofs (disch:=omega) [go_sem]
       refine .inl (call_data e2 (by simp [go_sem]) ?_)
       simp -implicitDefEqProofs (disch:=omega) [go_sem]
       refine .inl (call_data c2 (by simp [go_sem]) ?_)
       simp -implicitDefEqProofs (disch:=omega) [go_sem]
       refine .inl (call_data d1 (by simp [go_sem]) ?_)
       simp -implicitDefEqProofs (disch:=omega) [go_sem]
       refine eqK_auto t1 t1 ?_
       simp -implicitDefEqProofs (disch:=omega) [go_sem]
       refine .inl (call_data c2 (by simp [go_sem]) ?_)
       simp -implicitDefEqProofs (disch:=omega) [go_sem]
       refine .inl (call_data d2 (by simp [go_sem]) ?_)
       simp -implicitDefEqProofs (disch:=omega) [go_sem]
       refine eqK_auto t1 t1 ?_
       simp -implicitDefEqProofs (disch:=omega) [go_sem]
       refine .inl (call_data e1 (by simp [go_sem]) ?_)
       simp -implicitDefEqProofs (disch:=omega) [go_sem]
       refine side (by kernel_rfl) ?_
       simp -implicitDefEqProofs (disch:=omega) [go_sem,Tryd.f5]
     · simp -implicitDefEqProofs (disch:=omega) [go_sem]
       refine .inl (call_data c2 (by simp [go_sem]) ?_)
       simp -implicitDefEqProofs (disch:=omega) [go_sem]
       refine .inl (call_data e1 (by simp [go_sem]) ?_)
       simp -implicitDefEqProofs (disch:=omega) [go_sem]
       refine .inl (call_data e2 (by simp [go_sem]) ?_)
       simp -implicitDefEqProofs (disch:=omega) [go_sem]
       refine .inl (call_data c2 (by simp [go_sem]) ?_)
       simp -implicitDefEqProofs (disch:=omega) [go_sem]
       refine .inl (call_data d1 (by simp [go_sem]) ?_)
       simp -implicitDefEqProofs (disch:=omega) [go_sem]
       refine eqK_auto t1 t1 ?_
       simp -implicitDefEqProofs (disch:=omega) [go_sem]
       refine .inl (call_data c2 (by simp [go_sem]) ?_)
       simp -implicitDefEqProofs (disch:=omega) [go_sem]
       refine .inl (call_data d2 (by simp [go_sem]) ?_)
       simp -implicitDefEqProofs (disch:=omega) [go_sem]
       refine eqK_auto t1 t1 ?_
       simp -implicitDefEqProofs (disch:=omega) [go_sem]
       refine .inl (call_data e1 (by simp [go_sem]) ?_)
       simp -implicitDefEqProofs (disch:=omega) [go_sem]
       refine side (by kernel_rfl) ?_
       simp -implicitDefEqProofs (disch:=omega) [go_sem,Tryd.f5]
     · exact absurd ht k
   · obtain ⟨s1,s2,s3⟩:=still ht
     rw [decide_eq_false (show ¬ (4≤a.s∧a.s≤8) from ht)] at e1
     simp -implicitDefEqProofs (disch:=omega) [go_sem]
     refine .inl (call_data c2 (by simp [go_sem]) ?_)
     simp -implicitDefEqProofs (disch:=omega) [go_sem]
     refine .inl (call_data e1 (by simp [go_sem]) ?_)
     simp -implicitDefEqProofs (disch:=omega) [go_sem]
     refine .inl (call_data e2 (by simp [go_sem]) ?_)
     simp -implicitDefEqProofs (disch:=omega) [go_sem]
     refine .inl (call_data c2 (by simp [go_sem]) ?_)
     simp -implicitDefEqProofs (disch:=omega) [go_sem]
     refine .inl (call_data d1 (by simp [go_sem]) ?_)
     simp -implicitDefEqProofs (disch:=omega) [go_sem]
     refine eqK_auto t1 t1 ?_
     simp -implicitDefEqProofs (disch:=omega) [go_sem]
     refine .inl (call_data c2 (by simp [go_sem]) ?_)
     simp -implicitDefEqProofs (disch:=omega) [go_sem]
     refine .inl (call_data d2 (by simp [go_sem]) ?_)
     simp -implicitDefEqProofs (disch:=omega) [go_sem]
     refine eqK_auto t1 t1 ?_
     simp -implicitDefEqProofs (disch:=omega) [go_sem]
     refine .inl (call_data e1 (by simp [go_sem]) ?_)
     simp -implicitDefEqProofs (disch:=omega) [go_sem]
     have t0:AuT a:=ha
     refine eqK_auto t1 t0 ?_
     rw [decide_eq_true s1]
     simp -implicitDefEqProofs (disch:=omega) [go_sem]
     refine side (by kernel_rfl) ?_
     simp -implicitDefEqProofs (disch:=omega) [go_sem,Tryd.f5]
end
end Fs
namespace Fs
section
variable (Γ:Nat->Option (List Data))
set_option maxHeartbeats 8000000 in
theorem ids12_pc (hΓ:Spaces Γ) (a:Au) (e:Int) (ha:AuT a):PC Tryd.prog Γ 6 [au a,.int .i64 e] (.bool true):=by
 refine pc_by mixed Tryd.func6 rfl (fun args w=>Tryd.call6 args w) ?_
 have c0:=shown12_pc Γ hΓ
 have c1:=raright_pc Γ a
 by_cases hr:RightA a
 rotate_left
 · rw [decide_eq_false hr] at c1
   unfold au at *
   simp -implicitDefEqProofs (disch:=omega) [go_sem]
   refine .inl (call_data c0 (by simp [go_sem]) ?_)
   simp -implicitDefEqProofs (disch:=omega) [go_sem]
   refine .inl (call_data c1 (by simp [go_sem]) ?_)
   simp -implicitDefEqProofs (disch:=omega) [go_sem,Tryd.f6]
 rw [decide_eq_true hr] at c1
 have hi:=ha.2.2.2
 have d1:=ado_pc Γ hΓ a e hr.2.1 hi
 have t1:AuT (doA a e):=(right_do hr hi).ty (doA_fit hr.2.1 hi).2
 have hc:=hr.2.1
 rcases doE_is a e with he | he
 rotate_left
 · have hn:=do_no he
   rw [he,hn.1,hn.2] at d1
   unfold au nums at d1
   unfold au at *
   simp -implicitDefEqProofs (disch:=omega) [go_sem]
   refine .inl (call_data c0 (by simp [go_sem]) ?_)
   simp -implicitDefEqProofs (disch:=omega) [go_sem]
   refine .inl (call_data c1 (by simp [go_sem]) ?_)
   simp -implicitDefEqProofs (disch:=omega) [go_sem]
   refine .inl (call_data d1 (by simp [go_sem]) ?_)
   simp -implicitDefEqProofs (disch:=omega) [go_sem]
   refine eqK_auto ha ha ?_
   simp -implicitDefEqProofs (disch:=omega) [go_sem,Tryd.f6]
 rw [he] at d1
 obtain ⟨y1,y2⟩:=ids_is hr hi he
 have hln:=doL_len a e
 generalize doL a e = L at *
 generalize doA a e = B at *
 have k7:=rhas_pc Γ L 7 (by omega)
 have k10:=rhas_pc Γ L 10 (by omega)
 have k5:=rhas_pc Γ L 5 (by omega)
 have k6:=rhas_pc Γ L 6 (by omega)
 unfold fromC at y1 y2
 unfold nums at k7 k10 k5 k6
 unfold au nums at d1
 unfold au at *
 by_cases m7:7∈L
 · rw [decide_eq_true m7] at k7
   by_cases m10:10∈L
   · rw [decide_eq_true m10] at k10
     by_cases m5:5∈L
     · rw [decide_eq_true m5] at k5
       by_cases m6:6∈L
       · rw [decide_eq_true m6] at k6
         have y:=y1 (.inl m7)
         clear y1 y2
         simp only [if_pos m6] at y
         obtain ⟨z1,z2,z3⟩:=y
         have z4:B.c = max (0 - 1) 0:=by rw [z3];omega
         clear z3
         simp -implicitDefEqProofs (disch:=omega) [go_sem]
         refine .inl (call_data c0 (by simp [go_sem]) ?_)
         simp -implicitDefEqProofs (disch:=omega) [go_sem]
         refine .inl (call_data c1 (by simp [go_sem]) ?_)
         simp -implicitDefEqProofs (disch:=omega) [go_sem]
         refine .inl (call_data d1 (by simp [go_sem]) ?_)
         simp -implicitDefEqProofs (disch:=omega) [go_sem]
         refine .inl (call_data k7 (by simp [go_sem]) ?_)
         simp -implicitDefEqProofs (disch:=omega) [go_sem]
         refine .inl (call_data k5 (by simp [go_sem]) ?_)
         simp -implicitDefEqProofs (disch:=omega) [go_sem]
         refine .inl (call_data k10 (by simp [go_sem]) ?_)
         simp -implicitDefEqProofs (disch:=omega) [go_sem]
         refine .inl (call_data k6 (by simp [go_sem]) ?_)
         simp -implicitDefEqProofs (disch:=omega) [go_sem,Tryd.f6]
       · rw [decide_eq_false m6] at k6
         have y:=y1 (.inl m7)
         clear y1 y2
         simp only [if_neg m6,if_pos m5,if_pos m10] at y
         obtain ⟨z1,z2,z3⟩:=y
         have z4:B.c = max (2 - 1) 0:=by rw [z3];omega
         clear z3
         simp -implicitDefEqProofs (disch:=omega) [go_sem]
         refine .inl (call_data c0 (by simp [go_sem]) ?_)
         simp -implicitDefEqProofs (disch:=omega) [go_sem]
         refine .inl (call_data c1 (by simp [go_sem]) ?_)
         simp -implicitDefEqProofs (disch:=omega) [go_sem]
         refine .inl (call_data d1 (by simp [go_sem]) ?_)
         simp -implicitDefEqProofs (disch:=omega) [go_sem]
         refine .inl (call_data k7 (by simp [go_sem]) ?_)
         simp -implicitDefEqProofs (disch:=omega) [go_sem]
         refine .inl (call_data k5 (by simp [go_sem]) ?_)
         simp -implicitDefEqProofs (disch:=omega) [go_sem]
         refine .inl (call_data k10 (by simp [go_sem]) ?_)
         simp -implicitDefEqProofs (disch:=omega) [go_sem]
         refine .inl (call_data k6 (by simp [go_sem]) ?_)
         simp -implicitDefEqProofs (disch:=omega) [go_sem,Tryd.f6]
     · rw [decide_eq_false m5] at k5
       by_cases m6:6∈L
       · rw [decide_eq_true m6] at k6
         have y:=y1 (.inl m7)
         clear y1 y2
         simp only [if_pos m6] at y
         obtain ⟨z1,z2,z3⟩:=y
         have z4:B.c = max (0 - 1) 0:=by rw [z3];omega
         clear z3
         simp -implicitDefEqProofs (disch:=omega) [go_sem]
         refine .inl (call_data c0 (by simp [go_sem]) ?_)
         simp -implicitDefEqProofs (disch:=omega) [go_sem]
         refine .inl (call_data c1 (by simp [go_sem]) ?_)
         simp -implicitDefEqProofs (disch:=omega) [go_sem]
         refine .inl (call_data d1 (by simp [go_sem]) ?_)
         simp -implicitDefEqProofs (disch:=omega) [go_sem]
         refine .inl (call_data k7 (by simp [go_sem]) ?_)
         simp -implicitDefEqProofs (disch:=omega) [go_sem]
         refine .inl (call_data k5 (by simp [go_sem]) ?_)
         simp -implicitDefEqProofs (disch:=omega) [go_sem]
         refine .inl (call_data k6 (by simp [go_sem]) ?_)
         simp -implicitDefEqProofs (disch:=omega) [go_sem,Tryd.f6]
       · rw [decide_eq_false m6] at k6
         have y:=y1 (.inl m7)
         clear y1 y2
         simp only [if_neg m6,if_neg m5] at y
         obtain ⟨z1,z2,z3⟩:=y
         have z4:B.c = max (a.c - 1) 0:=by rw [z3];omega
         clear z3
         simp -implicitDefEqProofs (disch:=omega) [go_sem]
         refine .inl (call_data c0 (by simp [go_sem]) ?_)
         simp -implicitDefEqProofs (disch:=omega) [go_sem]
         refine .inl (call_data c1 (by simp [go_sem]) ?_)
         simp -implicitDefEqProofs (disch:=omega) [go_sem]
         refine .inl (call_data d1 (by simp [go_sem]) ?_)
         simp -implicitDefEqProofs (disch:=omega) [go_sem]
         refine .inl (call_data k7 (by simp [go_sem]) ?_)
         simp -implicitDefEqProofs (disch:=omega) [go_sem]
         refine .inl (call_data k5 (by simp [go_sem]) ?_)
         simp -implicitDefEqProofs (disch:=omega) [go_sem]
         refine .inl (call_data k6 (by simp [go_sem]) ?_)
         simp -implicitDefEqProofs (disch:=omega) [go_sem,Tryd.f6]
   · rw [decide_eq_false m10] at k10
     by_cases m5:5∈L
     · rw [decide_eq_true m5] at k5
       by_cases m6:6∈L
       · rw [decide_eq_true m6] at k6
         have y:=y1 (.inl m7)
         clear y1 y2
         simp only [if_pos m6] at y
         obtain ⟨z1,z2,z3⟩:=y
         have z4:B.c = max (0 - 1) 0:=by rw [z3];omega
         clear z3
         simp -implicitDefEqProofs (disch:=omega) [go_sem]
         refine .inl (call_data c0 (by simp [go_sem]) ?_)
         simp -implicitDefEqProofs (disch:=omega) [go_sem]
         refine .inl (call_data c1 (by simp [go_sem]) ?_)
         simp -implicitDefEqProofs (disch:=omega) [go_sem]
         refine .inl (call_data d1 (by simp [go_sem]) ?_)
         simp -implicitDefEqProofs (disch:=omega) [go_sem]
         refine .inl (call_data k7 (by simp [go_sem]) ?_)
         simp -implicitDefEqProofs (disch:=omega) [go_sem]
         refine .inl (call_data k5 (by simp [go_sem]) ?_)
         simp -implicitDefEqProofs (disch:=omega) [go_sem]
         refine .inl (call_data k10 (by simp [go_sem]) ?_)
         simp -implicitDefEqProofs (disch:=omega) [go_sem]
         refine .inl (call_data k6 (by simp [go_sem]) ?_)
         simp -implicitDefEqProofs (disch:=omega) [go_sem,Tryd.f6]
       · rw [decide_eq_false m6] at k6
         have y:=y1 (.inl m7)
         clear y1 y2
         simp only [if_neg m6,if_pos m5,if_neg m10] at y
         obtain ⟨z1,z2,z3⟩:=y
         have z4:B.c = max (5 - 1) 0:=by rw [z3];omega
         clear z3
         simp -implicitDefEqProofs (disch:=omega) [go_sem]
         refine .inl (call_data c0 (by simp [go_sem]) ?_)
         simp -implicitDefEqProofs (disch:=omega) [go_sem]
         refine .inl (call_data c1 (by simp [go_sem]) ?_)
         simp -implicitDefEqProofs (disch:=omega) [go_sem]
         refine .inl (call_data d1 (by simp [go_sem]) ?_)
         simp -implicitDefEqProofs (disch:=omega) [go_sem]
         refine .inl (call_data k7 (by simp [go_sem]) ?_)
         simp -implicitDefEqProofs (disch:=omega) [go_sem]
         refine .inl (call_data k5 (by simp [go_sem]) ?_)
         simp -implicitDefEqProofs (disch:=omega) [go_sem]
         refine .inl (call_data k10 (by simp [go_sem]) ?_)
         simp -implicitDefEqProofs (disch:=omega) [go_sem]
         refine .inl (call_data k6 (by simp [go_sem]) ?_)
         simp -implicitDefEqProofs (disch:=omega) [go_sem,Tryd.f6]
     · rw [decide_eq_false m5] at k5
       by_cases m6:6∈L
       · rw [decide_eq_true m6] at k6
         have y:=y1 (.inl m7)
         clear y1 y2
         simp only [if_pos m6] at y
         obtain ⟨z1,z2,z3⟩:=y
         have z4:B.c = max (0 - 1) 0:=by rw [z3];omega
         clear z3
         simp -implicitDefEqProofs (disch:=omega) [go_sem]
         refine .inl (call_data c0 (by simp [go_sem]) ?_)
         simp -implicitDefEqProofs (disch:=omega) [go_sem]
         refine .inl (call_data c1 (by simp [go_sem]) ?_)
         simp -implicitDefEqProofs (disch:=omega) [go_sem]
         refine .inl (call_data d1 (by simp [go_sem]) ?_)
         simp -implicitDefEqProofs (disch:=omega) [go_sem]
         refine .inl (call_data k7 (by simp [go_sem]) ?_)
         simp -implicitDefEqProofs (disch:=omega) [go_sem]
         refine .inl (call_data k5 (by simp [go_sem]) ?_)
         simp -implicitDefEqProofs (disch:=omega) [go_sem]
         refine .inl (call_data k6 (by simp [go_sem]) ?_)
         simp -implicitDefEqProofs (disch:=omega) [go_sem,Tryd.f6]
       · rw [decide_eq_false m6] at k6
         have y:=y1 (.inl m7)
         clear y1 y2
         simp only [if_neg m6,if_neg m5] at y
         obtain ⟨z1,z2,z3⟩:=y
         have z4:B.c = max (a.c - 1) 0:=by rw [z3];omega
         clear z3
         simp -implicitDefEqProofs (disch:=omega) [go_sem]
         refine .inl (call_data c0 (by simp [go_sem]) ?_)
         simp -implicitDefEqProofs (disch:=omega) [go_sem]
         refine .inl (call_data c1 (by simp [go_sem]) ?_)
         simp -implicitDefEqProofs (disch:=omega) [go_sem]
         refine .inl (call_data d1 (by simp [go_sem]) ?_)
         simp -implicitDefEqProofs (disch:=omega) [go_sem]
         refine .inl (call_data k7 (by simp [go_sem]) ?_)
         simp -implicitDefEqProofs (disch:=omega) [go_sem]
         refine .inl (call_data k5 (by simp [go_sem]) ?_)
         simp -implicitDefEqProofs (disch:=omega) [go_sem]
         refine .inl (call_data k6 (by simp [go_sem]) ?_)
         simp -implicitDefEqProofs (disch:=omega) [go_sem,Tryd.f6]
 · rw [decide_eq_false m7] at k7
   by_cases m10:10∈L
   · rw [decide_eq_true m10] at k10
     by_cases m5:5∈L
     · rw [decide_eq_true m5] at k5
       by_cases m6:6∈L
       · rw [decide_eq_true m6] at k6
         have y:=y1 (.inr m10)
         clear y1 y2
         simp only [if_pos m6] at y
         obtain ⟨z1,z2,z3⟩:=y
         have z4:B.c = max (0 - 1) 0:=by rw [z3];omega
         clear z3
         simp -implicitDefEqProofs (disch:=omega) [go_sem]
         refine .inl (call_data c0 (by simp [go_sem]) ?_)
         simp -implicitDefEqProofs (disch:=omega) [go_sem]
         refine .inl (call_data c1 (by simp [go_sem]) ?_)
         simp -implicitDefEqProofs (disch:=omega) [go_sem]
         refine .inl (call_data d1 (by simp [go_sem]) ?_)
         simp -implicitDefEqProofs (disch:=omega) [go_sem]
         refine .inl (call_data k7 (by simp [go_sem]) ?_)
         simp -implicitDefEqProofs (disch:=omega) [go_sem]
         refine .inl (call_data k10 (by simp [go_sem]) ?_)
         simp -implicitDefEqProofs (disch:=omega) [go_sem]
         refine .inl (call_data k5 (by simp [go_sem]) ?_)
         simp -implicitDefEqProofs (disch:=omega) [go_sem]
         refine .inl (call_data k10 (by simp [go_sem]) ?_)
         simp -implicitDefEqProofs (disch:=omega) [go_sem]
         refine .inl (call_data k6 (by simp [go_sem]) ?_)
         simp -implicitDefEqProofs (disch:=omega) [go_sem,Tryd.f6]
       · rw [decide_eq_false m6] at k6
         have y:=y1 (.inr m10)
         clear y1 y2
         simp only [if_neg m6,if_pos m5,if_pos m10] at y
         obtain ⟨z1,z2,z3⟩:=y
         have z4:B.c = max (2 - 1) 0:=by rw [z3];omega
         clear z3
         simp -implicitDefEqProofs (disch:=omega) [go_sem]
         refine .inl (call_data c0 (by simp [go_sem]) ?_)
         simp -implicitDefEqProofs (disch:=omega) [go_sem]
         refine .inl (call_data c1 (by simp [go_sem]) ?_)
         simp -implicitDefEqProofs (disch:=omega) [go_sem]
         refine .inl (call_data d1 (by simp [go_sem]) ?_)
         simp -implicitDefEqProofs (disch:=omega) [go_sem]
         refine .inl (call_data k7 (by simp [go_sem]) ?_)
         simp -implicitDefEqProofs (disch:=omega) [go_sem]
         refine .inl (call_data k10 (by simp [go_sem]) ?_)
         simp -implicitDefEqProofs (disch:=omega) [go_sem]
         refine .inl (call_data k5 (by simp [go_sem]) ?_)
         simp -implicitDefEqProofs (disch:=omega) [go_sem]
         refine .inl (call_data k10 (by simp [go_sem]) ?_)
         simp -implicitDefEqProofs (disch:=omega) [go_sem]
         refine .inl (call_data k6 (by simp [go_sem]) ?_)
         simp -implicitDefEqProofs (disch:=omega) [go_sem,Tryd.f6]
     · rw [decide_eq_false m5] at k5
       by_cases m6:6∈L
       · rw [decide_eq_true m6] at k6
         have y:=y1 (.inr m10)
         clear y1 y2
         simp only [if_pos m6] at y
         obtain ⟨z1,z2,z3⟩:=y
         have z4:B.c = max (0 - 1) 0:=by rw [z3];omega
         clear z3
         simp -implicitDefEqProofs (disch:=omega) [go_sem]
         refine .inl (call_data c0 (by simp [go_sem]) ?_)
         simp -implicitDefEqProofs (disch:=omega) [go_sem]
         refine .inl (call_data c1 (by simp [go_sem]) ?_)
         simp -implicitDefEqProofs (disch:=omega) [go_sem]
         refine .inl (call_data d1 (by simp [go_sem]) ?_)
         simp -implicitDefEqProofs (disch:=omega) [go_sem]
         refine .inl (call_data k7 (by simp [go_sem]) ?_)
         simp -implicitDefEqProofs (disch:=omega) [go_sem]
         refine .inl (call_data k10 (by simp [go_sem]) ?_)
         simp -implicitDefEqProofs (disch:=omega) [go_sem]
         refine .inl (call_data k5 (by simp [go_sem]) ?_)
         simp -implicitDefEqProofs (disch:=omega) [go_sem]
         refine .inl (call_data k6 (by simp [go_sem]) ?_)
         simp -implicitDefEqProofs (disch:=omega) [go_sem,Tryd.f6]
       · rw [decide_eq_false m6] at k6
         have y:=y1 (.inr m10)
         clear y1 y2
         simp only [if_neg m6,if_neg m5] at y
         obtain ⟨z1,z2,z3⟩:=y
         have z4:B.c = max (a.c - 1) 0:=by rw [z3];omega
         clear z3
         simp -implicitDefEqProofs (disch:=omega) [go_sem]
         refine .inl (call_data c0 (by simp [go_sem]) ?_)
         simp -implicitDefEqProofs (disch:=omega) [go_sem]
         refine .inl (call_data c1 (by simp [go_sem]) ?_)
         simp -implicitDefEqProofs (disch:=omega) [go_sem]
         refine .inl (call_data d1 (by simp [go_sem]) ?_)
         simp -implicitDefEqProofs (disch:=omega) [go_sem]
         refine .inl (call_data k7 (by simp [go_sem]) ?_)
         simp -implicitDefEqProofs (disch:=omega) [go_sem]
         refine .inl (call_data k10 (by simp [go_sem]) ?_)
         simp -implicitDefEqProofs (disch:=omega) [go_sem]
         refine .inl (call_data k5 (by simp [go_sem]) ?_)
         simp -implicitDefEqProofs (disch:=omega) [go_sem]
         refine .inl (call_data k6 (by simp [go_sem]) ?_)
         simp -implicitDefEqProofs (disch:=omega) [go_sem,Tryd.f6]
   · rw [decide_eq_false m10] at k10
     by_cases m5:5∈L
     · rw [decide_eq_true m5] at k5
       by_cases m6:6∈L
       · rw [decide_eq_true m6] at k6
         have y:=y2 (by rintro (q | q);exact m7 q;exact m10 q)
         clear y1 y2
         simp only [if_pos m6] at y
         obtain ⟨z1,z2⟩:=y
         simp -implicitDefEqProofs (disch:=omega) [go_sem]
         refine .inl (call_data c0 (by simp [go_sem]) ?_)
         simp -implicitDefEqProofs (disch:=omega) [go_sem]
         refine .inl (call_data c1 (by simp [go_sem]) ?_)
         simp -implicitDefEqProofs (disch:=omega) [go_sem]
         refine .inl (call_data d1 (by simp [go_sem]) ?_)
         simp -implicitDefEqProofs (disch:=omega) [go_sem]
         refine .inl (call_data k7 (by simp [go_sem]) ?_)
         simp -implicitDefEqProofs (disch:=omega) [go_sem]
         refine .inl (call_data k10 (by simp [go_sem]) ?_)
         simp -implicitDefEqProofs (disch:=omega) [go_sem]
         refine .inl (call_data k5 (by simp [go_sem]) ?_)
         simp -implicitDefEqProofs (disch:=omega) [go_sem]
         refine .inl (call_data k10 (by simp [go_sem]) ?_)
         simp -implicitDefEqProofs (disch:=omega) [go_sem]
         refine .inl (call_data k6 (by simp [go_sem]) ?_)
         simp -implicitDefEqProofs (disch:=omega) [go_sem,Tryd.f6]
       · rw [decide_eq_false m6] at k6
         have y:=y2 (by rintro (q | q);exact m7 q;exact m10 q)
         clear y1 y2
         simp only [if_neg m6,if_pos m5,if_neg m10] at y
         obtain ⟨z1,z2⟩:=y
         simp -implicitDefEqProofs (disch:=omega) [go_sem]
         refine .inl (call_data c0 (by simp [go_sem]) ?_)
         simp -implicitDefEqProofs (disch:=omega) [go_sem]
         refine .inl (call_data c1 (by simp [go_sem]) ?_)
         simp -implicitDefEqProofs (disch:=omega) [go_sem]
         refine .inl (call_data d1 (by simp [go_sem]) ?_)
         simp -implicitDefEqProofs (disch:=omega) [go_sem]
         refine .inl (call_data k7 (by simp [go_sem]) ?_)
         simp -implicitDefEqProofs (disch:=omega) [go_sem]
         refine .inl (call_data k10 (by simp [go_sem]) ?_)
         simp -implicitDefEqProofs (disch:=omega) [go_sem]
         refine .inl (call_data k5 (by simp [go_sem]) ?_)
         simp -implicitDefEqProofs (disch:=omega) [go_sem]
         refine .inl (call_data k10 (by simp [go_sem]) ?_)
         simp -implicitDefEqProofs (disch:=omega) [go_sem]
         refine .inl (call_data k6 (by simp [go_sem]) ?_)
         simp -implicitDefEqProofs (disch:=omega) [go_sem,Tryd.f6]
     · rw [decide_eq_false m5] at k5
       by_cases m6:6∈L
       · rw [decide_eq_true m6] at k6
         have y:=y2 (by rintro (q | q);exact m7 q;exact m10 q)
         clear y1 y2
         simp only [if_pos m6] at y
         obtain ⟨z1,z2⟩:=y
         simp -implicitDefEqProofs (disch:=omega) [go_sem]
         refine .inl (call_data c0 (by simp [go_sem]) ?_)
         simp -implicitDefEqProofs (disch:=omega) [go_sem]
         refine .inl (call_data c1 (by simp [go_sem]) ?_)
         simp -implicitDefEqProofs (disch:=omega) [go_sem]
         refine .inl (call_data d1 (by simp [go_sem]) ?_)
         simp -implicitDefEqProofs (disch:=omega) [go_sem]
         refine .inl (call_data k7 (by simp [go_sem]) ?_)
         simp -implicitDefEqProofs (disch:=omega) [go_sem]
         refine .inl (call_data k10 (by simp [go_sem]) ?_)
         simp -implicitDefEqProofs (disch:=omega) [go_sem]
         refine .inl (call_data k5 (by simp [go_sem]) ?_)
         simp -implicitDefEqProofs (disch:=omega) [go_sem]
         refine .inl (call_data k6 (by simp [go_sem]) ?_)
         simp -implicitDefEqProofs (disch:=omega) [go_sem,Tryd.f6]
       · rw [decide_eq_false m6] at k6
         have y:=y2 (by rintro (q | q);exact m7 q;exact m10 q)
         clear y1 y2
         simp only [if_neg m6,if_neg m5] at y
         obtain ⟨z1,z2⟩:=y
         simp -implicitDefEqProofs (disch:=omega) [go_sem]
         refine .inl (call_data c0 (by simp [go_sem]) ?_)
         simp -implicitDefEqProofs (disch:=omega) [go_sem]
         refine .inl (call_data c1 (by simp [go_sem]) ?_)
         simp -implicitDefEqProofs (disch:=omega) [go_sem]
         refine .inl (call_data d1 (by simp [go_sem]) ?_)
         simp -implicitDefEqProofs (disch:=omega) [go_sem]
         refine .inl (call_data k7 (by simp [go_sem]) ?_)
         simp -implicitDefEqProofs (disch:=omega) [go_sem]
         refine .inl (call_data k10 (by simp [go_sem]) ?_)
         simp -implicitDefEqProofs (disch:=omega) [go_sem]
         refine .inl (call_data k5 (by simp [go_sem]) ?_)
         simp -implicitDefEqProofs (disch:=omega) [go_sem]
         refine .inl (call_data k6 (by simp [go_sem]) ?_)
         simp -implicitDefEqProofs (disch:=omega) [go_sem,Tryd.f6]
set_option maxHeartbeats 4000000 in
theorem quiet12_pc (hΓ:Spaces Γ) (a:Au) (m n:Nat) (ha:AuT a) (hm:m < 256) (hn:n < 256):PC Tryd.prog Γ 7 [au a,.int .u8 m,.int .u8 n] (.bool true):=by
 refine pc_by mixed Tryd.func7 rfl (fun args w=>Tryd.call7 args w) ?_
 have c0:=shown12_pc Γ hΓ
 have c1:=raright_pc Γ a
 by_cases hr:RightA a
 rotate_left
 · rw [decide_eq_false hr] at c1
   unfold au at *
   simp -implicitDefEqProofs (disch:=omega) [go_sem]
   refine .inl (call_data c0 (by simp [go_sem]) ?_)
   simp -implicitDefEqProofs (disch:=omega) [go_sem]
   refine .inl (call_data c1 (by simp [go_sem]) ?_)
   simp -implicitDefEqProofs (disch:=omega) [go_sem,Tryd.f7]
 rw [decide_eq_true hr] at c1
 have hi:=ha.2.2.2
 have hq:=fun i=>right_quiet hr hi i
 have hqi:=fun i=>(quietA_fit hr.2.1 hi i).2
 have d1:=aquiet_pc Γ hΓ a ((m:Int) % 30) hr hi (by omega)
 rw [quiet_all hr hi,show ((m:Int) % 30).toNat = m % 30 by omega] at d1
 have d2:=aquiet_pc Γ hΓ (quietA a (m % 30)) ((n:Int) % 30) (hq _) (hqi _) (by omega)
 rw [quiet_all (hq _) (hqi _),quiet_add,show ((n:Int) % 30).toNat = n % 30 by omega] at d2
 have d3:=aquiet_pc Γ hΓ a ((m:Int) % 30 + (n:Int) % 30) hr hi (by omega)
 rw [quiet_all hr hi,show ((m:Int) % 30 + (n:Int) % 30).toNat = m % 30 + n % 30 by omega] at d3
 have d4:=aquiet_pc Γ hΓ a 0 hr hi (by omega)
 rw [show quietA a (min (0:Int).toNat 18) = a from rfl] at d4
 have d5:=aquiet_pc Γ hΓ a (-5) hr hi (by omega)
 rw [show quietA a (min (-5:Int).toNat 18) = a from rfl] at d5
 have t1:AuT (quietA a (m % 30)):=(hq _).ty (hqi _)
 have t2:AuT (quietA a (m % 30 + n % 30)):=(hq _).ty (hqi _)
 generalize hM:quietA a (m % 30) = M at *
 generalize quietA a (m % 30 + n % 30) = Q at *
 unfold au at *
 simp -implicitDefEqProofs (disch:=omega) [go_sem]
 refine .inl (call_data c0 (by simp [go_sem]) ?_)
 simp -implicitDefEqProofs (disch:=omega) [go_sem]
 refine .inl (call_data c1 (by simp [go_sem]) ?_)
 simp -implicitDefEqProofs (disch:=omega) [go_sem]
 refine .inl (call_data d1 (by simp [go_sem]) ?_)
 simp -implicitDefEqProofs (disch:=omega) [go_sem]
 refine loop_ren (σ:={ i:Nat // i≤m % 30 }) (fun i=>⟨envL [(1,.data (.int .u8 m)),(2,.data (.int .u8 n)),(3,.ptr 0 0),(7,.data (.bool true)),(8,.ptr 1 0),(9,.ptr 2 0),(10,.data (.int .i64 i.1))],hpL [(0,.blk true [.data (.int .i64 a.s),.data (.int .i64 a.c),.data (.int .i64 a.l),.data (.int .u8 a.id)]),(1,.blk true [.data (.int .i64 M.s),.data (.int .i64 M.c),.data (.int .i64 M.l),.data (.int .u8 M.id)]),(2,.blk true [.data (.int .i64 (quietA a i.1).s),.data (.int .i64 (quietA a i.1).c),.data (.int .i64 (quietA a i.1).l),.data (.int .u8 (quietA a i.1).id)])],3,0,72⟩) (fun i=>30 - i.1) ⟨0,by omega⟩ [] (rhoL [(0,some 0),(1,some 12),(2,some 15)]) ?_ ?_
 · apply ren_lists <;> simp -implicitDefEqProofs [go_sem,quietA]
 rintro ⟨i,hile⟩
 by_cases h:i < m % 30
 · have hl:=right_l (hq i)
   have e1:=atick_pc Γ hΓ (quietA a i) (hq i).2.1 (hqi i) (by omega)
   rw [show tickA (quietA a i) = quietA a (i + 1) from rfl] at e1
   generalize tickL (quietA a i) = L at *
   unfold au nums at e1
   simp -implicitDefEqProofs (disch:=omega) [go_sem]
   refine .inl (call_data e1 (by simp [go_sem]) ?_)
   simp -implicitDefEqProofs (disch:=omega) [go_sem]
   refine next_ren ⟨i + 1,by omega⟩ (by simp only;omega) [] (rhoL [(0,some 0),(1,some 1),(2,some 2)]) ?_
   apply ren_lists <;> simp -implicitDefEqProofs [go_sem]
 · have:i = m % 30:=by omega
   subst this
   rw [hM]
   simp -implicitDefEqProofs (disch:=omega) [go_sem]
   refine eqK_auto t1 t1 ?_
   simp -implicitDefEqProofs (disch:=omega) [go_sem]
   refine .inl (call_data d2 (by simp [go_sem]) ?_)
   simp -implicitDefEqProofs (disch:=omega) [go_sem]
   refine .inl (call_data d3 (by simp [go_sem]) ?_)
   simp -implicitDefEqProofs (disch:=omega) [go_sem]
   refine eqK_auto t2 t2 ?_
   simp -implicitDefEqProofs (disch:=omega) [go_sem]
   refine .inl (call_data d4 (by simp [go_sem]) ?_)
   simp -implicitDefEqProofs (disch:=omega) [go_sem]
   refine eqK_auto ha ha ?_
   simp -implicitDefEqProofs (disch:=omega) [go_sem]
   refine .inl (call_data d5 (by simp [go_sem]) ?_)
   simp -implicitDefEqProofs (disch:=omega) [go_sem]
   refine eqK_auto ha ha ?_
   simp -implicitDefEqProofs (disch:=omega) [go_sem]
   refine side (by kernel_rfl) ?_
   simp -implicitDefEqProofs (disch:=omega) [go_sem,Tryd.f7]
set_option maxHeartbeats 8000000 in
theorem sends12_pc (hΓ:Spaces Γ) (j:Nat) (v:Bool) (hj:j < 256):PC Tryd.prog Γ 8 [.int .u8 j,.bool v] (.bool true):=by
 refine pc_by mixed Tryd.func8 rfl (fun args w=>Tryd.call8 args w) ?_
 have c0:=shown12_pc Γ hΓ
 have c2:=bound_pc Γ
 have d1:=ado_pc Γ hΓ ⟨1,0,0,j⟩ 0 (by simp) hj
 rw [(do_up j).1,(do_up j).2.1,(do_up j).2.2] at d1
 generalize hj1:(j + 1) % 256 = j1 at *
 have hj1':j1 < 256:=by omega
 have d2:=ado_pc Γ hΓ ⟨6,4,3,j1⟩ 3 (by simp) hj1'
 rw [(do_close j1).1,(do_close j1).2.1,(do_close j1).2.2] at d2
 generalize hj2:(j1 + 1) % 256 = j2 at *
 have hj2':j2 < 256:=by omega
 unfold au nums at d1 d2
 cases v
 · obtain ⟨a,hae⟩:∃ a:Au,a = ⟨6,4,3,j1⟩:=⟨_,rfl⟩
   have hr:RightA a:=by rw [hae];exact upA_right j1
   have hi:a.id < 256:=by rw [hae];exact hj1'
   have hinv:=fun i=>inv_run hr hi 1 i
   have hb:=fun i=>run_b ⟨1,3 - a.l,0,a⟩ i
   simp -implicitDefEqProofs (disch:=omega) [go_sem]
   refine .inl (call_data c0 (by simp [go_sem]) ?_)
   simp -implicitDefEqProofs (disch:=omega) [go_sem]
   refine .inl (call_data d1 (by simp [go_sem]) ?_)
   simp -implicitDefEqProofs (disch:=omega) [go_sem]
   refine loop_ren (σ:={ i:Nat // i≤18 }) (fun i=>⟨envL [(1,.data (.bool false)),(5,.data (.bool true)),(6,.ptr 0 0),(8,.data (.int .i64 0)),(9,.data (.int .i64 5)),(13,.data (.int .i64 (runR ⟨1,3 - a.l,0,a⟩ i.1).sent)),(14,.data (.int .i64 (runR ⟨1,3 - a.l,0,a⟩ i.1).done)),(15,.data (.int .i64 i.1))],hpL [(0,.blk true [.data (.int .i64 (runR ⟨1,3 - a.l,0,a⟩ i.1).b.s),.data (.int .i64 (runR ⟨1,3 - a.l,0,a⟩ i.1).b.c),.data (.int .i64 (runR ⟨1,3 - a.l,0,a⟩ i.1).b.l),.data (.int .u8 (runR ⟨1,3 - a.l,0,a⟩ i.1).b.id)])],1,0,90⟩) (fun i=>18 - i.1) ⟨0,by omega⟩ [] (rhoL [(0,some 10)]) ?_ ?_
   · apply ren_lists <;> simp -implicitDefEqProofs [go_sem,runR,hae]
   rintro ⟨i,hile⟩
   by_cases h:i < 18
   · have hI:=hinv i
     have hst:runR ⟨1,3 - a.l,0,a⟩ (i + 1) = stepR (runR ⟨1,3 - a.l,0,a⟩ i):=rfl
     unfold stepR at hst
     generalize runR ⟨1,3 - a.l,0,a⟩ i = R at *
     have hd:=right_l hI.rt
     have hse:=hI.se
     have hdn:=hI.dn
     have e1:=atick_pc Γ hΓ R.b hI.rt.2.1 hI.id (by omega)
     have hln:=tickL_len R.b
     generalize tickL R.b = L at *
     generalize tickA R.b = B at *
     have c7:=rhas_pc Γ L 7 (by omega)
     have c10:=rhas_pc Γ L 10 (by omega)
     have c4:=rhas_pc Γ L 4 (by omega)
     unfold au nums at e1
     unfold nums at c7 c10 c4
     by_cases m7:7∈L
     · rw [decide_eq_true m7] at c7
       by_cases m4:4∈L
       · rw [decide_eq_true m4] at c4
         rw [if_pos (.inl m7)] at hst
         rw [if_pos m4] at hst
         simp -implicitDefEqProofs (disch:=omega) [go_sem]
         refine .inl (call_data c2 (by simp [go_sem]) ?_)
         simp -implicitDefEqProofs (disch:=omega) [go_sem]
         refine .inl (call_data e1 (by simp [go_sem]) ?_)
         simp -implicitDefEqProofs (disch:=omega) [go_sem]
         refine .inl (call_data c7 (by simp [go_sem]) ?_)
         simp -implicitDefEqProofs (disch:=omega) [go_sem]
         refine .inl (call_data c4 (by simp [go_sem]) ?_)
         simp -implicitDefEqProofs (disch:=omega) [go_sem]
         refine next_ren ⟨i + 1,by omega⟩ (by simp only;omega) [] (rhoL [(0,some 0)]) ?_
         simp only [hst]
         apply ren_lists <;> simp -implicitDefEqProofs [go_sem]
       · rw [decide_eq_false m4] at c4
         rw [if_pos (.inl m7)] at hst
         rw [if_neg m4] at hst
         simp -implicitDefEqProofs (disch:=omega) [go_sem]
         refine .inl (call_data c2 (by simp [go_sem]) ?_)
         simp -implicitDefEqProofs (disch:=omega) [go_sem]
         refine .inl (call_data e1 (by simp [go_sem]) ?_)
         simp -implicitDefEqProofs (disch:=omega) [go_sem]
         refine .inl (call_data c7 (by simp [go_sem]) ?_)
         simp -implicitDefEqProofs (disch:=omega) [go_sem]
         refine .inl (call_data c4 (by simp [go_sem]) ?_)
         simp -implicitDefEqProofs (disch:=omega) [go_sem]
         refine next_ren ⟨i + 1,by omega⟩ (by simp only;omega) [] (rhoL [(0,some 0)]) ?_
         simp only [hst]
         apply ren_lists <;> simp -implicitDefEqProofs [go_sem]
     · rw [decide_eq_false m7] at c7
       by_cases m10:10∈L
       · rw [decide_eq_true m10] at c10
         by_cases m4:4∈L
         · rw [decide_eq_true m4] at c4
           rw [if_pos (.inr m10)] at hst
           rw [if_pos m4] at hst
           simp -implicitDefEqProofs (disch:=omega) [go_sem]
           refine .inl (call_data c2 (by simp [go_sem]) ?_)
           simp -implicitDefEqProofs (disch:=omega) [go_sem]
           refine .inl (call_data e1 (by simp [go_sem]) ?_)
           simp -implicitDefEqProofs (disch:=omega) [go_sem]
           refine .inl (call_data c7 (by simp [go_sem]) ?_)
           simp -implicitDefEqProofs (disch:=omega) [go_sem]
           refine .inl (call_data c10 (by simp [go_sem]) ?_)
           simp -implicitDefEqProofs (disch:=omega) [go_sem]
           refine .inl (call_data c4 (by simp [go_sem]) ?_)
           simp -implicitDefEqProofs (disch:=omega) [go_sem]
           refine next_ren ⟨i + 1,by omega⟩ (by simp only;omega) [] (rhoL [(0,some 0)]) ?_
           simp only [hst]
           apply ren_lists <;> simp -implicitDefEqProofs [go_sem]
         · rw [decide_eq_false m4] at c4
           rw [if_pos (.inr m10)] at hst
           rw [if_neg m4] at hst
           simp -implicitDefEqProofs (disch:=omega) [go_sem]
           refine .inl (call_data c2 (by simp [go_sem]) ?_)
           simp -implicitDefEqProofs (disch:=omega) [go_sem]
           refine .inl (call_data e1 (by simp [go_sem]) ?_)
           simp -implicitDefEqProofs (disch:=omega) [go_sem]
           refine .inl (call_data c7 (by simp [go_sem]) ?_)
           simp -implicitDefEqProofs (disch:=omega) [go_sem]
           refine .inl (call_data c10 (by simp [go_sem]) ?_)
           simp -implicitDefEqProofs (disch:=omega) [go_sem]
           refine .inl (call_data c4 (by simp [go_sem]) ?_)
           simp -implicitDefEqProofs (disch:=omega) [go_sem]
           refine next_ren ⟨i + 1,by omega⟩ (by simp only;omega) [] (rhoL [(0,some 0)]) ?_
           simp only [hst]
           apply ren_lists <;> simp -implicitDefEqProofs [go_sem]
       · rw [decide_eq_false m10] at c10
         by_cases m4:4∈L
         · rw [decide_eq_true m4] at c4
           rw [if_neg (by rintro (k | k);exact m7 k;exact m10 k)] at hst
           rw [if_pos m4] at hst
           simp -implicitDefEqProofs (disch:=omega) [go_sem]
           refine .inl (call_data c2 (by simp [go_sem]) ?_)
           simp -implicitDefEqProofs (disch:=omega) [go_sem]
           refine .inl (call_data e1 (by simp [go_sem]) ?_)
           simp -implicitDefEqProofs (disch:=omega) [go_sem]
           refine .inl (call_data c7 (by simp [go_sem]) ?_)
           simp -implicitDefEqProofs (disch:=omega) [go_sem]
           refine .inl (call_data c10 (by simp [go_sem]) ?_)
           simp -implicitDefEqProofs (disch:=omega) [go_sem]
           refine .inl (call_data c4 (by simp [go_sem]) ?_)
           simp -implicitDefEqProofs (disch:=omega) [go_sem]
           refine next_ren ⟨i + 1,by omega⟩ (by simp only;omega) [] (rhoL [(0,some 0)]) ?_
           simp only [hst]
           apply ren_lists <;> simp -implicitDefEqProofs [go_sem]
         · rw [decide_eq_false m4] at c4
           rw [if_neg (by rintro (k | k);exact m7 k;exact m10 k)] at hst
           rw [if_neg m4] at hst
           simp -implicitDefEqProofs (disch:=omega) [go_sem]
           refine .inl (call_data c2 (by simp [go_sem]) ?_)
           simp -implicitDefEqProofs (disch:=omega) [go_sem]
           refine .inl (call_data e1 (by simp [go_sem]) ?_)
           simp -implicitDefEqProofs (disch:=omega) [go_sem]
           refine .inl (call_data c7 (by simp [go_sem]) ?_)
           simp -implicitDefEqProofs (disch:=omega) [go_sem]
           refine .inl (call_data c10 (by simp [go_sem]) ?_)
           simp -implicitDefEqProofs (disch:=omega) [go_sem]
           refine .inl (call_data c4 (by simp [go_sem]) ?_)
           simp -implicitDefEqProofs (disch:=omega) [go_sem]
           refine next_ren ⟨i + 1,by omega⟩ (by simp only;omega) [] (rhoL [(0,some 0)]) ?_
           simp only [hst]
           apply ren_lists <;> simp -implicitDefEqProofs [go_sem]
   · have:i = 18:=by omega
     subst this
     have hI:=hinv 18
     have hq:quietA a 18 = (runR ⟨1,3 - a.l,0,a⟩ 18).b:=(hb 18).symm
     have hend:¬ Tm (runR ⟨1,3 - a.l,0,a⟩ 18).b.s:=by rw [<- hq];exact quiet_end hr hi (Nat.le_refl _)
     generalize runR ⟨1,3 - a.l,0,a⟩ 18 = R at *
     obtain ⟨f1,f2,f3⟩:=hI.off hend (by rw [hae];unfold Tm;simp)
     have hac:a.c = 4:=by rw [hae]
     have has:a.s = 6:=by rw [hae]
     rw [has] at f3
     have f3:R.b.s = 3:=f3
     simp -implicitDefEqProofs (disch:=omega) [go_sem]
     refine .inl (call_data c2 (by simp [go_sem]) ?_)
     simp -implicitDefEqProofs (disch:=omega) [go_sem,Tryd.f8]
 · obtain ⟨a,hae⟩:∃ a:Au,a = ⟨4,1,3,j2⟩:=⟨_,rfl⟩
   have hr:RightA a:=by rw [hae];exact closeA_right j2
   have hi:a.id < 256:=by rw [hae];exact hj2'
   have hinv:=fun i=>inv_run hr hi 1 i
   have hb:=fun i=>run_b ⟨1,3 - a.l,0,a⟩ i
   simp -implicitDefEqProofs (disch:=omega) [go_sem]
   refine .inl (call_data c0 (by simp [go_sem]) ?_)
   simp -implicitDefEqProofs (disch:=omega) [go_sem]
   refine .inl (call_data d1 (by simp [go_sem]) ?_)
   simp -implicitDefEqProofs (disch:=omega) [go_sem]
   refine .inl (call_data d2 (by simp [go_sem]) ?_)
   simp -implicitDefEqProofs (disch:=omega) [go_sem]
   refine loop_ren (σ:={ i:Nat // i≤18 }) (fun i=>⟨envL [(1,.data (.bool true)),(5,.data (.bool true)),(6,.ptr 0 0),(8,.data (.int .i64 0)),(9,.data (.int .i64 2)),(13,.data (.int .i64 (runR ⟨1,3 - a.l,0,a⟩ i.1).sent)),(14,.data (.int .i64 (runR ⟨1,3 - a.l,0,a⟩ i.1).done)),(15,.data (.int .i64 i.1))],hpL [(0,.blk true [.data (.int .i64 (runR ⟨1,3 - a.l,0,a⟩ i.1).b.s),.data (.int .i64 (runR ⟨1,3 - a.l,0,a⟩ i.1).b.c),.data (.int .i64 (runR ⟨1,3 - a.l,0,a⟩ i.1).b.l),.data (.int .u8 (runR ⟨1,3 - a.l,0,a⟩ i.1).b.id)])],1,0,90⟩) (fun i=>18 - i.1) ⟨0,by omega⟩ [] (rhoL [(0,some 10)]) ?_ ?_
   · apply ren_lists <;> simp -implicitDefEqProofs [go_sem,runR,hae]
   rintro ⟨i,hile⟩
   by_cases h:i < 18
   · have hI:=hinv i
     have hst:runR ⟨1,3 - a.l,0,a⟩ (i + 1) = stepR (runR ⟨1,3 - a.l,0,a⟩ i):=rfl
     unfold stepR at hst
     generalize runR ⟨1,3 - a.l,0,a⟩ i = R at *
     have hd:=right_l hI.rt
     have hse:=hI.se
     have hdn:=hI.dn
     have e1:=atick_pc Γ hΓ R.b hI.rt.2.1 hI.id (by omega)
     have hln:=tickL_len R.b
     generalize tickL R.b = L at *
     generalize tickA R.b = B at *
     have c7:=rhas_pc Γ L 7 (by omega)
     have c10:=rhas_pc Γ L 10 (by omega)
     have c4:=rhas_pc Γ L 4 (by omega)
     unfold au nums at e1
     unfold nums at c7 c10 c4
     by_cases m7:7∈L
     · rw [decide_eq_true m7] at c7
       by_cases m4:4∈L
       · rw [decide_eq_true m4] at c4
         rw [if_pos (.inl m7)] at hst
         rw [if_pos m4] at hst
         simp -implicitDefEqProofs (disch:=omega) [go_sem]
         refine .inl (call_data c2 (by simp [go_sem]) ?_)
         simp -implicitDefEqProofs (disch:=omega) [go_sem]
         refine .inl (call_data e1 (by simp [go_sem]) ?_)
         simp -implicitDefEqProofs (disch:=omega) [go_sem]
         refine .inl (call_data c7 (by simp [go_sem]) ?_)
         simp -implicitDefEqProofs (disch:=omega) [go_sem]
         refine .inl (call_data c4 (by simp [go_sem]) ?_)
         simp -implicitDefEqProofs (disch:=omega) [go_sem]
         refine next_ren ⟨i + 1,by omega⟩ (by simp only;omega) [] (rhoL [(0,some 0)]) ?_
         simp only [hst]
         apply ren_lists <;> simp -implicitDefEqProofs [go_sem]
       · rw [decide_eq_false m4] at c4
         rw [if_pos (.inl m7)] at hst
         rw [if_neg m4] at hst
         simp -implicitDefEqProofs (disch:=omega) [go_sem]
         refine .inl (call_data c2 (by simp [go_sem]) ?_)
         simp -implicitDefEqProofs (disch:=omega) [go_sem]
         refine .inl (call_data e1 (by simp [go_sem]) ?_)
         simp -implicitDefEqProofs (disch:=omega) [go_sem]
         refine .inl (call_data c7 (by simp [go_sem]) ?_)
         simp -implicitDefEqProofs (disch:=omega) [go_sem]
         refine .inl (call_data c4 (by simp [go_sem]) ?_)
         simp -implicitDefEqProofs (disch:=omega) [go_sem]
         refine next_ren ⟨i + 1,by omega⟩ (by simp only;omega) [] (rhoL [(0,some 0)]) ?_
         simp only [hst]
         apply ren_lists <;> simp -implicitDefEqProofs [go_sem]
     · rw [decide_eq_false m7] at c7
       by_cases m10:10∈L
       · rw [decide_eq_true m10] at c10
         by_cases m4:4∈L
         · rw [decide_eq_true m4] at c4
           rw [if_pos (.inr m10)] at hst
           rw [if_pos m4] at hst
           simp -implicitDefEqProofs (disch:=omega) [go_sem]
           refine .inl (call_data c2 (by simp [go_sem]) ?_)
           simp -implicitDefEqProofs (disch:=omega) [go_sem]
           refine .inl (call_data e1 (by simp [go_sem]) ?_)
           simp -implicitDefEqProofs (disch:=omega) [go_sem]
           refine .inl (call_data c7 (by simp [go_sem]) ?_)
           simp -implicitDefEqProofs (disch:=omega) [go_sem]
           refine .inl (call_data c10 (by simp [go_sem]) ?_)
           simp -implicitDefEqProofs (disch:=omega) [go_sem]
           refine .inl (call_data c4 (by simp [go_sem]) ?_)
           simp -implicitDefEqProofs (disch:=omega) [go_sem]
           refine next_ren ⟨i + 1,by omega⟩ (by simp only;omega) [] (rhoL [(0,some 0)]) ?_
           simp only [hst]
           apply ren_lists <;> simp -implicitDefEqProofs [go_sem]
         · rw [decide_eq_false m4] at c4
           rw [if_pos (.inr m10)] at hst
           rw [if_neg m4] at hst
           simp -implicitDefEqProofs (disch:=omega) [go_sem]
           refine .inl (call_data c2 (by simp [go_sem]) ?_)
           simp -implicitDefEqProofs (disch:=omega) [go_sem]
           refine .inl (call_data e1 (by simp [go_sem]) ?_)
           simp -implicitDefEqProofs (disch:=omega) [go_sem]
           refine .inl (call_data c7 (by simp [go_sem]) ?_)
           simp -implicitDefEqProofs (disch:=omega) [go_sem]
           refine .inl (call_data c10 (by simp [go_sem]) ?_)
           simp -implicitDefEqProofs (disch:=omega) [go_sem]
           refine .inl (call_data c4 (by simp [go_sem]) ?_)
           simp -implicitDefEqProofs (disch:=omega) [go_sem]
           refine next_ren ⟨i + 1,by omega⟩ (by simp only;omega) [] (rhoL [(0,some 0)]) ?_
           simp only [hst]
           apply ren_lists <;> simp -implicitDefEqProofs [go_sem]
       · rw [decide_eq_false m10] at c10
         by_cases m4:4∈L
         · rw [decide_eq_true m4] at c4
           rw [if_neg (by rintro (k | k);exact m7 k;exact m10 k)] at hst
           rw [if_pos m4] at hst
           simp -implicitDefEqProofs (disch:=omega) [go_sem]
           refine .inl (call_data c2 (by simp [go_sem]) ?_)
           simp -implicitDefEqProofs (disch:=omega) [go_sem]
           refine .inl (call_data e1 (by simp [go_sem]) ?_)
           simp -implicitDefEqProofs (disch:=omega) [go_sem]
           refine .inl (call_data c7 (by simp [go_sem]) ?_)
           simp -implicitDefEqProofs (disch:=omega) [go_sem]
           refine .inl (call_data c10 (by simp [go_sem]) ?_)
           simp -implicitDefEqProofs (disch:=omega) [go_sem]
           refine .inl (call_data c4 (by simp [go_sem]) ?_)
           simp -implicitDefEqProofs (disch:=omega) [go_sem]
           refine next_ren ⟨i + 1,by omega⟩ (by simp only;omega) [] (rhoL [(0,some 0)]) ?_
           simp only [hst]
           apply ren_lists <;> simp -implicitDefEqProofs [go_sem]
         · rw [decide_eq_false m4] at c4
           rw [if_neg (by rintro (k | k);exact m7 k;exact m10 k)] at hst
           rw [if_neg m4] at hst
           simp -implicitDefEqProofs (disch:=omega) [go_sem]
           refine .inl (call_data c2 (by simp [go_sem]) ?_)
           simp -implicitDefEqProofs (disch:=omega) [go_sem]
           refine .inl (call_data e1 (by simp [go_sem]) ?_)
           simp -implicitDefEqProofs (disch:=omega) [go_sem]
           refine .inl (call_data c7 (by simp [go_sem]) ?_)
           simp -implicitDefEqProofs (disch:=omega) [go_sem]
           refine .inl (call_data c10 (by simp [go_sem]) ?_)
           simp -implicitDefEqProofs (disch:=omega) [go_sem]
           refine .inl (call_data c4 (by simp [go_sem]) ?_)
           simp -implicitDefEqProofs (disch:=omega) [go_sem]
           refine next_ren ⟨i + 1,by omega⟩ (by simp only;omega) [] (rhoL [(0,some 0)]) ?_
           simp only [hst]
           apply ren_lists <;> simp -implicitDefEqProofs [go_sem]
   · have:i = 18:=by omega
     subst this
     have hI:=hinv 18
     have hq:quietA a 18 = (runR ⟨1,3 - a.l,0,a⟩ 18).b:=(hb 18).symm
     have hend:¬ Tm (runR ⟨1,3 - a.l,0,a⟩ 18).b.s:=by rw [<- hq];exact quiet_end hr hi (Nat.le_refl _)
     generalize runR ⟨1,3 - a.l,0,a⟩ 18 = R at *
     obtain ⟨f1,f2,f3⟩:=hI.off hend (by rw [hae];unfold Tm;simp)
     have hac:a.c = 1:=by rw [hae]
     have has:a.s = 4:=by rw [hae]
     rw [has] at f3
     have f3:R.b.s = 2:=f3
     simp -implicitDefEqProofs (disch:=omega) [go_sem]
     refine .inl (call_data c2 (by simp [go_sem]) ?_)
     simp -implicitDefEqProofs (disch:=omega) [go_sem,Tryd.f8]
end
end Fs
section
variable (Γ:Nat->Option (List Data))
theorem law_AutoTells (hΓ:Fs.Spaces Γ) {x0 x1 x2:Data} (a0:argD Tryd.prog 8 23 x0) (a1:argD Tryd.prog 8 3 x1) (a2:argD Tryd.prog 8 3 x2):PC Tryd.prog Γ 3 [x0,x1,x2] (.bool true):=by
 obtain ⟨a,ha,rfl⟩:=Fs.arg_au a0
 obtain ⟨e,_,_,rfl⟩:=arg_i64 Tryd.underlying3 a1
 obtain ⟨n,_,_,rfl⟩:=arg_i64 Tryd.underlying3 a2
 exact Fs.tells12_pc Γ hΓ a e n ha
theorem law_AutoRight (hΓ:Fs.Spaces Γ) {x0 x1:Data} (a0:argD Tryd.prog 8 23 x0) (a1:argD Tryd.prog 8 27 x1):PC Tryd.prog Γ 4 [x0,x1] (.bool true):=by
 obtain ⟨a,ha,rfl⟩:=Fs.arg_au a0
 obtain ⟨l,rfl,_⟩:=Fs.arg_ints a1
 exact Fs.right12_pc Γ hΓ a l ha
theorem law_AutoEnds (hΓ:Fs.Spaces Γ) {x0 x1:Data} (a0:argD Tryd.prog 8 23 x0) (a1:argD Tryd.prog 8 3 x1):PC Tryd.prog Γ 5 [x0,x1] (.bool true):=by
 obtain ⟨a,ha,rfl⟩:=Fs.arg_au a0
 obtain ⟨n,_,_,rfl⟩:=arg_i64 Tryd.underlying3 a1
 exact Fs.ends12_pc Γ hΓ a n ha
theorem law_AutoIds (hΓ:Fs.Spaces Γ) {x0 x1:Data} (a0:argD Tryd.prog 8 23 x0) (a1:argD Tryd.prog 8 3 x1):PC Tryd.prog Γ 6 [x0,x1] (.bool true):=by
 obtain ⟨a,ha,rfl⟩:=Fs.arg_au a0
 obtain ⟨n,_,_,rfl⟩:=arg_i64 Tryd.underlying3 a1
 exact Fs.ids12_pc Γ hΓ a n ha
theorem law_AutoQuiet (hΓ:Fs.Spaces Γ) {x0 x1 x2:Data} (a0:argD Tryd.prog 8 23 x0) (a1:argD Tryd.prog 8 5 x1) (a2:argD Tryd.prog 8 5 x2):PC Tryd.prog Γ 7 [x0,x1,x2] (.bool true):=by
 obtain ⟨a,ha,rfl⟩:=Fs.arg_au a0
 obtain ⟨m,hm,rfl⟩:=arg_u8 Tryd.underlying5 a1
 obtain ⟨n,hn,rfl⟩:=arg_u8 Tryd.underlying5 a2
 exact Fs.quiet12_pc Γ hΓ a m n ha hm hn
theorem law_AutoSends (hΓ:Fs.Spaces Γ) {x0 x1:Data} (a0:argD Tryd.prog 8 5 x0) (a1:argD Tryd.prog 8 4 x1):PC Tryd.prog Γ 8 [x0,x1] (.bool true):=by
 obtain ⟨j,hj,rfl⟩:=arg_u8 Tryd.underlying5 a0
 obtain ⟨v,rfl⟩:=arg_bool Tryd.underlying4 a1
 exact Fs.sends12_pc Γ hΓ j v hj
end
end Go.Proofs.YticeibkffhdphaaDoor
