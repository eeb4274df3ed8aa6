/- Rules: the document's own functions that go through rows. Rules: the mathematics of the laws: what is refused, put right, is agreed to; what is asked for, learnt, turned. Frames on a line: a line that is fed. Frames on a line: all frames of bytes, as the program tells them. Frames on a line: all frames of bytes, as the document tells them; the document's example. Frames on a line: the document's example. Frames on a line: StuffTells, StuffFeeds, StuffRight, StuffAnew. Frames on a line: StuffRight, StuffAnew, StuffLong. Frames on a line: StuffBack, StuffRow. Frames: the mathematics, the document's own functions. Packets: the mathematics, the document's own functions. Packets: what is cut, what stands behind, packets apart. Packets: the program's own functions. Options: the program's own functions, all but reading. Functions that may panic: what the walk needs. A function with a deferred call that recovers, on plain data. What a walk through a deferred call needs. A row of the caller's, lent to a call: by any of its arguments. A call that is handed a nil row, looked at as one that is handed a row of nothing. Ranges over functions, on plain data: the relation under other live blocks; the walk of an iterator, or of a round. Ranges over functions, on plain data: what an iterator hands to the rounds; the loop's rule; functions that hold one. Ranges over functions, on plain data: the loop's rule holds. Ranges over functions, on plain data: several values handed over at once, rows of the iterator's own among them; a round that ends the loop; regions of an iterator whose order is open. Ranges over functions that hand over several values: regions of an iterator whose order is open; the walk's soundness; the loop's rule. Ranges over functions that hand over several values: the walk is sound; the loop's rule holds. Functions that hold a range over a function, on plain data. Ranges over functions: what the walk needs. Options: the program's Put and Read. Options: what comes in, the document's example, OptsTells, OptsNumbers. Rules: the program's own small functions: what options are held against. Rules: the program's rows of options: picked, bettered. Rules: the program's Address, Learn, Ask, without, Turn, Answer. Rules: the program's Turn and Answer. Structs of numbers, truth values and strings, held against each other. -/
import Derived.Test.YtmappnpigpcimaaPk4
import Derived.Recover
import Derived.RangeFuncFrom
import Derived.RangeFuncLeaves
import Derived.RangeFuncBound
import Derived.RangeFuncCalls
import Derived.OwnWalkIn
import Derived.OrdersIn
import Derived.DeepKeys
import Derived.Laws.StructEq
namespace Go.Proofs.Ytmappnpigpcimaa
open Go.RowKit
set_option linter.unusedSimpArgs false
set_option linter.unusedVariables false
set_option maxRecDepth 100000
namespace Ru
open Op9
theorem numO_lt {b:List Nat} (h:∀ x∈b,x < 256):numO b < 4294967296:=by
 unfold numO
 have h1:=numF_lt (b.drop (b.length - 4)).length (b.drop (b.length - 4)) rfl fun x hx=>h x (List.mem_of_mem_drop hx)
 have h2:(b.drop (b.length - 4)).length≤4:=by rw [List.length_drop];omega
 have h3:(256:Nat) ^ (b.drop (b.length - 4)).length≤256 ^ 4:=Nat.pow_le_pow_right (by decide) h2
 have h4:(256:Nat) ^ 4 = 4294967296:=by decide
 omega
section
variable (Γ:Nat->Option (List Data))
def natO (o:Option Nat):Data:=.tup [.int .u32 (o.getD 0:Nat),.bool o.isSome]
/-- Options as they come: bytes,not too long. -/
def Fine (l:List Ot):Prop:=l.length≤1000000∧∀ o∈l,(∀ x∈o.d,x < 256)∧o.d.length≤1000000000
theorem raddress_pc (l:List Ot) (hl:Fine l):PC Try.prog Γ 14 [.sl 2 (ots l)] (natO (addrR l)):=by
 refine pc_by mixed Try.func14 rfl (fun args w=>Try.call14 args w) ?_
 obtain ⟨hn,hl⟩:=hl
 simp -implicitDefEqProofs (disch:=omega) [go_sem]
 refine loop_ren (σ:={ i:Nat // i≤l.length∧∀ (j:Nat) (hj:j < l.length),j < i->decide (l[j].t = 3∧l[j].d.length = 4) = false }) (fun i=>⟨envL [(0,.data (.sl 2 (ots l))),(4,.data (.int .i64 i.1))],hpL [],0,0,32⟩) (fun i=>l.length - i.1) ⟨0,by omega,fun j _ h=>absurd h (Nat.not_lt_zero _)⟩ [] (rhoL []) ?_ ?_
 · apply ren_lists <;> simp -implicitDefEqProofs [go_sem]
 rintro ⟨i,hi,hall⟩
 by_cases h:i < l.length
 · obtain ⟨hb,hbn⟩:=hl _ (List.getElem_mem h)
   have c1:=rnumber_pc Γ l[i].d hbn hb
   by_cases ht:l[i].t = 3∧l[i].d.length = 4
   · rw [show addrR l = some (numO l[i].d) by unfold addrR;rw [find_take l i hall h (decide_eq_true ht)];rfl]
     obtain ⟨ht,hd⟩:=ht
     have ht2:(l[i].t:Int) = 3:=by omega
     simp -implicitDefEqProofs (disch:=omega) [go_sem,ot,ht2,hd]
     refine .inl (call_data c1 (by simp [go_sem]) ?_)
     simp -implicitDefEqProofs (disch:=omega) [go_sem,natO,Try.f14]
   · have nx:∀ (j:Nat) (hj:j < l.length),j < i + 1->decide (l[j].t = 3∧l[j].d.length = 4) = false:=fun j hj hji=>by
      by_cases e:j = i
      · subst e;exact decide_eq_false ht
      · exact hall j hj (by omega)
     by_cases h3:l[i].t = 3
     · have ht2:(l[i].t:Int) = 3:=by omega
       have hd:¬ l[i].d.length = 4:=fun e=>ht ⟨h3,e⟩
       simp -implicitDefEqProofs (disch:=omega) [go_sem,ot,ht2,hd]
       refine next_ren ⟨i + 1,by omega,nx⟩ (by simp only;omega) [] (rhoL []) ?_
       apply ren_lists <;> simp -implicitDefEqProofs [go_sem]
     · have ht2:¬ (l[i].t:Int) = 3:=by omega
       simp -implicitDefEqProofs (disch:=omega) [go_sem,ot,ht2]
       refine next_ren ⟨i + 1,by omega,nx⟩ (by simp only;omega) [] (rhoL []) ?_
       apply ren_lists <;> simp -implicitDefEqProofs [go_sem]
 · rw [show addrR l = none by unfold addrR;rw [find_no l fun j hj=>hall j hj (by omega)];rfl]
   simp -implicitDefEqProofs (disch:=omega) [go_sem,natO,Try.f14]
theorem rfirst_pc (l:List Ot) (t:Nat) (hl:Fine l):PC Try.prog Γ 39 [.sl 2 (ots l),.int .u8 t] (natO (firstR l t)):=by
 refine pc_by mixed Try.func39 rfl (fun args w=>Try.call39 args w) ?_
 obtain ⟨hn,hl⟩:=hl
 simp -implicitDefEqProofs (disch:=omega) [go_sem]
 refine loop_ren (σ:={ i:Nat // i≤l.length∧∀ (j:Nat) (hj:j < l.length),j < i->(knownR false l[j] && decide (l[j].t = t)) = false }) (fun i=>⟨envL [(0,.data (.sl 2 (ots l))),(1,.data (.int .u8 t)),(6,.data (.int .i64 i.1))],hpL [],0,0,35⟩) (fun i=>l.length - i.1) ⟨0,by omega,fun j _ h=>absurd h (Nat.not_lt_zero _)⟩ [] (rhoL []) ?_ ?_
 · apply ren_lists <;> simp -implicitDefEqProofs [go_sem]
 rintro ⟨i,hi,hall⟩
 by_cases h:i < l.length
 · obtain ⟨hb,hbn⟩:=hl _ (List.getElem_mem h)
   have c1:=rnumber_pc Γ l[i].d hbn hb
   have c2:=rknown_pc Γ false l[i]
   unfold ot at c2
   by_cases hk:knownR false l[i] = true
   · rw [hk] at c2
     by_cases ht:l[i].t = t
     · rw [show firstR l t = some (numO l[i].d) by unfold firstR;rw [find_take l i hall h (by rw [hk,decide_eq_true ht];rfl)];rfl]
       have ht2:(l[i].t:Int) = t:=by omega
       simp -implicitDefEqProofs (disch:=omega) [go_sem,ot]
       refine .inl (call_data c2 (by simp [go_sem]) ?_)
       simp -implicitDefEqProofs (disch:=omega) [go_sem,ot,ht2]
       refine .inl (call_data c1 (by simp [go_sem]) ?_)
       simp -implicitDefEqProofs (disch:=omega) [go_sem,natO,Try.f39]
     · have ht2:¬ (l[i].t:Int) = t:=by omega
       simp -implicitDefEqProofs (disch:=omega) [go_sem,ot]
       refine .inl (call_data c2 (by simp [go_sem]) ?_)
       simp -implicitDefEqProofs (disch:=omega) [go_sem,ot,ht2]
       refine next_ren ⟨i + 1,by omega,fun j hj hji=>by
        by_cases e:j = i
        · subst e;rw [decide_eq_false ht,Bool.and_false]
        · exact hall j hj (by omega)⟩ (by simp only;omega) [] (rhoL []) ?_
       apply ren_lists <;> simp -implicitDefEqProofs [go_sem]
   · have hk:knownR false l[i] = false:=by simpa using hk
     rw [hk] at c2
     simp -implicitDefEqProofs (disch:=omega) [go_sem,ot]
     refine .inl (call_data c2 (by simp [go_sem]) ?_)
     simp -implicitDefEqProofs (disch:=omega) [go_sem,ot]
     refine next_ren ⟨i + 1,by omega,fun j hj hji=>by
      by_cases e:j = i
      · subst e;rw [hk,Bool.false_and]
      · exact hall j hj (by omega)⟩ (by simp only;omega) [] (rhoL []) ?_
     apply ren_lists <;> simp -implicitDefEqProofs [go_sem]
 · rw [show firstR l t = none by unfold firstR;rw [find_no l fun j hj=>hall j hj (by omega)];rfl]
   simp -implicitDefEqProofs (disch:=omega) [go_sem,natO,Try.f39]
theorem rlearn_pc (l:List Ot) (hl:Fine l):PC Try.prog Γ 19 [.sl 2 (ots l)] (pee (learnR l)):=by
 refine pc_by mixed Try.func19 rfl (fun args w=>Try.call19 args w) ?_
 have c1:=rfirst_pc Γ l 1 hl
 have c2:=rfirst_pc Γ l 2 hl
 have c5:=rfirst_pc Γ l 5 hl
 have c7:=rfirst_pc Γ l 7 hl
 have c8:=rfirst_pc Γ l 8 hl
 have lt:∀ t n,firstR l t = some n->n < 4294967296:=fun t n e=>by
  unfold firstR at e
  obtain ⟨o,ho,rfl⟩:=Option.map_eq_some_iff.1 e
  exact numO_lt (hl.2 o (List.mem_of_find?_eq_some ho)).1
 have l1:=lt 1
 unfold learnR
 generalize firstR l 1 = f1 at *
 generalize firstR l 2 = f2 at *
 generalize firstR l 5 = f5 at *
 generalize firstR l 7 = f7 at *
 generalize firstR l 8 = f8 at *
 unfold natO at *
 simp -implicitDefEqProofs (disch:=omega) [go_sem]
 refine .inl (call_data c1 (by simp [go_sem]) ?_)
 cases f1 with
 | none =>
   simp -implicitDefEqProofs (disch:=omega) [go_sem]
   refine .inl (call_data c2 (by simp [go_sem]) ?_)
   cases f2 with
   | none =>
     simp -implicitDefEqProofs (disch:=omega) [go_sem]
     refine .inl (call_data c5 (by simp [go_sem]) ?_)
     simp -implicitDefEqProofs (disch:=omega) [go_sem]
     refine .inl (call_data c7 (by simp [go_sem]) ?_)
     simp -implicitDefEqProofs (disch:=omega) [go_sem]
     refine .inl (call_data c8 (by simp [go_sem]) ?_)
     simp -implicitDefEqProofs (disch:=omega) [go_sem,pee,Try.f19]
   | some n =>
     simp -implicitDefEqProofs (disch:=omega) [go_sem]
     refine .inl (call_data c5 (by simp [go_sem]) ?_)
     simp -implicitDefEqProofs (disch:=omega) [go_sem]
     refine .inl (call_data c7 (by simp [go_sem]) ?_)
     simp -implicitDefEqProofs (disch:=omega) [go_sem]
     refine .inl (call_data c8 (by simp [go_sem]) ?_)
     simp -implicitDefEqProofs (disch:=omega) [go_sem,pee,Try.f19]
 | some m =>
   have lm:=l1 m rfl
   simp -implicitDefEqProofs (disch:=omega) [go_sem]
   refine .inl (call_data c2 (by simp [go_sem]) ?_)
   cases f2 with
   | none =>
     simp -implicitDefEqProofs (disch:=omega) [go_sem]
     refine .inl (call_data c5 (by simp [go_sem]) ?_)
     simp -implicitDefEqProofs (disch:=omega) [go_sem]
     refine .inl (call_data c7 (by simp [go_sem]) ?_)
     simp -implicitDefEqProofs (disch:=omega) [go_sem]
     refine .inl (call_data c8 (by simp [go_sem]) ?_)
     simp -implicitDefEqProofs (disch:=omega) [go_sem,pee,Try.f19]
   | some n =>
     simp -implicitDefEqProofs (disch:=omega) [go_sem]
     refine .inl (call_data c5 (by simp [go_sem]) ?_)
     simp -implicitDefEqProofs (disch:=omega) [go_sem]
     refine .inl (call_data c7 (by simp [go_sem]) ?_)
     simp -implicitDefEqProofs (disch:=omega) [go_sem]
     refine .inl (call_data c8 (by simp [go_sem]) ?_)
     simp -implicitDefEqProofs (disch:=omega) [go_sem,pee,Try.f19]
theorem dropAll_take (ours l:List Ot) (i:Nat) (h:i < l.length):dropAll ours (l.take (i + 1)) = dropO (dropAll ours (l.take i)) l[i].t:=by
 unfold dropAll
 rw [List.take_add_one,List.getElem?_eq_getElem h,Option.toList_some,List.foldl_append]
 rfl
theorem odd_take (ip:Bool) (l:List Ot) (i:Nat) (h:i < l.length):oddR ip (l.take (i + 1)) = oddR ip (l.take i)++if knownR ip l[i] = false then [l[i]] else []:=by
 unfold oddR
 rw [filter_take l i h]
 cases knownR ip l[i] <;> rfl
theorem as_take (r:Rule) (l:List Ot) (i:Nat) (h:i < l.length):asR r (l.take (i + 1)) = asR r (l.take i)++if knownR r.ip l[i] = true∧(shouldR r l[i]).2 = true then [l[i]] else []:=by
 unfold asR
 rw [filter_take l i h]
 cases knownR r.ip l[i] <;> cases (shouldR r l[i]).2 <;> rfl
theorem to_take (r:Rule) (l:List Ot) (i:Nat) (h:i < l.length):toR r (l.take (i + 1)) = toR r (l.take i)++if knownR r.ip l[i] = true∧(shouldR r l[i]).2 = true then [(shouldR r l[i]).1] else []:=by
 unfold toR
 rw [as_take r l i h,List.map_append]
 split <;> rfl
theorem odd_len (ip:Bool) (l:List Ot):(oddR ip l).length≤l.length:=List.length_filter_le _ _
theorem as_len (r:Rule) (l:List Ot):(asR r l).length≤l.length:=List.length_filter_le _ _
theorem to_len (r:Rule) (l:List Ot):(toR r l).length≤l.length:=by unfold toR;rw [List.length_map];exact as_len r l
theorem flat_ots (l:List Ot):(flat (ots l)).length = l.length * 2:=by rw [flat_length (ots_cells _),ots_length]
set_option maxHeartbeats 4000000 in
theorem ranswer_pc (r:Rule) (l:List Ot) (n:Int) (hr:r.Ty) (hl:Fine l):PC Try.prog Γ 12 [rul r,.sl 2 (ots l),.int .i64 n] (.tup [.int .u8 (answerR r l n).1,.sl 2 (ots (answerR r l n).2)]):=by
 refine pc_by mixed Try.func12 rfl (fun args w=>Try.call12 args w) ?_
 have hn:=hl.1
 have c3:=raddress_pc Γ l hl
 have c4:=rfour_pc Γ r.addr hr.addr
 unfold rul
 simp -implicitDefEqProofs (disch:=omega) [go_sem]
 refine loop_ren (σ:={ i:Nat // i≤l.length }) (fun i=>⟨envL [(1,.data (.sl 2 (ots l))),(2,.data (.int .i64 n)),(3,.ptr 3 0),(8,.ref 0 0 (oddR r.ip (l.take i.1)).length 2),(9,.ref 1 0 (asR r (l.take i.1)).length 2),(10,.ref 2 0 (toR r (l.take i.1)).length 2),(11,.data (.int .i64 i.1))],
  hpL [(0,.blk true ((flat (ots (oddR r.ip (l.take i.1)))).map .data)),(1,.blk true ((flat (ots (asR r (l.take i.1)))).map .data)),(2,.blk true ((flat (ots (toR r (l.take i.1)))).map .data)),(3,.blk true [.data (.bool r.ip),.data (.int .u32 r.magic),.data (.int .u32 r.other),.data (.int .u32 r.addr),.data (.int .u32 r.ours)])],4,0,99⟩) (fun i=>l.length - i.1) ⟨0,by omega⟩ [] (rhoL [(0,none),(1,none),(2,none),(3,some 0)]) ?_ ?_
 · apply ren_lists <;> simp -implicitDefEqProofs [go_sem,oddR,asR,toR,ots,flat]
 rintro ⟨i,hi⟩
 have lo:=odd_len r.ip (l.take i)
 have la:=as_len r (l.take i)
 have lt:=to_len r (l.take i)
 have ltk:(l.take i).length≤l.length:=by rw [List.length_take];omega
 by_cases h:i < l.length
 · obtain ⟨hb,hbn⟩:=hl.2 _ (List.getElem_mem h)
   have c1:=rknown_pc Γ r.ip l[i]
   have c2:=rshould_pc Γ r l[i] hr hb hbn
   have so:=odd_take r.ip l i h
   have sa:=as_take r l i h
   have st:=to_take r l i h
   unfold ot at c1 c2
   unfold rul at c2
   simp -implicitDefEqProofs (disch:=omega) [go_sem,ot]
   refine .inl (call_data c1 (by simp [go_sem]) ?_)
   simp -implicitDefEqProofs (disch:=omega) [go_sem,ot]
   refine side (by kernel_rfl) ?_
   cases hk:knownR r.ip l[i]
   · rw [hk,if_pos rfl] at so
     rw [hk,if_neg (by simp),List.append_nil] at sa
     rw [hk,if_neg (by simp),List.append_nil] at st
     simp -implicitDefEqProofs (disch:=omega) [go_sem,ot,flat_ots]
     refine next_ren ⟨i + 1,by omega⟩ (by simp only;omega) [] (rhoL [(0,some 24),(1,some 1),(2,some 2),(3,some 3)]) ?_
     simp only [so,sa,st]
     apply ren_lists <;> simp -implicitDefEqProofs [go_sem]
     exact renCells_plain (by rw [ots_snoc]) (by simp [plainD])
   · rw [hk,if_neg (by simp),List.append_nil] at so
     simp -implicitDefEqProofs (disch:=omega) [go_sem,ot]
     refine .inl (call_data c2 (by simp [go_sem]) ?_)
     simp -implicitDefEqProofs (disch:=omega) [go_sem,ot]
     refine side (by kernel_rfl) ?_
     cases hs:(shouldR r l[i]).2
     · rw [hs,if_neg (by simp),List.append_nil] at sa st
       simp -implicitDefEqProofs (disch:=omega) [go_sem,ot]
       refine next_ren ⟨i + 1,by omega⟩ (by simp only;omega) [] (rhoL [(0,some 0),(1,some 1),(2,some 2),(3,some 3)]) ?_
       simp only [so,sa,st]
       apply ren_lists <;> simp -implicitDefEqProofs [go_sem]
     · rw [hk,hs,if_pos ⟨rfl,rfl⟩] at sa st
       simp -implicitDefEqProofs (disch:=omega) [go_sem,ot,flat_ots]
       refine next_ren ⟨i + 1,by omega⟩ (by simp only;omega) [] (rhoL [(0,some 0),(1,some 37),(2,some 42),(3,some 3)]) ?_
       simp only [so,sa,st]
       apply ren_lists <;> simp -implicitDefEqProofs [go_sem]
       exact ⟨renCells_plain (by rw [ots_snoc]) (by simp [plainD]),renCells_plain (by rw [ots_snoc]) (by simp [plainD])⟩
 · have:i = l.length:=by omega
   subst this
   have htk:l.take l.length = l:=List.take_length
   simp only [htk] at lo la lt
   have len0:∀ m:List Ot,m≠[]->0 < m.length:=fun m h=>List.length_pos_iff.2 h
   have len1:∀ m:List Ot,¬ m≠[]->m.length = 0:=fun m h=>by simp only [ne_eq,Decidable.not_not] at h;rw [h];rfl
   unfold answerR
   by_cases h1:oddR r.ip l≠[]
   · rw [if_pos h1]
     have:=len0 _ h1
     simp -implicitDefEqProofs (disch:=omega) [go_sem,htk,Try.f12]
     exact ⟨_,⟨_,_,rfl,rfl,_,rfl,frz_ref (rw:=true) (by simp [Hp.set,hpL,htk]) (.inl rfl) (ots_length _) (ots_cells _) rfl⟩,rfl⟩
   rw [if_neg h1]
   have h1n:=len1 _ h1
   by_cases h2:3≤n∧asR r l≠[]
   · rw [if_pos h2]
     obtain ⟨h2,h3⟩:=h2
     have:=len0 _ h3
     simp -implicitDefEqProofs (disch:=omega) [go_sem,htk,h1n,Try.f12]
     exact ⟨_,⟨_,_,rfl,rfl,_,rfl,frz_ref (rw:=true) (by simp [Hp.set,hpL,htk]) (.inl rfl) (ots_length _) (ots_cells _) rfl⟩,rfl⟩
   rw [if_neg h2]
   have hcond:n < 3 ∨ (3≤n∧(asR r l).length = 0):=by
    by_cases e:n < 3
    · exact .inl e
    · exact .inr ⟨by omega,len1 _ fun k=>h2 ⟨by omega,k⟩⟩
   have c3:=c3
   unfold natO at c3
   by_cases ha:r.ip = true∧addrR l = none
   · have hta:toA r l = toR r l++[⟨3,fourO r.addr⟩]:=by unfold toA;rw [if_pos ha]
     have hne:toA r l≠[]:=by rw [hta];simp
     have htl:(toA r l).length = (toR r l).length + 1:=by rw [hta];simp
     obtain ⟨ha1,ha2⟩:=ha
     rw [ha2] at c3
     rw [ha1] at h1n
     rcases hcond with e | ⟨e1,e2⟩
     · rw [if_pos ⟨e,hne⟩]
       have e3:¬ 3≤n:=by omega
       simp -implicitDefEqProofs (disch:=omega) [go_sem,htk,h1n,ha1]
       refine .inl (call_data c3 (by simp [go_sem]) ?_)
       simp -implicitDefEqProofs (disch:=omega) [go_sem,htk,ha1]
       refine .inl (call_data c4 (by simp [go_sem]) ?_)
       simp -implicitDefEqProofs (disch:=omega) [go_sem,htk,flat_ots,Try.f12]
       refine ⟨_,⟨_,_,rfl,rfl,_,rfl,frz_ref (rw:=true) (l:=ots (toA r l)) (cells:=(flat (ots (toA r l))).map D.data) (by simp [Hp.set,hta,ots_snoc]) (.inl rfl) (by rw [ots_length,htl]) (ots_cells _) rfl⟩,rfl⟩
     · rw [if_neg fun k=>by omega]
       simp -implicitDefEqProofs (disch:=omega) [go_sem,htk,h1n,e2,ha1]
       refine .inl (call_data c3 (by simp [go_sem]) ?_)
       simp -implicitDefEqProofs (disch:=omega) [go_sem,htk,ha1]
       refine .inl (call_data c4 (by simp [go_sem]) ?_)
       simp -implicitDefEqProofs (disch:=omega) [go_sem,htk,flat_ots,Try.f12]
   · have hta:toA r l = toR r l:=by unfold toA;rw [if_neg ha,List.append_nil]
     have hb:r.ip = false ∨ (r.ip = true∧(addrR l).isSome = true):=by
      cases hip:r.ip
      · exact .inl rfl
      · refine .inr ⟨rfl,?_⟩
        cases hz:addrR l with
        | none=>exact absurd ⟨hip,hz⟩ ha
        | some x=>rfl
     rw [hta]
     generalize (addrR l).isSome = z at *
     by_cases h4:n < 3∧toR r l≠[]
     · rw [if_pos h4]
       obtain ⟨h4,h5⟩:=h4
       have:=len0 _ h5
       rcases hb with hip | ⟨hip,rfl⟩
       all_goals
        rw [hip] at h1n
        simp -implicitDefEqProofs (disch:=omega) [go_sem,htk,h1n,hip]
        refine .inl (call_data c3 (by simp [go_sem]) ?_)
        simp -implicitDefEqProofs (disch:=omega) [go_sem,htk,hip,Try.f12]
        exact ⟨_,⟨_,_,rfl,rfl,_,rfl,frz_ref (rw:=true) (by simp [Hp.set,hpL,htk]) (.inl rfl) (ots_length _) (ots_cells _) rfl⟩,rfl⟩
     · rw [if_neg h4]
       have hd:(3≤n∧(asR r l).length = 0) ∨ (n < 3∧(toR r l).length = 0):=by
        rcases hcond with e | e
        · exact .inr ⟨e,len1 _ fun k=>h4 ⟨e,k⟩⟩
        · exact .inl e
       rcases hd with ⟨e1,e2⟩ | ⟨e1,e2⟩
       · rcases hb with hip | ⟨hip,rfl⟩
         all_goals
          rw [hip] at h1n
          simp -implicitDefEqProofs (disch:=omega) [go_sem,htk,h1n,hip,e2]
          refine .inl (call_data c3 (by simp [go_sem]) ?_)
          simp -implicitDefEqProofs (disch:=omega) [go_sem,htk,hip,Try.f12]
       · rcases hb with hip | ⟨hip,rfl⟩
         all_goals
          rw [hip] at h1n
          simp -implicitDefEqProofs (disch:=omega) [go_sem,htk,h1n,hip]
          refine .inl (call_data c3 (by simp [go_sem]) ?_)
          simp -implicitDefEqProofs (disch:=omega) [go_sem,htk,hip,e2,Try.f12]
end
end Ru
namespace Ru
open Op9
/-- What is to be put in the place of an option. -/
def fixR (r:Rule) (o:Ot):Ot:=if (shouldR r o).2 = true then (shouldR r o).1 else o
theorem should_t {r:Rule} {o:Ot} (hk:knownR r.ip o = true) (hs:(shouldR r o).2 = true):(shouldR r o).1.t = o.t:=by
 unfold shouldR at *
 unfold knownR at hk
 cases hi:r.ip
 · rw [hi] at hs hk
   simp only at hs ⊢
   split
   · rename_i h;simp only;exact h.1.symm
   · split
     · rename_i h;simp only;exact h.1.symm
     · rfl
 · rw [hi] at hk
   simp only [Bool.and_eq_true,decide_eq_true_eq] at hk ⊢
   exact hk.1.symm
theorem should_good {r:Rule} {o:Ot} (hr:r.Ty) (h1:r.magic≠r.other) (h2:r.other≠0) (hk:knownR r.ip o = true) (hs:(shouldR r o).2 = true):knownR r.ip (shouldR r o).1 = true∧(shouldR r (shouldR r o).1).2 = false:=by
 unfold shouldR at *
 unfold knownR at *
 cases hi:r.ip
 · rw [hi] at hs hk
   simp only at hs ⊢
   by_cases c1:o.t = 1∧numO o.d < 64
   · rw [if_pos c1]
     simp [numO,numF]
   · rw [if_neg c1] at hs ⊢
     by_cases c2:o.t = 5∧(numO o.d = 0 ∨ numO o.d = r.magic)
     · rw [if_pos c2]
       have e:=four_num hr.other
       simp only [Nat.reduceEqDiff,false_and,if_false,e,true_and]
       refine ⟨by simp [fourO],?_⟩
       rw [if_neg (by omega)]
     · rw [if_neg c2] at hs
       cases hs
 · simp only
   have e:=four_num hr.addr
   exact ⟨by simp [fourO],by simp [e]⟩
/-- No type stands twice. -/
def Once (l:List Ot):Prop:=l.Pairwise fun a b=>a.t≠b.t
theorem put_at {o:Ot}:∀ (p:List Ot) (x:Ot) (r:List Ot),(∀ y∈p,y.t≠o.t)->x.t = o.t->putO (p++x :: r) o = p++o :: r:=by
 have ht:∀ r:List Ot,putG o true r = r:=by
  intro r
  induction r with
  | nil=>rfl
  | cons y r ih=>unfold putG;rw [if_neg (by simp),ih]
 intro p
 induction p with
 | nil =>
   intro x r _ hx
   show putG o false (x :: r) = _
   unfold putG
   rw [if_pos ⟨rfl,hx⟩,ht];rfl
 | cons y p ih =>
   intro x r hp hx
   show putG o false (y :: (p++x :: r)) = _
   unfold putG
   rw [if_neg fun k=>hp y (by simp) k.2]
   have:=ih x r (fun z hz=>hp z (by simp [hz])) hx
   unfold putO at this
   rw [this];rfl
theorem put_all (r:Rule):∀ (b a:List Ot),(∀ o∈b,knownR r.ip o = true)->Once (a++b)->((toR r b).foldl putO (a++b)) = a++b.map (fixR r):=by
 intro b
 induction b with
 | nil=>intro a _ _;simp [toR,asR]
 | cons x b ih =>
   intro a hk ho
   have hx:=hk x (by simp)
   have hkb:∀ o∈b,knownR r.ip o = true:=fun o h=>hk o (by simp [h])
   have hax:∀ y∈a,y.t≠x.t:=fun y hy=>(List.pairwise_append.1 ho).2.2 y hy x (by simp)
   by_cases hs:(shouldR r x).2 = true
   · have e1:toR r (x :: b) = (shouldR r x).1 :: toR r b:=by simp [toR,asR,hx,hs]
     have e2:fixR r x = (shouldR r x).1:=if_pos hs
     have e3:=should_t hx hs
     rw [e1,List.foldl_cons,put_at a x b (fun y hy=>by rw [e3];exact hax y hy) e3.symm]
     have ho2:Once ((a++[(shouldR r x).1])++b):=by
      unfold Once at *
      rw [List.append_assoc]
      rw [List.pairwise_append] at ho ⊢
      refine ⟨ho.1,?_,fun y hy z hz=>?_⟩
      · have:=ho.2.1
        rw [List.pairwise_cons] at this
        rw [List.singleton_append,List.pairwise_cons]
        exact ⟨fun z hz=>by rw [e3];exact this.1 z hz,this.2⟩
      · rcases List.mem_append.1 hz with hz | hz
        · rw [List.mem_singleton.1 hz,e3];exact hax y hy
        · exact ho.2.2 y hy z (by simp [hz])
     have:=ih (a++[(shouldR r x).1]) hkb ho2
     rw [List.append_assoc] at this
     simp only [List.singleton_append,List.append_assoc] at this
     rw [this];simp [e2]
   · have e1:toR r (x :: b) = toR r b:=by simp [toR,asR,hs]
     have e2:fixR r x = x:=if_neg hs
     rw [e1]
     have:=ih (a++[x]) hkb (by rw [List.append_assoc];exact ho)
     rw [List.append_assoc] at this
     simp only [List.singleton_append,List.append_assoc] at this
     rw [this];simp [e2]
theorem fix_good {r:Rule} {o:Ot} (hr:r.Ty) (h1:r.magic≠r.other) (h2:r.other≠0) (hk:knownR r.ip o = true):knownR r.ip (fixR r o) = true∧(shouldR r (fixR r o)).2 = false:=by
 unfold fixR
 split
 · rename_i hs;exact should_good hr h1 h2 hk hs
 · rename_i hs;exact ⟨hk,by simpa using hs⟩
theorem odd_nil {ip:Bool} {l:List Ot}:oddR ip l = [] ↔ ∀ o∈l,knownR ip o = true:=by
 unfold oddR
 rw [List.filter_eq_nil_iff]
 exact ⟨fun h o ho=>by simpa using h o ho,fun h o ho=>by simp [h o ho]⟩
theorem as_nil {r:Rule} {l:List Ot} (h:∀ o∈l,(shouldR r o).2 = false):asR r l = []:=by
 unfold asR
 rw [List.filter_eq_nil_iff]
 intro o ho
 simp [h o ho]
/-- All is well. -/
theorem answer_ack {r:Rule} {l:List Ot} {n:Int} (hk:∀ o∈l,knownR r.ip o = true) (hs:∀ o∈l,(shouldR r o).2 = false) (ha:r.ip = true->addrR l≠none):answerR r l n = (2,l):=by
 have e1:=odd_nil.2 hk
 have e2:=as_nil hs
 have e3:toA r l = []:=by
  unfold toA toR
  rw [e2,if_neg fun h=>ha h.1 h.2];rfl
 unfold answerR
 rw [e1,e2,e3]
 simp
theorem answer_codes (r:Rule) (l:List Ot) (n:Int):(answerR r l n).1 = 2 ∨ (answerR r l n).1 = 3 ∨ (answerR r l n).1 = 4:=by
 unfold answerR
 split
 · simp
 split
 · simp
 split <;> simp
theorem answer_two {r:Rule} {l:List Ot} {n:Int} (h:(answerR r l n).1 = 2):(answerR r l n).2 = l∧(∀ o∈l,knownR r.ip o = true)∧(∀ o∈l,(shouldR r o).2 = false)∧(r.ip = true->n < 3->addrR l≠none):=by
 unfold answerR at *
 by_cases c1:oddR r.ip l≠[]
 · rw [if_pos c1] at h;cases h
 rw [if_neg c1] at *
 have hk:=odd_nil.1 (Classical.not_not.1 c1)
 by_cases c2:3≤n∧asR r l≠[]
 · rw [if_pos c2] at h;cases h
 rw [if_neg c2] at *
 by_cases c3:n < 3∧toA r l≠[]
 · rw [if_pos c3] at h;cases h
 rw [if_neg c3] at *
 have az:asR r l = []:=by
  by_cases hn:n < 3
  · have:toA r l = []:=Classical.not_not.1 fun e=>c3 ⟨hn,e⟩
    unfold toA toR at this
    have:=(List.append_eq_nil_iff.1 this).1
    simpa using this
  · exact Classical.not_not.1 fun e=>c2 ⟨by omega,e⟩
 refine ⟨rfl,hk,fun o ho=>?_,fun hi hn e=>?_⟩
 · unfold asR at az
   rw [List.filter_eq_nil_iff] at az
   have:=az o ho
   simpa [hk o ho] using this
 · have:toA r l = []:=Classical.not_not.1 fun e=>c3 ⟨hn,e⟩
   unfold toA at this
   rw [if_pos ⟨hi,e⟩] at this
   simp at this
theorem addr_known {l:List Ot}:addrR l = none ↔ ∀ o∈l,knownR true o = false:=by
 unfold addrR
 rw [Option.map_eq_none_iff,List.find?_eq_none]
 constructor
 · intro h o ho
   have:=h o ho
   unfold knownR
   simp only [decide_eq_true_eq] at this
   simp only [<- Bool.decide_and]
   exact decide_eq_false this
 · intro h o ho
   have:=h o ho
   unfold knownR at this
   simp only [<- Bool.decide_and,decide_eq_false_iff_not] at this
   simpa using this
/-- What we answer with ConfNak,put in the place of what was asked for,is answered with ConfAck. -/
theorem nak_again {r:Rule} {l:List Ot} {n:Int} (hr:r.Ty) (h1:r.magic≠r.other) (h2:r.other≠0) (ho:Once l) (h:(answerR r l n).1 = 3):n < 3∧(answerR r l n).2 = toA r l∧answerR r ((toA r l).foldl putO l) n = (2,(toA r l).foldl putO l):=by
 unfold answerR at h
 by_cases c1:oddR r.ip l≠[]
 · rw [if_pos c1] at h;cases h
 by_cases c2:3≤n∧asR r l≠[]
 · rw [if_neg c1,if_pos c2] at h;cases h
 by_cases c3:n < 3∧toA r l≠[]
 rotate_left
 · rw [if_neg c1,if_neg c2,if_neg c3] at h;cases h
 have e2:(answerR r l n).2 = toA r l:=by unfold answerR;rw [if_neg c1,if_neg c2,if_pos c3]
 have hk:=odd_nil.1 (Classical.not_not.1 c1)
 refine ⟨c3.1,e2,?_⟩
 have e3:=put_all r l [] hk ho
 simp only [List.nil_append] at e3
 unfold toA
 rw [List.foldl_append,e3]
 by_cases c4:r.ip = true∧addrR l = none
 · rw [if_pos c4]
   have hn:l = []:=by
    rcases l with _ | ⟨o,l⟩
    · rfl
    · have a:=hk o (by simp)
      have b:=addr_known.1 c4.2 o (by simp)
      rw [c4.1] at a
      rw [a] at b;cases b
   subst hn
   have e4:=four_num hr.addr
   have eq:List.foldl putO (List.map (fixR r) []) [(⟨3,fourO r.addr⟩:Ot)] = [⟨3,fourO r.addr⟩]:=rfl
   rw [eq]
   refine answer_ack (fun o ho=>?_) (fun o ho=>?_) (fun _=>?_)
   · rw [List.mem_singleton.1 ho,c4.1];rfl
   · rw [List.mem_singleton.1 ho]
     unfold shouldR
     rw [c4.1]
     simp only [e4,ne_eq,not_true_eq_false,decide_false]
   · intro e
     have:=addr_known.1 e _ (List.mem_singleton.2 rfl)
     cases this
 · rw [if_neg c4]
   simp only [List.foldl_nil]
   refine answer_ack (fun o ho=>?_) (fun o ho=>?_) (fun hi e=>?_)
   · obtain ⟨x,hx,rfl⟩:=List.mem_map.1 ho
     exact (fix_good hr h1 h2 (hk x hx)).1
   · obtain ⟨x,hx,rfl⟩:=List.mem_map.1 ho
     exact (fix_good hr h1 h2 (hk x hx)).2
   · refine c4 ⟨hi,addr_known.2 fun o ho=>?_⟩
     have a:=addr_known.1 e _ (List.mem_map_of_mem ho)
     have b:=(fix_good hr h1 h2 (hk o ho)).1
     rw [hi,a] at b;cases b
/-- What is dropped by types. -/
theorem dropAll_mem {l m:List Ot} {o:Ot}:o∈dropAll l m ↔ o∈l∧∀ x∈m,o.t≠x.t:=by
 unfold dropAll
 induction m generalizing l with
 | nil=>simp
 | cons x m ih =>
   rw [List.foldl_cons,ih]
   unfold dropO
   simp only [List.mem_filter,decide_eq_true_eq,List.mem_cons,forall_eq_or_imp,and_assoc]
/-- What we answer with ConfRej,left out,isn't answered with ConfRej for what isn't known. -/
theorem rej_again {r:Rule} {l:List Ot} {n:Int} (h:(answerR r l n).1 = 4):(answerR r l n).2≠[]∧(∀ o∈(answerR r l n).2,o∈l)∧((answerR r (dropAll l (answerR r l n).2) n).1 = 4->∀ o∈(answerR r (dropAll l (answerR r l n).2) n).2,knownR r.ip o = true):=by
 have key:∀ m,(∀ o∈oddR r.ip l,o∈m)->(answerR r (dropAll l m) n).1 = 4->∀ o∈(answerR r (dropAll l m) n).2,knownR r.ip o = true:=by
  intro m hm
  have e:oddR r.ip (dropAll l m) = []:=odd_nil.2 fun o ho=>by
   obtain ⟨h1,h2⟩:=dropAll_mem.1 ho
   cases hk:knownR r.ip o with
   | true=>rfl
   | false =>
     exact absurd rfl (h2 o (hm o (by unfold oddR;rw [List.mem_filter];exact ⟨h1,by simp [hk]⟩)))
  intro h4 o ho
  unfold answerR at h4 ho
  rw [e,if_neg (by simp)] at h4 ho
  split at h4
  · rename_i c
    rw [if_pos c] at ho
    unfold asR at ho
    have:=(List.mem_filter.1 ho).2
    simp only [Bool.and_eq_true] at this
    exact this.1
  · split at h4 <;> cases h4
 unfold answerR at h
 by_cases c1:oddR r.ip l≠[]
 · have e:(answerR r l n).2 = oddR r.ip l:=by unfold answerR;rw [if_pos c1]
   rw [e]
   exact ⟨c1,fun o ho=>(List.mem_filter.1 ho).1,key _ fun o ho=>ho⟩
 by_cases c2:3≤n∧asR r l≠[]
 · have e:(answerR r l n).2 = asR r l:=by unfold answerR;rw [if_neg c1,if_pos c2]
   rw [e]
   exact ⟨c2.2,fun o ho=>(List.mem_filter.1 ho).1,key _ fun o ho=>absurd ho (by rw [Classical.not_not.1 c1];simp)⟩
 rw [if_neg c1,if_neg c2] at h
 split at h <;> cases h
/-- Nothing is agreed to that may not be. -/
theorem ack_facts {r:Rule} {l:List Ot} {n:Int} (h:(answerR r l n).1 = 2):(∀ o∈l,knownR r.ip o = true∧(r.ip = true->numO o.d = r.addr)∧(r.ip = false->o.t = 5->numO o.d≠0∧numO o.d≠r.magic)∧(r.ip = false->o.t = 1->64≤numO o.d))∧(r.ip = false ∨ l≠[] ∨ 3≤n):=by
 obtain ⟨-,h1,h2,h3⟩:=answer_two h
 refine ⟨fun o ho=>⟨h1 o ho,fun hi=>?_,fun hi ht=>?_,fun hi ht=>?_⟩,?_⟩
 · have:=h2 o ho
   unfold shouldR at this
   rw [hi] at this
   simpa using this
 · have:=h2 o ho
   unfold shouldR at this
   rw [hi] at this
   simp only [ht,Nat.reduceEqDiff,false_and,if_false,true_and] at this
   by_cases c:numO o.d = 0 ∨ numO o.d = r.magic
   · rw [if_pos c] at this;cases this
   · omega
 · have:=h2 o ho
   unfold shouldR at this
   rw [hi] at this
   simp only [ht,true_and] at this
   by_cases c:numO o.d < 64
   · rw [if_pos c] at this;cases this
   · omega
 · cases hi:r.ip
   · exact .inl rfl
   · by_cases hn:3≤n
     · exact .inr (.inr hn)
     · refine .inr (.inl fun e=>h3 hi (by omega) ?_)
       rw [e];rfl
/-- What isn't known teaches nothing. -/
theorem first_known (l:List Ot) (t:Nat):firstR (l.filter (knownR false)) t = firstR l t:=by
 unfold firstR
 rw [List.find?_filter]
 congr 2
 funext o
 cases knownR false o <;> simp
theorem learn_known (l:List Ot):learnR (l.filter (knownR false)) = learnR l:=by
 unfold learnR
 rw [first_known,first_known,first_known,first_known,first_known]
theorem num_two {b:List Nat} (hb:∀ x∈b,x < 256) (h:b.length = 2):numO b≤65535:=by
 have:=numF_lt 2 b h hb
 unfold numO
 rw [h]
 simpa using Nat.le_of_lt_succ this
theorem learn_mru {l:List Ot} (hl:∀ o∈l,o.Ty):(learnR l).mru≤65535:=by
 unfold learnR firstR
 simp only
 cases hf:l.find? fun o=>knownR false o && decide (o.t = 1) with
 | none=>simp
 | some o =>
   simp only [Option.map_some,Option.getD_some]
   have h1:=List.find?_some hf
   have h2:=List.mem_of_find?_eq_some hf
   simp only [Bool.and_eq_true,decide_eq_true_eq] at h1
   have h3:=h1.1
   unfold knownR at h3
   rw [if_pos h1.2] at h3
   exact num_two (hl o h2).d (by simpa using h3)
/-- What we ask for. -/
theorem ask_ip {r:Rule} (hi:r.ip = true) (hr:r.ours < 4294967296):askR r = [⟨3,fourO r.ours⟩]∧addrR (askR r) = some r.ours∧(answerR ⟨true,0,0,r.ours,0⟩ (askR r) 0).1 = 2:=by
 have e:askR r = [⟨3,fourO r.ours⟩]:=by unfold askR;rw [hi]
 have f:=four_num hr
 rw [e]
 refine ⟨rfl,?_,?_⟩
 · show some (numO (fourO r.ours)) = some r.ours
   rw [f]
 · rw [answer_ack]
   · intro o ho;rw [List.mem_singleton.1 ho];rfl
   · intro o ho;rw [List.mem_singleton.1 ho];unfold shouldR;simp [f]
   · intro _ e;cases addr_known.1 e _ (List.mem_singleton.2 rfl)
theorem ask_lcp {r:Rule} (hi:r.ip = false):askR r = [⟨3,[194,35,5]⟩,⟨5,fourO r.magic⟩]:=by unfold askR;rw [hi]
theorem ask_rest {m other:Nat} (hm:m < 4294967296):answerR ⟨false,other,9,0,0⟩ [⟨5,fourO m⟩] 0 = if m≠other∧m≠0 then (2,[⟨5,fourO m⟩]) else (3,[⟨5,fourO 9⟩]):=by
 have f:=four_num hm
 by_cases c:m≠other∧m≠0
 · rw [if_pos c,answer_ack]
   · intro o ho;rw [List.mem_singleton.1 ho];rfl
   · intro o ho;rw [List.mem_singleton.1 ho];unfold shouldR;simp only [f,Nat.reduceEqDiff,false_and,if_false,true_and];rw [if_neg (by omega)]
   · intro h;cases h
 · rw [if_neg c]
   have hs:shouldR ⟨false,other,9,0,0⟩ ⟨5,fourO m⟩ = (⟨5,fourO 9⟩,true):=by
    unfold shouldR;simp only [f,Nat.reduceEqDiff,false_and,if_false,true_and];rw [if_pos (by omega)]
   have hk:knownR false ⟨5,fourO m⟩ = true:=rfl
   have ha:asR ⟨false,other,9,0,0⟩ [⟨5,fourO m⟩] = [⟨5,fourO m⟩]:=by unfold asR;simp [hs,hk]
   have ho:oddR false [⟨5,fourO m⟩] = []:=by unfold oddR;simp [hk]
   have ht:toA ⟨false,other,9,0,0⟩ [⟨5,fourO m⟩] = [⟨5,fourO 9⟩]:=by unfold toA toR;rw [ha];simp [hs]
   unfold answerR
   rw [ho,ht,ha]
   simp
/-- What stays of what we ask for. -/
theorem dropAll_len (l m:List Ot):(dropAll l m).length≤l.length:=by
 unfold dropAll
 induction m generalizing l with
 | nil=>simp
 | cons x m ih=>rw [List.foldl_cons];exact Nat.le_trans (ih _) (List.length_filter_le _ _)
theorem find_some {l:List Ot} {t:Nat}:(findO l t).isSome = true ↔ ∃ o∈l,o.t = t:=by
 unfold findO
 rw [List.find?_isSome]
 simp
theorem stays {r:Rule} {c:Nat} {l:List Ot}:(∀ o∈(turnR r (askR r) c l).1,(findO (askR r) o.t).isSome = true)∧(r.ip = true ∨ (findO (turnR r (askR r) c l).1 3).isSome = true)∧(turnR r (askR r) c l).1.length≤(askR r).length∧((turnR r (askR r) c l).2 = false->(turnR r (askR r) c l).1 = askR r)∧((turnR r (askR r) c l).2 = decide (c = 3 ∨ c = 4) ∨ (turnR r (askR r) c l).2 = false∧r.ip = false):=by
 have self:∀ o∈askR r,(findO (askR r) o.t).isSome = true:=fun o ho=>find_some.2 ⟨o,ho,rfl⟩
 have auth:r.ip = true ∨ (findO (askR r) 3).isSome = true:=by
  unfold askR
  cases r.ip
  · exact .inr rfl
  · exact .inl rfl
 unfold turnR
 by_cases c1:((findO l 3).isSome = true∧r.ip = false) ∨ (c≠3∧c≠4)
 · rw [if_pos c1]
   refine ⟨self,auth,Nat.le_refl _,fun _=>rfl,?_⟩
   rcases c1 with c1 | c1
   · exact .inr ⟨rfl,c1.2⟩
   · exact .inl (decide_eq_false (by omega)).symm
 rw [if_neg c1]
 have hc:c = 3 ∨ c = 4:=by
  by_cases h3:c = 3
  · exact .inl h3
  · by_cases h4:c = 4
    · exact .inr h4
    · exact absurd (.inr ⟨h3,h4⟩) c1
 by_cases c2:c = 4
 · rw [if_pos c2]
   refine ⟨fun o ho=>self o (dropAll_mem.1 ho).1,?_,dropAll_len _ _,(fun h=>by cases h),.inl (decide_eq_true hc).symm⟩
   cases hi:r.ip
   · refine .inr (find_some.2 ⟨⟨3,[194,35,5]⟩,dropAll_mem.2 ⟨?_,fun x hx e=>c1 (.inl ⟨find_some.2 ⟨x,hx,e.symm⟩,hi⟩)⟩,rfl⟩)
     rw [ask_lcp hi];simp
   · exact .inl rfl
 rw [if_neg c2]
 by_cases c3:r.ip = true ∨ (findO l 5).isSome = false ∨ (findO (askR r) 5).isSome = false
 · rw [if_pos c3]
   exact ⟨self,auth,Nat.le_refl _,fun _=>rfl,.inl (decide_eq_true hc).symm⟩
 rw [if_neg c3]
 have hi:r.ip = false:=by
  cases hi:r.ip
  · rfl
  · exact absurd (.inl hi) c3
 have e:putO (askR r) ⟨5,fourO r.other⟩ = [⟨3,[194,35,5]⟩,⟨5,fourO r.other⟩]:=by
  rw [ask_lcp hi]
  simp [putO,putG]
 simp only [e]
 refine ⟨fun o ho=>?_,.inr rfl,by rw [ask_lcp hi];simp,(fun h=>by cases h),.inl (decide_eq_true hc).symm⟩
 rw [ask_lcp hi]
 simp only [List.mem_cons,List.not_mem_nil,or_false] at ho
 rcases ho with rfl | rfl <;> rfl
end Ru
namespace Sf
section
variable (Γ:Nat->Option (List Data))
/-- A line that is right. -/
def Rl (b:List Nat) (lg:Bool):Prop:=b.length≤1508∧(lg = true->b = [])∧126 ∉ b
instance (b:List Nat) (lg:Bool):Decidable (Rl b lg):=by unfold Rl;infer_instance
end
end Sf
namespace Sf
end Sf
namespace Sf
end Sf
namespace Sf
end Sf
namespace Sf
end Sf
namespace Sf
end Sf
namespace Sf
end Sf
namespace Fc
structure Fr where
 p:Nat
 i:List Nat
deriving DecidableEq
def fr (f:Fr):Data:=.agg [.int .u16 f.p,.sl 1 (bys f.i)]
def noF:Fr:=⟨0,[]⟩
def MayP (p:Nat):Prop:=p % 2 = 1∧p / 256 % 2 = 0∧p≠255
instance (p:Nat):Decidable (MayP p):=by unfold MayP;infer_instance
/-- A frame that may be. -/
def Ok (f:Fr):Prop:=MayP f.p∧f.i.length≤1500
instance (f:Fr):Decidable (Ok f):=by unfold Ok;infer_instance
def fin (p:Nat) (i:List Nat):Fr × Int:=if MayP p then if i.length≤1500 then (⟨p,i⟩,0) else (noF,4) else (noF,2)
def bodyR:List Nat->Fr × Int
 | []=>(noF,2)
 | x :: r=>if x % 2 = 1 then fin x r else match r with
   | []=>(noF,2)
   | y :: r=>fin (x * 256 + y) r
end Fc
namespace Pa
open Fc
structure Pk where
 c:Nat
 i:Nat
 d:List Nat
deriving DecidableEq
/-- A packet of bytes. -/
structure Pk.Ty (p:Pk):Prop where
 c:p.c < 256
 i:p.i < 256
 d:∀ x∈p.d,x < 256
def known (proto code:Nat):Bool:=if proto = 49185 then decide (1≤code∧code≤11) else if proto = 49699 then decide (1≤code∧code≤4) else if proto = 32801 then decide (1≤code∧code≤7) else false
end Pa
namespace Pa
end Pa
namespace Pa
open Fc
section
variable (Γ:Nat->Option (List Data))
theorem pclone_pc (b:List Nat) (hl:b.length≤1000000000):PC Try.prog Γ 44 [.sl 1 (bys b)] (.sl 1 (bys b)):=by
 refine pc_by mixed Try.func44 rfl (fun args w=>Try.call44 args w) ?_
 simp -implicitDefEqProofs (disch:=omega) [go_sem]
 refine fun q hq=>?_
 cases q
 · simp -implicitDefEqProofs (disch:=omega) [go_sem,Try.f44]
   exact ⟨_,⟨_,rfl,frz_bys (rw:=true) (by simp [go_sem]) (.inl rfl) (by simp [bys_length])⟩,rfl⟩
 · have h0:b = []:=by simpa [bys] using hq rfl
   subst h0
   simp -implicitDefEqProofs (disch:=omega) [go_sem,Try.f44]
   exact ⟨_,⟨_,rfl,.emp ..⟩,rfl⟩
end
end Pa
namespace Op9
section
variable (Γ:Nat->Option (List Data))
theorem copied_pc (o:Ot) (h:o.d.length≤1000000000):PC Try.prog Γ 51 [ot o] (ot o):=by
 refine pc_by mixed Try.func51 rfl (fun args w=>Try.call51 args w) ?_
 have c1:=Pa.pclone_pc Γ o.d h
 unfold ot
 simp -implicitDefEqProofs (disch:=omega) [go_sem]
 refine .inl (call_data c1 (by simp [go_sem]) ?_)
 simp -implicitDefEqProofs (disch:=omega) [go_sem]
 refine side (by kernel_rfl) ?_
 simp -implicitDefEqProofs (disch:=omega) [go_sem,Try.f51]
theorem typeOf_pc (o:Ot):PC Try.prog Γ 53 [ot o] (.int .u8 o.t):=by
 refine pc_by mixed Try.func53 rfl (fun args w=>Try.call53 args w) ?_
 unfold ot
 simp -implicitDefEqProofs (disch:=omega) [go_sem,Try.f53]
/-- Where the first one of a type stands. -/
def placeO (l:List Ot) (t:Nat):Option Nat:=l.findIdx? fun o=>o.t = t
def placeD:Option Nat->Data
 | some i=>.tup [.int .i64 i,.bool true]
 | none=>.tup [.int .i64 0,.bool false]
theorem placeO_some {l:List Ot} {t i:Nat} (h:i < l.length) (ht:l[i].t = t) (hall:∀ (j:Nat) (hj:j < l.length),j < i->l[j].t≠t):placeO l t = some i:=by
 unfold placeO
 rw [List.findIdx?_eq_some_iff_getElem]
 exact ⟨h,by simpa using ht,fun j hj=>by simpa using hall j (by omega) hj⟩
theorem placeO_none {l:List Ot} {t:Nat} (hall:∀ (j:Nat) (hj:j < l.length),l[j].t≠t):placeO l t = none:=by
 unfold placeO
 rw [List.findIdx?_eq_none_iff]
 intro x hx
 obtain ⟨j,hj,rfl⟩:=List.getElem_of_mem hx
 simpa using hall j hj
theorem placeO_is {l:List Ot} {t i:Nat} (h:placeO l t = some i):∃ hi:i < l.length,l[i].t = t∧∀ (j:Nat) (hj:j < l.length),j < i->l[j].t≠t:=by
 unfold placeO at h
 rw [List.findIdx?_eq_some_iff_getElem] at h
 obtain ⟨h1,h2,h3⟩:=h
 exact ⟨h1,by simpa using h2,fun j hj hji=>by simpa using h3 j hji⟩
theorem placeO_no {l:List Ot} {t:Nat} (h:placeO l t = none):∀ x∈l,x.t≠t:=by
 unfold placeO at h
 rw [List.findIdx?_eq_none_iff] at h
 intro x hx
 simpa using h x hx
theorem place_pc (l:List Ot) (t:Nat) (hl:l.length≤1000000000):PC Try.prog Γ 52 [.sl 2 (ots l),.int .u8 t,.fn 53 []] (placeD (placeO l t)):=by
 refine pc_by mixed Try.func52 rfl (fun args w=>Try.call52 args w) ?_
 simp -implicitDefEqProofs (disch:=omega) [go_sem]
 refine loop_ren (σ:={ i:Nat // i≤l.length∧∀ (j:Nat) (hj:j < l.length),j < i->l[j].t≠t }) (fun i=>⟨envL [(1,.data (.int .u8 t)),(2,.data (.fn 53 [])),(10,.data (.sl 2 (ots l))),(11,.data (.int .i64 l.length)),(12,.data (.int .i64 i.1))],hpL [],0,0,24⟩) (fun i=>l.length - i.1) ⟨0,by omega,fun j _ h=>absurd h (Nat.not_lt_zero _)⟩ [] (rhoL []) ?_ ?_
 · apply ren_lists <;> simp -implicitDefEqProofs [go_sem]
 rintro ⟨i,hi,hall⟩
 by_cases h:i < l.length
 · have c1:=typeOf_pc Γ l[i]
   unfold ot at c1
   by_cases ht:l[i].t = t
   · have ht2:(l[i].t:Int) = t:=by omega
     rw [placeO_some h ht hall]
     simp -implicitDefEqProofs (disch:=omega) [go_sem,ot]
     refine .inl (call_data c1 (by simp [go_sem]) ?_)
     simp -implicitDefEqProofs (disch:=omega) [go_sem,ht2,placeD,Try.f52]
   · have ht2:¬ ((l[i].t:Int) = t):=by omega
     simp -implicitDefEqProofs (disch:=omega) [go_sem,ot]
     refine .inl (call_data c1 (by simp [go_sem]) ?_)
     simp -implicitDefEqProofs (disch:=omega) [go_sem,ht2]
     refine next_ren ⟨i + 1,by omega,fun j hj hji=>by
      by_cases e:j = i
      · subst e;exact ht
      · exact hall j hj (by omega)⟩ (by simp only;omega) [] (rhoL []) ?_
     apply ren_lists <;> simp -implicitDefEqProofs [go_sem]
 · rw [placeO_none fun j hj=>hall j hj (by omega)]
   simp -implicitDefEqProofs (disch:=omega) [go_sem,placeD,Try.f52]
theorem ofour_pc (n:Nat) (hn:n < 4294967296):PC Try.prog Γ 49 [.int .u32 n] (.sl 1 (bys (fourO n))):=by
 refine pc_by mixed Try.func49 rfl (fun args w=>Try.call49 args w) ?_
 have e1:(n:Int).fdiv 16777216 = ((n / 16777216:Nat):Int):=by rw [Int.fdiv_eq_ediv_of_nonneg _ (by decide)];omega
 have e2:(n:Int).fdiv 65536 = ((n / 65536:Nat):Int):=by rw [Int.fdiv_eq_ediv_of_nonneg _ (by decide)];omega
 have e3:(n:Int).fdiv 256 = ((n / 256:Nat):Int):=by rw [Int.fdiv_eq_ediv_of_nonneg _ (by decide)];omega
 simp -implicitDefEqProofs (disch:=omega) [go_sem,e1,e2,e3,Try.f49]
 refine ⟨_,⟨_,rfl,frz_bys (rw:=true) (l:=fourO n) ?_ (.inl rfl) (by simp [fourO])⟩,rfl⟩
 simp [go_sem,bys,u8,fourO]
 omega
/-- A number,of which the first bytes are shifted out. -/
def numM (b:List Nat):Nat:=b.foldl (fun n x=>n * 256 % 4294967296 + x) 0
theorem numM_snoc (l:List Nat) (x:Nat):numM (l++[x]) = numM l * 256 % 4294967296 + x:=by simp [numM,List.foldl_append]
theorem numM_mod:∀ (n:Nat) (l:List Nat),l.length = n->(∀ x∈l,x < 256)->numM l = numF l % 4294967296:=by
 intro n
 induction n with
 | zero=>intro l hl _;rw [List.eq_nil_of_length_eq_zero hl];rfl
 | succ n ih =>
   intro l hl hb
   have hne:l≠[]:=fun e=>by rw [e] at hl;simp at hl
   have e:=List.dropLast_concat_getLast hne
   have h1:=ih l.dropLast (by rw [List.length_dropLast];omega) fun x hx=>hb x (List.dropLast_subset _ hx)
   have h2:=hb _ (List.getLast_mem hne)
   rw [<- e,numM_snoc,numF_snoc,h1]
   generalize numF l.dropLast = y
   generalize l.getLast hne = z at *
   omega
theorem numF_app:∀ (n:Nat) (a b:List Nat),b.length = n->numF (a++b) = numF a * 256 ^ n + numF b:=by
 intro n
 induction n with
 | zero=>intro a b hb;rw [List.eq_nil_of_length_eq_zero hb];simp [numF]
 | succ n ih =>
   intro a b hb
   have hne:b≠[]:=fun e=>by rw [e] at hb;simp at hb
   have e:=List.dropLast_concat_getLast hne
   rw [<- e,<- List.append_assoc,numF_snoc,numF_snoc,ih a b.dropLast (by rw [List.length_dropLast];omega),Nat.pow_succ]
   rw [Nat.add_mul,Nat.mul_assoc]
   omega
theorem numM_eq {b:List Nat} (hb:∀ x∈b,x < 256):numM b = numO b:=by
 rw [numM_mod _ b rfl hb]
 unfold numO
 have e:numF b = numF (b.take (b.length - 4)++b.drop (b.length - 4)):=by rw [List.take_append_drop]
 have hlt:=numF_lt _ (b.drop (b.length - 4)) rfl fun x hx=>hb x (List.mem_of_mem_drop hx)
 have hle:(b.drop (b.length - 4)).length≤4:=by rw [List.length_drop];omega
 have h4:256 ^ (b.drop (b.length - 4)).length≤256 ^ 4:=Nat.pow_le_pow_right (by decide) hle
 have e4:(256:Nat) ^ 4 = 4294967296:=by decide
 by_cases h:b.length≤4
 · rw [show b.length - 4 = 0 by omega,List.drop_zero] at *
   exact Nat.mod_eq_of_lt (by omega)
 · have hl4:(b.drop (b.length - 4)).length = 4:=by rw [List.length_drop];omega
   rw [e,numF_app 4 _ _ hl4,e4]
   omega
theorem or32 {a b:Nat} (hb:b < 256):orI .u32 (((a * 256 % 4294967296:Nat):Int)) (b:Int) = ((a * 256 % 4294967296 + b:Nat):Int):=by
 have e1:a * 256 % 4294967296 = (a % 16777216) * 256:=by omega
 rw [e1]
 have ha:a % 16777216 < 16777216:=Nat.mod_lt _ (by decide)
 generalize a % 16777216 = c at *
 have h:=Nat.two_pow_add_eq_or_of_lt (i:=8) (b:=b) (by omega) c
 have hw:c * 256 + b < 4294967296:=by omega
 unfold orI
 rw [BitVec.ofInt_natCast,BitVec.ofInt_natCast,BitVec.toNat_or,BitVec.toNat_ofNat,BitVec.toNat_ofNat,Nat.mod_eq_of_lt (show c * 256 < 2 ^ IntKind.u32.bits from by show c * 256 < 4294967296;omega),Nat.mod_eq_of_lt (show b < 2 ^ IntKind.u32.bits from by show b < 4294967296;omega)]
 rw [show c * 256 = 2 ^ 8 * c by omega,<- h,IntKind.wrap_u32]
 omega
theorem onumber_pc (b:List Nat) (hl:b.length≤140737488351232) (hb:∀ x∈b,x < 256):PC Try.prog Γ 47 [.sl 1 (bys b)] (.int .u32 (numO b)):=by
 refine pc_by mixed Try.func47 rfl (fun args w=>Try.call47 args w) ?_
 rw [<- numM_eq hb]
 simp -implicitDefEqProofs (disch:=omega) [go_sem]
 refine loop_ren (σ:={ i:Nat // i≤b.length }) (fun i=>⟨envL [(3,.data (.int .u32 (numM (b.take i.1)))),(6,.data (.sl 1 (bys b))),(7,.data (.int .i64 b.length)),(8,.data (.int .i64 i.1))],hpL [],0,0,19⟩) (fun i=>b.length - i.1) ⟨0,by omega⟩ [] (rhoL []) ?_ ?_
 · apply ren_lists <;> simp -implicitDefEqProofs [go_sem,numM]
 rintro ⟨i,hi⟩
 by_cases h:i < b.length
 · have h3:=hb _ (List.getElem_mem h)
   have h6:numM (b.take (i + 1)) = numM (b.take i) * 256 % 4294967296 + b[i]:=by rw [List.take_add_one,List.getElem?_eq_getElem h,Option.toList_some,numM_snoc]
   generalize numM (b.take i) = m at *
   have e2:=or32 (a:=m) h3
   obtain ⟨z,hz⟩:∃ z:Nat,m * 256 % 4294967296 = z:=⟨_,rfl⟩
   have e1:(m:Int) * 256 % 4294967296 = (z:Int):=by omega
   rw [hz] at e2 h6
   simp -implicitDefEqProofs (disch:=omega) [go_sem,e1,e2]
   refine next_ren ⟨i + 1,by omega⟩ (by simp only;omega) [] (rhoL []) ?_
   apply ren_lists <;> simp -implicitDefEqProofs [go_sem,h6]
   rw [show (b[i]:Int) % 4294967296 = b[i] by omega,e2]
   simp
 · have:i = b.length:=by omega
   subst this
   simp -implicitDefEqProofs (disch:=omega) [go_sem,List.take_length,Try.f47]
theorem findP (l:List Ot) (t:Nat):findO l t = (placeO l t).bind fun i=>l[i]?:=by
 cases h:placeO l t with
 | none=>exact findO_none l t fun j hj=>placeO_no h _ (List.getElem_mem hj)
 | some i =>
   obtain ⟨h1,h2,h3⟩:=placeO_is h
   rw [findO_take l t i h3 h1 h2]
   simp [h1]
theorem ofind_pc (l:List Ot) (t:Nat) (hl:l.length≤1000000000) (hd:∀ o∈l,o.d.length≤1000000000):PC Try.prog Γ 46 [.sl 2 (ots l),.int .u8 t] (foundO (findO l t)):=by
 refine pc_by mixed Try.func46 rfl (fun args w=>Try.call46 args w) ?_
 have c1:=place_pc Γ l t hl
 rw [findP]
 cases h:placeO l t with
 | none =>
   rw [h] at c1
   unfold placeD at c1
   simp -implicitDefEqProofs (disch:=omega) [go_sem]
   refine .inl (call_data c1 (by simp [go_sem]) ?_)
   simp -implicitDefEqProofs (disch:=omega) [go_sem,foundO,ot,noO,Try.f46]
   exact ⟨_,⟨_,rfl,frz_aggL (frzL_c (.data _) (frzL_c (.emp 0 1) frzL_n))⟩,rfl⟩
 | some i =>
   obtain ⟨h1,h2,h3⟩:=placeO_is h
   rw [h] at c1
   unfold placeD at c1
   have c2:=copied_pc Γ l[i] (hd _ (List.getElem_mem h1))
   unfold ot at c2
   simp -implicitDefEqProofs (disch:=omega) [go_sem]
   refine .inl (call_data c1 (by simp [go_sem]) ?_)
   simp -implicitDefEqProofs (disch:=omega) [go_sem,ot]
   refine .inl (call_data c2 (by simp [go_sem]) ?_)
   simp -implicitDefEqProofs (disch:=omega) [go_sem,foundO,ot,h1,Try.f46]
theorem putP (o:Ot) (l:List Ot):putO l o = match placeO l o.t with
 | some i=>l.set i o
 | none=>l++[o]:=by
 have yes:∀ l:List Ot,putG o true l = l:=by
  intro l
  induction l with
  | nil=>rfl
  | cons x l ih =>
    unfold putG
    rw [if_neg (by simp),ih]
 induction l with
 | nil=>rfl
 | cons x l ih =>
   show putG o false (x :: l) = _
   unfold putG
   by_cases h:x.t = o.t
   · rw [if_pos ⟨rfl,h⟩,yes]
     have:placeO (x :: l) o.t = some 0:=placeO_some (by simp) h fun j _ hj=>absurd hj (Nat.not_lt_zero _)
     rw [this];rfl
   · rw [if_neg fun k=>h k.2]
     have e:putG o false l = putO l o:=rfl
     rw [e,ih]
     have hp:placeO (x :: l) o.t = (placeO l o.t).map (· + 1):=by
      unfold placeO
      rw [List.findIdx?_cons]
      simp [h]
     rw [hp]
     cases placeO l o.t <;> simp
end
end Op9
section
variable (P:Program) (Γ:Nat->Option (List Data))
@[go_sem] theorem wpX_skip (Q:Exit->St->Prop) (s:St):wpX P Γ .skip Q s = Q .normal s:=rfl
@[go_sem] theorem wpX_draw (i:Nat) (ops:List Oper) (Q:Exit->St->Prop) (s:St):wpX P Γ (.region i ops.toArray true) Q s = drawW P Γ ops.toArray ops s [] (fun s' tr=>sideK (drawOk2 ops.toArray tr s.nx s'.nx = true) (Q .normal s')):=rfl
@[go_sem] theorem wpX_row (i:Nat) (ops:List Oper) (Q:Exit->St->Prop) (s:St):wpX P Γ (.region i ops.toArray false) Q s = opsX P Γ ops.toArray ops s Q:=rfl
@[go_sem] theorem wpX_seq (x y:Code) (Q:Exit->St->Prop) (s:St):wpX P Γ (.seq x y) Q s = wpX P Γ x (thenW (wpX P Γ y Q) Q) s:=rfl
@[go_sem] theorem wpX_cond (c:Operand) (x y:Code) (Q:Exit->St->Prop) (s:St):wpX P Γ (.cond c x y) Q s = condK (evalD Γ s.env c) (wpX P Γ x Q s) (wpX P Γ y Q s):=rfl
@[go_sem] theorem wpX_block (id:Nat) (b:Code) (Q:Exit->St->Prop) (s:St):wpX P Γ (.block id b) Q s = wpX P Γ b (blockW id Q) s:=rfl
@[go_sem] theorem wpX_loop (b:Code) (Q:Exit->St->Prop) (s:St):wpX P Γ (.loop b) Q s = LoopW (wpX P Γ b) Q s:=rfl
@[go_sem] theorem wpX_exit (id:Nat) (Q:Exit->St->Prop) (s:St):wpX P Γ (.exit id) Q s = Q (.exit id) s:=rfl
@[go_sem] theorem wpX_ret (Q:Exit->St->Prop) (s:St):wpX P Γ .ret Q s = Q .ret s:=rfl
@[go_sem] theorem thenW_panic (n:St->Prop) (Q:Exit->St->Prop) (s:St) (ch:List PanicEntry):thenW n Q (.panic ch) s = Q (.panic ch) s:=rfl
@[go_sem] theorem blockW_panic (id:Nat) (Q:Exit->St->Prop) (s:St) (ch:List PanicEntry):blockW id Q (.panic ch) s = Q (.panic ch) s:=rfl
@[congr] theorem retXQ_congr {n0:Nat} (tk:tick = n0) (fn:Func) (K:D->(Nat->Blk)->Nat->Prop) (X:Value->(Nat->Blk)->Nat->Prop) (x:Exit) (s:St):retXQ P fn K X x s = retXQ P fn K X x s:=rfl
@[go_sem] theorem retXQ_ret (fn:Func) (K:D->(Nat->Blk)->Nat->Prop) (X:Value->(Nat->Blk)->Nat->Prop) (s:St):retXQ P fn K X .ret s = resK P fn.results.toList s fun ds=>∃ d,tupDD ds = some d∧K d s.hp s.nx:=rfl
@[go_sem] theorem retXQ_normal (fn:Func) (K:D->(Nat->Blk)->Nat->Prop) (X:Value->(Nat->Blk)->Nat->Prop) (s:St):retXQ P fn K X .normal s = resK P fn.results.toList s fun ds=>∃ d,tupDD ds = some d∧K d s.hp s.nx:=rfl
@[congr] theorem panK_congr {n0:Nat} (tk:tick = n0) {x x':D} (h:x = x') (X:Value->Prop):panK x X = panK x' X:=by rw [h]
@[go_sem] theorem panD_eq (dst:Option Nat) (x:Operand) (ty:TypeId) (pos:String) (af:Array Edge) (gd:Option (Nat × Bool)) (e:Nat->D):panD Γ ⟨dst,.panic x,ty,pos,af,gd⟩ e = evalD Γ e x:=rfl
attribute [go_sem] isPan
@[go_sem] theorem opsX_nil (ops:Array Oper) (s:St) (Q:Exit->St->Prop):opsX P Γ ops [] s Q = Q .normal s:=rfl
@[congr] theorem opsX_congr {n0:Nat} (tk:tick = n0) (ops:Array Oper) (l:List Oper) (s:St) (Q:Exit->St->Prop):opsX P Γ ops l s Q = opsX P Γ ops l s Q:=rfl
@[congr] theorem wpX_congr {n0:Nat} (tk:tick = n0) (c:Code) (Q:Exit->St->Prop) (s:St):wpX P Γ c Q s = wpX P Γ c Q s:=rfl
@[congr] theorem dxK_congr' {n0:Nat} (tk:tick = n0) (o:Oper) (e:Nat->D) (H:Nat->Blk) (fr:Nat) (K:D->(Nat->Blk)->Nat->Prop) (X:Value->(Nat->Blk)->Nat->Prop):dxK P Γ o e H fr K X = dxK P Γ o e H fr K X:=rfl
@[congr] theorem DX_congr {n0:Nat} (tk:tick = n0) (f:FuncId) {ds ds':List D} (h:ds = ds') (H:Nat->Blk) (nx:Nat) (K:D->(Nat->Blk)->Nat->Prop) (X:Value->(Nat->Blk)->Nat->Prop):DX P Γ f ds H nx K X = DX P Γ f ds' H nx K X:=by rw [h]
end
section
variable {P:Program} {Γ:Nat->Option (List Data)}
/-- What a deferred call recovers. -/
def Recd (u:FrameMode) (d:Data):Prop:=(u = .returning∧d = .nili) ∨ ∃ t x v,u = .panicking (pan (.iface t v))∧litV x = some v∧d = .ifc t x
/-- A deferred call that recovers,on the caller's numbered rows. -/
def DR (P:Program) (Γ:Nat->Option (List Data)) (g:FuncId) (ds:List D) (d:Data) (H:Nat->Blk) (nx:Nat) (K:(Nat->Blk)->Nat->Prop):Prop :=
 CallOk P g∧∀ (L0:Nat->Prop) (w0:W0) (m:Nat->MB) (w:World) (vs:Array Value) (u:FrameMode),WR Γ L0 w0 m H w->(∀ g,nx≤g->m g = .res)->(∀ g,nx≤g->H g = .dead)->ds.length = vs.size->(∀ (i:Nat) (d:D) (v:Value),ds[i]? = some d->vs[i]? = some v->VV (Live L0 m H) w m d v)->Recd u d →
  CallsD P g vs u w fun e u' w'=>∃ v0 H' nx' m',e = .returned v0∧settle u' = .returning∧WR Γ L0 w0 m' H' w'∧Grow (Live L0 m H) w (Live L0 m' H') w'∧(∀ g,g < nx->m' g = m g)∧(∀ g,nx'≤g->m' g = .res)∧nx≤nx'∧K H' nx'
def closQ (K:(Nat->Blk)->Nat->Prop):Exit->St->Prop
 | .normal,s | .ret,s=>K s.hp s.nx
 | _,_=>False
/-- Behind its body a function's deferred call,then what it hands back. -/
def endR (P:Program) (Γ:Nat->Option (List Data)) (fn:Func) (g:FuncId) (dte:D) (r:Data) (d:Data) (s:St):Prop :=
 DR P Γ g [dte] d s.hp s.nx fun H' nx'=>resK P fn.results.toList ⟨s.env,H',nx',s.lo,s.nt⟩ fun ds=>∃ xs,FrzL true H' ds xs∧r = tupD xs
def bodyR (P:Program) (Γ:Nat->Option (List Data)) (fn:Func) (g:FuncId) (dte:D) (r:Data):Exit->St->Prop
 | .normal,s=>endR P Γ fn g dte r .nili s
 | .panic ch,s=>∃ t v x,ch = pan (.iface t v)∧litV x = some v∧endR P Γ fn g dte r (.ifc t x) s
 | _,_=>False
end
section
variable {P:Program} {Γ:Nat->Option (List Data)}
@[go_sem] theorem cells_ifc (t:TypeId) (d:Data):Data.cells (.ifc t d) = [.ifc t d]:=rfl
variable (P)
@[go_sem] theorem closQ_ret (K:(Nat->Blk)->Nat->Prop) (s:St):closQ K .ret s = K s.hp s.nx:=rfl
@[go_sem] theorem closQ_normal (K:(Nat->Blk)->Nat->Prop) (s:St):closQ K .normal s = K s.hp s.nx:=rfl
@[congr] theorem closQ_congr {n0:Nat} (tk:tick = n0) (K:(Nat->Blk)->Nat->Prop) (e:Exit) (s:St):closQ K e s = closQ K e s:=rfl
variable {P}
@[congr] theorem bodyR_congr {n0:Nat} (tk:tick = n0) (fn:Func) (g:FuncId) (dte:D) (r:Data) (e:Exit) (s:St):bodyR P Γ fn g dte r e s = bodyR P Γ fn g dte r e s:=rfl
@[go_sem] theorem bodyR_normal (fn:Func) (g:FuncId) (dte:D) (r:Data) (s:St):bodyR P Γ fn g dte r .normal s = DR P Γ g [dte] .nili s.hp s.nx fun H' nx'=>resK P fn.results.toList ⟨s.env,H',nx',s.lo,s.nt⟩ fun ds=>∃ xs,FrzL true H' ds xs∧r = tupD xs:=rfl
@[congr] theorem DR_congr {n0:Nat} (tk:tick = n0) (g:FuncId) {ds ds':List D} (h:ds = ds') (d:Data) (H:Nat->Blk) (nx:Nat) (K:(Nat->Blk)->Nat->Prop):DR P Γ g ds d H nx K = DR P Γ g ds' d H nx K:=by rw [h]
end
/-- What leads to the row that is lent,as the caller has it,and as the call does;and what hangs on no row. -/
inductive Lent2 (g:Nat):D->D->Prop where
 | data (x:Data):Lent2 g (.data x) (.data x)
 | cptr (c:List Data):Lent2 g (.cptr c) (.cptr c)
 | ptr (off:Nat):Lent2 g (.ptr g off) (.ptr 0 off)
 | ref (off len es:Nat):Lent2 g (.ref g off len es) (.ref 0 off len es)
 | bnd (f:FuncId) {a b:D} (h:Lent2 g a b):Lent2 g (.bnd f a) (.bnd f b)
inductive LentL (g:Nat):List D->List D->Prop where
 | nil:LentL g [] []
 | cons {a b:D} {us0 bs:List D} (h:Lent2 g a b) (t:LentL g us0 bs):LentL g (a :: us0) (b :: bs)
theorem LentL.len {g:Nat}:∀ {us0 bs:List D},LentL g us0 bs->us0.length = bs.length
 | [],[],.nil=>rfl
 | _ :: _,_ :: _,.cons _ t=>by simp [t.len]
/-- What is live of a call's own. -/
def Liv (m:Nat->MB) (H:Nat->Blk):Nat->Prop:=fun b=>∃ g sz,(H g).rw = true∧m g = .at b sz
section
variable {P:Program} {Γ:Nat->Option (List Data)} {L0:Nat->Prop} {w0:W0}
theorem Rel.liv {m:Nat->MB} {s:St} {a:Act} {w:World} (h:Rel Γ L0 w0 m s a w) {b:Nat} (hb:Liv m s.hp b):w0.base≤b∧¬ L0 b∧b < w.heap.size:=by
 obtain ⟨g,sz,hg,hm⟩:=hb
 rcases Blk.rw_inv hg with ⟨cells,hg⟩ | ⟨o,hg⟩
 · rcases h.heap.blk g true cells hg with ⟨k,_⟩ | ⟨b',sz',vs,ty,k1,k2,_⟩
   · rw [k] at hm;cases hm
   · have:=h.wr.lt hg hm
     rw [k1] at hm;cases hm
     exact ⟨k2.1,k2.2,this⟩
 · obtain ⟨b',v,k1,k2,_⟩:=h.heap.obj g o hg
   have:=h.wr.ltO hg hm
   rw [k1] at hm;cases hm
   exact ⟨k2.1,k2.2,this⟩
/-- What a call's own steps do,seen from elsewhere. -/
theorem Rel.others {m m':Nat->MB} {s s':St} {a a':Act} {w w':World} (h:Rel Γ L0 w0 m s a w) (h':Rel Γ L0 w0 m' s' a' w') (hg:Grow (Live L0 m s.hp) w (Live L0 m' s'.hp) w') :
 Grow (Liv m s.hp) w (Liv m' s'.hp) w'∧∀ b,L0 b->w'.heap[b]? = w.heap[b]?:=by
 have e:∀ b,L0 b->w'.heap[b]? = w.heap[b]?:=fun b hb=>(h'.l0 b hb).2.trans (h.l0 b hb).2.symm
 refine ⟨⟨hg.size,fun b hb hL=>?_⟩,e⟩
 by_cases hl:L0 b
 · exact ⟨e b hl,fun k=>(h'.liv k).2.1 hl⟩
 · obtain ⟨h1,h2⟩:=hg.keep b hb fun k=>by
    rcases k with k | k
    · exact hl k
    · exact hL k
   exact ⟨h1,fun k=>h2 (.inr k)⟩
/-- What others do,seen from a call. -/
theorem Rel.after {L1:Nat->Prop} {m:Nat->MB} {s:St} {a:Act} {w w':World} (h:Rel Γ L0 w0 m s a w) (hg:Grow L0 w L1 w') (hl:∀ b,L1 b->b < w'.heap.size):Rel Γ L1 ⟨w',w0.base,Nat.le_trans h.size hg.size⟩ m s a w':=by
 have own:∀ b,b < w.heap.size->¬ L0 b->w'.heap[b]? = w.heap[b]?∧¬ L1 b:=fun b hb hn=>hg.keep b hb hn
 have gr:Grow (Live L0 m s.hp) w (Live L1 m s.hp) w':=⟨hg.size,fun b hb hn=>by
  obtain ⟨h1,h2⟩:=own b hb fun k=>hn (.inl k)
  exact ⟨h1,fun k=>by
   rcases k with k | k
   · exact h2 k
   · exact hn (.inr k)⟩⟩
 refine ⟨h.defers,fun t=>(h.vals t).mono gr fun _ _=>rfl,⟨?_,h.heap.inj,?_,h.heap.injO⟩,h.res,h.dead,Below.refl _ _,fun b hb=>⟨hl b hb,rfl⟩,h.glob.mono gr,h.lo,h.slots⟩
 · intro g rw cells hgb
   rcases h.heap.blk g rw cells hgb with k | ⟨b,sz,vs,ty,k1,k2,k3,k4,k5,k6,k7⟩
   · exact .inl k
   · have hb:b < w.heap.size:=(Array.getElem?_eq_some_iff.1 k4).1
     obtain ⟨e1,e2⟩:=own b hb k2.2
     exact .inr ⟨b,sz,vs,ty,k1,⟨k2.1,e2⟩,fun hrw=>(gr.keep b hb (k3 hrw)).2,e1.trans k4,k5,k6,fun i d hd=>by
      obtain ⟨v,q1,q2,q3⟩:=k7 i d hd
      exact ⟨v,q1,q2,q3.mono gr fun _ _=>rfl⟩⟩
 · intro g o hgo
   obtain ⟨b,v,k1,k2,k3,k4⟩:=h.heap.obj g o hgo
   have hb:b < w.heap.size:=(Array.getElem?_eq_some_iff.1 k3).1
   obtain ⟨e1,e2⟩:=own b hb k2.2
   exact ⟨b,v,k1,⟨k2.1,e2⟩,e1.trans k3,k4.mono gr fun _ _=>rfl⟩
/-- Fewer others. -/
theorem Rel.back {L1:Nat->Prop} {w1:W0} {m:Nat->MB} {s:St} {a:Act} {w:World} (h:Rel Γ L1 w1 m s a w) (hL:∀ b,L0 b->L1 b) (hb:w1.base = w0.base) (hw:Below w0.base w0.w w) (h0:∀ b,L0 b->w.heap[b]? = w0.w.heap[b]?):Rel Γ L0 w0 m s a w:=by
 have lv:∀ b,Live L0 m s.hp b->Live L1 m s.hp b:=fun b k=>by
  rcases k with k | k
  · exact .inl (hL b k)
  · exact .inr k
 have gr:Grow (Live L1 m s.hp) w (Live L0 m s.hp) w:=Grow.less w lv
 refine ⟨h.defers,fun t=>(h.vals t).mono gr fun _ _=>rfl,⟨?_,h.heap.inj,?_,h.heap.injO⟩,h.res,h.dead,hw,fun b hb=>⟨(h.l0 b (hL b hb)).1,h0 b hb⟩,h.glob.mono gr,h.lo,h.slots⟩
 · intro g rw cells hgb
   rcases h.heap.blk g rw cells hgb with k | ⟨b,sz,vs,ty,k1,k2,k3,k4,k5,k6,k7⟩
   · exact .inl k
   · exact .inr ⟨b,sz,vs,ty,k1,⟨hb ▸ k2.1,fun k=>k2.2 (hL b k)⟩,fun hrw k=>k3 hrw (lv b k),k4,k5,k6,fun i d hd=>by
      obtain ⟨v,q1,q2,q3⟩:=k7 i d hd
      exact ⟨v,q1,q2,q3.mono gr fun _ _=>rfl⟩⟩
 · intro g o hgo
   obtain ⟨b,v,k1,k2,k3,k4⟩:=h.heap.obj g o hgo
   exact ⟨b,v,k1,⟨hb ▸ k2.1,fun k=>k2.2 (hL b k)⟩,k3,k4.mono gr fun _ _=>rfl⟩
end
/-- The fence that lets all in,in a round or not. -/
def FW (F:Fence):Prop:=F = Fence.wide ∨ ∃ l,F = Fence.wide.inRound l
theorem FW.fn {F:Fence} (h:FW F) (f:FuncId):F.fn f:=by
 rcases h with rfl | ⟨l,rfl⟩ <;> exact trivial
/-- A call of what the rounds are handed to. -/
def yieldK (Γ:Nat->Option (List Data)) (l:Nat) (ys:List Data) (o:Oper) (e:Nat->D) (k:Nat) (K:Prop):Prop:=match o.op with
 | .call c=>(match c.callee with
   | .value x=>(match evalD Γ e x with
     | .yld l'=>l' = l∧(match c.args.toList.map (evalD Γ e) with
       | [.data y]=>ys[k]? = some y∧K
       | _=>False)
     | _=>False)
   | _=>False)
 | _=>False
def thenY (next:St->Nat->Prop) (Q:Exit->St->Nat->Prop):Exit->St->Nat->Prop
 | .normal,s,k=>next s k
 | e,s,k=>Q e s k
def blockY (id:Nat) (Q:Exit->St->Nat->Prop):Exit->St->Nat->Prop
 | .exit i,s,k=>if i = id then Q .normal s k else Q (.exit i) s k
 | e,s,k=>Q e s k
def LoopY (body:(Exit->St->Nat->Prop)->St->Nat->Prop) (Q:Exit->St->Nat->Prop) (s:St) (k:Nat):Prop :=
 ∃ (σ:Type) (st:σ->St) (κ:σ->Nat) (μ:σ->Nat) (x0:σ),WeakX s (st x0)∧κ x0 = k∧∀ x,body (thenY (fun s' k'=>∃ y,WeakX s' (st y)∧κ y = k'∧μ y < μ x) Q) (st x) (κ x)
section
variable (P:Program) (Γ:Nat->Option (List Data)) (l:Nat) (ys:List Data)
def opsY (ops:Array Oper):List Oper->St->Nat->(St->Nat->Prop)->Prop
 | [],s,k,Q=>Q s k
 | o :: rest,s,k,Q=>dstOk o s.nt = true∧(match wantedD ops s.env o with
   | some b=>ifW b (ifW (isCall o)
      ((opK P Γ o s.env s.hp s.nx fun d _ u=>opsY ops rest (stepSt s o d u) k Q) ∨ yieldK Γ l ys o s.env k (opsY ops rest (stepSt s o (.data (.bool true)) []) (k + 1) Q))
      (opK P Γ o s.env s.hp s.nx fun d _ u=>opsY ops rest (stepSt s o d u) k Q)) (opsY ops rest (stepSt s o undefD []) k Q)
   | none=>False)
def wpY:Code->(Exit->St->Nat->Prop)->St->Nat->Prop
 | .skip,Q,s,k=>Q .normal s k
 | .region _ ops draw,Q,s,k=>ifW draw False (opsY P Γ l ys ops ops.toList s k (Q .normal))
 | .seq x y,Q,s,k=>wpY x (thenY (wpY y Q) Q) s k
 | .cond c x y,Q,s,k=>(match evalD Γ s.env c with
   | .data (.bool b)=>ifW b (wpY x Q s k) (wpY y Q s k)
   | _=>False)
 | .block id b,Q,s,k=>wpY b (blockY id Q) s k
 | .loop b,Q,s,k=>LoopY (wpY b) Q s k
 | .exit id,Q,s,k=>Q (.exit id) s k
 | .ret,Q,s,k=>Q .ret s k
 | _,_,_,_=>False
end
/-- What others assert while an iterator runs abides its own steps. (k rounds over,what is live of the iterator's,what is live of others.) -/
def Stable (C:Nat->(Nat->Prop)->(Nat->Prop)->World->Prop):Prop :=
 ∀ k Li Lc W Li' W',C k Li Lc W->Grow Li W Li' W'->(∀ b,Lc b->¬ Li' b∧W'.heap[b]? = W.heap[b]?)->(∀ b,Li' b->b < W'.heap.size)->Below 0 W W'->C k Li' Lc W'
/-- The rounds take one value after the other. -/
def Rounds (P:Program) (l:Nat) (ys:List Data) (C:Nat->(Nat->Prop)->(Nat->Prop)->World->Prop):Prop :=
 ∀ n k Li Lc W y v,C k Li Lc W->ys[k]? = some y->VD (fun b=>Lc b ∨ Li b) W y v->(∀ b,Li b->b < W.heap.size∧¬ Lc b) →
  YieldAt Fence.wide n P l #[v] W fun e W'=>e = .returned (.bool true)∧∃ Lc',C (k + 1) Li Lc' W'∧Grow Lc W Lc' W'∧∀ b,Lc' b->b < W'.heap.size
/-- A function that hands these,one after another,to what it is given. -/
def IT (P:Program) (Γ:Nat->Option (List Data)) (f:FuncId) (caps:List Data) (ys:List Data):Prop :=
 CallOk P f∧∀ (n l:Nat) (L:Nat->Prop) (W:World) (vs:Array Value) (C:Nat->(Nat->Prop)->(Nat->Prop)->World->Prop),Glob Γ L W->(∀ b,L b->b < W.heap.size)->caps.length = vs.size →
  (∀ (i:Nat) (x:Data) (v:Value),caps[i]? = some x->vs[i]? = some v->VD L W x v)->Stable C->Rounds P l ys C->C 0 (fun _=>False) L W →
  CallsIn Fence.wide n P f (#[.func (.yield l) #[] #[]]++vs) W fun e W'=>(∃ v,e = .returned v)∧∃ Li Lc,C ys.length Li Lc W'
/-- All have been handed over. -/
def endY (n:Nat):Exit->St->Nat->Prop
 | .normal,_,k | .ret,_,k=>k = n
 | _,_,_=>False
section
variable {P:Program} {Γ:Nat->Option (List Data)}
/-- The loop's rule: states between the rounds,all with the temporaries that it began with. -/
def RngW (P:Program) (Γ:Nat->Option (List Data)) (g:Operand) (ps:Array Tmp) (assign body:Code) (K:St->Prop) (s:St):Prop :=
 ∃ (f:FuncId) (caps ys:List Data) (p:Tmp) (st:Nat->St),evalD Γ s.env g = .data (.fn f caps)∧IT P Γ f caps ys∧ps = #[p]∧p < s.nt∧WeakX s (st 0)∧(∀ k,(st k).env = (st 0).env∧(st k).lo = s.lo∧(st k).nt = s.nt) ∧
  (∀ k y,ys[k]? = some y->wpY P Γ 0 [] assign (fun e s1 _=>e = .normal∧wpY P Γ 0 [] body (fun e s2 _=>e = .normal∧WeakX ⟨(st k).env,s2.hp,s2.nx,(st k).lo,(st k).nt⟩ (st (k + 1))) s1 0)
    ⟨Env.set (st k).env p (.data y),(st k).hp,(st k).nx,(st k).nx,(st k).nt⟩ 0)∧K (st ys.length)
end
section
variable {P:Program} {Γ:Nat->Option (List Data)} {L0:Nat->Prop} {w0:W0}
/-- Rows that are written no more,as changes of the memory. -/
def fzU (H:Nat->Blk) (F:List Nat):List (Nat × Blk):=F.map fun g=>(g,fz (H g))
def frzS (s:St) (F:List Nat):St:=⟨s.env,Hp.upd s.hp (fzU s.hp F),s.nx,s.lo,s.nt⟩
theorem hold_fz {H:Nat->Blk} {F:List Nat} (hF:∀ g∈F,∃ rw cells,H g = .blk rw cells):∀ g,Hp.upd H (fzU H F) g = H g ∨ ∃ rw cells,H g = .blk rw cells∧Hp.upd H (fzU H F) g = .blk false cells:=fun g=>by
 rw [fzU,upd_fz H F H (fun k=>.inl rfl) g]
 by_cases e:g∈F
 · obtain ⟨rw,cells,hg⟩:=hF g e
   exact .inr ⟨rw,cells,hg,by simp [e,hg,fz]⟩
 · exact .inl (by simp [e])
theorem Rel.frz {m:Nat->MB} {s:St} {a:Act} {w:World} {F:List Nat} (h:Rel Γ L0 w0 m s a w) (hF:∀ g∈F,∃ rw cells,s.hp g = .blk rw cells):Rel Γ L0 w0 m (frzS s F) a w∧Ext L0 m s w m (frzS s F) w:=by
 have hold:=hold_fz hF
 obtain ⟨h1,hg1⟩:=h.wr.called (Below.refl _ w) hold
 refine ⟨⟨h.defers,fun t=>(h.vals t).mono hg1 fun _ _=>rfl,h1.heap,h.res,fun g hg=>?_,h1.below,h1.l0,h1.glob,h.lo,h.slots⟩,⟨hg1,fun _ _=>rfl,rfl,rfl⟩⟩
 have hd:=h.dead g hg
 rcases hold g with e | ⟨rw,cells,e,_⟩
 · exact e.trans hd
 · rw [hd] at e;cases e
end
/-- A call of what the rounds are handed to: these rows of one's own are written no more. (K: the round that ends the loop.) -/
def givK (d:D) (l:Nat) (ds:List D) (ys:List (List Data)) (K k:Nat) (H:Nat->Blk) (C:List (Nat × Blk)->Prop):Prop:=match d with
 | .yld l'=>l' = l∧k≤K∧∃ (F:List Nat) (xs:List Data),(∀ g∈F,∃ rw cells,H g = .blk rw cells)∧FrzL false (Hp.upd H (fzU H F)) ds xs∧ys[k]? = some xs∧C (fzU H F)
 | _=>False
def giveK (Γ:Nat->Option (List Data)) (l:Nat) (ys:List (List Data)) (K:Nat) (o:Oper) (e:Nat->D) (k:Nat) (H:Nat->Blk) (C:List (Nat × Blk)->Prop):Prop:=match o.op with
 | .call c=>(match c.callee with
   | .value x=>givK (evalD Γ e x) l (c.args.toList.map (evalD Γ e)) ys K k H C
   | _=>False)
 | _=>False
/-- Slots,behind values that were handed over. -/
def Env.sets (e:Nat->D):List Tmp->List Data->Nat->D
 | p :: ps,y :: ys=>Env.sets (Env.set e p (.data y)) ps ys
 | _,_=>e
/-- From the operation p on,each one comes behind all ahead of it. -/
def splitOk (ops:Array Oper) (tr:List Tr) (p a b:Nat):Bool :=
 decide (tr.length = p) && decide (p≤ops.size) && pairsOk ops ((ops.toList.take p).zip (tr.zip (ancs ops.toList []))) && Nat.ble b (a + 64) && ((List.range ops.size).all fun i=>match ops[i]? with
  | some o=>o.after.all fun e=>!Region.binds .any e || decide (e.on < i)
  | none=>true) &&
 ((List.range ops.size).all fun j=>decide (j < p) || (List.range j).all fun i=>((ancs ops.toList []).getD j 0).testBit i)
section
variable (P:Program) (Γ:Nat->Option (List Data)) (l:Nat) (ys:List (List Data)) (K:Nat)
def opsZ (ops:Array Oper):List Oper->St->Nat->(St->Nat->Prop)->Prop
 | [],s,k,Q=>Q s k
 | o :: rest,s,k,Q=>dstOk o s.nt = true∧(match wantedD ops s.env o with
   | some b=>ifW b (ifW (isCall o)
      ((opK P Γ o s.env s.hp s.nx fun d _ u=>opsZ ops rest (stepSt s o d u) k Q) ∨ giveK Γ l ys K o s.env k s.hp fun u=>opsZ ops rest (stepSt s o (.data (.bool (!decide (k = K)))) u) (k + 1) Q)
      (opK P Γ o s.env s.hp s.nx fun d _ u=>opsZ ops rest (stepSt s o d u) k Q)) (opsZ ops rest (stepSt s o undefD []) k Q)
   | none=>False)
/-- A region whose order is open,up to the operation p,and is the text's from there on. -/
def splitZ (ops:Array Oper) (s:St) (k:Nat) (Q:St->Nat->Prop):Prop:=∃ p,drawW P Γ ops (ops.toList.take p) s [] fun s' tr=>splitOk ops tr p s.nx s'.nx = true∧opsZ P Γ l ys K ops (ops.toList.drop p) s' k Q
def wpZ:Code->(Exit->St->Nat->Prop)->St->Nat->Prop
 | .skip,Q,s,k=>Q .normal s k
 | .region _ ops draw,Q,s,k=>ifW draw (splitZ P Γ l ys K ops s k (Q .normal)) (opsZ P Γ l ys K ops ops.toList s k (Q .normal))
 | .seq x y,Q,s,k=>wpZ x (thenY (wpZ y Q) Q) s k
 | .cond c x y,Q,s,k=>(match evalD Γ s.env c with
   | .data (.bool b)=>ifW b (wpZ x Q s k) (wpZ y Q s k)
   | _=>False)
 | .block id b,Q,s,k=>wpZ b (blockY id Q) s k
 | .loop b,Q,s,k=>LoopY (wpZ b) Q s k
 | .exit id,Q,s,k=>Q (.exit id) s k
 | .ret,Q,s,k=>Q .ret s k
 | _,_,_,_=>False
end
/-- The rounds take one after the other,and end the loop at K. -/
def RoundsZ (P:Program) (l:Nat) (ys:List (List Data)) (K:Nat) (C:Nat->(Nat->Prop)->(Nat->Prop)->World->Prop):Prop :=
 ∀ n k Li Lc W y (vs:Array Value),C k Li Lc W->k≤K->ys[k]? = some y->y.length = vs.size->(∀ (i:Nat) (x:Data) (v:Value),y[i]? = some x->vs[i]? = some v->VD (fun b=>Lc b ∨ Li b) W x v)->(∀ b,Li b->b < W.heap.size∧¬ Lc b) →
  YieldAt Fence.wide n P l vs W fun e W'=>e = .returned (.bool (!decide (k = K)))∧∃ Lc',C (k + 1) Li Lc' W'∧Grow Lc W Lc' W'∧∀ b,Lc' b->b < W'.heap.size
/-- A function that hands these over,one after another,up to where it is told to end. -/
def ITZ (P:Program) (Γ:Nat->Option (List Data)) (f:FuncId) (caps:List Data) (ys:List (List Data)):Prop :=
 CallOk P f∧∀ (K n l:Nat) (L:Nat->Prop) (W:World) (vs:Array Value) (C:Nat->(Nat->Prop)->(Nat->Prop)->World->Prop),Glob Γ L W->(∀ b,L b->b < W.heap.size)->caps.length = vs.size →
  (∀ (i:Nat) (x:Data) (v:Value),caps[i]? = some x->vs[i]? = some v->VD L W x v)->Stable C->RoundsZ P l ys K C->C 0 (fun _=>False) L W →
  CallsIn Fence.wide n P f (#[.func (.yield l) #[] #[]]++vs) W fun e W'=>(∃ v,e = .returned v)∧∃ Li Lc,C (min ys.length (K + 1)) Li Lc W'
def StopX (x:Exit):Prop:=x = .ret ∨ ∃ id,x = .exit id
/-- The loop's rule: states between the rounds,all with the temporaries that it began with;at the round K it is left by x. -/
def RngZ (P:Program) (Γ:Nat->Option (List Data)) (g:Operand) (ps:Array Tmp) (assign body:Code) (Q:Exit->St->Prop) (s:St):Prop :=
 ∃ (f:FuncId) (caps:List Data) (ys:List (List Data)) (K:Nat) (x:Exit) (st:Nat->St),evalD Γ s.env g = .data (.fn f caps)∧ITZ P Γ f caps ys∧StopX x∧(∀ y∈ys,y.length = ps.size)∧(∀ p∈ps,p < s.nt)∧WeakX s (st 0)∧(∀ k,(st k).env = (st 0).env∧(st k).lo = s.lo∧(st k).nt = s.nt) ∧
  (∀ k y,ys[k]? = some y->k≤K->wpZ P Γ 0 [] 0 assign (fun e s1 _=>e = .normal∧wpZ P Γ 0 [] 0 body (fun e s2 _=>e = (if k = K then x else .normal)∧WeakX ⟨(st k).env,s2.hp,s2.nx,(st k).lo,(st k).nt⟩ (st (k + 1))) s1 0)
    ⟨Env.sets (st k).env ps.toList y,(st k).hp,(st k).nx,(st k).nx,(st k).nt⟩ 0)∧(K < ys.length->Q x (st (K + 1)))∧(ys.length≤K->Q .normal (st ys.length))
def thenG (next:St->Bool->Prop) (Q:Exit->St->Bool->Prop):Exit->St->Bool->Prop
 | .normal,s,b=>next s b
 | e,s,b=>Q e s b
def blockG (id:Nat) (Q:Exit->St->Bool->Prop):Exit->St->Bool->Prop
 | .exit i,s,b=>if i = id then Q .normal s b else Q (.exit i) s b
 | e,s,b=>Q e s b
section
variable (P:Program) (Γ:Nat->Option (List Data))
/-- A region: ahead of the loop,or behind it. -/
def regG (i:Nat) (ops:Array Oper) (draw:Bool) (Q:Exit->St->Bool->Prop) (s:St):Bool->Prop
 | true=>ifW draw False (opsW P Γ ops ops.toList s (fun s'=>Q .normal s' true))
 | false=>wpF P Γ (.region i ops draw) (fun e s'=>Q e s' false) s
/-- A range over a function: of one value,up to its end;or of several,that a round may end. -/
def RngX (g:Operand) (ps:Array Tmp) (assign body:Code) (Q:Exit->St->Bool->Prop) (s:St):Prop :=
 RngW P Γ g ps assign body (fun s'=>Q .normal s' true) s ∨ RngZ P Γ g ps assign body (fun e s'=>Q e s' true) s
/-- Code that may hold one range over a function. (The truth value: that loop is over.) -/
def wpG:Code->(Exit->St->Bool->Prop)->St->Bool->Prop
 | .skip,Q,s,b=>Q .normal s b
 | .region i ops draw,Q,s,b=>regG P Γ i ops draw Q s b
 | .loop c,Q,s,b=>b = false∧wpF P Γ (.loop c) (fun e s'=>Q e s' false) s
 | .seq x y,Q,s,b=>wpG x (thenG (wpG y Q) Q) s b
 | .cond c x y,Q,s,b=>(match evalD Γ s.env c with
   | .data (.bool t)=>ifW t (wpG x Q s b) (wpG y Q s b)
   | _=>False)
 | .block id c,Q,s,b=>wpG c (blockG id Q) s b
 | .rangeFunc g ps assign body,Q,s,b=>b = false∧RngX P Γ g ps assign body Q s
 | .exit id,Q,s,b=>Q (.exit id) s b
 | .ret,Q,s,b=>Q .ret s b
 | _,_,_,_=>False
def retG (fn:Func) (r:Data):Exit->St->Bool->Prop
 | .normal,s,_ | .ret,s,_=>resK P fn.results.toList s fun ds=>∃ xs,FrzL true s.hp ds xs∧r = tupD xs
 | _,_,_=>False
end
/-- A call of a value that rounds are handed to. -/
def yldK (d:D) (l:Nat) (ds:List D) (ys:List Data) (k:Nat) (K:Prop):Prop:=match d with
 | .yld l'=>l' = l∧(match ds with
   | [.data y]=>ys[k]? = some y∧K
   | _=>False)
 | _=>False
@[congr] theorem yldK_congr {n0:Nat} (tk:tick = n0) {d d':D} (h:d = d') (l:Nat) {ds ds':List D} (h2:ds = ds') (ys:List Data) {k k':Nat} (h3:k = k') (K:Prop):yldK d l ds ys k K = yldK d' l ds' ys k' K:=by rw [h,h2,h3]
@[go_sem] theorem yldK_data (x:Data) (l:Nat) (ds:List D) (ys:List Data) (k:Nat) (K:Prop):yldK (.data x) l ds ys k K = False:=rfl
@[go_sem] theorem yldK_fn (f:FuncId) (c:List D) (l:Nat) (ds:List D) (ys:List Data) (k:Nat) (K:Prop):yldK (.fn f c) l ds ys k K = False:=rfl
@[go_sem] theorem fn_cells (f:FuncId) (c:List Data):Data.cells (.fn f c) = [.fn f c]:=rfl
@[go_sem] theorem fnD_yld (l:Nat):fnD (.yld l) = none:=rfl
section
variable (P:Program) (Γ:Nat->Option (List Data)) (l:Nat) (ys:List Data)
@[congr] theorem yieldK_congr {n0:Nat} (tk:tick = n0) (o:Oper) (e:Nat->D) (k:Nat) (K:Prop):yieldK Γ l ys o e k K = yieldK Γ l ys o e k K:=rfl
@[go_sem] theorem wpY_skip (Q:Exit->St->Nat->Prop) (s:St) (k:Nat):wpY P Γ l ys .skip Q s k = Q .normal s k:=rfl
@[go_sem] theorem wpY_row (i:Nat) (ops:List Oper) (Q:Exit->St->Nat->Prop) (s:St) (k:Nat):wpY P Γ l ys (.region i ops.toArray false) Q s k = opsY P Γ l ys ops.toArray ops s k (Q .normal):=rfl
@[go_sem] theorem wpY_seq (x y:Code) (Q:Exit->St->Nat->Prop) (s:St) (k:Nat):wpY P Γ l ys (.seq x y) Q s k = wpY P Γ l ys x (thenY (wpY P Γ l ys y Q) Q) s k:=rfl
@[go_sem] theorem wpY_cond (c:Operand) (x y:Code) (Q:Exit->St->Nat->Prop) (s:St) (k:Nat):wpY P Γ l ys (.cond c x y) Q s k = condK (evalD Γ s.env c) (wpY P Γ l ys x Q s k) (wpY P Γ l ys y Q s k):=rfl
@[go_sem] theorem wpY_block (id:Nat) (b:Code) (Q:Exit->St->Nat->Prop) (s:St) (k:Nat):wpY P Γ l ys (.block id b) Q s k = wpY P Γ l ys b (blockY id Q) s k:=rfl
@[go_sem] theorem wpY_loop (b:Code) (Q:Exit->St->Nat->Prop) (s:St) (k:Nat):wpY P Γ l ys (.loop b) Q s k = LoopY (wpY P Γ l ys b) Q s k:=rfl
@[go_sem] theorem wpY_exit (id:Nat) (Q:Exit->St->Nat->Prop) (s:St) (k:Nat):wpY P Γ l ys (.exit id) Q s k = Q (.exit id) s k:=rfl
@[go_sem] theorem wpY_ret (Q:Exit->St->Nat->Prop) (s:St) (k:Nat):wpY P Γ l ys .ret Q s k = Q .ret s k:=rfl
@[go_sem] theorem thenY_normal (n:St->Nat->Prop) (Q:Exit->St->Nat->Prop) (s:St) (k:Nat):thenY n Q .normal s k = n s k:=rfl
@[go_sem] theorem thenY_exit (n:St->Nat->Prop) (Q:Exit->St->Nat->Prop) (s:St) (k id:Nat):thenY n Q (.exit id) s k = Q (.exit id) s k:=rfl
@[go_sem] theorem thenY_ret (n:St->Nat->Prop) (Q:Exit->St->Nat->Prop) (s:St) (k:Nat):thenY n Q .ret s k = Q .ret s k:=rfl
@[go_sem] theorem blockY_normal (id:Nat) (Q:Exit->St->Nat->Prop) (s:St) (k:Nat):blockY id Q .normal s k = Q .normal s k:=rfl
@[go_sem] theorem blockY_ret (id:Nat) (Q:Exit->St->Nat->Prop) (s:St) (k:Nat):blockY id Q .ret s k = Q .ret s k:=rfl
@[go_sem] theorem endY_normal (n:Nat) (s:St) (k:Nat):endY n .normal s k = (k = n):=rfl
@[go_sem] theorem endY_ret (n:Nat) (s:St) (k:Nat):endY n .ret s k = (k = n):=rfl
@[congr] theorem thenY_congr {n0:Nat} (tk:tick = n0) (n:St->Nat->Prop) (Q:Exit->St->Nat->Prop) (x:Exit) (s:St) (k:Nat):thenY n Q x s k = thenY n Q x s k:=rfl
@[congr] theorem blockY_congr {n0:Nat} (tk:tick = n0) (id:Nat) (Q:Exit->St->Nat->Prop) (x:Exit) (s:St) (k:Nat):blockY id Q x s k = blockY id Q x s k:=rfl
@[congr] theorem wpY_congr {n0:Nat} (tk:tick = n0) (c:Code) (Q:Exit->St->Nat->Prop) (s:St) (k:Nat):wpY P Γ l ys c Q s k = wpY P Γ l ys c Q s k:=rfl
@[congr] theorem opsY_congr {n0:Nat} (tk:tick = n0) (ops:Array Oper) (ls:List Oper) (s:St) (k:Nat) (Q:St->Nat->Prop):opsY P Γ l ys ops ls s k Q = opsY P Γ l ys ops ls s k Q:=rfl
@[congr] theorem LoopY_congr {n0:Nat} (tk:tick = n0) (body:(Exit->St->Nat->Prop)->St->Nat->Prop) (Q:Exit->St->Nat->Prop) {s s':St} (h:s = s') {k k':Nat} (h2:k = k'):LoopY body Q s k = LoopY body Q s' k':=by rw [h,h2]
@[go_sem] theorem opsY_nil (ops:Array Oper) (s:St) (k:Nat) (Q:St->Nat->Prop):opsY P Γ l ys ops [] s k Q = Q s k:=rfl
@[go_sem] theorem wpG_skip (Q:Exit->St->Bool->Prop) (s:St) (b:Bool):wpG P Γ .skip Q s b = Q .normal s b:=rfl
@[go_sem] theorem wpG_before (i:Nat) (ops:Array Oper) (draw:Bool) (Q:Exit->St->Bool->Prop) (s:St):wpG P Γ (.region i ops draw) Q s false = wpF P Γ (.region i ops draw) (fun e s'=>Q e s' false) s:=rfl
@[go_sem] theorem wpG_behind (i:Nat) (ops:List Oper) (Q:Exit->St->Bool->Prop) (s:St):wpG P Γ (.region i ops.toArray false) Q s true = opsW P Γ ops.toArray ops s (fun s'=>Q .normal s' true):=rfl
@[go_sem] theorem wpG_seq (x y:Code) (Q:Exit->St->Bool->Prop) (s:St) (b:Bool):wpG P Γ (.seq x y) Q s b = wpG P Γ x (thenG (wpG P Γ y Q) Q) s b:=rfl
@[go_sem] theorem wpG_cond (c:Operand) (x y:Code) (Q:Exit->St->Bool->Prop) (s:St) (b:Bool):wpG P Γ (.cond c x y) Q s b = condK (evalD Γ s.env c) (wpG P Γ x Q s b) (wpG P Γ y Q s b):=rfl
@[go_sem] theorem wpG_block (id:Nat) (c:Code) (Q:Exit->St->Bool->Prop) (s:St) (b:Bool):wpG P Γ (.block id c) Q s b = wpG P Γ c (blockG id Q) s b:=rfl
@[go_sem] theorem wpG_exit (id:Nat) (Q:Exit->St->Bool->Prop) (s:St) (b:Bool):wpG P Γ (.exit id) Q s b = Q (.exit id) s b:=rfl
@[go_sem] theorem wpG_ret (Q:Exit->St->Bool->Prop) (s:St) (b:Bool):wpG P Γ .ret Q s b = Q .ret s b:=rfl
@[go_sem] theorem thenG_normal (n:St->Bool->Prop) (Q:Exit->St->Bool->Prop) (s:St) (b:Bool):thenG n Q .normal s b = n s b:=rfl
@[go_sem] theorem thenG_exit (n:St->Bool->Prop) (Q:Exit->St->Bool->Prop) (s:St) (b:Bool) (id:Nat):thenG n Q (.exit id) s b = Q (.exit id) s b:=rfl
@[go_sem] theorem thenG_ret (n:St->Bool->Prop) (Q:Exit->St->Bool->Prop) (s:St) (b:Bool):thenG n Q .ret s b = Q .ret s b:=rfl
@[go_sem] theorem blockG_normal (id:Nat) (Q:Exit->St->Bool->Prop) (s:St) (b:Bool):blockG id Q .normal s b = Q .normal s b:=rfl
@[go_sem] theorem blockG_ret (id:Nat) (Q:Exit->St->Bool->Prop) (s:St) (b:Bool):blockG id Q .ret s b = Q .ret s b:=rfl
@[go_sem] theorem retG_ret (fn:Func) (r:Data) (s:St) (b:Bool):retG P fn r .ret s b = resK P fn.results.toList s fun ds=>∃ xs,FrzL true s.hp ds xs∧r = tupD xs:=rfl
@[go_sem] theorem retG_normal (fn:Func) (r:Data) (s:St) (b:Bool):retG P fn r .normal s b = resK P fn.results.toList s fun ds=>∃ xs,FrzL true s.hp ds xs∧r = tupD xs:=rfl
@[congr] theorem thenG_congr {n0:Nat} (tk:tick = n0) (n:St->Bool->Prop) (Q:Exit->St->Bool->Prop) (x:Exit) (s:St) (b:Bool):thenG n Q x s b = thenG n Q x s b:=rfl
@[congr] theorem blockG_congr {n0:Nat} (tk:tick = n0) (id:Nat) (Q:Exit->St->Bool->Prop) (x:Exit) (s:St) (b:Bool):blockG id Q x s b = blockG id Q x s b:=rfl
@[congr] theorem wpG_congr {n0:Nat} (tk:tick = n0) (c:Code) (Q:Exit->St->Bool->Prop) (s:St) (b:Bool):wpG P Γ c Q s b = wpG P Γ c Q s b:=rfl
@[congr] theorem retG_congr {n0:Nat} (tk:tick = n0) (fn:Func) (r:Data) (x:Exit) (s:St) (b:Bool):retG P fn r x s b = retG P fn r x s b:=rfl
@[congr] theorem RngX_congr {n0:Nat} (tk:tick = n0) (g:Operand) (ps:Array Tmp) (assign body:Code) (Q:Exit->St->Bool->Prop) {s s':St} (h:s = s'):RngX P Γ g ps assign body Q s = RngX P Γ g ps assign body Q s':=by rw [h]
@[congr] theorem RngW_congr {n0:Nat} (tk:tick = n0) (g:Operand) (ps:Array Tmp) (assign body:Code) (K:St->Prop) {s s':St} (h:s = s'):RngW P Γ g ps assign body K s = RngW P Γ g ps assign body K s':=by rw [h]
end
/-- Behind a round of an iterator's own loop. -/
def NextY {σ:Type} (st:σ->St) (κ μ:σ->Nat) (x:σ) (s:St) (k:Nat):Prop:=∃ y,WeakX s (st y)∧κ y = k∧μ y < μ x
@[congr] theorem NextY_congr {n0:Nat} (tk:tick = n0) {σ:Type} (st:σ->St) (κ μ:σ->Nat) (x:σ) (s:St) (k:Nat):NextY st κ μ x s k = NextY st κ μ x s k:=rfl
/-- Behind a round of a range over a function. -/
def RoundW (st:Nat->St) (k:Nat) (s:St):Prop:=WeakX ⟨(st k).env,s.hp,s.nx,(st k).lo,(st k).nt⟩ (st (k + 1))
@[congr] theorem RoundW_congr {n0:Nat} (tk:tick = n0) (st:Nat->St) (k:Nat) (s:St):RoundW st k s = RoundW st k s:=rfl
section
variable {P:Program} {Γ:Nat->Option (List Data)}
/-- Behind a round of a range over a function that may end it. -/
def RoundZ (K:Nat) (x:Exit) (st:Nat->St) (k:Nat) (e:Exit) (s:St):Prop:=e = (if k = K then x else .normal)∧WeakX ⟨(st k).env,s.hp,s.nx,(st k).lo,(st k).nt⟩ (st (k + 1))
@[congr] theorem RoundZ_congr {n0:Nat} (tk:tick = n0) (K:Nat) (x:Exit) (st:Nat->St) (k:Nat) (e:Exit) (s:St):RoundZ K x st k e s = RoundZ K x st k e s:=rfl
end
section
variable (P:Program) (Γ:Nat->Option (List Data)) (l:Nat) (ys:List (List Data)) (K:Nat)
@[go_sem] theorem givK_data (x:Data) (ds:List D) (k:Nat) (H:Nat->Blk) (C:List (Nat × Blk)->Prop):givK (.data x) l ds ys K k H C = False:=rfl
@[go_sem] theorem givK_fn (f:FuncId) (c:List D) (ds:List D) (k:Nat) (H:Nat->Blk) (C:List (Nat × Blk)->Prop):givK (.fn f c) l ds ys K k H C = False:=rfl
@[congr] theorem givK_congr {n0:Nat} (tk:tick = n0) {d d':D} (h:d = d') {ds ds':List D} (h2:ds = ds') {k k':Nat} (h3:k = k') (H:Nat->Blk) (C:List (Nat × Blk)->Prop):givK d l ds ys K k H C = givK d' l ds' ys K k' H C:=by rw [h,h2,h3]
@[go_sem] theorem giveK_eq (dst:Option Nat) (ty:TypeId) (pos:String) (af:Array Edge) (gd:Option (Nat × Bool)) (e:Nat->D) (k:Nat) (H:Nat->Blk) (C:List (Nat × Blk)->Prop) (x:Operand) (args:Array Operand) (ts:Array TypeId) :
 giveK Γ l ys K ⟨dst,.call ⟨.value x,args,ts⟩,ty,pos,af,gd⟩ e k H C = givK (evalD Γ e x) l (args.toList.map (evalD Γ e)) ys K k H C:=rfl
@[go_sem] theorem giveK_builtin (dst:Option Nat) (ty:TypeId) (pos:String) (af:Array Edge) (gd:Option (Nat × Bool)) (e:Nat->D) (k:Nat) (H:Nat->Blk) (C:List (Nat × Blk)->Prop) (x:Builtin) (args:Array Operand) (ts:Array TypeId) :
 giveK Γ l ys K ⟨dst,.call ⟨.builtin x,args,ts⟩,ty,pos,af,gd⟩ e k H C = False:=rfl
@[congr] theorem giveK_congr {n0:Nat} (tk:tick = n0) (o:Oper) (e:Nat->D) (k:Nat) (H:Nat->Blk) (C:List (Nat × Blk)->Prop):giveK Γ l ys K o e k H C = giveK Γ l ys K o e k H C:=rfl
@[congr] theorem splitOk_congr {n0:Nat} (tk:tick = n0) (ops:Array Oper) (tr:List Tr) (p a b:Nat):splitOk ops tr p a b = splitOk ops tr p a b:=rfl
@[congr] theorem splitZ_congr {n0:Nat} (tk:tick = n0) (ops:Array Oper) {s s':St} (h:s = s') {k k':Nat} (h2:k = k') (Q:St->Nat->Prop):splitZ P Γ l ys K ops s k Q = splitZ P Γ l ys K ops s' k' Q:=by rw [h,h2]
@[go_sem] theorem wpZ_skip (Q:Exit->St->Nat->Prop) (s:St) (k:Nat):wpZ P Γ l ys K .skip Q s k = Q .normal s k:=rfl
@[go_sem] theorem wpZ_row (i:Nat) (ops:List Oper) (Q:Exit->St->Nat->Prop) (s:St) (k:Nat):wpZ P Γ l ys K (.region i ops.toArray false) Q s k = opsZ P Γ l ys K ops.toArray ops s k (Q .normal):=rfl
@[go_sem] theorem wpZ_draw (i:Nat) (ops:List Oper) (Q:Exit->St->Nat->Prop) (s:St) (k:Nat):wpZ P Γ l ys K (.region i ops.toArray true) Q s k = splitZ P Γ l ys K ops.toArray s k (Q .normal):=rfl
@[go_sem] theorem wpZ_seq (x y:Code) (Q:Exit->St->Nat->Prop) (s:St) (k:Nat):wpZ P Γ l ys K (.seq x y) Q s k = wpZ P Γ l ys K x (thenY (wpZ P Γ l ys K y Q) Q) s k:=rfl
@[go_sem] theorem wpZ_cond (c:Operand) (x y:Code) (Q:Exit->St->Nat->Prop) (s:St) (k:Nat):wpZ P Γ l ys K (.cond c x y) Q s k = condK (evalD Γ s.env c) (wpZ P Γ l ys K x Q s k) (wpZ P Γ l ys K y Q s k):=rfl
@[go_sem] theorem wpZ_block (id:Nat) (b:Code) (Q:Exit->St->Nat->Prop) (s:St) (k:Nat):wpZ P Γ l ys K (.block id b) Q s k = wpZ P Γ l ys K b (blockY id Q) s k:=rfl
@[go_sem] theorem wpZ_loop (b:Code) (Q:Exit->St->Nat->Prop) (s:St) (k:Nat):wpZ P Γ l ys K (.loop b) Q s k = LoopY (wpZ P Γ l ys K b) Q s k:=rfl
@[go_sem] theorem wpZ_exit (id:Nat) (Q:Exit->St->Nat->Prop) (s:St) (k:Nat):wpZ P Γ l ys K (.exit id) Q s k = Q (.exit id) s k:=rfl
@[go_sem] theorem wpZ_ret (Q:Exit->St->Nat->Prop) (s:St) (k:Nat):wpZ P Γ l ys K .ret Q s k = Q .ret s k:=rfl
@[congr] theorem wpZ_congr {n0:Nat} (tk:tick = n0) (c:Code) (Q:Exit->St->Nat->Prop) (s:St) (k:Nat):wpZ P Γ l ys K c Q s k = wpZ P Γ l ys K c Q s k:=rfl
@[congr] theorem opsZ_congr {n0:Nat} (tk:tick = n0) (ops:Array Oper) (ls:List Oper) (s:St) (k:Nat) (Q:St->Nat->Prop):opsZ P Γ l ys K ops ls s k Q = opsZ P Γ l ys K ops ls s k Q:=rfl
@[go_sem] theorem opsZ_nil (ops:Array Oper) (s:St) (k:Nat) (Q:St->Nat->Prop):opsZ P Γ l ys K ops [] s k Q = Q s k:=rfl
@[go_sem] theorem sets_cons (e:Nat->D) (p:Tmp) (ps:List Tmp) (y:Data) (ys:List Data):Env.sets e (p :: ps) (y :: ys) = Env.sets (Env.set e p (.data y)) ps ys:=rfl
@[go_sem] theorem sets_nil (e:Nat->D):Env.sets e [] [] = e:=rfl
end
section
variable {P:Program} {Γ:Nat->Option (List Data)} {l:Nat} {ys:List (List Data)} {K:Nat}
/-- A region whose order is open,by where it is the text's. -/
def takeW:Nat->List Oper->List Oper->(List Oper->List Oper->Prop)->Prop
 | 0,l,acc,C=>C acc l
 | p + 1,o :: l,acc,C=>takeW p l (acc++[o]) C
 | _ + 1,[],acc,C=>C acc []
@[go_sem] theorem takeW_zero (l acc:List Oper) (C:List Oper->List Oper->Prop):takeW 0 l acc C = C acc l:=rfl
@[go_sem] theorem takeW_succ (p:Nat) (o:Oper) (l acc:List Oper) (C:List Oper->List Oper->Prop):takeW (p + 1) (o :: l) acc C = takeW p l (acc++[o]) C:=rfl
@[congr] theorem takeW_congr {n0:Nat} (tk:tick = n0) (p:Nat) (l:List Oper) {acc acc':List Oper} (h:acc = acc') (C:List Oper->List Oper->Prop):takeW p l acc C = takeW p l acc' C:=by rw [h]
end
namespace Op9
theorem flat_set (l:List Ot) (i:Nat) (h:i < l.length) (o:Ot):(flat (ots (l.set i o))).map D.data = ((flat (ots l)).map D.data).take (i * 2)++[.data (.int .u8 o.t),.data (.sl 1 (bys o.d))]++((flat (ots l)).map D.data).drop (i * 2 + 2):=by
 induction l generalizing i with
 | nil=>simp at h
 | cons x l ih =>
   have e:∀ (y:Ot) (l:List Ot),(flat (ots (y :: l))).map D.data = D.data (.int .u8 y.t) :: D.data (.sl 1 (bys y.d)) :: (flat (ots l)).map D.data:=fun y l=>rfl
   cases i with
   | zero=>simp [e]
   | succ i =>
     rw [List.set_cons_succ,e,e,ih i (by simpa using h),show (i + 1) * 2 = i * 2 + 2 by omega]
     simp
section
variable (Γ:Nat->Option (List Data))
set_option maxHeartbeats 1000000 in
theorem oput_pc (l:List Ot) (o:Ot) (hl:l.length≤1000000000) (hd:∀ o∈l,o.d.length≤1000000000) (ho:o.d.length≤1000000000):PC Try.prog Γ 41 [.sl 2 (ots l),ot o] (.sl 2 (ots (putO l o))):=by
 refine pc_by mixed Try.func41 rfl (fun args w=>Try.call41 args w) ?_
 have c3:=place_pc Γ l o.t hl
 have c4:=copied_pc Γ o ho
 rw [putP]
 unfold ot at c4
 unfold ot
 simp -implicitDefEqProofs (disch:=omega) [go_sem]
 refine loop_ren (σ:={ i:Nat // i≤l.length }) (fun i=>⟨envL [(0,.data (.sl 2 (ots l))),(3,.ptr 1 0),(5,.ref 0 0 i.1 2),(10,.data (.sl 2 (ots l))),(11,.data (.int .i64 l.length)),(12,.data (.int .i64 i.1))],hpL [(0,.blk true ((flat (ots (l.take i.1))).map D.data)),(1,.blk true [.data (.int .u8 o.t),.data (.sl 1 (bys o.d))])],2,0,42⟩) (fun i=>l.length - i.1) ⟨0,by omega⟩ [] (rhoL [(0,none),(1,some 0)]) ?_ ?_
 · apply ren_lists <;> simp -implicitDefEqProofs [go_sem]
   · rfl
 rintro ⟨i,hi⟩
 have hfl:(flat (ots (l.take i))).length = i * 2:=by rw [flat_length (ots_cells _),ots_length,List.length_take,Nat.min_eq_left hi]
 by_cases h:i < l.length
 · have c2:=copied_pc Γ l[i] (hd _ (List.getElem_mem h))
   unfold ot at c2
   have hst:l.take (i + 1) = l.take i++[l[i]]:=by rw [List.take_add_one,List.getElem?_eq_getElem h];rfl
   simp -implicitDefEqProofs (disch:=omega) [go_sem,ot]
   refine .inl (call_data c2 (by simp [go_sem]) ?_)
   simp -implicitDefEqProofs (disch:=omega) [go_sem,ot,hfl]
   refine next_ren ⟨i + 1,by omega⟩ (by simp only;omega) [] (rhoL [(0,some 11),(1,some 1)]) ?_
   simp only [hst]
   apply ren_lists <;> simp -implicitDefEqProofs [go_sem]
   exact renCells_plain (by rw [hst,ots_snoc]) (by simp [plainD])
 · have:i = l.length:=by omega
   subst this
   rw [List.take_length] at hfl
   cases hp:placeO l o.t with
   | none =>
     rw [hp] at c3
     unfold placeD at c3
     simp -implicitDefEqProofs (disch:=omega) [go_sem,List.take_length]
     refine .inl (call_data c3 (by simp [go_sem]) ?_)
     simp -implicitDefEqProofs (disch:=omega) [go_sem]
     refine .inl (call_data c4 (by simp [go_sem]) ?_)
     simp -implicitDefEqProofs (disch:=omega) [go_sem,hfl,Try.f41]
     exact ⟨_,⟨_,rfl,frz_ref (rw:=true) (by simp [go_sem]) (.inl rfl) (by rw [ots_length,List.length_append];rfl) (ots_cells _) (ots_snoc l o).symm⟩,rfl⟩
   | some i =>
     obtain ⟨h1,h2,h3⟩:=placeO_is hp
     rw [hp] at c3
     unfold placeD at c3
     simp -implicitDefEqProofs (disch:=omega) [go_sem,List.take_length]
     refine .inl (call_data c3 (by simp [go_sem]) ?_)
     simp -implicitDefEqProofs (disch:=omega) [go_sem]
     refine .inl (call_data c4 (by simp [go_sem]) ?_)
     simp -implicitDefEqProofs (disch:=omega) [go_sem,hfl,Try.f41]
     exact ⟨_,⟨_,rfl,frz_ref (rw:=true) (by simp [go_sem];rfl) (.inl rfl) (by rw [ots_length,List.length_set]) (ots_cells _) (by rw [flat_set l i h1 o];simp)⟩,rfl⟩
end
end Op9
namespace Op9
theorem lift_opts {p:Ot->Prop} {l:List Data} (h:∀ x∈l,∃ a,p a∧x = ot a):∃ bs:List Ot,l = ots bs∧∀ a∈bs,p a:=by
 induction l with
 | nil=>exact ⟨[],rfl,fun a ha=>by cases ha⟩
 | cons x t ih =>
   obtain ⟨a,pa,rfl⟩:=h _ List.mem_cons_self
   obtain ⟨bs,rfl,hp⟩:=ih fun y hy=>h y (List.mem_cons_of_mem _ hy)
   exact ⟨a :: bs,rfl,fun b hb=>by
    rcases List.mem_cons.1 hb with rfl | hb
    · exact pa
    · exact hp b hb⟩
/-- An option as it comes in. -/
def InO (o:Ot):Prop:=o.Ty∧o.d.length≤140737488351232
theorem arg_opt {n:Nat} {x:Data} (a:argD Try.prog (n + 3) 40 x):∃ o:Ot,InO o∧x = ot o:=by
 obtain ⟨ds,rfl,h⟩:=arg_struct Try.underlying40 a
 obtain ⟨d1,r1,rfl,h1,h⟩:=okF_cons h
 obtain ⟨d2,r2,rfl,h2,h⟩:=okF_cons h
 obtain rfl:=okF_nil h
 obtain ⟨i,hi0,hi1,rfl⟩:=ok_int Try.underlying5 h1
 obtain ⟨b,lb,hb,rfl⟩:=ok_bytes Try.underlying38 Try.underlying5 (by kernel_rfl) h2
 have e1:IntKind.u8.min = 0:=by decide
 have e2:IntKind.u8.max = 255:=by decide
 obtain ⟨c,rfl⟩:=Int.eq_ofNat_of_zero_le (show 0≤i by omega)
 exact ⟨⟨c,b⟩,⟨⟨by show c < 256;omega,lb⟩,hb⟩,rfl⟩
theorem arg_opts {n:Nat} {x:Data} (a:argD Try.prog (n + 4) 25 x):∃ l:List Ot,x = .sl 2 (ots l)∧l.length≤140737488351232∧∀ o∈l,InO o:=by
 obtain ⟨l,rfl,hl,h⟩:=arg_slice Try.underlying25 a
 obtain ⟨bs,rfl,hp⟩:=lift_opts fun x hx=>arg_opt (h x hx)
 exact ⟨bs,by rw [show Try.prog.cellsOf 40 = 2 by kernel_rfl],by simpa [ots_length] using hl,hp⟩
end Op9
namespace Ru
open Op9
def rulC (r:Rule):List Data:=[.bool r.ip,.int .u32 r.magic,.int .u32 r.other,.int .u32 r.addr,.int .u32 r.ours]
/-- Which options are known: kinds,lengths. -/
def mapL:Data:=.mp [.int .u8 1,.int .u8 2,.int .u8 5,.int .u8 7,.int .u8 8] [.int .i64 2,.int .i64 4,.int .i64 4,.int .i64 0,.int .i64 0]
def mapI:Data:=.mp [.int .u8 3] [.int .i64 4]
def addrF (r:Rule):Data:=.fn 54 [.pc (rulC r)]
def shouldF (r:Rule):Data:=match r.ip with
 | true=>.fn 55 [.pc (rulC r),.pc [addrF r]]
 | false=>.fn 57 [.pc (rulC r)]
def lackF (r:Rule):Data:=match r.ip with
 | true=>.fn 56 [.pc [addrF r]]
 | false=>.fn 58 []
def mapF (ip:Bool):Data:=match ip with
 | true=>mapI
 | false=>mapL
def sideC (r:Rule):List Data:=[mapF r.ip,shouldF r,lackF r]
/-- What an option should be,as the program tells it. -/
def betterR (r:Rule) (o:Ot):Ot:=if (shouldR r o).2 = true then (shouldR r o).1 else noO
/-- Options as they are. -/
def OptF (o:Ot):Prop:=(∀ x∈o.d,x < 256)∧o.d.length≤1000000000
section
variable (Γ:Nat->Option (List Data))
theorem four13_pc (t n:Nat) (hn:n < 4294967296):PC Try.prog Γ 38 [.int .u8 t,.int .u32 n] (ot ⟨t,fourO n⟩):=by
 refine pc_by mixed Try.func38 rfl (fun args w=>Try.call38 args w) ?_
 have c1:=ofour_pc Γ n hn
 unfold ot
 simp -implicitDefEqProofs (disch:=omega) [go_sem]
 refine .inl (call_data c1 (by simp [go_sem]) ?_)
 simp -implicitDefEqProofs (disch:=omega) [go_sem,Try.f38]
theorem has13_pc (l:List Ot) (t:Nat) (hl:l.length≤1000000000) (hd:∀ o∈l,o.d.length≤1000000000):PC Try.prog Γ 36 [.sl 2 (ots l),.int .u8 t] (.bool (findO l t).isSome):=by
 refine pc_by mixed Try.func36 rfl (fun args w=>Try.call36 args w) ?_
 have c1:=ofind_pc Γ l t hl hd
 cases hq:findO l t with
 | none =>
   rw [hq] at c1
   unfold foundO ot at c1
   simp -implicitDefEqProofs (disch:=omega) [go_sem]
   refine .inl (call_data c1 (by simp [go_sem]) ?_)
   simp -implicitDefEqProofs (disch:=omega) [go_sem,Try.f36]
 | some o =>
   rw [hq] at c1
   unfold foundO ot at c1
   simp -implicitDefEqProofs (disch:=omega) [go_sem]
   refine .inl (call_data c1 (by simp [go_sem]) ?_)
   simp -implicitDefEqProofs (disch:=omega) [go_sem,Try.f36]
theorem number13_pc (l:List Ot) (t other:Nat) (hl:l.length≤1000000000) (hd:∀ o∈l,OptF o):PC Try.prog Γ 35 [.sl 2 (ots l),.int .u8 t,.int .u32 other] (.int .u32 (((findO l t).map fun o=>numO o.d).getD other:Nat)):=by
 refine pc_by mixed Try.func35 rfl (fun args w=>Try.call35 args w) ?_
 have c1:=ofind_pc Γ l t hl (fun o ho=>(hd o ho).2)
 cases hf:findO l t with
 | none =>
   rw [hf] at c1
   unfold foundO ot at c1
   simp -implicitDefEqProofs (disch:=omega) [go_sem]
   refine .inl (call_data c1 (by simp [go_sem]) ?_)
   simp -implicitDefEqProofs (disch:=omega) [go_sem,Try.f35]
 | some o =>
   have ho:=hd o (List.mem_of_find?_eq_some hf)
   have c2:=onumber_pc Γ o.d (by have:=ho.2;omega) ho.1
   rw [hf] at c1
   unfold foundO ot at c1
   simp -implicitDefEqProofs (disch:=omega) [go_sem]
   refine .inl (call_data c1 (by simp [go_sem]) ?_)
   simp -implicitDefEqProofs (disch:=omega) [go_sem]
   refine .inl (call_data c2 (by simp [go_sem]) ?_)
   simp -implicitDefEqProofs (disch:=omega) [go_sem,Try.f35]
theorem ne_beq {c k:Int} (h:¬ c = k):(c == k) = false:=beq_eq_false_iff_ne.2 h
theorem known13_pc (ip:Bool) (f g:Data) (o:Ot) (hf:f.cell = true) (hg:g.cell = true):PC Try.prog Γ 34 [.agg [mapF ip,f,g],ot o] (.bool (knownR ip o)):=by
 refine pc_by mixed Try.func34 rfl (fun args w=>Try.call34 args w) ?_
 unfold ot knownR mapF
 cases ip
 · unfold mapL
   by_cases h1:o.t = 1
   · have e1:(o.t:Int) = 1:=by omega
     simp -implicitDefEqProofs (disch:=omega) [go_sem,hf,hg,e1,h1,Try.f34]
     omega
   have e1:¬ (o.t:Int) = 1:=by omega
   by_cases h2:o.t = 2
   · have e2:(o.t:Int) = 2:=by omega
     simp -implicitDefEqProofs (disch:=omega) [go_sem,hf,hg,e2,h2,Try.f34]
     omega
   have e2:¬ (o.t:Int) = 2:=by omega
   by_cases h5:o.t = 5
   · have e5:(o.t:Int) = 5:=by omega
     simp -implicitDefEqProofs (disch:=omega) [go_sem,hf,hg,e5,h5,Try.f34]
     omega
   have e5:¬ (o.t:Int) = 5:=by omega
   by_cases h7:o.t = 7
   · have e7:(o.t:Int) = 7:=by omega
     simp -implicitDefEqProofs (disch:=omega) [go_sem,hf,hg,e7,h7,Try.f34]
     rw [<- List.length_eq_zero_iff];omega
   have e7:¬ (o.t:Int) = 7:=by omega
   by_cases h8:o.t = 8
   · have e8:(o.t:Int) = 8:=by omega
     simp -implicitDefEqProofs (disch:=omega) [go_sem,hf,hg,e8,h8,Try.f34]
     rw [<- List.length_eq_zero_iff];omega
   have e8:¬ (o.t:Int) = 8:=by omega
   simp -implicitDefEqProofs (disch:=omega) [go_sem,hf,hg,ne_beq e1,ne_beq e2,ne_beq e5,ne_beq e7,ne_beq e8,h1,h2,h5,h7,h8,Try.f34]
 · unfold mapI
   by_cases h3:o.t = 3
   · have e3:(o.t:Int) = 3:=by omega
     simp -implicitDefEqProofs (disch:=omega) [go_sem,hf,hg,e3,h3,Try.f34]
     omega
   · have e3:¬ (o.t:Int) = 3:=by omega
     simp -implicitDefEqProofs (disch:=omega) [go_sem,hf,hg,ne_beq e3,h3,Try.f34]
theorem sideC_cell (r:Rule):(shouldF r).cell = true∧(lackF r).cell = true∧(mapF r.ip).cell = true:=by
 unfold shouldF lackF mapF mapL mapI
 cases r.ip <;> exact ⟨rfl,rfl,rfl⟩
theorem strange13_pc (r:Rule) (o:Ot):PC Try.prog Γ 28 [.agg (sideC r),ot o] (.bool (!knownR r.ip o)):=by
 refine pc_by mixed Try.func28 rfl (fun args w=>Try.call28 args w) ?_
 obtain ⟨k1,k2,k3⟩:=sideC_cell r
 have c1:=known13_pc Γ r.ip (shouldF r) (lackF r) o k1 k2
 unfold sideC
 unfold ot at c1 ⊢
 simp -implicitDefEqProofs (disch:=omega) [go_sem,k1,k2,k3]
 refine .inl (call_data c1 (by simp [go_sem]) ?_)
 simp -implicitDefEqProofs (disch:=omega) [go_sem,Try.f28]
theorem addr13_pc (r:Rule) (hr:r.Ty):PC Try.prog Γ 54 [.pc (rulC r)] (ot ⟨3,fourO r.addr⟩):=by
 refine pc_by mixed Try.func54 rfl (fun args w=>Try.call54 args w) ?_
 have c1:=four13_pc Γ 3 r.addr hr.addr
 unfold ot at c1 ⊢
 unfold rulC
 simp -implicitDefEqProofs (disch:=omega) [go_sem]
 refine .inl (call_data c1 (by simp [go_sem]) ?_)
 simp -implicitDefEqProofs (disch:=omega) [go_sem,Try.f54]
theorem shouldI_pc (r:Rule) (o:Ot) (hr:r.Ty) (ho:OptF o) (hi:r.ip = true):PC Try.prog Γ 55 [ot o,.pc (rulC r),.pc [addrF r]] (.tup [ot (betterR r o),.bool (shouldR r o).2]):=by
 refine pc_by mixed Try.func55 rfl (fun args w=>Try.call55 args w) ?_
 have c1:=onumber_pc Γ o.d (by have:=ho.2;omega) ho.1
 have c2:=addr13_pc Γ r hr
 unfold betterR shouldR
 rw [hi]
 unfold ot at c2 ⊢
 unfold addrF
 unfold rulC at c2 ⊢
 by_cases h:numO o.d = r.addr
 · have e:(numO o.d:Int) = r.addr:=by omega
   simp -implicitDefEqProofs (disch:=omega) [go_sem]
   refine .inl (call_data c1 (by simp [go_sem]) ?_)
   simp -implicitDefEqProofs (disch:=omega) [go_sem]
   refine side (by kernel_rfl) ?_
   simp -implicitDefEqProofs (disch:=omega) [go_sem,e,h,noO,Try.f55]
   exact ⟨_,⟨_,rfl,frz_aggL (frzL_c (.data _) (frzL_c (.emp 0 1) frzL_n))⟩,rfl⟩
 · have e:¬ (numO o.d:Int) = r.addr:=by omega
   simp -implicitDefEqProofs (disch:=omega) [go_sem]
   refine .inl (call_data c1 (by simp [go_sem]) ?_)
   simp -implicitDefEqProofs (disch:=omega) [go_sem]
   refine side (by kernel_rfl) ?_
   simp -implicitDefEqProofs (disch:=omega) [go_sem,e,h]
   refine .inl (call_data c2 (by simp [go_sem]) ?_)
   simp -implicitDefEqProofs (disch:=omega) [go_sem,h,Try.f55]
theorem shouldL_pc (r:Rule) (o:Ot) (hr:r.Ty) (ho:OptF o) (hi:r.ip = false):PC Try.prog Γ 57 [ot o,.pc (rulC r)] (.tup [ot (betterR r o),.bool (shouldR r o).2]):=by
 refine pc_by mixed Try.func57 rfl (fun args w=>Try.call57 args w) ?_
 have c1:=onumber_pc Γ o.d (by have:=ho.2;omega) ho.1
 have c2:=four13_pc Γ 5 r.other hr.other
 unfold betterR shouldR
 rw [hi]
 unfold ot at c2 ⊢
 unfold rulC
 generalize numO o.d = n at *
 simp -implicitDefEqProofs (disch:=omega) [go_sem]
 refine .inl (call_data c1 (by simp [go_sem]) ?_)
 by_cases h1:o.t = 1∧n < 64
 · rw [if_pos h1]
   obtain ⟨h1,h2⟩:=h1
   have e1:(o.t:Int) = 1:=by omega
   simp -implicitDefEqProofs (disch:=omega) [go_sem,e1,Try.f57]
   exact ⟨_,⟨_,rfl,frz_aggL (frzL_c (.data _) (frzL_c (frz_bys (rw:=true) (l:=[0,64]) (by simp [Hp.set,bys,u8]) (.inl rfl) rfl) frzL_n))⟩,rfl⟩
 rw [if_neg h1]
 by_cases h5:o.t = 5∧(n = 0 ∨ n = r.magic)
 · rw [if_pos h5]
   obtain ⟨h5,h6⟩:=h5
   have e5:(o.t:Int) = 5:=by omega
   by_cases h7:n = 0
   · have e7:(n:Int) = 0:=by omega
     simp -implicitDefEqProofs (disch:=omega) [go_sem,e5,e7]
     refine .inl (call_data c2 (by simp [go_sem]) ?_)
     simp -implicitDefEqProofs (disch:=omega) [go_sem,Try.f57]
   · have e7:¬ (n:Int) = 0:=by omega
     have e8:(n:Int) = r.magic:=by omega
     simp -implicitDefEqProofs (disch:=omega) [go_sem,e5,e7,e8]
     refine .inl (call_data c2 (by simp [go_sem]) ?_)
     simp -implicitDefEqProofs (disch:=omega) [go_sem,Try.f57]
 rw [if_neg h5]
 have fin:∀ (H:Nat->Blk),∃ x,(∃ y,x = y∧Frz true H (.agg [.data (.int .u8 0),.emp 0]) y)∧x = .agg [.int .u8 (noO.t:Nat),.sl 1 (bys noO.d)]:=fun H=>⟨_,⟨_,rfl,frz_aggL (frzL_c (.data _) (frzL_c (.emp 0 1) frzL_n))⟩,rfl⟩
 by_cases ht:o.t = 5
 · have e5:(o.t:Int) = 5:=by omega
   have e7:¬ (n:Int) = 0:=by omega
   have e8:¬ (n:Int) = r.magic:=by omega
   simp -implicitDefEqProofs (disch:=omega) [go_sem,e5,e7,e8,noO,Try.f57]
   exact ⟨_,⟨_,rfl,frz_aggL (frzL_c (.data _) (frzL_c (.emp 0 1) frzL_n))⟩,rfl⟩
 · have e5:¬ (o.t:Int) = 5:=by omega
   by_cases h2:o.t = 1
   · have e1:(o.t:Int) = 1:=by omega
     have e2:¬ (n:Int) < 64:=by omega
     simp -implicitDefEqProofs (disch:=omega) [go_sem,e1,e2,noO,Try.f57]
     exact ⟨_,⟨_,rfl,frz_aggL (frzL_c (.data _) (frzL_c (.emp 0 1) frzL_n))⟩,rfl⟩
   · have e1:¬ (o.t:Int) = 1:=by omega
     simp -implicitDefEqProofs (disch:=omega) [go_sem,e1,e5,noO,Try.f57]
     exact ⟨_,⟨_,rfl,frz_aggL (frzL_c (.data _) (frzL_c (.emp 0 1) frzL_n))⟩,rfl⟩
theorem bad13_pc (r:Rule) (o:Ot) (hr:r.Ty) (ho:OptF o):PC Try.prog Γ 30 [.agg (sideC r),ot o] (.bool (shouldR r o).2):=by
 refine pc_by mixed Try.func30 rfl (fun args w=>Try.call30 args w) ?_
 obtain ⟨k1,k2,k3⟩:=sideC_cell r
 unfold sideC
 cases hi:r.ip
 · have c1:=shouldL_pc Γ r o hr ho hi
   unfold shouldF at k1 ⊢
   rw [hi] at k1 k3 ⊢
   unfold ot at c1 ⊢
   simp -implicitDefEqProofs (disch:=omega) [go_sem,k1,k2,k3]
   refine .inl (call_data c1 (by simp [go_sem]) ?_)
   simp -implicitDefEqProofs (disch:=omega) [go_sem,Try.f30]
 · have c1:=shouldI_pc Γ r o hr ho hi
   unfold shouldF at k1 ⊢
   rw [hi] at k1 k3 ⊢
   unfold ot at c1 ⊢
   simp -implicitDefEqProofs (disch:=omega) [go_sem,k1,k2,k3]
   refine .inl (call_data c1 (by simp [go_sem]) ?_)
   simp -implicitDefEqProofs (disch:=omega) [go_sem,Try.f30]
theorem lackL_pc (l:List Ot):PC Try.prog Γ 58 [.sl 2 (ots l)] (.sl 2 (ots [])):=by
 refine pc_by mixed Try.func58 rfl (fun args w=>Try.call58 args w) ?_
 simp -implicitDefEqProofs (disch:=omega) [go_sem,Try.f58]
 exact ⟨_,⟨_,rfl,.emp _ _⟩,rfl⟩
theorem lackI_pc (r:Rule) (l:List Ot) (hr:r.Ty) (hn:l.length≤1000000000) (hl:∀ o∈l,OptF o):PC Try.prog Γ 56 [.sl 2 (ots l),.pc [addrF r]] (.sl 2 (ots (if (findO l 3).isSome = true then [] else [⟨3,fourO r.addr⟩]))):=by
 refine pc_by mixed Try.func56 rfl (fun args w=>Try.call56 args w) ?_
 have c1:=has13_pc Γ l 3 hn (fun o ho=>(hl o ho).2)
 have c2:=addr13_pc Γ r hr
 unfold ot at c2
 unfold addrF
 cases hq:(findO l 3).isSome <;> rw [hq] at c1
 · rw [if_neg (by simp)]
   simp -implicitDefEqProofs (disch:=omega) [go_sem]
   refine .inl (call_data c1 (by simp [go_sem]) ?_)
   simp -implicitDefEqProofs (disch:=omega) [go_sem]
   refine .inl (call_data c2 (by simp [go_sem]) ?_)
   simp -implicitDefEqProofs (disch:=omega) [go_sem,Try.f56]
   exact ⟨_,⟨_,rfl,frz_ref (rw:=true) (by simp [Hp.set];rfl) (.inl rfl) rfl (ots_cells _) rfl⟩,rfl⟩
 · rw [if_pos rfl]
   simp -implicitDefEqProofs (disch:=omega) [go_sem]
   refine .inl (call_data c1 (by simp [go_sem]) ?_)
   simp -implicitDefEqProofs (disch:=omega) [go_sem,Try.f56]
   exact ⟨_,⟨_,rfl,.emp _ _⟩,rfl⟩
theorem frz_mp {H:Nat->Blk} {g:Nat} {ks xs:List Data} (hg:H g = .obj (.mp ks (xs.map .data))):Frz true H (.mref g) (.mp ks xs):=by
 refine .mref g ks xs _ rfl hg (by simp) fun i d x hd hx=>?_
 rw [List.getElem?_map,hx] at hd
 cases hd
 exact .data x
theorem frz_func {ok:Bool} {H:Nat->Blk} {f:FuncId} {cs:List D} {xs:List Data} (h:FrzL ok H cs xs):Frz ok H (.fn f cs) (.fn f xs):=(frz_fn ok H f cs _).2 ⟨xs,rfl,h⟩
theorem frz_rul {H:Nat->Blk} {g:Nat} {r:Rule} (hg:H g = .blk true ((rulC r).map .data)):Frz true H (.ptr g 0) (.pc (rulC r)) :=
 frz_ptrL hg (.inl rfl) (frzL_c (.data _) (frzL_c (.data _) (frzL_c (.data _) (frzL_c (.data _) (frzL_c (.data _) frzL_n)))))
theorem sideI_pc (r:Rule) (hi:r.ip = true):PC Try.prog Γ 42 [rul r] (.agg (sideC r)):=by
 refine pc_by mixed Try.func42 rfl (fun args w=>Try.call42 args w) ?_
 unfold sideC shouldF lackF mapF addrF mapI rul
 rw [hi]
 simp -implicitDefEqProofs (disch:=omega) [go_sem,Try.f42]
 have hr:∀ (H:Nat->Blk),H 0 = .blk true ((rulC r).map .data)->Frz true H (.ptr 0 0) (.pc (rulC r)):=fun H h=>frz_rul h
 refine ⟨_,⟨_,rfl,frz_aggL (frzL_c (frz_mp (xs:=[.int .i64 4]) (by simp [Hp.set])) (frzL_c (frz_func (frzL_c (hr _ ?_) (frzL_c (frz_ptrL (rw:=true) (l:=[.fn 54 [.pc (rulC r)]]) (cells:=[.fn 54 [.ptr 0 0]]) (by simp [Hp.set]) (.inl rfl) (frzL_c (frz_func (frzL_c (hr _ ?_) frzL_n)) frzL_n)) frzL_n))) (frzL_c (frz_func (frzL_c (frz_ptrL (rw:=true) (l:=[.fn 54 [.pc (rulC r)]]) (cells:=[.fn 54 [.ptr 0 0]]) (by simp [Hp.set]) (.inl rfl) (frzL_c (frz_func (frzL_c (hr _ ?_) frzL_n)) frzL_n)) frzL_n)) frzL_n)))⟩,rfl⟩
 all_goals simp [Hp.set,rulC,hi]
theorem sideL_pc (r:Rule) (hi:r.ip = false):PC Try.prog Γ 43 [rul r] (.agg (sideC r)):=by
 refine pc_by mixed Try.func43 rfl (fun args w=>Try.call43 args w) ?_
 unfold sideC shouldF lackF mapF addrF mapL rul
 rw [hi]
 simp -implicitDefEqProofs (disch:=omega) [go_sem,Try.f43]
 refine ⟨_,⟨_,rfl,frz_aggL (frzL_c (frz_mp (xs:=[.int .i64 2,.int .i64 4,.int .i64 4,.int .i64 0,.int .i64 0]) (by simp [Hp.set])) (frzL_c (frz_func (frzL_c (frz_rul (r:=r) ?_) frzL_n)) (frzL_c (.data _) frzL_n)))⟩,rfl⟩
 simp [Hp.set,rulC,hi]
theorem sideOf_pc (r:Rule):PC Try.prog Γ 26 [rul r] (.agg (sideC r)):=by
 refine pc_by mixed Try.func26 rfl (fun args w=>Try.call26 args w) ?_
 obtain ⟨k1,k2,k3⟩:=sideC_cell r
 cases hi:r.ip
 · have c1:=sideL_pc Γ r hi
   unfold rul at c1 ⊢
   unfold sideC at c1 ⊢
   rw [hi] at c1 k3 ⊢
   simp -implicitDefEqProofs (disch:=omega) [go_sem,k1,k2,k3]
   refine .inl (call_data c1 (by simp [go_sem]) ?_)
   simp -implicitDefEqProofs (disch:=omega) [go_sem,k1,k2,k3,Try.f26]
 · have c1:=sideI_pc Γ r hi
   unfold rul at c1 ⊢
   unfold sideC at c1 ⊢
   rw [hi] at c1 k3 ⊢
   simp -implicitDefEqProofs (disch:=omega) [go_sem,k1,k2,k3]
   refine .inl (call_data c1 (by simp [go_sem]) ?_)
   simp -implicitDefEqProofs (disch:=omega) [go_sem,k1,k2,k3,Try.f26]
end
end Ru
namespace Ru
open Op9
section
variable (Γ:Nat->Option (List Data))
/-- A function that says yes or no of options: one alone,one with what it has captured,a method with what it is of. -/
inductive YesF:Data->FuncId->List Data->List Data->Prop where
 | fn (f:FuncId) (c:List Data):YesF (.fn f [.pc c]) f [] [.pc c]
 | fn0 (f:FuncId):YesF (.fn f []) f [] []
 | bn (f:FuncId) (cs:List Data):YesF (.bn f (.agg cs)) f [.agg cs] []
theorem picked13_pc {fv:Data} {f:FuncId} {pre caps:List Data} (hv:YesF fv f pre caps) (p:Ot->Bool) (l:List Ot) (hn:l.length≤1000000000) (hl:∀ o∈l,OptF o)
 (cf0:∀ o∈l,PC Try.prog Γ f (pre++(ot o :: caps)) (.bool (p o))):PC Try.prog Γ 27 [.sl 2 (ots l),fv] (.sl 2 (ots (l.filter p))):=by
 refine pc_by mixed Try.func27 rfl (fun args w=>Try.call27 args w) ?_
 have lf:∀ i,(((l.take i).filter p).length:Nat)≤l.length:=fun i=>Nat.le_trans (List.length_filter_le _ _) (by rw [List.length_take];omega)
 have st:=fun i (h:i < l.length)=>filter_take (p:=p) l i h
 have cf:∀ (i:Nat) (h:i < l.length),PC Try.prog Γ f (pre++(ot l[i] :: caps)) (.bool (p l[i])):=fun i h=>cf0 _ (List.getElem_mem h)
 have cl:∀ (i:Nat) (h:i < l.length),PC Try.prog Γ 44 [.sl 1 (bys l[i].d)] (.sl 1 (bys l[i].d)):=fun i h=>Pa.pclone_pc Γ l[i].d (hl _ (List.getElem_mem h)).2
 clear hl cf0
 cases hv
 all_goals
  simp -implicitDefEqProofs (disch:=omega) [go_sem]
  simp only [List.nil_append,List.cons_append] at cf
 · rename_i c
   refine loop_ren (σ:={ i:Nat // i≤l.length }) (fun i=>⟨envL [(1,.data (.fn f [.pc c])),(5,.ref 0 0 ((l.take i.1).filter p).length 2),(8,.data (.sl 2 (ots l))),(9,.data (.int .i64 l.length)),(10,.data (.int .i64 i.1))],hpL [(0,.blk true ((flat (ots ((l.take i.1).filter p))).map .data))],1,0,28⟩) (fun i=>l.length - i.1) ⟨0,by omega⟩ [] (rhoL [(0,none)]) ?_ ?_
   · apply ren_lists <;> simp -implicitDefEqProofs [go_sem,ots,flat]
   rintro ⟨i,hi⟩
   have lf:=lf i
   by_cases h:i < l.length
   · have c1:=cf i h
     have c2:=cl i h
     have st:=st i h
     unfold ot at c1
     cases hp:p l[i] <;> rw [hp] at c1 st
     · rw [if_neg (by simp),List.append_nil] at st
       simp -implicitDefEqProofs (disch:=omega) [go_sem,ot]
       refine .inl (call_data c1 (by simp [go_sem]) ?_)
       simp -implicitDefEqProofs (disch:=omega) [go_sem]
       refine next_ren ⟨i + 1,by omega⟩ (by simp only;omega) [] (rhoL [(0,some 0)]) ?_
       simp only [st]
       apply ren_lists <;> simp -implicitDefEqProofs [go_sem]
     · rw [if_pos rfl] at st
       simp -implicitDefEqProofs (disch:=omega) [go_sem,ot]
       refine .inl (call_data c1 (by simp [go_sem]) ?_)
       simp -implicitDefEqProofs (disch:=omega) [go_sem]
       refine .inl (call_data c2 (by simp [go_sem]) ?_)
       simp -implicitDefEqProofs (disch:=omega) [go_sem,flat_ots]
       refine side (by kernel_rfl) ?_
       simp -implicitDefEqProofs (disch:=omega) [go_sem,flat_ots]
       refine next_ren ⟨i + 1,by omega⟩ (by simp only;omega) [] (rhoL [(0,some 17)]) ?_
       simp only [st]
       apply ren_lists <;> simp -implicitDefEqProofs [go_sem]
       exact renCells_plain (by rw [ots_snoc]) (by simp [plainD])
   · have:i = l.length:=by omega
     subst this
     simp -implicitDefEqProofs (disch:=omega) [go_sem,List.take_length,Try.f27]
     exact ⟨_,⟨_,rfl,frz_ref (rw:=true) (by simp [Hp.set,hpL,List.take_length]) (.inl rfl) (ots_length _) (ots_cells _) rfl⟩,rfl⟩
 · refine loop_ren (σ:={ i:Nat // i≤l.length }) (fun i=>⟨envL [(1,.data (.fn f [])),(5,.ref 0 0 ((l.take i.1).filter p).length 2),(8,.data (.sl 2 (ots l))),(9,.data (.int .i64 l.length)),(10,.data (.int .i64 i.1))],hpL [(0,.blk true ((flat (ots ((l.take i.1).filter p))).map .data))],1,0,28⟩) (fun i=>l.length - i.1) ⟨0,by omega⟩ [] (rhoL [(0,none)]) ?_ ?_
   · apply ren_lists <;> simp -implicitDefEqProofs [go_sem,ots,flat]
   rintro ⟨i,hi⟩
   have lf:=lf i
   by_cases h:i < l.length
   · have c1:=cf i h
     have c2:=cl i h
     have st:=st i h
     unfold ot at c1
     cases hp:p l[i] <;> rw [hp] at c1 st
     · rw [if_neg (by simp),List.append_nil] at st
       simp -implicitDefEqProofs (disch:=omega) [go_sem,ot]
       refine .inl (call_data c1 (by simp [go_sem]) ?_)
       simp -implicitDefEqProofs (disch:=omega) [go_sem]
       refine next_ren ⟨i + 1,by omega⟩ (by simp only;omega) [] (rhoL [(0,some 0)]) ?_
       simp only [st]
       apply ren_lists <;> simp -implicitDefEqProofs [go_sem]
     · rw [if_pos rfl] at st
       simp -implicitDefEqProofs (disch:=omega) [go_sem,ot]
       refine .inl (call_data c1 (by simp [go_sem]) ?_)
       simp -implicitDefEqProofs (disch:=omega) [go_sem]
       refine .inl (call_data c2 (by simp [go_sem]) ?_)
       simp -implicitDefEqProofs (disch:=omega) [go_sem,flat_ots]
       refine side (by kernel_rfl) ?_
       simp -implicitDefEqProofs (disch:=omega) [go_sem,flat_ots]
       refine next_ren ⟨i + 1,by omega⟩ (by simp only;omega) [] (rhoL [(0,some 17)]) ?_
       simp only [st]
       apply ren_lists <;> simp -implicitDefEqProofs [go_sem]
       exact renCells_plain (by rw [ots_snoc]) (by simp [plainD])
   · have:i = l.length:=by omega
     subst this
     simp -implicitDefEqProofs (disch:=omega) [go_sem,List.take_length,Try.f27]
     exact ⟨_,⟨_,rfl,frz_ref (rw:=true) (by simp [Hp.set,hpL,List.take_length]) (.inl rfl) (ots_length _) (ots_cells _) rfl⟩,rfl⟩
 · rename_i c
   refine loop_ren (σ:={ i:Nat // i≤l.length }) (fun i=>⟨envL [(1,.data (.bn f (.agg c))),(5,.ref 0 0 ((l.take i.1).filter p).length 2),(8,.data (.sl 2 (ots l))),(9,.data (.int .i64 l.length)),(10,.data (.int .i64 i.1))],hpL [(0,.blk true ((flat (ots ((l.take i.1).filter p))).map .data))],1,0,28⟩) (fun i=>l.length - i.1) ⟨0,by omega⟩ [] (rhoL [(0,none)]) ?_ ?_
   · apply ren_lists <;> simp -implicitDefEqProofs [go_sem,ots,flat]
   rintro ⟨i,hi⟩
   have lf:=lf i
   by_cases h:i < l.length
   · have c1:=cf i h
     have c2:=cl i h
     have st:=st i h
     unfold ot at c1
     cases hp:p l[i] <;> rw [hp] at c1 st
     · rw [if_neg (by simp),List.append_nil] at st
       simp -implicitDefEqProofs (disch:=omega) [go_sem,ot]
       refine .inl (call_data c1 (by simp [go_sem]) ?_)
       simp -implicitDefEqProofs (disch:=omega) [go_sem]
       refine next_ren ⟨i + 1,by omega⟩ (by simp only;omega) [] (rhoL [(0,some 0)]) ?_
       simp only [st]
       apply ren_lists <;> simp -implicitDefEqProofs [go_sem]
     · rw [if_pos rfl] at st
       simp -implicitDefEqProofs (disch:=omega) [go_sem,ot]
       refine .inl (call_data c1 (by simp [go_sem]) ?_)
       simp -implicitDefEqProofs (disch:=omega) [go_sem]
       refine .inl (call_data c2 (by simp [go_sem]) ?_)
       simp -implicitDefEqProofs (disch:=omega) [go_sem,flat_ots]
       refine side (by kernel_rfl) ?_
       simp -implicitDefEqProofs (disch:=omega) [go_sem,flat_ots]
       refine next_ren ⟨i + 1,by omega⟩ (by simp only;omega) [] (rhoL [(0,some 17)]) ?_
       simp only [st]
       apply ren_lists <;> simp -implicitDefEqProofs [go_sem]
       exact renCells_plain (by rw [ots_snoc]) (by simp [plainD])
   · have:i = l.length:=by omega
     subst this
     simp -implicitDefEqProofs (disch:=omega) [go_sem,List.take_length,Try.f27]
     exact ⟨_,⟨_,rfl,frz_ref (rw:=true) (by simp [Hp.set,hpL,List.take_length]) (.inl rfl) (ots_length _) (ots_cells _) rfl⟩,rfl⟩
/-- What the options that may not be so should be. -/
def betR (r:Rule) (l:List Ot):List Ot:=(l.filter fun o=>(shouldR r o).2).map fun o=>(shouldR r o).1
theorem bet_take (r:Rule) (l:List Ot) (i:Nat) (h:i < l.length):betR r (l.take (i + 1)) = betR r (l.take i)++if (shouldR r l[i]).2 = true then [(shouldR r l[i]).1] else []:=by
 unfold betR
 rw [filter_take l i h,List.map_append]
 split <;> rfl
theorem betteredI_oc (r:Rule) (l:List Ot) (hr:r.Ty) (hi:r.ip = true) (hn:l.length≤1000000000) (hl:∀ o∈l,OptF o):OC Try.prog Γ 29 [.agg (sideC r),.sl 2 (ots l)] (.ref 0 0 (betR r l).length 2) [(0,.blk true ((flat (ots (betR r l))).map .data))] 1:=by
 refine oc_by mixed Try.func29 rfl (fun args w=>Try.call29 args w) ?_
 obtain ⟨k1,k2,k3⟩:=sideC_cell r
 have lf:∀ i,((betR r (l.take i)).length:Nat)≤l.length:=fun i=>by
  unfold betR
  rw [List.length_map]
  exact Nat.le_trans (List.length_filter_le _ _) (by rw [List.length_take];omega)
 have st:=fun i (h:i < l.length)=>bet_take r l i h
 have cf:∀ (i:Nat) (h:i < l.length),PC Try.prog Γ 55 [ot l[i],.pc (rulC r),.pc [addrF r]] (.tup [ot (betterR r l[i]),.bool (shouldR r l[i]).2]):=fun i h=>shouldI_pc Γ r l[i] hr (hl _ (List.getElem_mem h)) hi
 have bt:∀ (i:Nat) (h:i < l.length),(shouldR r l[i]).2 = true->betterR r l[i] = (shouldR r l[i]).1:=fun i h e=>if_pos e
 clear hl
 unfold sideC
 unfold shouldF at k1 ⊢
 rw [hi] at k1 k3 ⊢
 simp -implicitDefEqProofs (disch:=omega) [go_sem,k1,k2,k3]
 refine loop_ren (σ:={ i:Nat // i≤l.length }) (fun i=>⟨envL [(2,.ptr 0 0),(5,.ref 1 0 (betR r (l.take i.1)).length 2),(10,.data (.sl 2 (ots l))),(11,.data (.int .i64 l.length)),(12,.data (.int .i64 i.1))],hpL [(0,.blk true [.data (mapF true),.data (.fn 55 [.pc (rulC r),.pc [addrF r]]),.data (lackF r)]),(1,.blk true ((flat (ots (betR r (l.take i.1)))).map .data))],2,0,30⟩) (fun i=>l.length - i.1) ⟨0,by omega⟩ [] (rhoL [(0,some 0),(1,none)]) ?_ ?_
 · apply ren_lists <;> simp -implicitDefEqProofs [go_sem,ots,flat,betR]
 rintro ⟨i,hi⟩
 have lf:=lf i
 by_cases h:i < l.length
 · have c1:=cf i h
   have st:=st i h
   have bt:=bt i h
   unfold ot at c1
   cases hp:(shouldR r l[i]).2 <;> rw [hp] at c1 st
   · rw [if_neg (by simp),List.append_nil] at st
     simp -implicitDefEqProofs (disch:=omega) [go_sem,ot]
     refine .inl (call_data c1 (by simp [go_sem]) ?_)
     simp -implicitDefEqProofs (disch:=omega) [go_sem]
     refine next_ren ⟨i + 1,by omega⟩ (by simp only;omega) [] (rhoL [(0,some 0),(1,some 1)]) ?_
     simp only [st]
     apply ren_lists <;> simp -implicitDefEqProofs [go_sem]
   · rw [if_pos rfl] at st
     rw [bt hp] at c1
     simp -implicitDefEqProofs (disch:=omega) [go_sem,ot]
     refine .inl (call_data c1 (by simp [go_sem]) ?_)
     simp -implicitDefEqProofs (disch:=omega) [go_sem,flat_ots]
     refine next_ren ⟨i + 1,by omega⟩ (by simp only;omega) [] (rhoL [(0,some 0),(1,some 21)]) ?_
     simp only [st]
     apply ren_lists <;> simp -implicitDefEqProofs [go_sem]
     exact renCells_plain (by rw [ots_snoc]) (by simp [plainD])
 · have:i = l.length:=by omega
   subst this
   simp -implicitDefEqProofs (disch:=omega) [go_sem,List.take_length,Try.f29]
   refine own_of [] [(0,some 1)] ?_
   apply ren_lists <;> simp -implicitDefEqProofs [go_sem,List.take_length]
theorem betteredL_oc (r:Rule) (l:List Ot) (hr:r.Ty) (hi:r.ip = false) (hn:l.length≤1000000000) (hl:∀ o∈l,OptF o):OC Try.prog Γ 29 [.agg (sideC r),.sl 2 (ots l)] (.ref 0 0 (betR r l).length 2) [(0,.blk true ((flat (ots (betR r l))).map .data))] 1:=by
 refine oc_by mixed Try.func29 rfl (fun args w=>Try.call29 args w) ?_
 obtain ⟨k1,k2,k3⟩:=sideC_cell r
 have lf:∀ i,((betR r (l.take i)).length:Nat)≤l.length:=fun i=>by
  unfold betR
  rw [List.length_map]
  exact Nat.le_trans (List.length_filter_le _ _) (by rw [List.length_take];omega)
 have st:=fun i (h:i < l.length)=>bet_take r l i h
 have cf:∀ (i:Nat) (h:i < l.length),PC Try.prog Γ 57 [ot l[i],.pc (rulC r)] (.tup [ot (betterR r l[i]),.bool (shouldR r l[i]).2]):=fun i h=>shouldL_pc Γ r l[i] hr (hl _ (List.getElem_mem h)) hi
 have bt:∀ (i:Nat) (h:i < l.length),(shouldR r l[i]).2 = true->betterR r l[i] = (shouldR r l[i]).1:=fun i h e=>if_pos e
 clear hl
 unfold sideC
 unfold shouldF at k1 ⊢
 rw [hi] at k1 k3 ⊢
 simp -implicitDefEqProofs (disch:=omega) [go_sem,k1,k2,k3]
 refine loop_ren (σ:={ i:Nat // i≤l.length }) (fun i=>⟨envL [(2,.ptr 0 0),(5,.ref 1 0 (betR r (l.take i.1)).length 2),(10,.data (.sl 2 (ots l))),(11,.data (.int .i64 l.length)),(12,.data (.int .i64 i.1))],hpL [(0,.blk true [.data (mapF false),.data (.fn 57 [.pc (rulC r)]),.data (lackF r)]),(1,.blk true ((flat (ots (betR r (l.take i.1)))).map .data))],2,0,30⟩) (fun i=>l.length - i.1) ⟨0,by omega⟩ [] (rhoL [(0,some 0),(1,none)]) ?_ ?_
 · apply ren_lists <;> simp -implicitDefEqProofs [go_sem,ots,flat,betR]
 rintro ⟨i,hi⟩
 have lf:=lf i
 by_cases h:i < l.length
 · have c1:=cf i h
   have st:=st i h
   have bt:=bt i h
   unfold ot at c1
   cases hp:(shouldR r l[i]).2 <;> rw [hp] at c1 st
   · rw [if_neg (by simp),List.append_nil] at st
     simp -implicitDefEqProofs (disch:=omega) [go_sem,ot]
     refine .inl (call_data c1 (by simp [go_sem]) ?_)
     simp -implicitDefEqProofs (disch:=omega) [go_sem]
     refine next_ren ⟨i + 1,by omega⟩ (by simp only;omega) [] (rhoL [(0,some 0),(1,some 1)]) ?_
     simp only [st]
     apply ren_lists <;> simp -implicitDefEqProofs [go_sem]
   · rw [if_pos rfl] at st
     rw [bt hp] at c1
     simp -implicitDefEqProofs (disch:=omega) [go_sem,ot]
     refine .inl (call_data c1 (by simp [go_sem]) ?_)
     simp -implicitDefEqProofs (disch:=omega) [go_sem,flat_ots]
     refine next_ren ⟨i + 1,by omega⟩ (by simp only;omega) [] (rhoL [(0,some 0),(1,some 21)]) ?_
     simp only [st]
     apply ren_lists <;> simp -implicitDefEqProofs [go_sem]
     exact renCells_plain (by rw [ots_snoc]) (by simp [plainD])
 · have:i = l.length:=by omega
   subst this
   simp -implicitDefEqProofs (disch:=omega) [go_sem,List.take_length,Try.f29]
   refine own_of [] [(0,some 1)] ?_
   apply ren_lists <;> simp -implicitDefEqProofs [go_sem,List.take_length]
theorem bettered_oc (r:Rule) (l:List Ot) (hr:r.Ty) (hn:l.length≤1000000000) (hl:∀ o∈l,OptF o):OC Try.prog Γ 29 [.agg (sideC r),.sl 2 (ots l)] (.ref 0 0 (betR r l).length 2) [(0,.blk true ((flat (ots (betR r l))).map .data))] 1:=by
 cases hi:r.ip
 · exact betteredL_oc Γ r l hr hi hn hl
 · exact betteredI_oc Γ r l hr hi hn hl
theorem copied13_pc (l:List Ot) (hn:l.length≤1000000000) (hl:∀ o∈l,OptF o):PC Try.prog Γ 31 [.sl 2 (ots l)] (.sl 2 (ots l)):=by
 refine pc_by mixed Try.func31 rfl (fun args w=>Try.call31 args w) ?_
 have c0:∀ o:Ot,PC Try.prog Γ 45 [ot o] (.bool true):=fun o=>by
  refine pc_by mixed Try.func45 rfl (fun args w=>Try.call45 args w) ?_
  unfold ot
  simp -implicitDefEqProofs (disch:=omega) [go_sem,Try.f45]
 have c1:=picked13_pc Γ (.fn0 45) (fun _=>true) l hn hl (fun o _=>c0 o)
 rw [List.filter_eq_self.2 (fun _ _=>rfl)] at c1
 simp -implicitDefEqProofs (disch:=omega) [go_sem]
 refine .inl (call_data c1 (by simp [go_sem]) ?_)
 simp -implicitDefEqProofs (disch:=omega) [go_sem,Try.f31]
end
end Ru
namespace Ru
open Op9
theorem findO_filter (p:Ot->Bool) (l:List Ot) (t:Nat):findO (l.filter p) t = l.find? fun o=>p o && decide (o.t = t):=by
 unfold findO
 rw [List.find?_filter]
 congr 1
 funext o
 cases p o <;> simp
theorem addr_find (l:List Ot):(findO (l.filter (knownR true)) 3).map (fun o=>numO o.d) = addrR l:=by
 rw [findO_filter]
 unfold addrR
 congr 2
 funext o
 unfold knownR
 by_cases h1:o.t = 3 <;> by_cases h2:o.d.length = 4 <;> simp [h1,h2]
theorem first_find (l:List Ot) (t:Nat):(findO (l.filter (knownR false)) t).map (fun o=>numO o.d) = firstR l t:=by
 rw [findO_filter]
 rfl
theorem some_map {α β:Type} (o:Option α) (f:α->β):(o.map f).isSome = o.isSome:=by cases o <;> rfl
/-- Which types a list has. -/
def inB (l:List Ot):List Data:=(List.range 256).map fun t=>.bool (findO l t).isSome
theorem inB_len (l:List Ot):(inB l).length = 256:=by simp [inB]
theorem inB_at (l:List Ot) {t:Nat} (h:t < 256):(inB l)[t]? = some (.bool (findO l t).isSome):=by simp [inB,h]
theorem findO_snoc (l:List Ot) (o:Ot) (t:Nat):(findO (l++[o]) t).isSome = ((findO l t).isSome || decide (o.t = t)):=by
 unfold findO
 rw [List.find?_append]
 cases List.find? (fun o=>decide (o.t = t)) l <;> by_cases h:o.t = t <;> simp [h]
theorem inB_take (l:List Ot) (i:Nat) (h:i < l.length) (ht:l[i].t < 256):(inB (l.take i)).set l[i].t (.bool true) = inB (l.take (i + 1)):=by
 rw [List.take_add_one,List.getElem?_eq_getElem h,Option.toList_some]
 apply List.ext_getElem?
 intro j
 by_cases hj:j < 256
 · rw [inB_at _ hj,findO_snoc,List.getElem?_set]
   by_cases e:l[i].t = j
   · subst e
     rw [if_pos rfl,if_pos (by rw [inB_len];exact hj)]
     simp
   · rw [if_neg e,inB_at _ hj]
     simp [e]
 · rw [List.getElem?_eq_none (by rw [List.length_set,inB_len];omega),List.getElem?_eq_none (by rw [inB_len];omega)]
theorem without_drop (ours l:List Ot):ours.filter (fun o=>!(findO l o.t).isSome) = dropAll ours l:=by
 have key:∀ (l a:List Ot),dropAll a l = a.filter (fun o=>!(findO l o.t).isSome):=by
  intro l
  unfold dropAll
  induction l with
  | nil=>intro a;exact (List.filter_eq_self.2 fun _ _=>rfl).symm
  | cons x l ih =>
    intro a
    rw [List.foldl_cons,ih]
    unfold dropO
    rw [List.filter_filter]
    congr 1
    funext o
    unfold findO
    rw [List.find?_cons]
    by_cases h:x.t = o.t
    · simp [h]
    · have h2:¬ o.t = x.t:=fun e=>h e.symm
      simp [h,h2]
 exact (key l ours).symm
section
variable (Γ:Nat->Option (List Data))
theorem pickedKnown_pc (r:Rule) (l:List Ot) (hn:l.length≤1000000000) (hl:∀ o∈l,OptF o):PC Try.prog Γ 27 [.sl 2 (ots l),.bn 34 (.agg (sideC r))] (.sl 2 (ots (l.filter (knownR r.ip)))) :=
 picked13_pc Γ (.bn 34 (sideC r)) (knownR r.ip) l hn hl fun o _=>known13_pc Γ r.ip (shouldF r) (lackF r) o (sideC_cell r).1 (sideC_cell r).2.1
theorem pickedStrange_pc (r:Rule) (l:List Ot) (hn:l.length≤1000000000) (hl:∀ o∈l,OptF o):PC Try.prog Γ 27 [.sl 2 (ots l),.bn 28 (.agg (sideC r))] (.sl 2 (ots (oddR r.ip l))) :=
 picked13_pc Γ (.bn 28 (sideC r)) (fun o=>!knownR r.ip o) l hn hl fun o _=>strange13_pc Γ r o
theorem pickedBad_pc (r:Rule) (l:List Ot) (hr:r.Ty) (hn:l.length≤1000000000) (hl:∀ o∈l,OptF o):PC Try.prog Γ 27 [.sl 2 (ots l),.bn 30 (.agg (sideC r))] (.sl 2 (ots (l.filter fun o=>(shouldR r o).2))) :=
 picked13_pc Γ (.bn 30 (sideC r)) (fun o=>(shouldR r o).2) l hn hl fun o ho=>bad13_pc Γ r o hr (hl o ho)
theorem address13_pc (l:List Ot) (hn:l.length≤1000000000) (hl:∀ o∈l,OptF o):PC Try.prog Γ 13 [.sl 2 (ots l)] (natO (addrR l)):=by
 refine pc_by mixed Try.func13 rfl (fun args w=>Try.call13 args w) ?_
 have fl:(l.filter (knownR true)).length≤1000000000:=Nat.le_trans (List.length_filter_le _ _) hn
 have fo:∀ o∈l.filter (knownR true),OptF o:=fun o ho=>hl o (List.mem_filter.1 ho).1
 have c1:PC Try.prog Γ 26 [.agg [.bool true,.int .u32 0,.int .u32 0,.int .u32 0,.int .u32 0]] (.agg (sideC ⟨true,0,0,0,0⟩)):=sideOf_pc Γ ⟨true,0,0,0,0⟩
 have c2:=pickedKnown_pc Γ ⟨true,0,0,0,0⟩ l hn hl
 have c3:=number13_pc Γ (l.filter (knownR true)) 3 0 fl fo
 have c4:=has13_pc Γ (l.filter (knownR true)) 3 fl (fun o ho=>(fo o ho).2)
 rw [addr_find] at c3
 rw [<- some_map _ (fun o:Ot=>numO o.d),addr_find] at c4
 unfold natO
 simp only at c2
 generalize l.filter (knownR true) = m at *
 generalize sideC ⟨true,0,0,0,0⟩ = cs at *
 simp -implicitDefEqProofs (disch:=omega) [go_sem]
 refine .inl (call_data c1 rfl ?_)
 simp -implicitDefEqProofs (disch:=omega) [go_sem]
 refine .inl (call_frz [] [] (by simp) c2 (fun H' hH'=>frzL_c (.data _) (frzL_c (.bnd _ _ _ (.data _)) frzL_n)) ?_)
 simp -implicitDefEqProofs (disch:=omega) [go_sem]
 refine .inl (call_data c3 (by simp [go_sem]) ?_)
 simp -implicitDefEqProofs (disch:=omega) [go_sem]
 refine .inl (call_data c4 (by simp [go_sem]) ?_)
 simp -implicitDefEqProofs (disch:=omega) [go_sem,Try.f13]
theorem ask13_pc (r:Rule) (hr:r.Ty):PC Try.prog Γ 16 [rul r] (.sl 2 (ots (askR r))):=by
 refine pc_by mixed Try.func16 rfl (fun args w=>Try.call16 args w) ?_
 have c2:=four13_pc Γ 3 r.ours hr.ours
 have c3:=four13_pc Γ 5 r.magic hr.magic
 unfold askR
 unfold ot at c2 c3
 obtain ⟨ip,magic,other,addr,ours⟩:=r
 simp only at c2 c3 ⊢
 cases ip
 · simp -implicitDefEqProofs (disch:=omega) [go_sem,rul]
   refine .inl (call_data c3 (by simp [go_sem]) ?_)
   simp -implicitDefEqProofs (disch:=omega) [go_sem,Try.f16]
   refine ⟨_,⟨_,rfl,frz_rows (rw:=true) (by simp [Hp.set];rfl) (.inl rfl) rfl (ots_cells _) ?_⟩,rfl⟩
   exact frzL_c (.data _) (frzL_c (frz_bys (rw:=true) (l:=[194,35,5]) (by simp [Hp.set,bys,u8]) (.inl rfl) rfl) (frzL_c (.data _) (frzL_c (.data _) frzL_n)))
 · simp -implicitDefEqProofs (disch:=omega) [go_sem,rul]
   refine .inl (call_data c2 (by simp [go_sem]) ?_)
   simp -implicitDefEqProofs (disch:=omega) [go_sem,Try.f16]
   exact ⟨_,⟨_,rfl,frz_ref (rw:=true) (by simp [Hp.set];rfl) (.inl rfl) rfl (ots_cells _) rfl⟩,rfl⟩
theorem learn13_pc (l:List Ot) (hn:l.length≤1000000000) (hl:∀ o∈l,OptF o):PC Try.prog Γ 18 [.sl 2 (ots l)] (pee (learnR l)):=by
 refine pc_by mixed Try.func18 rfl (fun args w=>Try.call18 args w) ?_
 have fl:(l.filter (knownR false)).length≤1000000000:=Nat.le_trans (List.length_filter_le _ _) hn
 have fo:∀ o∈l.filter (knownR false),OptF o:=fun o ho=>hl o (List.mem_filter.1 ho).1
 have c1:PC Try.prog Γ 26 [.agg [.bool false,.int .u32 0,.int .u32 0,.int .u32 0,.int .u32 0]] (.agg (sideC ⟨false,0,0,0,0⟩)):=sideOf_pc Γ ⟨false,0,0,0,0⟩
 have c2:=pickedKnown_pc Γ ⟨false,0,0,0,0⟩ l hn hl
 have c3:=number13_pc Γ (l.filter (knownR false)) 1 1500 fl fo
 have c4:=number13_pc Γ (l.filter (knownR false)) 2 4294967295 fl fo
 have c5:=number13_pc Γ (l.filter (knownR false)) 5 0 fl fo
 have c6:=has13_pc Γ (l.filter (knownR false)) 7 fl (fun o ho=>(fo o ho).2)
 have c7:=has13_pc Γ (l.filter (knownR false)) 8 fl (fun o ho=>(fo o ho).2)
 rw [first_find] at c3 c4 c5
 rw [<- some_map _ (fun o:Ot=>numO o.d),first_find] at c6 c7
 have lt:(firstR l 1).getD 1500 < 4294967296:=by
  unfold firstR
  cases hq:l.find? fun o=>knownR false o && decide (o.t = 1) with
  | none=>decide
  | some o=>exact numO_lt (hl o (List.mem_of_find?_eq_some hq)).1
 unfold pee learnR
 simp only at c2
 generalize l.filter (knownR false) = m at *
 generalize (firstR l 1).getD 1500 = n1 at *
 generalize sideC ⟨false,0,0,0,0⟩ = cs at *
 simp -implicitDefEqProofs (disch:=omega) [go_sem]
 refine .inl (call_data c1 rfl ?_)
 simp -implicitDefEqProofs (disch:=omega) [go_sem]
 refine .inl (call_frz [] [] (by simp) c2 (fun H' hH'=>frzL_c (.data _) (frzL_c (.bnd _ _ _ (.data _)) frzL_n)) ?_)
 simp -implicitDefEqProofs (disch:=omega) [go_sem]
 refine .inl (call_data c3 (by simp [go_sem]) ?_)
 simp -implicitDefEqProofs (disch:=omega) [go_sem]
 refine .inl (call_data c4 (by simp [go_sem]) ?_)
 simp -implicitDefEqProofs (disch:=omega) [go_sem]
 refine .inl (call_data c5 (by simp [go_sem]) ?_)
 simp -implicitDefEqProofs (disch:=omega) [go_sem]
 refine .inl (call_data c6 (by simp [go_sem]) ?_)
 simp -implicitDefEqProofs (disch:=omega) [go_sem]
 refine .inl (call_data c7 (by simp [go_sem]) ?_)
 simp -implicitDefEqProofs (disch:=omega) [go_sem,Try.f18]
theorem ze_bools:zeT Try.prog 70 = some (List.replicate 256 (D.data (.bool false))):=by kernel_rfl
theorem inB_nil:List.replicate 256 (D.data (.bool false)) = (inB []).map D.data:=by kernel_rfl
theorem frzL_plain {ok:Bool} {H:Nat->Blk} (l:List Data):FrzL ok H (l.map D.data) l:=by
 refine ⟨by simp,fun i d x hd hx=>?_⟩
 rw [List.getElem?_map,hx] at hd
 cases hd
 exact .data x
theorem withoutClo_pc (l:List Ot) (o:Ot) (ht:o.t < 256):PC Try.prog Γ 50 [ot o,.pc (inB l)] (.bool (!(findO l o.t).isSome)):=by
 refine pc_by mixed Try.func50 rfl (fun args w=>Try.call50 args w) ?_
 have h1:=inB_at l ht
 have h2:=inB_len l
 unfold ot
 generalize inB l = c at *
 obtain ⟨h3,h4⟩:=List.getElem?_eq_some_iff.1 h1
 simp -implicitDefEqProofs (disch:=omega) [go_sem,h4,h2,Try.f50]
theorem without13_pc (ours l:List Ot) (hn:ours.length≤1000000000) (ho:∀ o∈ours,OptF o) (hot:∀ o∈ours,o.t < 256) (hl:l.length≤1000000000) (hlt:∀ o∈l,o.t < 256):PC Try.prog Γ 40 [.sl 2 (ots ours),.sl 2 (ots l)] (.sl 2 (ots (dropAll ours l))):=by
 refine pc_by mixed Try.func40 rfl (fun args w=>Try.call40 args w) ?_
 have c1:=picked13_pc Γ (.fn 50 (inB l)) (fun o=>!(findO l o.t).isSome) ours hn ho fun o h=>withoutClo_pc Γ l o (hot o h)
 rw [without_drop] at c1
 simp -implicitDefEqProofs (disch:=omega) [go_sem,ze_bools]
 refine loop_ren (σ:={ i:Nat // i≤l.length }) (fun i=>⟨envL [(0,.data (.sl 2 (ots ours))),(5,.ptr 0 0),(8,.data (.sl 2 (ots l))),(9,.data (.int .i64 l.length)),(10,.data (.int .i64 i.1))],hpL [(0,.blk true ((inB (l.take i.1)).map D.data))],1,0,21⟩) (fun i=>l.length - i.1) ⟨0,by omega⟩ [] (rhoL [(0,some 1)]) ?_ ?_
 · apply ren_lists <;> simp -implicitDefEqProofs [go_sem]
   exact renCells_plain inB_nil.symm (by simp [plainD])
 rintro ⟨i,hi⟩
 by_cases h:i < l.length
 · have ht:=hlt _ (List.getElem_mem h)
   have e:=inB_take l i h ht
   have el:=inB_len (l.take i)
   simp -implicitDefEqProofs (disch:=omega) [go_sem,ot,el]
   refine next_ren ⟨i + 1,by omega⟩ (by simp only;omega) [] (rhoL [(0,some 0)]) ?_
   apply ren_lists <;> simp -implicitDefEqProofs [go_sem]
   exact renCells_plain (by rw [<- e,List.map_set]) (by simp [plainD])
 · have:i = l.length:=by omega
   subst this
   simp -implicitDefEqProofs (disch:=omega) [go_sem,List.take_length]
   refine .inl (call_frz [0] [0] (fun g hg=>?_) c1 (fun H' hH'=>?_) ?_)
   · simp only [List.mem_cons,List.not_mem_nil,or_false] at hg
     subst hg
     exact ⟨true,_,by simp [Hp.upd,Hp.set,hpL];rfl⟩
   · refine frzL_c (.data _) (frzL_c (frz_func (frzL_c (frz_ptrL (rw:=false) (cells:=(inB l).map D.data) (by simp [Hp.upd,Hp.set,hpL,fz,List.take_length]) (.inr rfl) ?_) frzL_n)) frzL_n)
     rw [List.drop_zero,List.take_of_length_le (l:=(inB l).map D.data) (by rw [List.length_map];exact Nat.le_refl _)]
     exact frzL_plain _
   simp -implicitDefEqProofs (disch:=omega) [go_sem,Try.f40]
end
end Ru
namespace Ru
open Op9
/-- Options as they come in: many at most,with bytes. -/
structure OpsF (l:List Ot):Prop where
 len:l.length≤1000000000
 opt:∀ o∈l,OptF o
 ty:∀ o∈l,o.t < 256
theorem odd_known {r:Rule} {l:List Ot} (h:oddR r.ip l = []):betR r l = toR r l∧l.filter (fun o=>(shouldR r o).2) = asR r l:=by
 have hk:=odd_nil.1 h
 have e:l.filter (fun o=>(shouldR r o).2) = asR r l:=by
  unfold asR
  apply List.filter_congr
  intro o ho
  rw [hk o ho,Bool.true_and]
 exact ⟨by unfold betR toR;rw [e],e⟩
theorem odd_addr {l:List Ot} (h:oddR true l = []):(findO l 3).isSome = (addrR l).isSome:=by
 have hk:=odd_nil.1 h
 rw [<- addr_find,some_map,List.filter_eq_self.2 hk]
theorem otcell (l:List Ot):∀ x∈flat (ots l),x.cell = true:=by
 intro x hx
 simp only [flat,List.mem_flatMap] at hx
 obtain ⟨y,hy,hx⟩:=hx
 obtain ⟨o,-,rfl⟩:=List.mem_map.1 hy
 simp only [ot,Data.cells,List.mem_cons,List.not_mem_nil,or_false] at hx
 rcases hx with rfl | rfl <;> rfl
theorem ots_app (a b:List Ot):(flat (ots (a++b))).map D.data = (flat (ots a)).map D.data++(flat (ots b)).map D.data:=by simp [ots,flat]
section
variable (Γ:Nat->Option (List Data))
set_option maxHeartbeats 1000000 in
theorem turn13_pc (r:Rule) (ours:List Ot) (c:Nat) (l:List Ot) (hr:r.Ty) (ho:OpsF ours) (hl:OpsF l):PC Try.prog Γ 25 [rul r,.sl 2 (ots ours),.int .u8 c,.sl 2 (ots l)] (.tup [.sl 2 (ots (turnR r ours c l).1),.bool (turnR r ours c l).2]):=by
 refine pc_by mixed Try.func25 rfl (fun args w=>Try.call25 args w) ?_
 have c1:=has13_pc Γ l 3 hl.len (fun o h=>(hl.opt o h).2)
 have c2:=has13_pc Γ l 5 hl.len (fun o h=>(hl.opt o h).2)
 have c3:=has13_pc Γ ours 5 ho.len (fun o h=>(ho.opt o h).2)
 have c4:=four13_pc Γ 5 r.other hr.other
 have c5:=oput_pc Γ ours ⟨5,fourO r.other⟩ ho.len (fun o h=>(ho.opt o h).2) (by simp [fourO])
 have c6:=copied13_pc Γ ours ho.len ho.opt
 have c7:=without13_pc Γ ours l ho.len ho.opt ho.ty hl.len hl.ty
 unfold turnR
 obtain ⟨ip,magic,other,addr,our⟩:=r
 simp only at c4 c5 ⊢
 generalize (findO l 3).isSome = b1 at *
 generalize (findO l 5).isSome = b2 at *
 generalize (findO ours 5).isSome = b3 at *
 unfold ot at c4 c5
 by_cases h1:b1 = true∧ip = false
 · rw [if_pos (.inl h1)]
   obtain ⟨rfl,rfl⟩:=h1
   simp -implicitDefEqProofs (disch:=omega) [go_sem,rul]
   refine .inl (call_data c1 (by simp [go_sem]) ?_)
   simp -implicitDefEqProofs (disch:=omega) [go_sem]
   refine .inl (call_data c6 (by simp [go_sem]) ?_)
   simp -implicitDefEqProofs (disch:=omega) [go_sem,Try.f25]
 by_cases h3:c = 3
 · have h3i:(c:Int) = 3:=by omega
   rw [if_neg (by rintro (h | h);exact h1 h;exact h.1 h3),if_neg (by omega)]
   by_cases h5:ip = true ∨ b2 = false ∨ b3 = false
   · rw [if_pos h5]
     cases ip
     · have hb:b1 = false:=by cases b1 <;> simp_all
       subst hb
       simp -implicitDefEqProofs (disch:=omega) [go_sem,rul]
       refine .inl (call_data c1 (by simp [go_sem]) ?_)
       cases b2
       · simp -implicitDefEqProofs (disch:=omega) [go_sem,h3i]
         refine .inl (call_data c2 (by simp [go_sem]) ?_)
         simp -implicitDefEqProofs (disch:=omega) [go_sem]
         refine .inl (call_data c6 (by simp [go_sem]) ?_)
         simp -implicitDefEqProofs (disch:=omega) [go_sem,Try.f25]
       · have hb:b3 = false:=by cases b3 <;> simp_all
         subst hb
         simp -implicitDefEqProofs (disch:=omega) [go_sem,h3i]
         refine .inl (call_data c2 (by simp [go_sem]) ?_)
         simp -implicitDefEqProofs (disch:=omega) [go_sem]
         refine .inl (call_data c3 (by simp [go_sem]) ?_)
         simp -implicitDefEqProofs (disch:=omega) [go_sem]
         refine .inl (call_data c6 (by simp [go_sem]) ?_)
         simp -implicitDefEqProofs (disch:=omega) [go_sem,Try.f25]
     · simp -implicitDefEqProofs (disch:=omega) [go_sem,h3i,rul]
       refine .inl (call_data c6 (by simp [go_sem]) ?_)
       simp -implicitDefEqProofs (disch:=omega) [go_sem,Try.f25]
   · rw [if_neg h5]
     cases ip <;> cases b2 <;> cases b3 <;> simp at h5
     cases b1 <;> simp at h1
     simp -implicitDefEqProofs (disch:=omega) [go_sem,h3i,rul]
     refine .inl (call_data c1 (by simp [go_sem]) ?_)
     simp -implicitDefEqProofs (disch:=omega) [go_sem,h3i]
     refine .inl (call_data c2 (by simp [go_sem]) ?_)
     simp -implicitDefEqProofs (disch:=omega) [go_sem]
     refine .inl (call_data c3 (by simp [go_sem]) ?_)
     simp -implicitDefEqProofs (disch:=omega) [go_sem]
     refine .inl (call_data c4 (by simp [go_sem]) ?_)
     simp -implicitDefEqProofs (disch:=omega) [go_sem]
     refine .inl (call_data c5 (by simp [go_sem]) ?_)
     simp -implicitDefEqProofs (disch:=omega) [go_sem,Try.f25]
 have h3i:¬ (c:Int) = 3:=by omega
 by_cases h4:c = 4
 · have h4i:(c:Int) = 4:=by omega
   rw [if_neg (by rintro (h | h);exact h1 h;exact h.2 h4),if_pos h4]
   cases ip
   · have hb:b1 = false:=by cases b1 <;> simp_all
     subst hb
     simp -implicitDefEqProofs (disch:=omega) [go_sem,rul]
     refine .inl (call_data c1 (by simp [go_sem]) ?_)
     simp -implicitDefEqProofs (disch:=omega) [go_sem,h3i,h4i]
     refine .inl (call_data c7 (by simp [go_sem]) ?_)
     simp -implicitDefEqProofs (disch:=omega) [go_sem,Try.f25]
   · simp -implicitDefEqProofs (disch:=omega) [go_sem,h3i,h4i,rul]
     refine .inl (call_data c7 (by simp [go_sem]) ?_)
     simp -implicitDefEqProofs (disch:=omega) [go_sem,Try.f25]
 have h4i:¬ (c:Int) = 4:=by omega
 rw [if_pos (.inr ⟨h3,h4⟩)]
 cases ip
 · have hb:b1 = false:=by cases b1 <;> simp_all
   subst hb
   simp -implicitDefEqProofs (disch:=omega) [go_sem,rul]
   refine .inl (call_data c1 (by simp [go_sem]) ?_)
   simp -implicitDefEqProofs (disch:=omega) [go_sem,h3i,h4i]
   refine .inl (call_data c6 (by simp [go_sem]) ?_)
   simp -implicitDefEqProofs (disch:=omega) [go_sem,Try.f25]
 · simp -implicitDefEqProofs (disch:=omega) [go_sem,h3i,h4i,rul]
   refine .inl (call_data c6 (by simp [go_sem]) ?_)
   simp -implicitDefEqProofs (disch:=omega) [go_sem,Try.f25]
/-- What should be in a list,and isn't. -/
def lackR (r:Rule) (l:List Ot):List Ot:=if r.ip = true∧(findO l 3).isSome = false then [⟨3,fourO r.addr⟩] else []
theorem lack_len (r:Rule) (l:List Ot):(lackR r l).length≤1:=by
 unfold lackR
 split <;> simp
theorem toA_is {r:Rule} {l:List Ot} (h:oddR r.ip l = []):betR r l++lackR r l = toA r l:=by
 rw [(odd_known h).1]
 unfold toA lackR
 by_cases hi:r.ip = true
 · rw [hi] at h
   rw [odd_addr h]
   cases addrR l <;> simp [hi]
 · rw [if_neg fun k=>hi k.1,if_neg fun k=>hi k.1]
theorem bet_len (r:Rule) (l:List Ot):(betR r l).length≤l.length:=by
 unfold betR
 rw [List.length_map]
 exact List.length_filter_le _ _
theorem lackF_fn {r:Rule} {l:List Ot} (hr:r.Ty) (hl:OpsF l):∃ f caps,lackF r = .fn f caps∧PC Try.prog Γ f (.sl 2 (ots l) :: caps) (.sl 2 (ots (lackR r l)))∧(caps = [] ∨ ∃ c,caps = [.pc c]):=by
 unfold lackF lackR
 cases hi:r.ip
 · exact ⟨_,_,rfl,lackL_pc Γ l,.inl rfl⟩
 · refine ⟨_,_,rfl,?_,.inr ⟨_,rfl⟩⟩
   have:=lackI_pc Γ r l hr hl.len hl.opt
   cases hq:(findO l 3).isSome <;> rw [hq] at this <;> exact this
set_option maxHeartbeats 4000000 in
theorem answer13_pc (r:Rule) (l:List Ot) (n:Int) (hr:r.Ty) (hl:OpsF l):PC Try.prog Γ 11 [rul r,.sl 2 (ots l),.int .i64 n] (.tup [.int .u8 (answerR r l n).1,.sl 2 (ots (answerR r l n).2)]):=by
 refine pc_by mixed Try.func11 rfl (fun args w=>Try.call11 args w) ?_
 have hn:=hl.len
 have c0:=sideOf_pc Γ r
 have c1:=pickedStrange_pc Γ r l hl.len hl.opt
 have c2:=bettered_oc Γ r l hr hl.len hl.opt
 have c4:=pickedBad_pc Γ r l hr hl.len hl.opt
 have c5:=copied13_pc Γ l hl.len hl.opt
 obtain ⟨lf,lc,le,c3,lcc⟩:=lackF_fn Γ hr hl
 have lb:=bet_len r l
 have ll:=lack_len r l
 have len0:∀ m:List Ot,m≠[]->0 < m.length:=fun m h=>List.length_pos_iff.2 h
 have len1:∀ m:List Ot,¬ m≠[]->m.length = 0:=fun m h=>by simp only [ne_eq,Decidable.not_not] at h;rw [h];rfl
 obtain ⟨k1,-,k3⟩:=sideC_cell r
 unfold sideC at c0 c1 c2 c4
 rw [le] at c0 c1 c2 c4
 unfold rul at c0 ⊢
 have hto:=@toA_is r l
 have hod:=@odd_known r l
 generalize shouldF r = sf at *
 generalize mapF r.ip = mf at *
 unfold answerR
 simp -implicitDefEqProofs (disch:=omega) [go_sem]
 refine .inl (call_data c0 (by simp [go_sem]) ?_)
 simp -implicitDefEqProofs (disch:=omega) [go_sem,k1,k3]
 refine .inl (call_frz [] [] (by simp) c1 (fun H' hH'=>frzL_c (.data _) (frzL_c (.bnd _ _ _ (.data _)) frzL_n)) ?_)
 by_cases h1:oddR r.ip l≠[]
 · rw [if_pos h1]
   have:=len0 _ h1
   simp -implicitDefEqProofs (disch:=omega) [go_sem,Try.f11]
 rw [if_neg h1]
 have h1n:=len1 _ h1
 have hto:=hto (Classical.not_not.1 h1)
 have hod:=hod (Classical.not_not.1 h1)
 by_cases hm:n < 3
 · rw [if_neg fun k=>by omega]
   have htl:(betR r l).length + (lackR r l).length = (toA r l).length:=by rw [<- hto,List.length_append]
   simp -implicitDefEqProofs (disch:=omega) [go_sem,h1n]
   refine .inr (eff_own1 c2 (by simp [go_sem]) ?_)
   simp -implicitDefEqProofs (disch:=omega) [go_sem]
   refine .inl (call_data c3 (by simp [go_sem]) ?_)
   have hfl:((flat (ots (betR r l))).length:Nat) = (betR r l).length * 2:=flat_ots _
   simp -implicitDefEqProofs (disch:=omega) [go_sem,flat_ots,hm]
   refine side (otcell _) ?_
   simp -implicitDefEqProofs (disch:=omega) [go_sem,flat_ots]
   refine side (by kernel_rfl) ?_
   simp -implicitDefEqProofs (disch:=omega) [go_sem,flat_ots]
   by_cases h3:toA r l≠[]
   · rw [if_pos ⟨hm,h3⟩]
     have:=len0 _ h3
     have hlt:(0:Int) < (betR r l).length + (lackR r l).length:=by omega
     simp -implicitDefEqProofs (disch:=omega) [go_sem,hlt,Try.f11]
     exact ⟨_,⟨_,_,rfl,rfl,_,rfl,frz_ref (rw:=true) (l:=ots (toA r l)) (cells:=(flat (ots (toA r l))).map D.data) (by simp [Hp.set,<- hto,ots_app]) (.inl rfl) (by rw [ots_length,htl]) (ots_cells _) rfl⟩,rfl⟩
   · rw [if_neg fun k=>h3 k.2]
     have h3n:=len1 _ h3
     have hlt:¬ (0:Int) < (betR r l).length + (lackR r l).length:=by omega
     simp -implicitDefEqProofs (disch:=omega) [go_sem,hlt]
     refine .inl (call_data c5 (by simp [go_sem]) ?_)
     simp -implicitDefEqProofs (disch:=omega) [go_sem,Try.f11]
 · have hm2:3≤n:=by omega
   have e:=hod.2
   rw [e] at c4
   simp -implicitDefEqProofs (disch:=omega) [go_sem,h1n]
   refine .inl (call_frz [] [] (by simp) c4 (fun H' hH'=>frzL_c (.data _) (frzL_c (.bnd _ _ _ (.data _)) frzL_n)) ?_)
   by_cases h2:asR r l≠[]
   · rw [if_pos ⟨hm2,h2⟩]
     have:=len0 _ h2
     simp -implicitDefEqProofs (disch:=omega) [go_sem,Try.f11]
   · rw [if_neg fun k=>h2 k.2,if_neg fun k=>by omega]
     have h2n:=len1 _ h2
     simp -implicitDefEqProofs (disch:=omega) [go_sem,h2n]
     refine .inl (call_data c5 (by simp [go_sem]) ?_)
     simp -implicitDefEqProofs (disch:=omega) [go_sem,Try.f11]
end
end Ru
/-- A kind of cell. -/
inductive FK where
 | b
 | i (k:IntKind)
 | s
def FK.okB (P:Program) (t:TypeId):FK->Bool
 | .b=>match P.underlying t with | some .bool=>true | _=>false
 | .i k=>match P.underlying t with | some (.int q)=>decide (q = k) | _=>false
 | .s=>match P.underlying t with | some .string=>true | _=>false
def FK.fit:FK->Data->Prop
 | .b,x=>∃ b,x = .bool b
 | .i k,x=>∃ n:Int,x = .int k n∧(Lit.int k n).wf = true
 | .s,x=>∃ s:ByteArray,x = .str s∧s.size≤maxLen
def FitD (ks:List FK) (xs:List Data):Prop:=xs.length = ks.length∧∀ (i:Nat) (k:FK) (x:Data),ks[i]? = some k->xs[i]? = some x->k.fit x
@[go_sem] theorem fitD_nil:FitD [] [] ↔ True:=iff_true_intro ⟨rfl,fun i k x h=>by simp at h⟩
@[go_sem] theorem fitD_cons (k:FK) (ks:List FK) (x:Data) (xs:List Data):FitD (k :: ks) (x :: xs) ↔ k.fit x∧FitD ks xs:=by
 constructor
 · rintro ⟨h1,h2⟩
   exact ⟨h2 0 k x rfl rfl,by simpa using h1,fun i k' x' hk hx=>h2 (i + 1) k' x' (by simpa using hk) (by simpa using hx)⟩
 · rintro ⟨h1,h2,h3⟩
   refine ⟨by simpa using h2,fun i k' x' hk hx=>?_⟩
   match i with
   | 0=>simp at hk hx;subst hk;subst hx;exact h1
   | i + 1=>exact h3 i k' x' (by simpa using hk) (by simpa using hx)
theorem fit_bool (b:Bool):FK.fit .b (.bool b):=⟨b,rfl⟩
theorem fit_int {k:IntKind} {n:Int} (h:k.min≤n∧n≤k.max):FK.fit (.i k) (.int k n):=⟨n,rfl,by simp [Lit.wf,h]⟩
def litD:Data->Lit
 | .bool b=>.bool b
 | .int k n=>.int k n
 | .str s=>.string s.data.toList
 | _=>.bool false
def valD:Data->Value
 | .bool b=>.bool b
 | .int k n=>.int k n
 | .str s=>.string s
 | _=>.nilIface
theorem fit_val {k:FK} {x:Data} {v:Value} {L:Nat->Prop} {w:World} (hf:k.fit x) (h:VD L w x v):v = valD x:=by
 cases k with
 | b=>obtain ⟨b,rfl⟩:=hf;cases h;rfl
 | i k=>obtain ⟨n,rfl,_⟩:=hf;cases h;rfl
 | s=>obtain ⟨s,rfl,_⟩:=hf;cases h;rfl
theorem fit_inj {k:FK} {x y:Data} (hx:k.fit x) (hy:k.fit y) (e:litD x = litD y):x = y:=by
 cases k with
 | b=>obtain ⟨b,rfl⟩:=hx;obtain ⟨c,rfl⟩:=hy;simpa [litD] using e
 | i k=>obtain ⟨n,rfl,_⟩:=hx;obtain ⟨m,rfl,_⟩:=hy;simpa [litD] using e
 | s =>
   obtain ⟨s,rfl,_⟩:=hx
   obtain ⟨t,rfl,_⟩:=hy
   have:s.data.toList = t.data.toList:=by simpa [litD] using e
   have h2:s = t:=by
    cases s;cases t
    simp only at this
    congr 1
    exact Array.toList_inj.1 this
   rw [h2]
theorem fitD_inj:∀ {ks:List FK} {xs ys:List Data},FitD ks xs->FitD ks ys->(xs.map litD = ys.map litD ↔ xs = ys)
 | [],xs,ys,hx,hy=>by
   have h1:=List.eq_nil_of_length_eq_zero hx.1
   have h2:=List.eq_nil_of_length_eq_zero hy.1
   subst h1;subst h2;simp
 | k :: ks,[],_,hx,_=>by have:=hx.1;simp at this
 | k :: ks,_ :: _,[],_,hy=>by have:=hy.1;simp at this
 | k :: ks,x :: xs,y :: ys,hx,hy=>by
   obtain ⟨a1,a2⟩:=(fitD_cons k ks x xs).1 hx
   obtain ⟨b1,b2⟩:=(fitD_cons k ks y ys).1 hy
   have ih:=fitD_inj a2 b2
   simp only [List.map_cons,List.cons.injEq,ih]
   constructor
   · rintro ⟨e1,e2⟩;exact ⟨fit_inj a1 b1 e1,e2⟩
   · rintro ⟨e1,e2⟩;exact ⟨by rw [e1],e2⟩
def flatB (P:Program) (fs:Array Field) (ks:List FK):Bool:=(List.range ks.length).all fun i=>match fs[i]?,ks[i]? with
 | some f,some k=>decide (f.offset = i) && decide (P.cellsOf f.type = 1) && k.okB P f.type
 | _,_=>false
/-- A struct of such cells. -/
structure FlatS (P:Program) (t:TypeId) (fs:Array Field) (ks:List FK):Prop where
 ut:P.underlying t = some (.struct fs)
 n:fs.size = ks.length
 ct:P.cellsOf t = ks.length
 names:fs.all (·.name != "_") = true
 each:flatB P fs ks = true
 deep:EqAt P (9998 + 2) t
 guard:P.eqGuardType P.depth t = false
theorem FlatS.lits {P:Program} {t:TypeId} {fs:Array Field} {ks:List FK} (h:FlatS P t fs ks) {xs:List Data} (hx:FitD ks xs):P.keyLits 3 t (xs.map valD) = some (xs.map litD):=by
 rw [Program.keyLits.eq_def]
 simp only [h.ut]
 have hlen:xs.length = P.cellsOf t:=by rw [h.ct,hx.1]
 rw [if_pos ⟨by simp [hlen],h.names⟩]
 have key:∀ (n:Nat) (l:List Field),n + l.length = xs.length->(∀ i,i < l.length->l[i]? = fs[n + i]?)->(l.mapM fun f=>P.keyLits 2 f.type (((xs.map valD).drop f.offset).take (P.cellsOf f.type))) = some ((xs.drop n).map fun x=>[litD x]):=by
  intro n l
  induction l generalizing n with
  | nil=>intro hl _;simp at hl;rw [List.drop_of_length_le (by omega)];rfl
  | cons f l ih =>
    intro hl hf
    simp only [List.length_cons] at hl
    have hnl:n < xs.length:=by omega
    have hnk:n < ks.length:=by rw [<- hx.1];exact hnl
    have hfn:fs[n]? = some f:=by have:=hf 0 (by simp);simpa using this.symm
    have hall:=List.all_eq_true.1 h.each n (List.mem_range.2 hnk)
    rw [hfn,List.getElem?_eq_getElem hnk] at hall
    simp only [Bool.and_eq_true,decide_eq_true_eq] at hall
    obtain ⟨⟨ho,hc⟩,hk⟩:=hall
    have hfit:=hx.2 n ks[n] xs[n] (List.getElem?_eq_getElem hnk) (List.getElem?_eq_getElem hnl)
    rw [List.mapM_cons,ih (n + 1) (by omega) (fun i hi=>by have:=hf (i + 1) (by simp;omega);simpa [Nat.add_assoc,Nat.add_comm 1] using this)]
    have e1:((xs.map valD).drop f.offset).take (P.cellsOf f.type) = [valD xs[n]]:=by
     rw [ho,hc,List.drop_eq_getElem_cons (by simpa using hnl)];simp
    have e2:P.keyLits 2 f.type [valD xs[n]] = some [litD xs[n]]:=by
     generalize ks[n] = kk at hk hfit
     cases kk with
     | b =>
       obtain ⟨b,hb⟩:=hfit
       rw [hb,Program.keyLits.eq_def]
       simp only [FK.okB] at hk
       split at hk
       · rename_i hu;simp only [hu];rfl
       · cases hk
     | i k =>
       obtain ⟨m,hb,hw⟩:=hfit
       rw [hb,Program.keyLits.eq_def]
       simp only [FK.okB] at hk
       split at hk
       · rename_i q hu
         have hq:q = k:=by simpa using hk
         subst hq
         simp only [hu,valD]
         rw [if_pos (by simpa using hw)];rfl
       · cases hk
     | s =>
       obtain ⟨st,hb,hw⟩:=hfit
       rw [hb,Program.keyLits.eq_def]
       simp only [FK.okB] at hk
       split at hk
       · rename_i hu
         simp only [hu,valD]
         rw [if_pos hw];rfl
       · cases hk
    rw [e1,e2,List.drop_eq_getElem_cons hnl]
    rfl
 have:=key 0 fs.toList (by simp [h.n,hx.1]) (fun i hi=>by simp)
 rw [this]
 simp only [List.drop_zero,Option.map_some,Option.some.injEq]
 rw [List.flatten_eq_flatMap,List.flatMap_map]
 have fm:∀ (l:List Data),(l.flatMap fun x=>id [litD x]) = l.map litD:=fun l=>by
  induction l with
  | nil=>rfl
  | cons a l ih =>
    simp only [List.flatMap_cons,List.map_cons,id] at ih ⊢
    rw [ih];rfl
 exact fm xs
theorem fitD_vals {ks:List FK} {xs:List Data} {vs:Array Value} {L:Nat->Prop} {w:World} (hx:FitD ks xs) (hl:xs.length = vs.size) (h:∀ (i:Nat) (x:Data) (v:Value),xs[i]? = some x->vs[i]? = some v->VD L w x v):vs = (xs.map valD).toArray:=by
 apply Array.ext
 · simp [hl]
 · intro i h1 h2
   have hi:i < xs.length:=by simpa using h2
   have hk:i < ks.length:=by rw [<- hx.1];exact hi
   have hv:=h i xs[i] vs[i] (List.getElem?_eq_getElem hi) (Array.getElem?_eq_getElem h1)
   rw [fit_val (hx.2 i ks[i] xs[i] (List.getElem?_eq_getElem hk) (List.getElem?_eq_getElem hi)) hv]
   simp
/-- Two of them,in the walk. -/
theorem eqK_flat {P:Program} {t:TypeId} {fs:Array Field} {ks:List FK} (h:FlatS P t fs ks) {xs ys:List Data} (hx:FitD ks xs) (hy:FitD ks ys) {p:Prop} [Decidable p] (hp:xs = ys ↔ p) {K:Bool->Prop} (hk:K (decide p)):eqK P t (.agg xs) (.agg ys) K:=by
 refine ⟨_,fun L w ox oy vx vy h1 h2=>?_,hk⟩
 cases h1 with
 | agg _ vs hs hv =>
 cases h2 with
 | agg _ us hs2 hv2 =>
 obtain rfl:=fitD_vals hx hs hv
 obtain rfl:=fitD_vals hy hs2 hv2
 refine ⟨fun op=>run_eqGuard_agg w op t ox oy _ _ h.guard,?_⟩
 have formed:∀ (l:List Data),FitD ks l->(Value.agg (l.map valD).toArray).formed P t = true:=by
  intro l hl
  simp only [Value.formed,h.ut,h.ct]
  simp [hl.1]
 obtain ⟨r,hr,hi⟩:=h.deep w 3 3 _ _ (xs.map litD) (ys.map litD) (formed xs hx) (formed ys hy) (by simpa [Value.cells] using h.lits hx) (by simpa [Value.cells] using h.lits hy)
 have e:r = decide p:=by
  rw [Bool.eq_iff_iff,hi,fitD_inj hx hy,hp]
  simp
 rw [<- e]
 exact hr
end Go.Proofs.Ytmappnpigpcimaa
