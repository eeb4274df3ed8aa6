/- Rules: the program's rows of options: picked, bettered. Rules: the program's Address, Learn, Ask, without, Turn, Answer. Rules: the program's Turn and Answer. Rules: what comes in, the document's example, RulesAnswer, RulesLearn. Protocols: as they come in; what the program's functions answer (told as a premise: the laws lean on it, whatever the program is like inside). Protocols: the document's example; NegoDoes, NegoRight. Protocols: NegoDoes, NegoRight. Protocols: NegoCodes, NegoEchoes. Protocols: NegoAcks. Protocols: NegoPeer. Protocols: the laws, of whatever answers as ProgN says. Regions whose order is open, that fill a map of their own: its entries come in whatever order. Walks that part, and meet again in one state. A state told otherwise at a statement's beginning; a row that has room behind it, or hasn't. Several rows of the caller's, lent to a call: the call is looked at with these rows alone; it hands them back, or others in the place of some. The state table: the document's own names. Strings gone through: bytes below 128 are runes. The fields of a string of bytes below 128. -/
import Derived.Test.YtlfhkplbjgcpiaaGreatDoorPk8
namespace Go.Proofs.YtlfhkplbjgcpiaaGreatDoor
open Go.RowKit
set_option linter.unusedSimpArgs false
set_option linter.unusedVariables false
set_option maxRecDepth 100000
namespace Ru
open Op9
section
variable (Γ:Nat->Option (List Data))
/-- A function that says yes or no of options: one alone,one with what it has captured,a method with what it is of. -/
inductive YesF:Data->FuncId->List Data->List Data->Prop where
 | fn (f:FuncId) (c:List Data):YesF (.fn f [.pc c]) f [] [.pc c]
 | fn0 (f:FuncId):YesF (.fn f []) f [] []
 | bn (f:FuncId) (cs:List Data):YesF (.bn f (.agg cs)) f [.agg cs] []
theorem picked13_pc {fv:Data} {f:FuncId} {pre caps:List Data} (hv:YesF fv f pre caps) (p:Ot->Bool) (l:List Ot) (hn:l.length≤1000000000) (hl:∀ o∈l,OptF o)
 (cf0:∀ o∈l,PC Tryz.prog Γ f (pre++(ot o :: caps)) (.bool (p o))):PC Tryz.prog Γ 146 [.sl 2 (ots l),fv] (.sl 2 (ots (l.filter p))):=by
 refine pc_by mixed Tryz.func146 rfl (fun args w=>Tryz.call146 args w) ?_
 have lf:∀ i,(((l.take i).filter p).length:Nat)≤l.length:=fun i=>Nat.le_trans (List.length_filter_le _ _) (by rw [List.length_take];omega)
 have st:=fun i (h:i < l.length)=>filter_take (p:=p) l i h
 have cf:∀ (i:Nat) (h:i < l.length),PC Tryz.prog Γ f (pre++(ot l[i] :: caps)) (.bool (p l[i])):=fun i h=>cf0 _ (List.getElem_mem h)
 have cl:∀ (i:Nat) (h:i < l.length),PC Tryz.prog Γ 85 [.sl 1 (bys l[i].d)] (.sl 1 (bys l[i].d)):=fun i h=>Pa.pclone_pc Γ l[i].d (hl _ (List.getElem_mem h)).2
 clear hl cf0
 cases hv
 all_goals
  simp -implicitDefEqProofs (disch:=omega) [go_sem]
  simp only [List.nil_append,List.cons_append] at cf
 · rename_i c
   refine loop_ren (σ:={ i:Nat // i≤l.length }) (fun i=>⟨envL [(1,.data (.fn f [.pc c])),(5,.ref 0 0 ((l.take i.1).filter p).length 2),(8,.data (.sl 2 (ots l))),(9,.data (.int .i64 l.length)),(10,.data (.int .i64 i.1))],hpL [(0,.blk true ((flat (ots ((l.take i.1).filter p))).map .data))],1,0,28⟩) (fun i=>l.length - i.1) ⟨0,by omega⟩ [] (rhoL [(0,none)]) ?_ ?_
   · apply ren_lists <;> simp -implicitDefEqProofs [go_sem,ots,flat]
   rintro ⟨i,hi⟩
   have lf:=lf i
   by_cases h:i < l.length
   · have c1:=cf i h
     have c2:=cl i h
     have st:=st i h
     unfold ot at c1
     cases hp:p l[i] <;> rw [hp] at c1 st
     · rw [if_neg (by simp),List.append_nil] at st
       simp -implicitDefEqProofs (disch:=omega) [go_sem,ot]
       refine .inl (call_data c1 (by simp [go_sem]) ?_)
       simp -implicitDefEqProofs (disch:=omega) [go_sem]
       refine next_ren ⟨i + 1,by omega⟩ (by simp only;omega) [] (rhoL [(0,some 0)]) ?_
       simp only [st]
       apply ren_lists <;> simp -implicitDefEqProofs [go_sem]
     · rw [if_pos rfl] at st
       simp -implicitDefEqProofs (disch:=omega) [go_sem,ot]
       refine .inl (call_data c1 (by simp [go_sem]) ?_)
       simp -implicitDefEqProofs (disch:=omega) [go_sem]
       refine .inl (call_data c2 (by simp [go_sem]) ?_)
       simp -implicitDefEqProofs (disch:=omega) [go_sem,flat_ots]
       refine side (by kernel_rfl) ?_
       simp -implicitDefEqProofs (disch:=omega) [go_sem,flat_ots]
       refine next_ren ⟨i + 1,by omega⟩ (by simp only;omega) [] (rhoL [(0,some 17)]) ?_
       simp only [st]
       apply ren_lists <;> simp -implicitDefEqProofs [go_sem]
       exact renCells_plain (by rw [ots_snoc]) (by simp [plainD])
   · have:i = l.length:=by omega
     subst this
     simp -implicitDefEqProofs (disch:=omega) [go_sem,List.take_length,Tryz.f146]
     exact ⟨_,⟨_,rfl,frz_ref (rw:=true) (by simp [Hp.set,hpL,List.take_length]) (.inl rfl) (ots_length _) (ots_cells _) rfl⟩,rfl⟩
 · refine loop_ren (σ:={ i:Nat // i≤l.length }) (fun i=>⟨envL [(1,.data (.fn f [])),(5,.ref 0 0 ((l.take i.1).filter p).length 2),(8,.data (.sl 2 (ots l))),(9,.data (.int .i64 l.length)),(10,.data (.int .i64 i.1))],hpL [(0,.blk true ((flat (ots ((l.take i.1).filter p))).map .data))],1,0,28⟩) (fun i=>l.length - i.1) ⟨0,by omega⟩ [] (rhoL [(0,none)]) ?_ ?_
   · apply ren_lists <;> simp -implicitDefEqProofs [go_sem,ots,flat]
   rintro ⟨i,hi⟩
   have lf:=lf i
   by_cases h:i < l.length
   · have c1:=cf i h
     have c2:=cl i h
     have st:=st i h
     unfold ot at c1
     cases hp:p l[i] <;> rw [hp] at c1 st
     · rw [if_neg (by simp),List.append_nil] at st
       simp -implicitDefEqProofs (disch:=omega) [go_sem,ot]
       refine .inl (call_data c1 (by simp [go_sem]) ?_)
       simp -implicitDefEqProofs (disch:=omega) [go_sem]
       refine next_ren ⟨i + 1,by omega⟩ (by simp only;omega) [] (rhoL [(0,some 0)]) ?_
       simp only [st]
       apply ren_lists <;> simp -implicitDefEqProofs [go_sem]
     · rw [if_pos rfl] at st
       simp -implicitDefEqProofs (disch:=omega) [go_sem,ot]
       refine .inl (call_data c1 (by simp [go_sem]) ?_)
       simp -implicitDefEqProofs (disch:=omega) [go_sem]
       refine .inl (call_data c2 (by simp [go_sem]) ?_)
       simp -implicitDefEqProofs (disch:=omega) [go_sem,flat_ots]
       refine side (by kernel_rfl) ?_
       simp -implicitDefEqProofs (disch:=omega) [go_sem,flat_ots]
       refine next_ren ⟨i + 1,by omega⟩ (by simp only;omega) [] (rhoL [(0,some 17)]) ?_
       simp only [st]
       apply ren_lists <;> simp -implicitDefEqProofs [go_sem]
       exact renCells_plain (by rw [ots_snoc]) (by simp [plainD])
   · have:i = l.length:=by omega
     subst this
     simp -implicitDefEqProofs (disch:=omega) [go_sem,List.take_length,Tryz.f146]
     exact ⟨_,⟨_,rfl,frz_ref (rw:=true) (by simp [Hp.set,hpL,List.take_length]) (.inl rfl) (ots_length _) (ots_cells _) rfl⟩,rfl⟩
 · rename_i c
   refine loop_ren (σ:={ i:Nat // i≤l.length }) (fun i=>⟨envL [(1,.data (.bn f (.agg c))),(5,.ref 0 0 ((l.take i.1).filter p).length 2),(8,.data (.sl 2 (ots l))),(9,.data (.int .i64 l.length)),(10,.data (.int .i64 i.1))],hpL [(0,.blk true ((flat (ots ((l.take i.1).filter p))).map .data))],1,0,28⟩) (fun i=>l.length - i.1) ⟨0,by omega⟩ [] (rhoL [(0,none)]) ?_ ?_
   · apply ren_lists <;> simp -implicitDefEqProofs [go_sem,ots,flat]
   rintro ⟨i,hi⟩
   have lf:=lf i
   by_cases h:i < l.length
   · have c1:=cf i h
     have c2:=cl i h
     have st:=st i h
     unfold ot at c1
     cases hp:p l[i] <;> rw [hp] at c1 st
     · rw [if_neg (by simp),List.append_nil] at st
       simp -implicitDefEqProofs (disch:=omega) [go_sem,ot]
       refine .inl (call_data c1 (by simp [go_sem]) ?_)
       simp -implicitDefEqProofs (disch:=omega) [go_sem]
       refine next_ren ⟨i + 1,by omega⟩ (by simp only;omega) [] (rhoL [(0,some 0)]) ?_
       simp only [st]
       apply ren_lists <;> simp -implicitDefEqProofs [go_sem]
     · rw [if_pos rfl] at st
       simp -implicitDefEqProofs (disch:=omega) [go_sem,ot]
       refine .inl (call_data c1 (by simp [go_sem]) ?_)
       simp -implicitDefEqProofs (disch:=omega) [go_sem]
       refine .inl (call_data c2 (by simp [go_sem]) ?_)
       simp -implicitDefEqProofs (disch:=omega) [go_sem,flat_ots]
       refine side (by kernel_rfl) ?_
       simp -implicitDefEqProofs (disch:=omega) [go_sem,flat_ots]
       refine next_ren ⟨i + 1,by omega⟩ (by simp only;omega) [] (rhoL [(0,some 17)]) ?_
       simp only [st]
       apply ren_lists <;> simp -implicitDefEqProofs [go_sem]
       exact renCells_plain (by rw [ots_snoc]) (by simp [plainD])
   · have:i = l.length:=by omega
     subst this
     simp -implicitDefEqProofs (disch:=omega) [go_sem,List.take_length,Tryz.f146]
     exact ⟨_,⟨_,rfl,frz_ref (rw:=true) (by simp [Hp.set,hpL,List.take_length]) (.inl rfl) (ots_length _) (ots_cells _) rfl⟩,rfl⟩
/-- What the options that may not be so should be. -/
def betR (r:Rule) (l:List Ot):List Ot:=(l.filter fun o=>(shouldR r o).2).map fun o=>(shouldR r o).1
theorem bet_take (r:Rule) (l:List Ot) (i:Nat) (h:i < l.length):betR r (l.take (i + 1)) = betR r (l.take i)++if (shouldR r l[i]).2 = true then [(shouldR r l[i]).1] else []:=by
 unfold betR
 rw [filter_take l i h,List.map_append]
 split <;> rfl
theorem betteredI_oc (r:Rule) (l:List Ot) (hr:r.Ty) (hi:r.ip = true) (hn:l.length≤1000000000) (hl:∀ o∈l,OptF o):OC Tryz.prog Γ 148 [.agg (sideC r),.sl 2 (ots l)] (.ref 0 0 (betR r l).length 2) [(0,.blk true ((flat (ots (betR r l))).map .data))] 1:=by
 refine oc_by mixed Tryz.func148 rfl (fun args w=>Tryz.call148 args w) ?_
 obtain ⟨k1,k2,k3⟩:=sideC_cell r
 have lf:∀ i,((betR r (l.take i)).length:Nat)≤l.length:=fun i=>by
  unfold betR
  rw [List.length_map]
  exact Nat.le_trans (List.length_filter_le _ _) (by rw [List.length_take];omega)
 have st:=fun i (h:i < l.length)=>bet_take r l i h
 have cf:∀ (i:Nat) (h:i < l.length),PC Tryz.prog Γ 165 [ot l[i],.pc (rulC r),.pc [addrF r]] (.tup [ot (betterR r l[i]),.bool (shouldR r l[i]).2]):=fun i h=>shouldI_pc Γ r l[i] hr (hl _ (List.getElem_mem h)) hi
 have bt:∀ (i:Nat) (h:i < l.length),(shouldR r l[i]).2 = true->betterR r l[i] = (shouldR r l[i]).1:=fun i h e=>if_pos e
 clear hl
 unfold sideC
 unfold shouldF at k1 ⊢
 rw [hi] at k1 k3 ⊢
 simp -implicitDefEqProofs (disch:=omega) [go_sem,k1,k2,k3]
 refine loop_ren (σ:={ i:Nat // i≤l.length }) (fun i=>⟨envL [(2,.ptr 0 0),(5,.ref 1 0 (betR r (l.take i.1)).length 2),(10,.data (.sl 2 (ots l))),(11,.data (.int .i64 l.length)),(12,.data (.int .i64 i.1))],hpL [(0,.blk true [.data (mapF true),.data (.fn 165 [.pc (rulC r),.pc [addrF r]]),.data (lackF r)]),(1,.blk true ((flat (ots (betR r (l.take i.1)))).map .data))],2,0,30⟩) (fun i=>l.length - i.1) ⟨0,by omega⟩ [] (rhoL [(0,some 0),(1,none)]) ?_ ?_
 · apply ren_lists <;> simp -implicitDefEqProofs [go_sem,ots,flat,betR]
 rintro ⟨i,hi⟩
 have lf:=lf i
 by_cases h:i < l.length
 · have c1:=cf i h
   have st:=st i h
   have bt:=bt i h
   unfold ot at c1
   cases hp:(shouldR r l[i]).2 <;> rw [hp] at c1 st
   · rw [if_neg (by simp),List.append_nil] at st
     simp -implicitDefEqProofs (disch:=omega) [go_sem,ot]
     refine .inl (call_data c1 (by simp [go_sem]) ?_)
     simp -implicitDefEqProofs (disch:=omega) [go_sem]
     refine next_ren ⟨i + 1,by omega⟩ (by simp only;omega) [] (rhoL [(0,some 0),(1,some 1)]) ?_
     simp only [st]
     apply ren_lists <;> simp -implicitDefEqProofs [go_sem]
   · rw [if_pos rfl] at st
     rw [bt hp] at c1
     simp -implicitDefEqProofs (disch:=omega) [go_sem,ot]
     refine .inl (call_data c1 (by simp [go_sem]) ?_)
     simp -implicitDefEqProofs (disch:=omega) [go_sem,flat_ots]
     refine next_ren ⟨i + 1,by omega⟩ (by simp only;omega) [] (rhoL [(0,some 0),(1,some 21)]) ?_
     simp only [st]
     apply ren_lists <;> simp -implicitDefEqProofs [go_sem]
     exact renCells_plain (by rw [ots_snoc]) (by simp [plainD])
 · have:i = l.length:=by omega
   subst this
   simp -implicitDefEqProofs (disch:=omega) [go_sem,List.take_length,Tryz.f148]
   refine own_of [] [(0,some 1)] ?_
   apply ren_lists <;> simp -implicitDefEqProofs [go_sem,List.take_length]
theorem betteredL_oc (r:Rule) (l:List Ot) (hr:r.Ty) (hi:r.ip = false) (hn:l.length≤1000000000) (hl:∀ o∈l,OptF o):OC Tryz.prog Γ 148 [.agg (sideC r),.sl 2 (ots l)] (.ref 0 0 (betR r l).length 2) [(0,.blk true ((flat (ots (betR r l))).map .data))] 1:=by
 refine oc_by mixed Tryz.func148 rfl (fun args w=>Tryz.call148 args w) ?_
 obtain ⟨k1,k2,k3⟩:=sideC_cell r
 have lf:∀ i,((betR r (l.take i)).length:Nat)≤l.length:=fun i=>by
  unfold betR
  rw [List.length_map]
  exact Nat.le_trans (List.length_filter_le _ _) (by rw [List.length_take];omega)
 have st:=fun i (h:i < l.length)=>bet_take r l i h
 have cf:∀ (i:Nat) (h:i < l.length),PC Tryz.prog Γ 167 [ot l[i],.pc (rulC r)] (.tup [ot (betterR r l[i]),.bool (shouldR r l[i]).2]):=fun i h=>shouldL_pc Γ r l[i] hr (hl _ (List.getElem_mem h)) hi
 have bt:∀ (i:Nat) (h:i < l.length),(shouldR r l[i]).2 = true->betterR r l[i] = (shouldR r l[i]).1:=fun i h e=>if_pos e
 clear hl
 unfold sideC
 unfold shouldF at k1 ⊢
 rw [hi] at k1 k3 ⊢
 simp -implicitDefEqProofs (disch:=omega) [go_sem,k1,k2,k3]
 refine loop_ren (σ:={ i:Nat // i≤l.length }) (fun i=>⟨envL [(2,.ptr 0 0),(5,.ref 1 0 (betR r (l.take i.1)).length 2),(10,.data (.sl 2 (ots l))),(11,.data (.int .i64 l.length)),(12,.data (.int .i64 i.1))],hpL [(0,.blk true [.data (mapF false),.data (.fn 167 [.pc (rulC r)]),.data (lackF r)]),(1,.blk true ((flat (ots (betR r (l.take i.1)))).map .data))],2,0,30⟩) (fun i=>l.length - i.1) ⟨0,by omega⟩ [] (rhoL [(0,some 0),(1,none)]) ?_ ?_
 · apply ren_lists <;> simp -implicitDefEqProofs [go_sem,ots,flat,betR]
 rintro ⟨i,hi⟩
 have lf:=lf i
 by_cases h:i < l.length
 · have c1:=cf i h
   have st:=st i h
   have bt:=bt i h
   unfold ot at c1
   cases hp:(shouldR r l[i]).2 <;> rw [hp] at c1 st
   · rw [if_neg (by simp),List.append_nil] at st
     simp -implicitDefEqProofs (disch:=omega) [go_sem,ot]
     refine .inl (call_data c1 (by simp [go_sem]) ?_)
     simp -implicitDefEqProofs (disch:=omega) [go_sem]
     refine next_ren ⟨i + 1,by omega⟩ (by simp only;omega) [] (rhoL [(0,some 0),(1,some 1)]) ?_
     simp only [st]
     apply ren_lists <;> simp -implicitDefEqProofs [go_sem]
   · rw [if_pos rfl] at st
     rw [bt hp] at c1
     simp -implicitDefEqProofs (disch:=omega) [go_sem,ot]
     refine .inl (call_data c1 (by simp [go_sem]) ?_)
     simp -implicitDefEqProofs (disch:=omega) [go_sem,flat_ots]
     refine next_ren ⟨i + 1,by omega⟩ (by simp only;omega) [] (rhoL [(0,some 0),(1,some 21)]) ?_
     simp only [st]
     apply ren_lists <;> simp -implicitDefEqProofs [go_sem]
     exact renCells_plain (by rw [ots_snoc]) (by simp [plainD])
 · have:i = l.length:=by omega
   subst this
   simp -implicitDefEqProofs (disch:=omega) [go_sem,List.take_length,Tryz.f148]
   refine own_of [] [(0,some 1)] ?_
   apply ren_lists <;> simp -implicitDefEqProofs [go_sem,List.take_length]
theorem bettered_oc (r:Rule) (l:List Ot) (hr:r.Ty) (hn:l.length≤1000000000) (hl:∀ o∈l,OptF o):OC Tryz.prog Γ 148 [.agg (sideC r),.sl 2 (ots l)] (.ref 0 0 (betR r l).length 2) [(0,.blk true ((flat (ots (betR r l))).map .data))] 1:=by
 cases hi:r.ip
 · exact betteredL_oc Γ r l hr hi hn hl
 · exact betteredI_oc Γ r l hr hi hn hl
theorem copied13_pc (l:List Ot) (hn:l.length≤1000000000) (hl:∀ o∈l,OptF o):PC Tryz.prog Γ 150 [.sl 2 (ots l)] (.sl 2 (ots l)):=by
 refine pc_by mixed Tryz.func150 rfl (fun args w=>Tryz.call150 args w) ?_
 have c0:∀ o:Ot,PC Tryz.prog Γ 160 [ot o] (.bool true):=fun o=>by
  refine pc_by mixed Tryz.func160 rfl (fun args w=>Tryz.call160 args w) ?_
  unfold ot
  simp -implicitDefEqProofs (disch:=omega) [go_sem,Tryz.f160]
 have c1:=picked13_pc Γ (.fn0 160) (fun _=>true) l hn hl (fun o _=>c0 o)
 rw [List.filter_eq_self.2 (fun _ _=>rfl)] at c1
 simp -implicitDefEqProofs (disch:=omega) [go_sem]
 refine .inl (call_data c1 (by simp [go_sem]) ?_)
 simp -implicitDefEqProofs (disch:=omega) [go_sem,Tryz.f150]
end
end Ru
namespace Ru
open Op9
theorem findO_filter (p:Ot->Bool) (l:List Ot) (t:Nat):findO (l.filter p) t = l.find? fun o=>p o && decide (o.t = t):=by
 unfold findO
 rw [List.find?_filter]
 congr 1
 funext o
 cases p o <;> simp
theorem addr_find (l:List Ot):(findO (l.filter (knownR true)) 3).map (fun o=>numO o.d) = addrR l:=by
 rw [findO_filter]
 unfold addrR
 congr 2
 funext o
 unfold knownR
 by_cases h1:o.t = 3 <;> by_cases h2:o.d.length = 4 <;> simp [h1,h2]
theorem some_map {α β:Type} (o:Option α) (f:α->β):(o.map f).isSome = o.isSome:=by cases o <;> rfl
/-- Which types a list has. -/
def inB (l:List Ot):List Data:=(List.range 256).map fun t=>.bool (findO l t).isSome
theorem inB_len (l:List Ot):(inB l).length = 256:=by simp [inB]
theorem inB_at (l:List Ot) {t:Nat} (h:t < 256):(inB l)[t]? = some (.bool (findO l t).isSome):=by simp [inB,h]
theorem findO_snoc (l:List Ot) (o:Ot) (t:Nat):(findO (l++[o]) t).isSome = ((findO l t).isSome || decide (o.t = t)):=by
 unfold findO
 rw [List.find?_append]
 cases List.find? (fun o=>decide (o.t = t)) l <;> by_cases h:o.t = t <;> simp [h]
theorem inB_take (l:List Ot) (i:Nat) (h:i < l.length) (ht:l[i].t < 256):(inB (l.take i)).set l[i].t (.bool true) = inB (l.take (i + 1)):=by
 rw [List.take_add_one,List.getElem?_eq_getElem h,Option.toList_some]
 apply List.ext_getElem?
 intro j
 by_cases hj:j < 256
 · rw [inB_at _ hj,findO_snoc,List.getElem?_set]
   by_cases e:l[i].t = j
   · subst e
     rw [if_pos rfl,if_pos (by rw [inB_len];exact hj)]
     simp
   · rw [if_neg e,inB_at _ hj]
     simp [e]
 · rw [List.getElem?_eq_none (by rw [List.length_set,inB_len];omega),List.getElem?_eq_none (by rw [inB_len];omega)]
theorem without_drop (ours l:List Ot):ours.filter (fun o=>!(findO l o.t).isSome) = dropAll ours l:=by
 have key:∀ (l a:List Ot),dropAll a l = a.filter (fun o=>!(findO l o.t).isSome):=by
  intro l
  unfold dropAll
  induction l with
  | nil=>intro a;exact (List.filter_eq_self.2 fun _ _=>rfl).symm
  | cons x l ih =>
    intro a
    rw [List.foldl_cons,ih]
    unfold dropO
    rw [List.filter_filter]
    congr 1
    funext o
    unfold findO
    rw [List.find?_cons]
    by_cases h:x.t = o.t
    · simp [h]
    · have h2:¬ o.t = x.t:=fun e=>h e.symm
      simp [h,h2]
 exact (key l ours).symm
section
variable (Γ:Nat->Option (List Data))
theorem pickedStrange_pc (r:Rule) (l:List Ot) (hn:l.length≤1000000000) (hl:∀ o∈l,OptF o):PC Tryz.prog Γ 146 [.sl 2 (ots l),.bn 147 (.agg (sideC r))] (.sl 2 (ots (oddR r.ip l))) :=
 picked13_pc Γ (.bn 147 (sideC r)) (fun o=>!knownR r.ip o) l hn hl fun o _=>strange13_pc Γ r o
theorem pickedBad_pc (r:Rule) (l:List Ot) (hr:r.Ty) (hn:l.length≤1000000000) (hl:∀ o∈l,OptF o):PC Tryz.prog Γ 146 [.sl 2 (ots l),.bn 149 (.agg (sideC r))] (.sl 2 (ots (l.filter fun o=>(shouldR r o).2))) :=
 picked13_pc Γ (.bn 149 (sideC r)) (fun o=>(shouldR r o).2) l hn hl fun o ho=>bad13_pc Γ r o hr (hl o ho)
theorem ask13_pc (r:Rule) (hr:r.Ty):PC Tryz.prog Γ 51 [rul r] (.sl 2 (ots (askR r))):=by
 refine pc_by mixed Tryz.func51 rfl (fun args w=>Tryz.call51 args w) ?_
 have c2:=four13_pc Γ 3 r.ours hr.ours
 have c3:=four13_pc Γ 5 r.magic hr.magic
 unfold askR
 unfold ot at c2 c3
 obtain ⟨ip,magic,other,addr,ours⟩:=r
 simp only at c2 c3 ⊢
 cases ip
 · simp -implicitDefEqProofs (disch:=omega) [go_sem,rul]
   refine .inl (call_data c3 (by simp [go_sem]) ?_)
   simp -implicitDefEqProofs (disch:=omega) [go_sem,Tryz.f51]
   refine ⟨_,⟨_,rfl,frz_rows (rw:=true) (by simp [Hp.set];rfl) (.inl rfl) rfl (ots_cells _) ?_⟩,rfl⟩
   exact frzL_c (.data _) (frzL_c (frz_bys (rw:=true) (l:=[194,35,5]) (by simp [Hp.set,bys,u8]) (.inl rfl) rfl) (frzL_c (.data _) (frzL_c (.data _) frzL_n)))
 · simp -implicitDefEqProofs (disch:=omega) [go_sem,rul]
   refine .inl (call_data c2 (by simp [go_sem]) ?_)
   simp -implicitDefEqProofs (disch:=omega) [go_sem,Tryz.f51]
   exact ⟨_,⟨_,rfl,frz_ref (rw:=true) (by simp [Hp.set];rfl) (.inl rfl) rfl (ots_cells _) rfl⟩,rfl⟩
theorem ze_bools:zeT Tryz.prog 183 = some (List.replicate 256 (D.data (.bool false))):=by kernel_rfl
theorem inB_nil:List.replicate 256 (D.data (.bool false)) = (inB []).map D.data:=by kernel_rfl
theorem frzL_plain {ok:Bool} {H:Nat->Blk} (l:List Data):FrzL ok H (l.map D.data) l:=by
 refine ⟨by simp,fun i d x hd hx=>?_⟩
 rw [List.getElem?_map,hx] at hd
 cases hd
 exact .data x
theorem withoutClo_pc (l:List Ot) (o:Ot) (ht:o.t < 256):PC Tryz.prog Γ 161 [ot o,.pc (inB l)] (.bool (!(findO l o.t).isSome)):=by
 refine pc_by mixed Tryz.func161 rfl (fun args w=>Tryz.call161 args w) ?_
 have h1:=inB_at l ht
 have h2:=inB_len l
 unfold ot
 generalize inB l = c at *
 obtain ⟨h3,h4⟩:=List.getElem?_eq_some_iff.1 h1
 simp -implicitDefEqProofs (disch:=omega) [go_sem,h4,h2,Tryz.f161]
theorem without13_pc (ours l:List Ot) (hn:ours.length≤1000000000) (ho:∀ o∈ours,OptF o) (hot:∀ o∈ours,o.t < 256) (hl:l.length≤1000000000) (hlt:∀ o∈l,o.t < 256):PC Tryz.prog Γ 152 [.sl 2 (ots ours),.sl 2 (ots l)] (.sl 2 (ots (dropAll ours l))):=by
 refine pc_by mixed Tryz.func152 rfl (fun args w=>Tryz.call152 args w) ?_
 have c1:=picked13_pc Γ (.fn 161 (inB l)) (fun o=>!(findO l o.t).isSome) ours hn ho fun o h=>withoutClo_pc Γ l o (hot o h)
 rw [without_drop] at c1
 simp -implicitDefEqProofs (disch:=omega) [go_sem,ze_bools]
 refine loop_ren (σ:={ i:Nat // i≤l.length }) (fun i=>⟨envL [(0,.data (.sl 2 (ots ours))),(5,.ptr 0 0),(8,.data (.sl 2 (ots l))),(9,.data (.int .i64 l.length)),(10,.data (.int .i64 i.1))],hpL [(0,.blk true ((inB (l.take i.1)).map D.data))],1,0,21⟩) (fun i=>l.length - i.1) ⟨0,by omega⟩ [] (rhoL [(0,some 1)]) ?_ ?_
 · apply ren_lists <;> simp -implicitDefEqProofs [go_sem]
   exact renCells_plain inB_nil.symm (by simp [plainD])
 rintro ⟨i,hi⟩
 by_cases h:i < l.length
 · have ht:=hlt _ (List.getElem_mem h)
   have e:=inB_take l i h ht
   have el:=inB_len (l.take i)
   simp -implicitDefEqProofs (disch:=omega) [go_sem,ot,el]
   refine next_ren ⟨i + 1,by omega⟩ (by simp only;omega) [] (rhoL [(0,some 0)]) ?_
   apply ren_lists <;> simp -implicitDefEqProofs [go_sem]
   exact renCells_plain (by rw [<- e,List.map_set]) (by simp [plainD])
 · have:i = l.length:=by omega
   subst this
   simp -implicitDefEqProofs (disch:=omega) [go_sem,List.take_length]
   refine .inl (call_frz [0] [0] (fun g hg=>?_) c1 (fun H' hH'=>?_) ?_)
   · simp only [List.mem_cons,List.not_mem_nil,or_false] at hg
     subst hg
     exact ⟨true,_,by simp [Hp.upd,Hp.set,hpL];rfl⟩
   · refine frzL_c (.data _) (frzL_c (frz_func (frzL_c (frz_ptrL (rw:=false) (cells:=(inB l).map D.data) (by simp [Hp.upd,Hp.set,hpL,fz,List.take_length]) (.inr rfl) ?_) frzL_n)) frzL_n)
     rw [List.drop_zero,List.take_of_length_le (l:=(inB l).map D.data) (by rw [List.length_map];exact Nat.le_refl _)]
     exact frzL_plain _
   simp -implicitDefEqProofs (disch:=omega) [go_sem,Tryz.f152]
end
end Ru
namespace Ru
open Op9
/-- Options as they come in: many at most,with bytes. -/
structure OpsF (l:List Ot):Prop where
 len:l.length≤1000000000
 opt:∀ o∈l,OptF o
 ty:∀ o∈l,o.t < 256
theorem odd_known {r:Rule} {l:List Ot} (h:oddR r.ip l = []):betR r l = toR r l∧l.filter (fun o=>(shouldR r o).2) = asR r l:=by
 have hk:=odd_nil.1 h
 have e:l.filter (fun o=>(shouldR r o).2) = asR r l:=by
  unfold asR
  apply List.filter_congr
  intro o ho
  rw [hk o ho,Bool.true_and]
 exact ⟨by unfold betR toR;rw [e],e⟩
theorem odd_addr {l:List Ot} (h:oddR true l = []):(findO l 3).isSome = (addrR l).isSome:=by
 have hk:=odd_nil.1 h
 rw [<- addr_find,some_map,List.filter_eq_self.2 hk]
theorem otcell (l:List Ot):∀ x∈flat (ots l),x.cell = true:=by
 intro x hx
 simp only [flat,List.mem_flatMap] at hx
 obtain ⟨y,hy,hx⟩:=hx
 obtain ⟨o,-,rfl⟩:=List.mem_map.1 hy
 simp only [ot,Data.cells,List.mem_cons,List.not_mem_nil,or_false] at hx
 rcases hx with rfl | rfl <;> rfl
theorem ots_app (a b:List Ot):(flat (ots (a++b))).map D.data = (flat (ots a)).map D.data++(flat (ots b)).map D.data:=by simp [ots,flat]
section
variable (Γ:Nat->Option (List Data))
set_option maxHeartbeats 1000000 in
theorem turn13_pc (r:Rule) (ours:List Ot) (c:Nat) (l:List Ot) (hr:r.Ty) (ho:OpsF ours) (hl:OpsF l):PC Tryz.prog Γ 121 [rul r,.sl 2 (ots ours),.int .u8 c,.sl 2 (ots l)] (.tup [.sl 2 (ots (turnR r ours c l).1),.bool (turnR r ours c l).2]):=by
 refine pc_by mixed Tryz.func121 rfl (fun args w=>Tryz.call121 args w) ?_
 have c1:=has13_pc Γ l 3 hl.len (fun o h=>(hl.opt o h).2)
 have c2:=has13_pc Γ l 5 hl.len (fun o h=>(hl.opt o h).2)
 have c3:=has13_pc Γ ours 5 ho.len (fun o h=>(ho.opt o h).2)
 have c4:=four13_pc Γ 5 r.other hr.other
 have c5:=oput_pc Γ ours ⟨5,fourO r.other⟩ ho.len (fun o h=>(ho.opt o h).2) (by simp [fourO])
 have c6:=copied13_pc Γ ours ho.len ho.opt
 have c7:=without13_pc Γ ours l ho.len ho.opt ho.ty hl.len hl.ty
 unfold turnR
 obtain ⟨ip,magic,other,addr,our⟩:=r
 simp only at c4 c5 ⊢
 generalize (findO l 3).isSome = b1 at *
 generalize (findO l 5).isSome = b2 at *
 generalize (findO ours 5).isSome = b3 at *
 unfold ot at c4 c5
 by_cases h1:b1 = true∧ip = false
 · rw [if_pos (.inl h1)]
   obtain ⟨rfl,rfl⟩:=h1
   simp -implicitDefEqProofs (disch:=omega) [go_sem,rul]
   refine .inl (call_data c1 (by simp [go_sem]) ?_)
   simp -implicitDefEqProofs (disch:=omega) [go_sem]
   refine .inl (call_data c6 (by simp [go_sem]) ?_)
   simp -implicitDefEqProofs (disch:=omega) [go_sem,Tryz.f121]
 by_cases h3:c = 3
 · have h3i:(c:Int) = 3:=by omega
   rw [if_neg (by rintro (h | h);exact h1 h;exact h.1 h3),if_neg (by omega)]
   by_cases h5:ip = true ∨ b2 = false ∨ b3 = false
   · rw [if_pos h5]
     cases ip
     · have hb:b1 = false:=by cases b1 <;> simp_all
       subst hb
       simp -implicitDefEqProofs (disch:=omega) [go_sem,rul]
       refine .inl (call_data c1 (by simp [go_sem]) ?_)
       cases b2
       · simp -implicitDefEqProofs (disch:=omega) [go_sem,h3i]
         refine .inl (call_data c2 (by simp [go_sem]) ?_)
         simp -implicitDefEqProofs (disch:=omega) [go_sem]
         refine .inl (call_data c6 (by simp [go_sem]) ?_)
         simp -implicitDefEqProofs (disch:=omega) [go_sem,Tryz.f121]
       · have hb:b3 = false:=by cases b3 <;> simp_all
         subst hb
         simp -implicitDefEqProofs (disch:=omega) [go_sem,h3i]
         refine .inl (call_data c2 (by simp [go_sem]) ?_)
         simp -implicitDefEqProofs (disch:=omega) [go_sem]
         refine .inl (call_data c3 (by simp [go_sem]) ?_)
         simp -implicitDefEqProofs (disch:=omega) [go_sem]
         refine .inl (call_data c6 (by simp [go_sem]) ?_)
         simp -implicitDefEqProofs (disch:=omega) [go_sem,Tryz.f121]
     · simp -implicitDefEqProofs (disch:=omega) [go_sem,h3i,rul]
       refine .inl (call_data c6 (by simp [go_sem]) ?_)
       simp -implicitDefEqProofs (disch:=omega) [go_sem,Tryz.f121]
   · rw [if_neg h5]
     cases ip <;> cases b2 <;> cases b3 <;> simp at h5
     cases b1 <;> simp at h1
     simp -implicitDefEqProofs (disch:=omega) [go_sem,h3i,rul]
     refine .inl (call_data c1 (by simp [go_sem]) ?_)
     simp -implicitDefEqProofs (disch:=omega) [go_sem,h3i]
     refine .inl (call_data c2 (by simp [go_sem]) ?_)
     simp -implicitDefEqProofs (disch:=omega) [go_sem]
     refine .inl (call_data c3 (by simp [go_sem]) ?_)
     simp -implicitDefEqProofs (disch:=omega) [go_sem]
     refine .inl (call_data c4 (by simp [go_sem]) ?_)
     simp -implicitDefEqProofs (disch:=omega) [go_sem]
     refine .inl (call_data c5 (by simp [go_sem]) ?_)
     simp -implicitDefEqProofs (disch:=omega) [go_sem,Tryz.f121]
 have h3i:¬ (c:Int) = 3:=by omega
 by_cases h4:c = 4
 · have h4i:(c:Int) = 4:=by omega
   rw [if_neg (by rintro (h | h);exact h1 h;exact h.2 h4),if_pos h4]
   cases ip
   · have hb:b1 = false:=by cases b1 <;> simp_all
     subst hb
     simp -implicitDefEqProofs (disch:=omega) [go_sem,rul]
     refine .inl (call_data c1 (by simp [go_sem]) ?_)
     simp -implicitDefEqProofs (disch:=omega) [go_sem,h3i,h4i]
     refine .inl (call_data c7 (by simp [go_sem]) ?_)
     simp -implicitDefEqProofs (disch:=omega) [go_sem,Tryz.f121]
   · simp -implicitDefEqProofs (disch:=omega) [go_sem,h3i,h4i,rul]
     refine .inl (call_data c7 (by simp [go_sem]) ?_)
     simp -implicitDefEqProofs (disch:=omega) [go_sem,Tryz.f121]
 have h4i:¬ (c:Int) = 4:=by omega
 rw [if_pos (.inr ⟨h3,h4⟩)]
 cases ip
 · have hb:b1 = false:=by cases b1 <;> simp_all
   subst hb
   simp -implicitDefEqProofs (disch:=omega) [go_sem,rul]
   refine .inl (call_data c1 (by simp [go_sem]) ?_)
   simp -implicitDefEqProofs (disch:=omega) [go_sem,h3i,h4i]
   refine .inl (call_data c6 (by simp [go_sem]) ?_)
   simp -implicitDefEqProofs (disch:=omega) [go_sem,Tryz.f121]
 · simp -implicitDefEqProofs (disch:=omega) [go_sem,h3i,h4i,rul]
   refine .inl (call_data c6 (by simp [go_sem]) ?_)
   simp -implicitDefEqProofs (disch:=omega) [go_sem,Tryz.f121]
/-- What should be in a list,and isn't. -/
def lackR (r:Rule) (l:List Ot):List Ot:=if r.ip = true∧(findO l 3).isSome = false then [⟨3,fourO r.addr⟩] else []
theorem lack_len (r:Rule) (l:List Ot):(lackR r l).length≤1:=by
 unfold lackR
 split <;> simp
theorem toA_is {r:Rule} {l:List Ot} (h:oddR r.ip l = []):betR r l++lackR r l = toA r l:=by
 rw [(odd_known h).1]
 unfold toA lackR
 by_cases hi:r.ip = true
 · rw [hi] at h
   rw [odd_addr h]
   cases addrR l <;> simp [hi]
 · rw [if_neg fun k=>hi k.1,if_neg fun k=>hi k.1]
theorem bet_len (r:Rule) (l:List Ot):(betR r l).length≤l.length:=by
 unfold betR
 rw [List.length_map]
 exact List.length_filter_le _ _
theorem lackF_fn {r:Rule} {l:List Ot} (hr:r.Ty) (hl:OpsF l):∃ f caps,lackF r = .fn f caps∧PC Tryz.prog Γ f (.sl 2 (ots l) :: caps) (.sl 2 (ots (lackR r l)))∧(caps = [] ∨ ∃ c,caps = [.pc c]):=by
 unfold lackF lackR
 cases hi:r.ip
 · exact ⟨_,_,rfl,lackL_pc Γ l,.inl rfl⟩
 · refine ⟨_,_,rfl,?_,.inr ⟨_,rfl⟩⟩
   have:=lackI_pc Γ r l hr hl.len hl.opt
   cases hq:(findO l 3).isSome <;> rw [hq] at this <;> exact this
set_option maxHeartbeats 4000000 in
theorem answer13_pc (r:Rule) (l:List Ot) (n:Int) (hr:r.Ty) (hl:OpsF l):PC Tryz.prog Γ 117 [rul r,.sl 2 (ots l),.int .i64 n] (.tup [.int .u8 (answerR r l n).1,.sl 2 (ots (answerR r l n).2)]):=by
 refine pc_by mixed Tryz.func117 rfl (fun args w=>Tryz.call117 args w) ?_
 have hn:=hl.len
 have c0:=sideOf_pc Γ r
 have c1:=pickedStrange_pc Γ r l hl.len hl.opt
 have c2:=bettered_oc Γ r l hr hl.len hl.opt
 have c4:=pickedBad_pc Γ r l hr hl.len hl.opt
 have c5:=copied13_pc Γ l hl.len hl.opt
 obtain ⟨lf,lc,le,c3,lcc⟩:=lackF_fn Γ hr hl
 have lb:=bet_len r l
 have ll:=lack_len r l
 have len0:∀ m:List Ot,m≠[]->0 < m.length:=fun m h=>List.length_pos_iff.2 h
 have len1:∀ m:List Ot,¬ m≠[]->m.length = 0:=fun m h=>by simp only [ne_eq,Decidable.not_not] at h;rw [h];rfl
 obtain ⟨k1,-,k3⟩:=sideC_cell r
 unfold sideC at c0 c1 c2 c4
 rw [le] at c0 c1 c2 c4
 unfold rul at c0 ⊢
 have hto:=@toA_is r l
 have hod:=@odd_known r l
 generalize shouldF r = sf at *
 generalize mapF r.ip = mf at *
 unfold answerR
 simp -implicitDefEqProofs (disch:=omega) [go_sem]
 refine .inl (call_data c0 (by simp [go_sem]) ?_)
 simp -implicitDefEqProofs (disch:=omega) [go_sem,k1,k3]
 refine .inl (call_frz [] [] (by simp) c1 (fun H' hH'=>frzL_c (.data _) (frzL_c (.bnd _ _ _ (.data _)) frzL_n)) ?_)
 by_cases h1:oddR r.ip l≠[]
 · rw [if_pos h1]
   have:=len0 _ h1
   simp -implicitDefEqProofs (disch:=omega) [go_sem,Tryz.f117]
 rw [if_neg h1]
 have h1n:=len1 _ h1
 have hto:=hto (Classical.not_not.1 h1)
 have hod:=hod (Classical.not_not.1 h1)
 by_cases hm:n < 3
 · rw [if_neg fun k=>by omega]
   have htl:(betR r l).length + (lackR r l).length = (toA r l).length:=by rw [<- hto,List.length_append]
   simp -implicitDefEqProofs (disch:=omega) [go_sem,h1n]
   refine .inr (eff_own1 c2 (by simp [go_sem]) ?_)
   simp -implicitDefEqProofs (disch:=omega) [go_sem]
   refine .inl (call_data c3 (by simp [go_sem]) ?_)
   have hfl:((flat (ots (betR r l))).length:Nat) = (betR r l).length * 2:=flat_ots _
   simp -implicitDefEqProofs (disch:=omega) [go_sem,flat_ots,hm]
   refine side (otcell _) ?_
   simp -implicitDefEqProofs (disch:=omega) [go_sem,flat_ots]
   refine side (by kernel_rfl) ?_
   simp -implicitDefEqProofs (disch:=omega) [go_sem,flat_ots]
   by_cases h3:toA r l≠[]
   · rw [if_pos ⟨hm,h3⟩]
     have:=len0 _ h3
     have hlt:(0:Int) < (betR r l).length + (lackR r l).length:=by omega
     simp -implicitDefEqProofs (disch:=omega) [go_sem,hlt,Tryz.f117]
     exact ⟨_,⟨_,_,rfl,rfl,_,rfl,frz_ref (rw:=true) (l:=ots (toA r l)) (cells:=(flat (ots (toA r l))).map D.data) (by simp [Hp.set,<- hto,ots_app]) (.inl rfl) (by rw [ots_length,htl]) (ots_cells _) rfl⟩,rfl⟩
   · rw [if_neg fun k=>h3 k.2]
     have h3n:=len1 _ h3
     have hlt:¬ (0:Int) < (betR r l).length + (lackR r l).length:=by omega
     simp -implicitDefEqProofs (disch:=omega) [go_sem,hlt]
     refine .inl (call_data c5 (by simp [go_sem]) ?_)
     simp -implicitDefEqProofs (disch:=omega) [go_sem,Tryz.f117]
 · have hm2:3≤n:=by omega
   have e:=hod.2
   rw [e] at c4
   simp -implicitDefEqProofs (disch:=omega) [go_sem,h1n]
   refine .inl (call_frz [] [] (by simp) c4 (fun H' hH'=>frzL_c (.data _) (frzL_c (.bnd _ _ _ (.data _)) frzL_n)) ?_)
   by_cases h2:asR r l≠[]
   · rw [if_pos ⟨hm2,h2⟩]
     have:=len0 _ h2
     simp -implicitDefEqProofs (disch:=omega) [go_sem,Tryz.f117]
   · rw [if_neg fun k=>h2 k.2,if_neg fun k=>by omega]
     have h2n:=len1 _ h2
     simp -implicitDefEqProofs (disch:=omega) [go_sem,h2n]
     refine .inl (call_data c5 (by simp [go_sem]) ?_)
     simp -implicitDefEqProofs (disch:=omega) [go_sem,Tryz.f117]
end
end Ru
namespace Ru
open Op9
theorem ok_bol {P:Program} {n:Nat} {t:TypeId} {ds:List Data} (hu:P.underlying t = some .bool) (h:okD P (n + 1) t ds):∃ b:Bool,ds = [.bool b]:=by
 unfold okD at h
 simp only [hu] at h
 obtain ⟨b,rfl⟩:=h
 exact ⟨b,rfl⟩
theorem arg_rule {n:Nat} {x:Data} (a:argD Tryz.prog (n + 2) 26 x):∃ r:Rule,r.Ty∧x = rul r:=by
 obtain ⟨ds,rfl,h⟩:=arg_struct Tryz.underlying26 a
 obtain ⟨d1,r1,rfl,h1,h⟩:=okF_cons h
 obtain ⟨d2,r2,rfl,h2,h⟩:=okF_cons h
 obtain ⟨d3,r3,rfl,h3,h⟩:=okF_cons h
 obtain ⟨d4,r4,rfl,h4,h⟩:=okF_cons h
 obtain ⟨d5,r5,rfl,h5,h⟩:=okF_cons h
 obtain rfl:=okF_nil h
 obtain ⟨b,rfl⟩:=ok_bol Tryz.underlying4 h1
 obtain ⟨i2,a2,b2,rfl⟩:=ok_int Tryz.underlying24 h2
 obtain ⟨i3,a3,b3,rfl⟩:=ok_int Tryz.underlying24 h3
 obtain ⟨i4,a4,b4,rfl⟩:=ok_int Tryz.underlying24 h4
 obtain ⟨i5,a5,b5,rfl⟩:=ok_int Tryz.underlying24 h5
 have e1:IntKind.u32.min = 0:=by decide
 have e2:IntKind.u32.max = 4294967295:=by decide
 obtain ⟨m2,rfl⟩:∃ m:Nat,i2 = m:=⟨i2.toNat,by omega⟩
 obtain ⟨m3,rfl⟩:∃ m:Nat,i3 = m:=⟨i3.toNat,by omega⟩
 obtain ⟨m4,rfl⟩:∃ m:Nat,i4 = m:=⟨i4.toNat,by omega⟩
 obtain ⟨m5,rfl⟩:∃ m:Nat,i5 = m:=⟨i5.toNat,by omega⟩
 exact ⟨⟨b,m2,m3,m4,m5⟩,⟨by show m2 < _;omega,by show m3 < _;omega,by show m4 < _;omega,by show m5 < _;omega⟩,rfl⟩
theorem ask_few (r:Rule):(askR r).length≤2∧∀ o∈askR r,o.d.length≤253:=by
 unfold askR
 cases r.ip <;> simp [fourO]
end Ru
namespace Ne
open Op9 Ru Fs Pa
/-- A protocol at its beginning. -/
def newN (r:Rule):Ng:=⟨⟨0,0,0,0⟩,r,askR r,0,[]⟩
/-- What is handed back of what a protocol does. -/
def didN (o:OutN):Data:=.tup [ng o.n,.sl 3 (pks o.sent),nums o.told]
/-- A protocol as it comes in. -/
structure NgA (n:Ng):Prop where
 a:AuT n.a
 r:n.r.Ty
 ours:n.ours.length≤140737488351232
 od:∀ o∈n.ours,InO o
 naks:I64 n.naks
 peer:n.peer.length≤140737488351232
 pd:∀ o∈n.peer,InO o
theorem ok_au {n:Nat} {ds:List Data} (h:okD Tryz.prog (n + 2) 23 ds):∃ a:Au,AuT a∧ds = (au a).cells:=by
 obtain ⟨f,hf,e⟩:=arg_au (n:=n) (x:=mkE Tryz.prog 23 ds) ⟨ds,rfl,h⟩
 refine ⟨f,hf,?_⟩
 simp only [mkE,Tryz.underlying23] at e
 rw [<- e]
 rfl
theorem ok_rule {n:Nat} {ds:List Data} (h:okD Tryz.prog (n + 2) 26 ds):∃ r:Rule,r.Ty∧ds = (rul r).cells:=by
 obtain ⟨f,hf,e⟩:=arg_rule (n:=n) (x:=mkE Tryz.prog 26 ds) ⟨ds,rfl,h⟩
 refine ⟨f,hf,?_⟩
 simp only [mkE,Tryz.underlying26] at e
 rw [<- e]
 rfl
theorem arg_nego {n:Nat} {x:Data} (a:argD Tryz.prog (n + 5) 29 x):∃ m:Ng,NgA m∧x = ng m:=by
 obtain ⟨ds,rfl,h⟩:=arg_struct Tryz.underlying29 a
 obtain ⟨d1,r1,rfl,h1,h⟩:=okF_cons h
 obtain ⟨d2,r2,rfl,h2,h⟩:=okF_cons h
 obtain ⟨d3,r3,rfl,h3,h⟩:=okF_cons h
 obtain ⟨d4,r4,rfl,h4,h⟩:=okF_cons h
 obtain ⟨d5,r5,rfl,h5,h⟩:=okF_cons h
 obtain rfl:=okF_nil h
 obtain ⟨au0,ha,rfl⟩:=ok_au h1
 obtain ⟨r,hr,rfl⟩:=ok_rule h2
 obtain ⟨ours,rfl,ho,hod⟩:=ok_opts h3
 obtain ⟨k,k1,k2,rfl⟩:=ok_i64 Tryz.underlying3 h4
 obtain ⟨peer,rfl,hp,hpd⟩:=ok_opts h5
 exact ⟨⟨au0,r,ours,k,peer⟩,⟨ha,hr,ho,hod,⟨k1,k2⟩,hp,hpd⟩,rfl⟩
theorem small_ty {n:Ng} (h:NgA n) (hs:SmallN n):NgT n∧TyN n:=by
 obtain ⟨⟨s1,s2⟩,s3,s4⟩:=hs
 refine ⟨⟨h.a,h.r,by omega,by omega,fun o ho=>by have:=s2 o ho;omega,fun o ho=>by have:=s4 o ho;omega⟩,⟨h.r,h.a.2.2.2,fun o ho=>(h.od o ho).1,by omega,fun o ho=>⟨(h.pd o ho).1,s4 o ho⟩⟩⟩
theorem new_right (r:Rule):RightN (newN r):=rightN_iff.2 ⟨(by decide:RightA ⟨0,0,0,0⟩),(by decide:(0:Int)≤0∧(0:Int)≤3),ok_ask⟩
theorem new_ty {r:Rule} (h:r.Ty):TyN (newN r):=⟨h,by show 0 < 256;decide,ask_ty h,by simp [newN],(fun o ho=>by cases ho)⟩
/-- What is right has few options. -/
theorem okO_len {l:List Ot} (h:OkO l):l.length≤748∧∀ o∈l,o.d.length≤253:=by
 obtain ⟨h1,h2⟩:=h
 refine ⟨?_,h1⟩
 have key:∀ m:List Ot,2 * m.length≤(otsB m).length:=by
  intro m
  induction m with
  | nil=>exact Nat.le_refl _
  | cons o m ih =>
    have:otsB (o :: m) = otB o++otsB m:=rfl
    rw [this,List.length_append,otB_len,List.length_cons]
    omega
 have:=key l
 omega
theorem right_ngt {n:Ng} (h:TyN n) (hR:RightN n):NgT n:=by
 obtain ⟨h1,h2,h3,h4⟩:=hR
 have hl:=okO_len h3
 refine ⟨RightA.ty h1 h.id,h.r,by omega,by have:=h.peer.1;omega,fun o ho=>by have:=hl.2 o ho;omega,fun o ho=>by have:=(h.peer.2 o ho).2;omega⟩
/-- What the program's protocols answer. -/
structure ProgN (Γ:Nat->Option (List Data)):Prop where
 new:∀ r:Rule,r.Ty->PC Tryz.prog Γ 23 [rul r] (ng (newN r))
 right:∀ n:Ng,TyN n->RightN n->PC Tryz.prog Γ 30 [ng n] (.bool true)
 do_:∀ (n:Ng) (e:Int),TyN n->RightN n->PC Tryz.prog Γ 12 [ng n,.int .i64 e] (didN (doN n e))
 tick:∀ n:Ng,TyN n->RightN n->PC Tryz.prog Γ 13 [ng n] (didN (tickN n))
 take:∀ (n:Ng) (p:Pk),TyN n->RightN n->p.Ty->p.d.length≤1496->PC Tryz.prog Γ 14 [ng n,pk p] (didN (takeN n p))
 magic:∀ n:Ng,TyN n->RightN n->PC Tryz.prog Γ 29 [ng n] (.int .u32 (magicN n))
 same:∀ n m:Ng,TyN n->RightN n->TyN m->RightN m->PC Tryz.prog Γ 31 [ng n,ng m] (.bool (decide (n = m)))
section
variable (Γ:Nat->Option (List Data))
theorem opts_refl (l:List Ot) (hl:l.length≤1000) (hd:∀ o∈l,o.d.length≤1000):PC Tryz.prog Γ 22 [.sl 2 (ots l),.sl 2 (ots l)] (.bool true):=by
 have:=rosame_pc Γ l l (by omega) (by omega) (fun o ho=>by have:=hd o ho;omega) (fun o ho=>by have:=hd o ho;omega)
 rwa [decide_eq_true rfl] at this
set_option maxHeartbeats 4000000 in
theorem rsmallA_pc (n:Ng) (h:NgA n):PC Tryz.prog Γ 10 [ng n] (.bool (decide (SmallN n))):=by
 refine pc_by mixed Tryz.func10 rfl (fun args w=>Tryz.call10 args w) ?_
 have c1:=rfew_pc Γ n.ours h.ours (fun o ho=>(h.od o ho).2) (q:=decide (FewO n.ours)) (by simp)
 have c2:=rfew_pc Γ n.peer h.peer (fun o ho=>(h.pd o ho).2) (q:=decide (FewO n.peer)) (by simp)
 rw [show decide (SmallN n) = (decide (FewO n.ours) && decide (FewO n.peer)) by unfold SmallN;exact Bool.decide_and _ _]
 generalize decide (FewO n.ours) = x at *
 generalize decide (FewO n.peer) = y at *
 simp -implicitDefEqProofs (disch:=omega) [go_sem,ng,ngL]
 refine .inl (call_data c1 (by simp [go_sem]) ?_)
 simp -implicitDefEqProofs (disch:=omega) [go_sem]
 refine .inl (call_data c2 (by simp [go_sem]) ?_)
 cases x <;> simp -implicitDefEqProofs (disch:=omega) [go_sem,Tryz.f10]
end
end Ne
namespace Ne
open Op9 Ru Fs Pa
/-- The protocol of the document's example. -/
def exN (s c l:Int) (id:Nat):Ng:=⟨⟨s,c,l,id⟩,⟨false,7,0,0,0⟩,[⟨3,[194,35,5]⟩,⟨5,[0,0,0,7]⟩],0,[]⟩
section
variable (Γ:Nat->Option (List Data))
set_option maxHeartbeats 8000000 in
theorem shown14_pc (hp:ProgN Γ):PC Tryz.prog Γ 9 [] (.bool true):=by
 refine pc_by mixed Tryz.func9 rfl (fun args w=>Tryz.call9 args w) ?_
 have hr:(⟨false,7,0,0,0⟩:Rule).Ty:=⟨by show 7 < 4294967296;decide,by show 0 < 4294967296;decide,by show 0 < 4294967296;decide,by show 0 < 4294967296;decide⟩
 have hpk:(⟨1,9,[]⟩:Pk).Ty:=⟨by show 1 < 256;decide,by show 9 < 256;decide,by simp⟩
 have e0:newN ⟨false,7,0,0,0⟩ = exN 0 0 0 0:=rfl
 have t0:=new_ty hr
 have r0:=new_right ⟨false,7,0,0,0⟩
 have c0:=hp.new _ hr
 rw [e0] at t0 r0 c0
 have t1:=(do_ty t0 r0 2).1
 have r1:=(do_right4 r0 t0.id 2).1
 have c1:=hp.do_ _ 2 t0 r0
 unfold didN at c1
 rw [(by decide +kernel:(doN (exN 0 0 0 0) 2).n = exN 1 0 0 0)] at t1 r1 c1
 rw [(by decide +kernel:(doN (exN 0 0 0 0) 2).sent = []),(by decide +kernel:(doN (exN 0 0 0 0) 2).told = [3])] at c1
 have t2:=(do_ty t1 r1 0).1
 have r2:=(do_right4 r1 t1.id 0).1
 have c2:=hp.do_ _ 0 t1 r1
 unfold didN at c2
 rw [(by decide +kernel:(doN (exN 1 0 0 0) 0).n = exN 6 4 3 1)] at t2 r2 c2
 rw [(by decide +kernel:(doN (exN 1 0 0 0) 0).sent = [⟨1,1,[3,5,194,35,5,5,6,0,0,0,7]⟩]),(by decide +kernel:(doN (exN 1 0 0 0) 0).told = [])] at c2
 have t3:=(take_ty t2 r2 hpk (by simp)).1
 have r3:=(take_right4 r2 t2.id ⟨1,9,[]⟩).1
 have c3:=hp.take _ ⟨1,9,[]⟩ t2 r2 hpk (by simp)
 unfold didN at c3
 rw [(by decide +kernel:(takeN (exN 6 4 3 1) ⟨1,9,[]⟩).n = exN 8 4 3 1)] at t3 r3 c3
 rw [(by decide +kernel:(takeN (exN 6 4 3 1) ⟨1,9,[]⟩).sent = [⟨2,9,[]⟩]),(by decide +kernel:(takeN (exN 6 4 3 1) ⟨1,9,[]⟩).told = [])] at c3
 have c4:=hp.tick _ t3 r3
 unfold didN at c4
 rw [(by decide +kernel:(tickN (exN 8 4 3 1)).n = exN 8 4 2 1),(by decide +kernel:(tickN (exN 8 4 3 1)).sent = []),(by decide +kernel:(tickN (exN 8 4 3 1)).told = [])] at c4
 have c5:=hp.magic _ t2 r2
 rw [(by decide +kernel:magicN (exN 6 4 3 1) = 7)] at c5
 have c6:=hp.right _ t2 r2
 have c7:=hp.same _ _ t1 r1 t1 r1
 rw [decide_eq_true rfl] at c7
 clear t0 t1 t2 t3 r0 r1 r2 r3 hp
 unfold rul at c0
 unfold ng ngL exN at c0 c1 c2 c3 c4 c5 c6 c7
 unfold pk at c3
 rw [nums_is] at c1 c2 c3 c4
 generalize hA:ots [⟨3,[194,35,5]⟩,⟨5,[0,0,0,7]⟩] = A at *
 simp -implicitDefEqProofs (disch:=omega) [go_sem]
 refine .inl (call_data c0 rfl ?_)
 simp -implicitDefEqProofs (disch:=omega) [go_sem]
 refine .inl (call_data c1 rfl ?_)
 simp -implicitDefEqProofs (disch:=omega) [go_sem]
 refine .inl (call_data c2 rfl ?_)
 simp -implicitDefEqProofs (disch:=omega) [go_sem]
 refine .inl (call_frz [] [] (by simp) c3 (fun H' hH'=>frzL_c (.data _) (frzL_c (frz_aggL (frzL_c (.data _) (frzL_c (.data _) (frzL_c (.emp _ _) frzL_n)))) frzL_n)) ?_)
 simp -implicitDefEqProofs (disch:=omega) [go_sem]
 refine .inl (call_data c4 rfl ?_)
 simp -implicitDefEqProofs (maxSteps:=4000000) (disch:=omega) [go_sem,pks,pk,ints,bys]
 refine .inl (call_data c5 rfl ?_)
 simp -implicitDefEqProofs (maxSteps:=4000000) (disch:=omega) [go_sem]
 refine .inl (call_data c6 rfl ?_)
 simp -implicitDefEqProofs (maxSteps:=4000000) (disch:=omega) [go_sem]
 refine .inl (call_data c7 rfl ?_)
 simp -implicitDefEqProofs (maxSteps:=4000000) (disch:=omega) [go_sem,Tryz.f9]
end
end Ne
namespace Ne
open Op9 Ru Fs Pa
/-- Few packets,few numbers. -/
def OutS (o:OutN):Prop:=o.sent.length≤3∧o.told.length≤3
theorem none_outS (n:Ng):OutS (none4 n):=⟨Nat.zero_le _,Nat.zero_le _⟩
theorem acted_outS (n:Ng) (was:Int) (l:List Int) (reply term:Pk) (h:l.length≤3):OutS (actedN n was l reply term):=⟨Nat.le_trans (sentL_le _ reply term l) h,Nat.le_trans (toldL_le l) h⟩
theorem event_outS (n:Ng) (e:Int) (reply:Pk) (id:Nat):OutS (eventN n e reply id):=by
 unfold eventN
 split
 · exact acted_outS _ _ _ _ _ (doL_short n.a e)
 · exact none_outS n
theorem do_outS (n:Ng) (e:Int):OutS (doN n e):=by
 unfold doN
 split
 · exact event_outS _ _ _ _
 · exact none_outS n
theorem tick_outS (n:Ng):OutS (tickN n):=acted_outS _ _ _ _ _ (tickL_short n.a)
theorem take_outS (n:Ng) (p:Pk):OutS (takeN n p):=by
 unfold takeN
 repeat' split
 all_goals first | exact none_outS n | exact event_outS _ _ _ _ | skip
 · unfold requestN
   split
   · obtain ⟨g1,g2,g3,g4,g5,g6,g7⟩:=good_keeps (eventN (zeroN n) (if (answerR n.r (gotO p.d) (zeroN n).naks).1 = 2 then 6 else 7) ⟨(answerR n.r (gotO p.d) (zeroN n).naks).1,p.i,optB (answerR n.r (gotO p.d) (zeroN n).naks).2⟩ p.i) (gotO p.d)
     obtain ⟨q1,q2,q3,q4,q5,q6,q7⟩:=poor_keeps (goodN (eventN (zeroN n) (if (answerR n.r (gotO p.d) (zeroN n).naks).1 = 2 then 6 else 7) ⟨(answerR n.r (gotO p.d) (zeroN n).naks).1,p.i,optB (answerR n.r (gotO p.d) (zeroN n).naks).2⟩ p.i) (gotO p.d)) (answerR n.r (gotO p.d) (zeroN n).naks).1
     have:=event_outS (zeroN n) (if (answerR n.r (gotO p.d) (zeroN n).naks).1 = 2 then 6 else 7) ⟨(answerR n.r (gotO p.d) (zeroN n).naks).1,p.i,optB (answerR n.r (gotO p.d) (zeroN n).naks).2⟩ p.i
     unfold OutS at this ⊢
     unfold reqN
     simp only
     rw [q4,q5,g4,g5]
     exact this
   · exact none_outS n
 · unfold answeredN
   repeat' split
   all_goals first | exact none_outS n | exact event_outS _ _ _ _
theorem mem_take (x:Int) (l:List Int) (i:Nat) (h:i < l.length):decide (x∈l.take (i + 1)) = (decide (x∈l.take i) || decide (l[i] = x)):=by
 rw [List.take_add_one,List.getElem?_eq_getElem h,Option.toList_some]
 rw [Bool.eq_iff_iff]
 simp only [List.mem_append,List.mem_singleton,Bool.or_eq_true,decide_eq_true_eq]
 exact or_congr_right eq_comm
section
variable (Γ:Nat->Option (List Data))
set_option maxHeartbeats 4000000 in
theorem up2_pc (was:Bool) (ws:Int) (n:Ng) (told:List Int) (hw:was = decide (ws = 9)) (hud:UpDown ws n.a.s told) (hl:told.length≤1000):PC Tryz.prog Γ 19 [.bool was,ng n,nums told] (.bool true):=by
 refine pc_by mixed Tryz.func19 rfl (fun args w=>Tryz.call19 args w) ?_
 rw [nums_is]
 unfold ng ngL
 obtain ⟨h1,h2⟩:=hud
 simp -implicitDefEqProofs (disch:=omega) [go_sem]
 refine loop_ren (σ:={ i:Nat // i≤told.length }) (fun i=>⟨envL [(0,.data (.bool was)),(2,.data (.sl 1 (ints told))),(4,.ptr 0 0),(7,.data (.bool (decide ((1:Int)∈told.take i.1)))),(8,.data (.bool (decide ((2:Int)∈told.take i.1)))),(9,.data (.int .i64 i.1))],hpL [(0,.blk true ((ngL n).map .data))],1,0,53⟩) (fun i=>told.length - i.1) ⟨0,by omega⟩ [] (rhoL [(0,some 0)]) ?_ ?_
 · apply ren_lists <;> simp -implicitDefEqProofs [go_sem,ngL]
 rintro ⟨i,hi⟩
 unfold ngL
 by_cases h:i < told.length
 · have m1:=mem_take 1 told i h
   have m2:=mem_take 2 told i h
   generalize hd1:decide ((1:Int)∈told.take i) = d1 at *
   generalize hd2:decide ((2:Int)∈told.take i) = d2 at *
   cases d1 <;> cases d2
   all_goals
    simp only [Bool.false_or,Bool.true_or] at m1 m2
    simp -implicitDefEqProofs (disch:=omega) [go_sem,hd1,hd2]
    refine next_ren ⟨i + 1,by omega⟩ (by simp only;omega) [] (rhoL [(0,some 0)]) ?_
    simp only [m1,m2]
    apply ren_lists <;> simp -implicitDefEqProofs [go_sem]
 · have:i = told.length:=by omega
   subst this
   have e1:decide ((1:Int)∈told.take told.length) = decide (n.a.s = 9∧ws≠9):=by rw [List.take_length];exact decide_eq_decide.2 h1
   have e2:decide ((2:Int)∈told.take told.length) = decide (ws = 9∧n.a.s≠9):=by rw [List.take_length];exact decide_eq_decide.2 h2
   simp only [e1,e2,hw]
   by_cases a1:n.a.s = 9 <;> by_cases a2:ws = 9
   all_goals simp -implicitDefEqProofs (disch:=omega) [go_sem,a1,a2,Tryz.f19]
set_option maxHeartbeats 16000000 in
theorem ndoes_pc (hp:ProgN Γ) (n:Ng) (e:Int) (p:Pk) (hn:NgA n) (tp:p.Ty) (pl:p.d.length≤140737488351232):PC Tryz.prog Γ 3 [ng n,.int .i64 e,pk p] (.bool true):=by
 refine pc_by mixed Tryz.func3 rfl (fun args w=>Tryz.call3 args w) ?_
 have f1:=rsmallA_pc Γ n hn
 unfold ng at f1 ⊢
 unfold ngL at f1 ⊢
 unfold pk
 simp -implicitDefEqProofs (disch:=omega) [go_sem]
 refine .inl (call_data (shown14_pc Γ hp) (by simp [go_sem]) ?_)
 simp -implicitDefEqProofs (disch:=omega) [go_sem]
 refine .inl (call_data f1 (by simp [go_sem]) ?_)
 by_cases g1:SmallN n
 rotate_left
 · rw [decide_eq_false g1]
   simp -implicitDefEqProofs (disch:=omega) [go_sem,Tryz.f3]
 rw [decide_eq_true g1]
 obtain ⟨ht,hty⟩:=small_ty hn g1
 have f2:=rright14_pc Γ n ht (by have:=g1.1.1;omega)
 unfold ng ngL at f2
 simp -implicitDefEqProofs (disch:=omega) [go_sem]
 refine .inl (call_data f2 (by simp [go_sem]) ?_)
 by_cases g2:RightN n
 rotate_left
 · rw [decide_eq_false g2]
   simp -implicitDefEqProofs (disch:=omega) [go_sem,Tryz.f3]
 rw [decide_eq_true g2]
 by_cases g3:1496 < p.d.length
 · simp -implicitDefEqProofs (disch:=omega) [go_sem,g3,Tryz.f3]
 have pl2:p.d.length≤1496:=by omega
 have c1:=hp.do_ n e hty g2
 have c2:=hp.tick n hty g2
 have c3:=hp.take n p hty g2 tp pl2
 have q1:=rndo_pc Γ n e (ours_fine hn.r ⟨by have:=g1.1.1;omega,fun o ho=>⟨(hn.od o ho).1.d,g1.1.2 o ho⟩⟩) ⟨g2.1.2.1,hty.id⟩
 have q2:=rntick_pc Γ n (ours_fine hn.r ⟨by have:=g1.1.1;omega,fun o ho=>⟨(hn.od o ho).1.d,g1.1.2 o ho⟩⟩) g2.1 hty.id
 have q3:=rtake_pc Γ n p hn.r ⟨by have:=g1.1.1;omega,fun o ho=>⟨(hn.od o ho).1.d,g1.1.2 o ho⟩⟩ ⟨g2.1.2.1,hty.id⟩ ⟨g2.2.1.1,by have:=g2.2.1.2;omega⟩ tp.d (by omega)
 have i1:∀ (o:OutN),TyDid o->RightN o.n->OutS o->PC Tryz.prog Γ 15 [outN o,ng o.n,.sl 3 (pks o.sent),nums o.told] (.bool true):=fun o h1 h2 h3=>by
  have:=ris14_pc Γ o o.n o.sent o.told (right_ngt h1.1 h2) (right_ngt h1.1 h2) (by have:=h3.1;omega) (fun x hx=>by have:=(h1.2 x hx).2;omega) (by have:=h3.1;omega) (fun x hx=>by have:=(h1.2 x hx).2;omega) (by have:=h3.2;omega) (by have:=h3.2;omega)
  rwa [decide_eq_true ⟨rfl,rfl,rfl⟩] at this
 have j1:=i1 _ (do_ty hty g2 e) (do_right4 g2 hty.id e).1 (do_outS n e)
 have j2:=i1 _ (tick_ty hty g2) (tick_right4 g2 hty.id).1 (tick_outS n)
 have j3:=i1 _ (take_ty hty g2 tp pl2) (take_right4 g2 hty.id p).1 (take_outS n p)
 clear i1
 generalize doN n e = o1 at *
 generalize tickN n = o2 at *
 generalize takeN n p = o3 at *
 unfold didN at c1 c2 c3
 unfold outN at q1 q2 q3 j1 j2 j3
 unfold ng at c1 c2 c3 q1 q2 q3 j1 j2 j3
 unfold pk at c3 q3
 rw [nums_is] at *
 have len:∀ m:Ng,(ngL m).length = 12:=fun m=>rfl
 unfold ngL at *
 simp only [List.cons_append,List.nil_append] at *
 simp -implicitDefEqProofs (disch:=omega) [go_sem,g3]
 refine .inl (call_data c1 (by simp [go_sem]) ?_)
 simp -implicitDefEqProofs (disch:=omega) [go_sem]
 refine .inl (call_data c2 (by simp [go_sem]) ?_)
 simp -implicitDefEqProofs (disch:=omega) [go_sem]
 refine .inl (call_data c3 (by simp [go_sem]) ?_)
 simp -implicitDefEqProofs (disch:=omega) [go_sem]
 refine .inl (call_data q1 (by simp [go_sem]) ?_)
 simp -implicitDefEqProofs (disch:=omega) [go_sem]
 refine .inl (call_data j1 (by simp [go_sem]) ?_)
 simp -implicitDefEqProofs (disch:=omega) [go_sem]
 refine .inl (call_data q2 (by simp [go_sem]) ?_)
 simp -implicitDefEqProofs (disch:=omega) [go_sem]
 refine .inl (call_data j2 (by simp [go_sem]) ?_)
 simp -implicitDefEqProofs (disch:=omega) [go_sem]
 refine .inl (call_data q3 (by simp [go_sem]) ?_)
 simp -implicitDefEqProofs (disch:=omega) [go_sem]
 refine .inl (call_data j3 (by simp [go_sem]) ?_)
 simp -implicitDefEqProofs (disch:=omega) [go_sem]
 refine side (by kernel_rfl) ?_
 simp -implicitDefEqProofs (disch:=omega) [go_sem,Tryz.f3]
set_option maxHeartbeats 16000000 in
theorem nright_pc (hp:ProgN Γ) (n:Ng) (e:Int) (p:Pk) (hn:NgA n) (tp:p.Ty) (pl:p.d.length≤140737488351232):PC Tryz.prog Γ 4 [ng n,.int .i64 e,pk p] (.bool true):=by
 refine pc_by mixed Tryz.func4 rfl (fun args w=>Tryz.call4 args w) ?_
 have f1:=rsmallA_pc Γ n hn
 unfold ng at f1 ⊢
 unfold ngL at f1 ⊢
 unfold pk
 simp -implicitDefEqProofs (disch:=omega) [go_sem]
 refine .inl (call_data (shown14_pc Γ hp) (by simp [go_sem]) ?_)
 simp -implicitDefEqProofs (disch:=omega) [go_sem]
 refine .inl (call_data f1 (by simp [go_sem]) ?_)
 by_cases g1:SmallN n
 rotate_left
 · rw [decide_eq_false g1]
   simp -implicitDefEqProofs (disch:=omega) [go_sem,Tryz.f4]
 rw [decide_eq_true g1]
 obtain ⟨ht,hty⟩:=small_ty hn g1
 have f2:=rright14_pc Γ n ht (by have:=g1.1.1;omega)
 unfold ng ngL at f2
 simp -implicitDefEqProofs (disch:=omega) [go_sem]
 refine .inl (call_data f2 (by simp [go_sem]) ?_)
 by_cases g2:RightN n
 rotate_left
 · rw [decide_eq_false g2]
   simp -implicitDefEqProofs (disch:=omega) [go_sem,Tryz.f4]
 rw [decide_eq_true g2]
 by_cases g3:1496 < p.d.length
 · simp -implicitDefEqProofs (disch:=omega) [go_sem,g3,Tryz.f4]
 have pl2:p.d.length≤1496:=by omega
 have c1:=hp.do_ n e hty g2
 have c2:=hp.tick n hty g2
 have c3:=hp.take n p hty g2 tp pl2
 have i1:∀ (o:OutN),TyDid o->RightN o.n->PC Tryz.prog Γ 11 [ng o.n] (.bool true):=fun o h1 h2=>by
  have:=rright14_pc Γ o.n (right_ngt h1.1 h2) (by have:=(okO_len h2.2.2.1).1;omega)
  rwa [decide_eq_true h2] at this
 have i2:∀ (o:OutN),UpDown n.a.s o.n.a.s o.told->OutS o->PC Tryz.prog Γ 19 [.bool (decide (n.a.s = 9)),ng o.n,nums o.told] (.bool true):=fun o h1 h2=>up2_pc Γ _ n.a.s o.n o.told rfl h1 (by have:=h2.2;omega)
 have j1:=i1 _ (do_ty hty g2 e) (do_right4 g2 hty.id e).1
 have j2:=i1 _ (tick_ty hty g2) (tick_right4 g2 hty.id).1
 have j3:=i1 _ (take_ty hty g2 tp pl2) (take_right4 g2 hty.id p).1
 have u1:=i2 _ (do_right4 g2 hty.id e).2 (do_outS n e)
 have u2:=i2 _ (tick_right4 g2 hty.id).2 (tick_outS n)
 have u3:=i2 _ (take_right4 g2 hty.id p).2.1 (take_outS n p)
 clear i1 i2
 generalize doN n e = o1 at *
 generalize tickN n = o2 at *
 generalize takeN n p = o3 at *
 unfold didN at c1 c2 c3
 unfold ng at c1 c2 c3 j1 j2 j3 u1 u2 u3
 unfold pk at c3
 rw [nums_is] at *
 unfold ngL at *
 simp -implicitDefEqProofs (disch:=omega) [go_sem,g3]
 refine .inl (call_data c1 (by simp [go_sem]) ?_)
 simp -implicitDefEqProofs (disch:=omega) [go_sem]
 refine .inl (call_data c2 (by simp [go_sem]) ?_)
 simp -implicitDefEqProofs (disch:=omega) [go_sem]
 refine .inl (call_data c3 (by simp [go_sem]) ?_)
 simp -implicitDefEqProofs (disch:=omega) [go_sem]
 refine .inl (call_data j1 (by simp [go_sem]) ?_)
 simp -implicitDefEqProofs (disch:=omega) [go_sem]
 refine .inl (call_data j2 (by simp [go_sem]) ?_)
 simp -implicitDefEqProofs (disch:=omega) [go_sem]
 refine .inl (call_data j3 (by simp [go_sem]) ?_)
 simp -implicitDefEqProofs (disch:=omega) [go_sem]
 refine .inl (call_data u1 (by simp [go_sem]) ?_)
 simp -implicitDefEqProofs (disch:=omega) [go_sem]
 refine .inl (call_data u2 (by simp [go_sem]) ?_)
 simp -implicitDefEqProofs (disch:=omega) [go_sem]
 refine .inl (call_data u3 (by simp [go_sem]) ?_)
 simp -implicitDefEqProofs (disch:=omega) [go_sem,Tryz.f4]
end
end Ne
namespace Ne
open Op9 Ru Fs Pa
section
variable (Γ:Nat->Option (List Data))
set_option maxHeartbeats 16000000 in
theorem ncodes_pc (hp:ProgN Γ) (n:Ng) (p:Pk) (hn:NgA n) (tp:p.Ty) (pl:p.d.length≤140737488351232):PC Tryz.prog Γ 7 [ng n,pk p] (.bool true):=by
 refine pc_by mixed Tryz.func7 rfl (fun args w=>Tryz.call7 args w) ?_
 have f1:=rsmallA_pc Γ n hn
 unfold ng at f1 ⊢
 unfold ngL at f1 ⊢
 unfold pk
 simp -implicitDefEqProofs (disch:=omega) [go_sem]
 refine .inl (call_data (shown14_pc Γ hp) (by simp [go_sem]) ?_)
 simp -implicitDefEqProofs (disch:=omega) [go_sem]
 refine .inl (call_data f1 (by simp [go_sem]) ?_)
 by_cases g1:SmallN n
 rotate_left
 · rw [decide_eq_false g1]
   simp -implicitDefEqProofs (disch:=omega) [go_sem,Tryz.f7]
 rw [decide_eq_true g1]
 obtain ⟨ht,hty⟩:=small_ty hn g1
 have f2:=rright14_pc Γ n ht (by have:=g1.1.1;omega)
 unfold ng ngL at f2
 simp -implicitDefEqProofs (disch:=omega) [go_sem]
 refine .inl (call_data f2 (by simp [go_sem]) ?_)
 by_cases g2:RightN n
 rotate_left
 · rw [decide_eq_false g2]
   simp -implicitDefEqProofs (disch:=omega) [go_sem,Tryz.f7]
 rw [decide_eq_true g2]
 by_cases g3:1400 < p.d.length
 · simp -implicitDefEqProofs (disch:=omega) [go_sem,g3,Tryz.f7]
 by_cases g4:1≤p.c∧p.c≤11
 · obtain ⟨g4,g5⟩:=g4
   have e1:(1:Int)≤p.c:=by omega
   have e2:(p.c:Int)≤11:=by omega
   simp -implicitDefEqProofs (disch:=omega) [go_sem,g3,e1,e2,Tryz.f7]
 have c1:=hp.take n p hty g2 tp (by omega)
 have tk:=take_code g2 g4
 have tt:=(take_ty hty g2 tp (by omega)).1
 have tr:=(take_right4 g2 hty.id p).1
 have cs:=rsame14_pc Γ n n ht ht
 rw [decide_eq_true rfl] at cs
 rw [tk] at c1
 obtain ⟨k1,k2⟩:=rej_shape (p:=p) (by omega) n.a.id
 have k3:(rejP p n.a.id).c = 7:=rfl
 have k4:(bys (rejP p n.a.id).d)[0]? = some (.int .u8 p.c):=by rw [k1];rfl
 unfold didN at c1
 unfold ng at c1 cs
 unfold pk at c1
 unfold ngL at c1 cs
 have stp:∀ b:Bool,(b = decide (1≤p.c∧p.c≤11))->b = false:=fun b h=>by rw [h];exact decide_eq_false g4
 by_cases hz:1≤p.c
 · have e1:(1:Int)≤p.c:=by omega
   have e2:¬ (p.c:Int)≤11:=by omega
   by_cases hs:n.a.s < 2
   · rw [if_pos hs] at c1
     unfold none4 at c1
     simp only [nums_is] at c1
     simp -implicitDefEqProofs (disch:=omega) [go_sem,g3,e1,e2]
     refine .inl (call_data c1 (by simp [go_sem]) ?_)
     simp -implicitDefEqProofs (disch:=omega) [go_sem]
     refine .inl (call_data cs (by simp [go_sem]) ?_)
     simp -implicitDefEqProofs (disch:=omega) [go_sem,Tryz.f7]
   · rw [if_neg hs] at c1
     simp only [nums_is] at c1
     have kq:rejP p n.a.id = ⟨7,n.a.id,p.c :: (p.i :: ((4 + p.d.length) / 256) :: ((4 + p.d.length) % 256) :: p.d)⟩:=by
      unfold rejP at k1 ⊢
      rw [show (pkB p).take 1496 = _ from k1]
     rw [kq] at c1
     have k5:(p.i :: ((4 + p.d.length) / 256) :: ((4 + p.d.length) % 256) :: p.d).length = 3 + p.d.length:=by simp only [List.length_cons];omega
     generalize (p.i :: ((4 + p.d.length) / 256) :: ((4 + p.d.length) % 256) :: p.d) = t at *
     simp -implicitDefEqProofs (disch:=omega) [go_sem,g3,e1,e2]
     refine .inl (call_data c1 (by simp [go_sem]) ?_)
     simp -implicitDefEqProofs (maxSteps:=4000000) (disch:=omega) [go_sem,hs,k5,pks,pk,bys,u8]
     refine side (by kernel_rfl) ?_
     simp -implicitDefEqProofs (maxSteps:=4000000) (disch:=omega) [go_sem,Tryz.f7]
 · have e1:¬ (1:Int)≤p.c:=by omega
   by_cases hs:n.a.s < 2
   · rw [if_pos hs] at c1
     unfold none4 at c1
     simp only [nums_is] at c1
     simp -implicitDefEqProofs (disch:=omega) [go_sem,g3,e1]
     refine .inl (call_data c1 (by simp [go_sem]) ?_)
     simp -implicitDefEqProofs (disch:=omega) [go_sem]
     refine .inl (call_data cs (by simp [go_sem]) ?_)
     simp -implicitDefEqProofs (disch:=omega) [go_sem,Tryz.f7]
   · rw [if_neg hs] at c1
     simp only [nums_is] at c1
     have kq:rejP p n.a.id = ⟨7,n.a.id,p.c :: (p.i :: ((4 + p.d.length) / 256) :: ((4 + p.d.length) % 256) :: p.d)⟩:=by
      unfold rejP at k1 ⊢
      rw [show (pkB p).take 1496 = _ from k1]
     rw [kq] at c1
     have k5:(p.i :: ((4 + p.d.length) / 256) :: ((4 + p.d.length) % 256) :: p.d).length = 3 + p.d.length:=by simp only [List.length_cons];omega
     generalize (p.i :: ((4 + p.d.length) / 256) :: ((4 + p.d.length) % 256) :: p.d) = t at *
     simp -implicitDefEqProofs (disch:=omega) [go_sem,g3,e1]
     refine .inl (call_data c1 (by simp [go_sem]) ?_)
     simp -implicitDefEqProofs (maxSteps:=4000000) (disch:=omega) [go_sem,hs,k5,pks,pk,bys,u8]
     refine side (by kernel_rfl) ?_
     simp -implicitDefEqProofs (maxSteps:=4000000) (disch:=omega) [go_sem,Tryz.f7]
set_option maxHeartbeats 16000000 in
theorem nechoes_pc (hp:ProgN Γ) (n:Ng) (id:Nat) (data:List Nat) (hn:NgA n) (hid:id < 256) (hd:∀ x∈data,x < 256) (pl:data.length≤140737488351232):PC Tryz.prog Γ 8 [ng n,.int .u8 id,.sl 1 (bys data)] (.bool true):=by
 refine pc_by mixed Tryz.func8 rfl (fun args w=>Tryz.call8 args w) ?_
 have f1:=rsmallA_pc Γ n hn
 unfold ng at f1 ⊢
 unfold ngL at f1 ⊢
 simp -implicitDefEqProofs (disch:=omega) [go_sem]
 refine .inl (call_data (shown14_pc Γ hp) (by simp [go_sem]) ?_)
 simp -implicitDefEqProofs (disch:=omega) [go_sem]
 refine .inl (call_data f1 (by simp [go_sem]) ?_)
 by_cases g1:SmallN n
 rotate_left
 · rw [decide_eq_false g1]
   simp -implicitDefEqProofs (disch:=omega) [go_sem,Tryz.f8]
 rw [decide_eq_true g1]
 obtain ⟨ht,hty⟩:=small_ty hn g1
 have f2:=rright14_pc Γ n ht (by have:=g1.1.1;omega)
 unfold ng ngL at f2
 simp -implicitDefEqProofs (disch:=omega) [go_sem]
 refine .inl (call_data f2 (by simp [go_sem]) ?_)
 by_cases g2:RightN n
 rotate_left
 · rw [decide_eq_false g2]
   simp -implicitDefEqProofs (disch:=omega) [go_sem,Tryz.f8]
 rw [decide_eq_true g2]
 by_cases g3:n.r.ip = true
 · simp -implicitDefEqProofs (disch:=omega) [go_sem,g3,Tryz.f8]
 have g3:n.r.ip = false:=by simpa using g3
 by_cases g4:1000 < data.length
 · simp -implicitDefEqProofs (disch:=omega) [go_sem,g3,g4,Tryz.f8]
 have tp:(⟨9,id,data⟩:Pk).Ty:=⟨by show 9 < 256;decide,hid,hd⟩
 have c1:=hp.take n ⟨9,id,data⟩ hty g2 tp (by show data.length≤1496;omega)
 have tk:=take_echo g2 g3 (p:=⟨9,id,data⟩) rfl
 have cs:=rsame14_pc Γ n n ht ht
 rw [decide_eq_true rfl] at cs
 have cm:=hp.magic n hty g2
 have hm:magicN n < 4294967296:=magicN_lt fun o ho=>(hn.od o ho).1.d
 unfold didN at c1
 unfold ng at c1 cs cm
 unfold pk at c1
 unfold ngL at c1 cs cm
 simp only [g3] at c1 cs cm
 by_cases h9:n.a.s = 9
 · by_cases h4:4≤data.length
   · obtain ⟨k1,k2,k3⟩:=echo_shape (n:=n) (p:=⟨9,id,data⟩) h4 hm
     have tk2:takeN n ⟨9,id,data⟩ = ⟨n,[⟨10,id,echoD n ⟨9,id,data⟩⟩],[],[13]⟩:=by rw [tk,if_pos ⟨h9,h4⟩]
     rw [tk2] at c1
     have hE:∀ x∈echoD n ⟨9,id,data⟩,x < 256:=fun x hx=>by
      unfold echoD at hx
      rcases List.mem_append.1 hx with hx | hx
      · exact four_lt hm x hx
      · exact hd x (List.mem_of_mem_drop hx)
     have cn:=rnumber_pc Γ ((echoD n ⟨9,id,data⟩).take 4) (by rw [List.length_take];omega) (fun x hx=>hE x (List.mem_of_mem_take hx))
     rw [k2] at cn
     simp only at k1 k3
     simp only [nums_is] at c1
     have hE2:∀ x∈data.drop 4,x < 256:=fun x hx=>hd x (List.mem_of_mem_drop hx)
     generalize echoD n ⟨9,id,data⟩ = E at *
     simp -implicitDefEqProofs (disch:=omega) [go_sem,g3]
     refine .inl (call_data c1 (by simp [go_sem,g3]) ?_)
     simp -implicitDefEqProofs (disch:=omega) [go_sem,h9,k1,pks,pk,g3]
     refine .inl (call_data cn (by simp [go_sem]) ?_)
     simp -implicitDefEqProofs (disch:=omega) [go_sem,g3]
     refine .inl (call_data cm (by simp [go_sem,g3,h9]) ?_)
     simp -implicitDefEqProofs (disch:=omega) [go_sem,g3]
     refine conv_bys (e:=5) (fun x hx=>hE x (List.mem_of_mem_drop hx)) (by simp [go_sem]) (by simp [go_sem]) (by simp [go_sem]) ?_
     simp -implicitDefEqProofs (disch:=omega) [go_sem,g3]
     refine conv_bys (e:=5) hE2 (by simp [go_sem]) (by simp [go_sem]) (by simp [go_sem]) ?_
     simp -implicitDefEqProofs (disch:=omega) [go_sem,g3,k3]
     simp only [h9] at cs
     refine .inl (call_data cs (by simp [go_sem,h9]) ?_)
     simp -implicitDefEqProofs (disch:=omega) [go_sem,g3]
     refine side (by kernel_rfl) ?_
     simp -implicitDefEqProofs (disch:=omega) [go_sem,Tryz.f8]
   · have tk2:(takeN n ⟨9,id,data⟩).n = n∧(takeN n ⟨9,id,data⟩).sent = []∧(takeN n ⟨9,id,data⟩).told = []:=by rw [tk,if_neg fun h=>h4 h.2];exact ⟨rfl,rfl,rfl⟩
     rw [tk2.1,tk2.2.1,tk2.2.2] at c1
     simp only [nums_is,h9,g3] at c1 cs
     have e4:(data.length:Int) < 4:=by omega
     simp -implicitDefEqProofs (disch:=omega) [go_sem,g3]
     refine .inl (call_data c1 (by simp [go_sem,g3,h9]) ?_)
     simp -implicitDefEqProofs (disch:=omega) [go_sem,h9,e4,pks,g3]
     refine .inl (call_data cs (by simp [go_sem,h9]) ?_)
     simp -implicitDefEqProofs (disch:=omega) [go_sem,Tryz.f8]
 · have tk2:(takeN n ⟨9,id,data⟩).n = n∧(takeN n ⟨9,id,data⟩).sent = []∧(takeN n ⟨9,id,data⟩).told = []:=by rw [tk,if_neg fun h=>h9 h.1];exact ⟨rfl,rfl,rfl⟩
   rw [tk2.1,tk2.2.1,tk2.2.2] at c1
   simp only [nums_is,g3] at c1 cs
   simp -implicitDefEqProofs (disch:=omega) [go_sem,g3]
   refine .inl (call_data c1 (by simp [go_sem,g3]) ?_)
   simp -implicitDefEqProofs (disch:=omega) [go_sem,h9,pks,g3]
   refine .inl (call_data cs (by simp [go_sem]) ?_)
   simp -implicitDefEqProofs (disch:=omega) [go_sem,Tryz.f8]
end
end Ne
namespace Ne
open Op9 Ru Fs Pa
section
variable (Γ:Nat->Option (List Data))
set_option maxHeartbeats 16000000 in
theorem nacks_pc (hp:ProgN Γ) (n:Ng) (p:Pk) (hn:NgA n) (tp:p.Ty) (pl:p.d.length≤140737488351232):PC Tryz.prog Γ 5 [ng n,pk p] (.bool true):=by
 refine pc_by mixed Tryz.func5 rfl (fun args w=>Tryz.call5 args w) ?_
 have f1:=rsmallA_pc Γ n hn
 unfold ng at f1 ⊢
 unfold ngL at f1 ⊢
 unfold pk
 simp -implicitDefEqProofs (disch:=omega) [go_sem]
 refine .inl (call_data (shown14_pc Γ hp) (by simp [go_sem]) ?_)
 simp -implicitDefEqProofs (disch:=omega) [go_sem]
 refine .inl (call_data f1 (by simp [go_sem]) ?_)
 by_cases g1:SmallN n
 rotate_left
 · rw [decide_eq_false g1]
   simp -implicitDefEqProofs (disch:=omega) [go_sem,Tryz.f5]
 rw [decide_eq_true g1]
 obtain ⟨ht,hty⟩:=small_ty hn g1
 have f2:=rright14_pc Γ n ht (by have:=g1.1.1;omega)
 unfold ng ngL at f2
 simp -implicitDefEqProofs (disch:=omega) [go_sem]
 refine .inl (call_data f2 (by simp [go_sem]) ?_)
 by_cases g2:RightN n
 rotate_left
 · rw [decide_eq_false g2]
   simp -implicitDefEqProofs (disch:=omega) [go_sem,Tryz.f5]
 rw [decide_eq_true g2]
 by_cases g3:1496 < p.d.length
 · simp -implicitDefEqProofs (disch:=omega) [go_sem,g3,Tryz.f5]
 have c1:=hp.take n p hty g2 tp (by omega)
 have tt:=take_ty hty g2 tp (by omega)
 have tr:=(take_right4 g2 hty.id p).1
 obtain ⟨sl,sa⟩:=take_acks g2 hty.id tp (by omega)
 have hol:=okO_len tr.2.2.1
 clear f1 f2 hn hp
 unfold didN ng at c1
 unfold pk at c1
 rw [nums_is] at c1
 generalize takeN n p = o at *
 unfold ngL at c1
 simp -implicitDefEqProofs (disch:=omega) [go_sem,g3]
 refine .inl (call_data c1 (by simp [go_sem]) ?_)
 simp -implicitDefEqProofs (disch:=omega) [go_sem]
 refine loop_ren (σ:={ i:Nat // i≤o.sent.length }) (fun i=>⟨envL [(3,.ptr 0 0),(5,.data (.bool true)),(6,.ptr 1 0),(7,.data (.sl 3 (pks o.sent))),(9,.data (.int .i64 i.1))],hpL [(0,.blk true ([.int .u8 p.c,.int .u8 p.i,.sl 1 (bys p.d)].map D.data)),(1,.blk true ((ngL o.n).map D.data))],2,0,113⟩) (fun i=>o.sent.length - i.1) ⟨0,by omega⟩ [] (rhoL [(0,some 1),(1,some 26)]) ?_ ?_
 · apply ren_lists <;> simp -implicitDefEqProofs [go_sem,ngL]
 rintro ⟨i,hi⟩
 unfold ngL
 by_cases h:i < o.sent.length
 · have hk:=sa _ (List.getElem_mem h)
   have hx:=tt.2 _ (List.getElem_mem h)
   generalize hX:o.sent[i] = X at *
   obtain ⟨k1,k2,k3,k4⟩:=hk
   obtain ⟨xt,xl⟩:=hx
   have e1496:¬ (1496:Int) < X.d.length:=by omega
   by_cases h2:X.c = 2
   · obtain ⟨q1,q2,q3⟩:=k1 h2
     have cr:=Sf.row_same Γ p.d (by omega)
     have e2:(X.c:Int) = 2:=by omega
     have ep:(p.c:Int) = 1:=by omega
     simp -implicitDefEqProofs (disch:=omega) [go_sem,pk,hX,e2,ep,q2,q3]
     refine .inl (call_data cr (by simp [go_sem]) ?_)
     simp -implicitDefEqProofs (disch:=omega) [go_sem,g3]
     refine next_ren ⟨i + 1,by omega⟩ (by simp only;omega) [] (rhoL [(0,some 0),(1,some 1)]) ?_
     apply ren_lists <;> simp -implicitDefEqProofs [go_sem]
   have e2:¬ (X.c:Int) = 2:=by omega
   by_cases h1:X.c = 1
   · obtain ⟨q1,q2⟩:=k2 h1
     have e1:(X.c:Int) = 1:=by omega
     have cr:=roread_pc Γ X.d (by omega) xt.d
     have eg:gotO X.d = o.n.ours:=by unfold gotO;rw [q2];rfl
     have ee:errO X.d = 0:=by unfold errO;rw [q2];rfl
     rw [eg,ee] at cr
     have cs:=opts_refl Γ o.n.ours (by omega) (fun y hy=>by have:=hol.2 y hy;omega)
     simp -implicitDefEqProofs (disch:=omega) [go_sem,pk,hX,e1]
     refine .inl (call_data cr (by simp [go_sem]) ?_)
     simp -implicitDefEqProofs (disch:=omega) [go_sem,q1]
     refine .inl (call_data cs (by simp [go_sem]) ?_)
     simp -implicitDefEqProofs (disch:=omega) [go_sem]
     refine next_ren ⟨i + 1,by omega⟩ (by simp only;omega) [] (rhoL [(0,some 0),(1,some 1)]) ?_
     apply ren_lists <;> simp -implicitDefEqProofs [go_sem]
   have e1:¬ (X.c:Int) = 1:=by omega
   by_cases h6:X.c = 6
   · have e6:(X.c:Int) = 6:=by omega
     have q1:=k3 (by omega)
     simp -implicitDefEqProofs (disch:=omega) [go_sem,pk,hX,e6,q1]
     refine next_ren ⟨i + 1,by omega⟩ (by simp only;omega) [] (rhoL [(0,some 0),(1,some 1)]) ?_
     apply ren_lists <;> simp -implicitDefEqProofs [go_sem]
   have e6:¬ (X.c:Int) = 6:=by omega
   by_cases h10:X.c = 10
   · have e10:(X.c:Int) = 10:=by omega
     have q1:=k3 (by omega)
     simp -implicitDefEqProofs (disch:=omega) [go_sem,pk,hX,e10,q1]
     refine next_ren ⟨i + 1,by omega⟩ (by simp only;omega) [] (rhoL [(0,some 0),(1,some 1)]) ?_
     apply ren_lists <;> simp -implicitDefEqProofs [go_sem]
   have e10:¬ (X.c:Int) = 10:=by omega
   by_cases h3:X.c = 3
   · have e3:(X.c:Int) = 3:=by omega
     have q1:=k3 (by omega)
     simp -implicitDefEqProofs (disch:=omega) [go_sem,pk,hX,e3,q1]
     refine next_ren ⟨i + 1,by omega⟩ (by simp only;omega) [] (rhoL [(0,some 0),(1,some 1)]) ?_
     apply ren_lists <;> simp -implicitDefEqProofs [go_sem]
   have e3:¬ (X.c:Int) = 3:=by omega
   by_cases h4:X.c = 4
   · have e4:(X.c:Int) = 4:=by omega
     have q1:=k3 (by omega)
     simp -implicitDefEqProofs (disch:=omega) [go_sem,pk,hX,e4,q1]
     refine next_ren ⟨i + 1,by omega⟩ (by simp only;omega) [] (rhoL [(0,some 0),(1,some 1)]) ?_
     apply ren_lists <;> simp -implicitDefEqProofs [go_sem]
   have e4:¬ (X.c:Int) = 4:=by omega
   · simp -implicitDefEqProofs (disch:=omega) [go_sem,pk,hX,e1,e2,e3,e4,e6,e10]
     refine next_ren ⟨i + 1,by omega⟩ (by simp only;omega) [] (rhoL [(0,some 0),(1,some 1)]) ?_
     apply ren_lists <;> simp -implicitDefEqProofs [go_sem]
 · have:i = o.sent.length:=by omega
   subst this
   simp -implicitDefEqProofs (disch:=omega) [go_sem,Tryz.f5]
end
end Ne
namespace Ne
open Op9 Ru Fs Pa
/-- A protocol that may be,and packets that may be sent to it. -/
def OkN (n:Ng):Prop:=TyN n∧RightN n
def OkP (s:List Pk):Prop:=∀ p∈s,PkOk p
theorem ok_take {n:Ng} (h:OkN n) {p:Pk} (hp:PkOk p):OkN (takeN n p).n∧OkP (takeN n p).sent:=by
 have h1:=take_ty h.1 h.2 hp.1 hp.2
 exact ⟨⟨h1.1,(take_right4 h.2 h.1.id p).1⟩,h1.2⟩
theorem ok_tick {n:Ng} (h:OkN n):OkN (tickN n).n∧OkP (tickN n).sent:=by
 have h1:=tick_ty h.1 h.2
 exact ⟨⟨h1.1,(tick_right4 h.2 h.1.id).1⟩,h1.2⟩
theorem ok_do {n:Ng} (h:OkN n) (e:Int):OkN (doN n e).n:=⟨(do_ty h.1 h.2 e).1,(do_right4 h.2 h.1.id e).1⟩
theorem hand_snoc (p:Pk):∀ (s:List Pk) (y:Ng),handN y (s++[p]) = ((takeN (handN y s).1 p).n,(handN y s).2++(takeN (handN y s).1 p).sent)
 | [],y=>by
   show ((takeN y p).n,(takeN y p).sent++[]) = ((takeN y p).n,[]++(takeN y p).sent)
   rw [List.append_nil,List.nil_append]
 | q :: s,y=>by
   show ((handN (takeN y q).n (s++[p])).1,(takeN y q).sent++(handN (takeN y q).n (s++[p])).2) = _
   rw [hand_snoc p s (takeN y q).n]
   simp only [handN,List.append_assoc]
theorem hand_take (y:Ng) (s:List Pk) (k:Nat) (h:k < s.length):handN y (s.take (k + 1)) = ((takeN (handN y (s.take k)).1 s[k]).n,(handN y (s.take k)).2++(takeN (handN y (s.take k)).1 s[k]).sent):=by
 rw [List.take_add_one,List.getElem?_eq_getElem h,Option.toList_some,hand_snoc]
theorem hand_ok:∀ (s:List Pk) (y:Ng),OkN y->OkP s->OkN (handN y s).1∧OkP (handN y s).2∧(handN y s).2.length≤3 * s.length
 | [],y,h,hs=>⟨h,(fun p hp=>by cases hp),Nat.zero_le _⟩
 | q :: s,y,h,hs=>by
   obtain ⟨h1,h2⟩:=ok_take h (hs q (by simp))
   obtain ⟨h3,h4,h5⟩:=hand_ok s _ h1 fun p hp=>hs p (by simp [hp])
   refine ⟨h3,fun p hp=>?_,?_⟩
   · rcases List.mem_append.1 hp with hp | hp
     · exact h2 p hp
     · exact h4 p hp
   · have:=(take_outS y q).1
     show ((takeN y q).sent++(handN (takeN y q).n s).2).length≤_
     rw [List.length_append,List.length_cons];omega
def stepC (z:Ng × Ng × List Pk × List Pk):Ng × Ng × List Pk × List Pk:=((handN z.1 z.2.2.2).1,(handN z.2.1 z.2.2.1).1,(handN z.1 z.2.2.2).2,(handN z.2.1 z.2.2.1).2)
theorem cross_last:∀ (k:Nat) (z:Ng × Ng × List Pk × List Pk),crossN (k + 1) z = stepC (crossN k z)
 | 0,(x,y,s,t)=>rfl
 | k + 1,(x,y,s,t)=>by
   rw [cross_succ (k + 1),cross_last k,cross_succ k]
theorem rounds_last:∀ (k:Nat) (z:Ng × Ng),roundsN (k + 1) z = roundN (roundsN k z)
 | 0,z=>rfl
 | k + 1,z=>by rw [rounds_succ (k + 1),rounds_last k,rounds_succ k]
/-- Two that may be,and what goes between them. -/
structure OkC (m:Nat) (z:Ng × Ng × List Pk × List Pk):Prop where
 x:OkN z.1
 y:OkN z.2.1
 s:OkP z.2.2.1
 t:OkP z.2.2.2
 sl:z.2.2.1.length≤m
 tl:z.2.2.2.length≤m
theorem step_ok {m:Nat} {z:Ng × Ng × List Pk × List Pk} (h:OkC m z):OkC (3 * m) (stepC z):=by
 obtain ⟨a1,a2,a3⟩:=hand_ok z.2.2.2 z.1 h.x h.t
 obtain ⟨b1,b2,b3⟩:=hand_ok z.2.2.1 z.2.1 h.y h.s
 have:=h.sl
 have:=h.tl
 exact ⟨a1,b1,a2,b2,(by show (handN z.1 z.2.2.2).2.length≤_;omega),(by show (handN z.2.1 z.2.2.1).2.length≤_;omega)⟩
theorem cross_ok {z:Ng × Ng × List Pk × List Pk} (h:OkC 3 z):∀ k,OkC (3 ^ (k + 1)) (crossN k z)
 | 0=>h
 | k + 1=>by
   rw [cross_last]
   have:=step_ok (cross_ok h k)
   rwa [show 3 * 3 ^ (k + 1) = 3 ^ (k + 1 + 1) by rw [Nat.pow_succ 3 (k + 1),Nat.mul_comm]] at this
theorem start_ok {x y:Ng} (hx:OkN x) (hy:OkN y):OkC 3 ((tickN x).n,(tickN y).n,(tickN x).sent,(tickN y).sent):=⟨(ok_tick hx).1,(ok_tick hy).1,(ok_tick hx).2,(ok_tick hy).2,(tick_outS x).1,(tick_outS y).1⟩
theorem round_ok {z:Ng × Ng} (hx:OkN z.1) (hy:OkN z.2):OkN (roundN z).1∧OkN (roundN z).2:=by
 have:=cross_ok (start_ok hx hy) 6
 exact ⟨this.x,this.y⟩
theorem rounds_ok {z:Ng × Ng} (hx:OkN z.1) (hy:OkN z.2):∀ k,OkN (roundsN k z).1∧OkN (roundsN k z).2
 | 0=>⟨hx,hy⟩
 | k + 1=>by
   rw [rounds_last]
   obtain ⟨h1,h2⟩:=rounds_ok hx hy k
   exact round_ok h1 h2
theorem pkcell (l:List Pk):∀ x∈flat (pks l),x.cell = true:=by
 intro x hx
 simp only [flat,List.mem_flatMap] at hx
 obtain ⟨y,hy,hx⟩:=hx
 obtain ⟨o,-,rfl⟩:=List.mem_map.1 hy
 simp only [pk,Data.cells,List.mem_cons,List.not_mem_nil,or_false] at hx
 rcases hx with rfl | rfl | rfl <;> rfl
theorem pks_app (a b:List Pk):(flat (pks (a++b))).map D.data = (flat (pks a)).map D.data++(flat (pks b)).map D.data:=by simp [pks,flat]
section
variable (Γ:Nat->Option (List Data))
set_option maxHeartbeats 16000000 in
theorem agree_pc (hp:ProgN Γ) (x0 y0:Ng) (hx:OkN x0) (hy:OkN y0):PC Tryz.prog Γ 26 [ng x0,ng y0] (.bool (decide ((roundsN 12 (x0,y0)).1.a.s = 9∧(roundsN 12 (x0,y0)).2.a.s = 9))):=by
 refine pc_by mixed Tryz.func26 rfl (fun args w=>Tryz.call26 args w) ?_
 have hall:=rounds_ok (z:=(x0,y0)) hx hy
 have hlast:=fun k=>rounds_last k (x0,y0)
 unfold ng ngL
 simp -implicitDefEqProofs (disch:=omega) [go_sem]
 refine loop_ren (σ:={ i:Nat // i≤12 }) (fun i=>⟨envL [(2,.ptr 0 0),(3,.ptr 1 0),(5,.data (.int .i64 i.1))],hpL [(0,.blk true ((ngL (roundsN i.1 (x0,y0)).1).map D.data)),(1,.blk true ((ngL (roundsN i.1 (x0,y0)).2).map D.data))],2,0,95⟩) (fun i=>12 - i.1) ⟨0,by omega⟩ [] (rhoL [(0,some 0),(1,some 1)]) ?_ ?_
 · apply ren_lists <;> simp -implicitDefEqProofs [go_sem,ngL,roundsN]
 rintro ⟨i,hi⟩
 have hzi:=hall i
 have hl:=hlast i
 clear hall hlast
 by_cases h:i < 12
 · generalize roundsN i (x0,y0) = z at *
   obtain ⟨zx,zy⟩:=hzi
   have c1:=hp.tick z.1 zx.1 zx.2
   have c2:=hp.tick z.2 zy.1 zy.2
   have hst:=start_ok zx zy
   have hr:roundN z = ((crossN 6 ((tickN z.1).n,(tickN z.2).n,(tickN z.1).sent,(tickN z.2).sent)).1,(crossN 6 ((tickN z.1).n,(tickN z.2).n,(tickN z.1).sent,(tickN z.2).sent)).2.1):=rfl
   have hcr:=cross_ok hst
   have hcl:=fun k=>cross_last k ((tickN z.1).n,(tickN z.2).n,(tickN z.1).sent,(tickN z.2).sent)
   have h0:crossN 0 ((tickN z.1).n,(tickN z.2).n,(tickN z.1).sent,(tickN z.2).sent) = ((tickN z.1).n,(tickN z.2).n,(tickN z.1).sent,(tickN z.2).sent):=rfl
   unfold didN ng at c1 c2
   simp only [nums_is] at c1 c2
   generalize tickN z.1 = o1 at *
   generalize tickN z.2 = o2 at *
   unfold ngL at c1 c2 ⊢
   simp -implicitDefEqProofs (disch:=omega) [go_sem]
   refine .inl (call_data c1 (by simp [go_sem]) ?_)
   simp -implicitDefEqProofs (disch:=omega) [go_sem]
   refine .inl (call_data c2 (by simp [go_sem]) ?_)
   simp -implicitDefEqProofs (disch:=omega) [go_sem]
   generalize hC:(fun k=>crossN k (o1.n,o2.n,o1.sent,o2.sent)) = C at *
   have hC2:∀ k,crossN k (o1.n,o2.n,o1.sent,o2.sent) = C k:=fun k=>by rw [<- hC]
   simp only [hC2] at hcr hcl h0 hr
   refine loop_ren (σ:={ k:Nat // k≤6 }) (fun k=>⟨envL [(2,.ptr 0 0),(3,.ptr 1 0),(5,.data (.int .i64 i)),(7,.data (.sl 3 (pks (C k.1).2.2.1))),(10,.data (.sl 3 (pks (C k.1).2.2.2))),(12,.data (.int .i64 k.1))],hpL [(0,.blk true ((ngL (C k.1).1).map D.data)),(1,.blk true ((ngL (C k.1).2.1).map D.data))],2,0,95⟩) (fun k=>6 - k.1) ⟨0,by omega⟩ [] (rhoL [(0,some 0),(1,some 1)]) ?_ ?_
   · apply ren_lists <;> simp -implicitDefEqProofs [go_sem,ngL,h0]
   rintro ⟨k,hk⟩
   by_cases hk6:k < 6
   · have hq:=hcr k
     have hcl:=hcl k
     clear hcr h0 hst c1 c2 hC hC2
     generalize hCk:C k = q at *
     obtain ⟨X,Y,S,T⟩:=q
     obtain ⟨qx,qy,qs,qt,ql,qm⟩:=hq
     simp only at qx qy qs qt ql qm
     have hpow:3 ^ (k + 1)≤729:=Nat.le_trans (Nat.pow_le_pow_right (by decide) (show k + 1≤6 by omega)) (by decide)
     simp only [hCk]
     unfold ngL
     simp -implicitDefEqProofs (disch:=omega) [go_sem]
     refine loop_ren (σ:={ j:Nat // j≤S.length }) (fun j=>⟨envL [(2,.ptr 0 0),(3,.ptr 1 0),(5,.data (.int .i64 i)),(7,.data (.sl 3 (pks S))),(10,.data (.sl 3 (pks T))),(12,.data (.int .i64 k)),(13,.ref 2 0 (handN Y (S.take j.1)).2.length 3),(14,.data (.int .i64 j.1))],hpL [(0,.blk true ((ngL X).map D.data)),(1,.blk true ((ngL (handN Y (S.take j.1)).1).map D.data)),(2,.blk true ((flat (pks (handN Y (S.take j.1)).2)).map D.data))],3,0,95⟩) (fun j=>S.length - j.1) ⟨0,by omega⟩ [] (rhoL [(0,some 0),(1,some 1),(2,none)]) ?_ ?_
     · apply ren_lists <;> simp -implicitDefEqProofs [go_sem,ngL,handN,pks,flat]
     rintro ⟨j,hj⟩
     by_cases hjS:j < S.length
     · obtain ⟨w1,w2,w3⟩:=hand_ok (S.take j) Y qy fun p hp=>qs p (List.mem_of_mem_take hp)
       have hjl:(S.take j).length≤729:=by rw [List.length_take];omega
       have hsj:=qs _ (List.getElem_mem hjS)
       have hst:=hand_take Y S j hjS
       have c3:=hp.take (handN Y (S.take j)).1 S[j] w1.1 w1.2 hsj.1 hsj.2
       have hsl:=(take_outS (handN Y (S.take j)).1 S[j]).1
       generalize handN Y (S.take j) = W at *
       generalize takeN W.1 S[j] = o at *
       unfold didN ng at c3
       unfold pk at c3
       rw [nums_is] at c3
       unfold ngL at c3 ⊢
       simp -implicitDefEqProofs (disch:=omega) [go_sem,pk]
       refine .inl (call_data c3 (by simp [go_sem]) ?_)
       simp -implicitDefEqProofs (disch:=omega) [go_sem]
       refine side (by kernel_rfl) ?_
       simp -implicitDefEqProofs (disch:=omega) [go_sem,flat_pks]
       refine side (pkcell _) ?_
       simp -implicitDefEqProofs (disch:=omega) [go_sem,flat_pks]
       refine next_ren ⟨j + 1,by omega⟩ (by simp only;omega) [] (rhoL [(0,some 0),(1,some 1),(2,some 25)]) ?_
       simp only [hst]
       apply ren_lists <;> simp -implicitDefEqProofs [go_sem,ngL]
       exact renCells_plain (by rw [pks_app]) (by simp [plainD])
     have:j = S.length:=by omega
     subst this
     simp only [List.take_length]
     have wS:=hand_ok S Y qy qs
     have hwS:handN Y S = ((C (k + 1)).2.1,(C (k + 1)).2.2.2):=by rw [hcl];rfl
     rw [hwS] at wS
     simp only [hwS]
     generalize hY2:(C (k + 1)).2.1 = Y2 at *
     generalize hB:(C (k + 1)).2.2.2 = B at *
     obtain ⟨wy,wb,wl⟩:=wS
     unfold ngL
     simp -implicitDefEqProofs (disch:=omega) [go_sem]
     refine loop_ren (σ:={ j:Nat // j≤T.length }) (fun j=>⟨envL [(2,.ptr 0 0),(3,.ptr 1 0),(5,.data (.int .i64 i)),(7,.ref 2 0 (handN X (T.take j.1)).2.length 3),(10,.data (.sl 3 (pks T))),(12,.data (.int .i64 k)),(13,.data (.sl 3 (pks B))),(18,.data (.int .i64 j.1))],hpL [(0,.blk true ((ngL (handN X (T.take j.1)).1).map D.data)),(1,.blk true ((ngL Y2).map D.data)),(2,.blk true ((flat (pks (handN X (T.take j.1)).2)).map D.data))],3,0,95⟩) (fun j=>T.length - j.1) ⟨0,by omega⟩ [2] (rhoL [(0,some 0),(1,some 1),(2,none)]) ?_ ?_
     · apply ren_lists <;> simp -implicitDefEqProofs [go_sem,ngL,handN,flat]
       · exact frz_ref (rw:=false) (cells:=(flat (pks B)).map D.data) (by simp [fzH,hpL,fz,flat]) (.inr rfl) (pks_length _) (pks_cells _) rfl
       · intro x hx;cases hx
     rintro ⟨j,hj⟩
     by_cases hjT:j < T.length
     · obtain ⟨w1,w2,w3⟩:=hand_ok (T.take j) X qx fun p hp=>qt p (List.mem_of_mem_take hp)
       have hjl:(T.take j).length≤729:=by rw [List.length_take];omega
       have hsj:=qt _ (List.getElem_mem hjT)
       have hst:=hand_take X T j hjT
       have c3:=hp.take (handN X (T.take j)).1 T[j] w1.1 w1.2 hsj.1 hsj.2
       have hsl:=(take_outS (handN X (T.take j)).1 T[j]).1
       generalize handN X (T.take j) = W at *
       generalize takeN W.1 T[j] = o at *
       unfold didN ng at c3
       unfold pk at c3
       rw [nums_is] at c3
       unfold ngL at c3 ⊢
       simp -implicitDefEqProofs (disch:=omega) [go_sem,pk]
       refine .inl (call_data c3 (by simp [go_sem]) ?_)
       simp -implicitDefEqProofs (disch:=omega) [go_sem]
       refine side (by kernel_rfl) ?_
       simp -implicitDefEqProofs (disch:=omega) [go_sem,flat_pks]
       refine side (pkcell _) ?_
       simp -implicitDefEqProofs (disch:=omega) [go_sem,flat_pks]
       refine next_ren ⟨j + 1,by omega⟩ (by simp only;omega) [] (rhoL [(0,some 0),(1,some 1),(2,some 25)]) ?_
       simp only [hst]
       apply ren_lists <;> simp -implicitDefEqProofs [go_sem,ngL]
       exact renCells_plain (by rw [pks_app]) (by simp [plainD])
     have:j = T.length:=by omega
     subst this
     simp only [List.take_length]
     have hwT:handN X T = ((C (k + 1)).1,(C (k + 1)).2.2.1):=by rw [hcl];rfl
     simp only [hwT]
     unfold ngL
     simp -implicitDefEqProofs (disch:=omega) [go_sem]
     refine next_ren ⟨k + 1,by omega⟩ (by simp only;omega) [2] (rhoL [(0,some 0),(1,some 1)]) ?_
     simp only [hY2,hB]
     apply ren_lists <;> simp -implicitDefEqProofs [go_sem,ngL]
     exact frz_ref (rw:=false) (cells:=(flat (pks (C (k + 1)).2.2.1)).map D.data) (by simp [fzH,hpL,fz]) (.inr rfl) (pks_length _) (pks_cells _) rfl
   have:k = 6:=by omega
   subst this
   simp only [hr] at hl
   unfold ngL
   simp -implicitDefEqProofs (disch:=omega) [go_sem]
   refine next_ren ⟨i + 1,by omega⟩ (by simp only;omega) [] (rhoL [(0,some 0),(1,some 1)]) ?_
   simp only [hl]
   apply ren_lists <;> simp -implicitDefEqProofs [go_sem,ngL]
 · have:i = 12:=by omega
   subst this
   generalize roundsN 12 (x0,y0) = z at *
   unfold ngL
   by_cases h1:z.1.a.s = 9
   · by_cases h2:z.2.a.s = 9
     · simp -implicitDefEqProofs (disch:=omega) [go_sem,h1,h2,Tryz.f26]
     · simp -implicitDefEqProofs (disch:=omega) [go_sem,h1,h2,Tryz.f26]
   · simp -implicitDefEqProofs (disch:=omega) [go_sem,h1,Tryz.f26]
set_option maxHeartbeats 4000000 in
theorem opened_pc (hp:ProgN Γ) (n:Ng) (h:OkN n):PC Tryz.prog Γ 24 [ng n] (didN (doN (doN n 2).n 0)):=by
 refine pc_by mixed Tryz.func24 rfl (fun args w=>Tryz.call24 args w) ?_
 have c1:=hp.do_ n 2 h.1 h.2
 have h1:=ok_do h 2
 have c2:=hp.do_ _ 0 h1.1 h1.2
 unfold didN ng at c1 c2 ⊢
 rw [nums_is] at c1 c2 ⊢
 generalize doN (doN n 2).n 0 = o2 at *
 generalize doN n 2 = o1 at *
 unfold ngL at *
 simp -implicitDefEqProofs (disch:=omega) [go_sem]
 refine .inl (call_data c1 (by simp [go_sem]) ?_)
 simp -implicitDefEqProofs (disch:=omega) [go_sem]
 refine .inl (call_data c2 (by simp [go_sem]) ?_)
 simp -implicitDefEqProofs (disch:=omega) [go_sem,Tryz.f24]
theorem at_ok (m o:Nat) (hm:m < 4294967296) (ho:o < 4294967296):OkN (atN 6 4 3 1 m o []):=by
 refine ⟨⟨⟨hm,ho,by show 0 < 4294967296;decide,by show 0 < 4294967296;decide⟩,by show 1 < 256;decide,fun x hx=>?_,by simp [atN],(fun x hx=>by cases hx)⟩,rightN_iff.2 ⟨(by decide:RightA ⟨6,4,3,1⟩),(by decide:(0:Int)≤0∧(0:Int)≤3),ok_five m,fun x hx _=>?_⟩⟩
 · rw [List.mem_singleton.1 hx];exact ⟨by show 5 < 256;decide,four_lt hm⟩
 · rw [List.mem_singleton.1 hx];rfl
set_option maxHeartbeats 8000000 in
theorem npeer_pc (hp:ProgN Γ) (a b c:Nat) (ha:a < 4294967296) (hb:b < 4294967296) (hc:c < 4294967296):PC Tryz.prog Γ 6 [.int .u32 a,.int .u32 b,.int .u32 c] (.bool true):=by
 refine pc_by mixed Tryz.func6 rfl (fun args w=>Tryz.call6 args w) ?_
 simp -implicitDefEqProofs (disch:=omega) [go_sem]
 refine .inl (call_data (shown14_pc Γ hp) (by simp [go_sem]) ?_)
 by_cases e1:a = b
 · have e1:(a:Int) = b:=by omega
   simp -implicitDefEqProofs (disch:=omega) [go_sem,e1,Tryz.f6]
 have i1:¬ (a:Int) = b:=by omega
 by_cases e2:a = 0
 · have e2:(a:Int) = 0:=by omega
   have e3:¬ (0:Int) = b:=by omega
   simp -implicitDefEqProofs (disch:=omega) [go_sem,e2,e3,Tryz.f6]
 have i2:¬ (a:Int) = 0:=by omega
 by_cases e3:b = 0
 · have e3:(b:Int) = 0:=by omega
   simp -implicitDefEqProofs (disch:=omega) [go_sem,e3,i2,Tryz.f6]
 have i3:¬ (b:Int) = 0:=by omega
 by_cases e4:c = 0
 · have e4:(c:Int) = 0:=by omega
   simp -implicitDefEqProofs (disch:=omega) [go_sem,e4,i1,i2,i3,Tryz.f6]
 have i4:¬ (c:Int) = 0:=by omega
 by_cases e5:c = a
 · have e5:(c:Int) = a:=by omega
   simp -implicitDefEqProofs (disch:=omega) [go_sem,e5,i1,i2,i3,Tryz.f6]
 have i5:¬ (c:Int) = a:=by omega
 by_cases e6:c = b
 · have e6:(c:Int) = b:=by omega
   have e7:¬ (b:Int) = a:=by omega
   simp -implicitDefEqProofs (disch:=omega) [go_sem,e6,e7,i1,i2,i3,Tryz.f6]
 have i6:¬ (c:Int) = b:=by omega
 have rT:∀ m:Nat,m < 4294967296->(⟨false,m,c,0,0⟩:Rule).Ty:=fun m hm=>⟨hm,hc,by show 0 < 4294967296;decide,by show 0 < 4294967296;decide⟩
 have n1:PC Tryz.prog Γ 23 [.agg [.bool false,.int .u32 a,.int .u32 c,.int .u32 0,.int .u32 0]] (ng (newN ⟨false,a,c,0,0⟩)):=hp.new _ (rT a ha)
 have n2:PC Tryz.prog Γ 23 [.agg [.bool false,.int .u32 b,.int .u32 c,.int .u32 0,.int .u32 0]] (ng (newN ⟨false,b,c,0,0⟩)):=hp.new _ (rT b hb)
 have k1:OkN (newN ⟨false,a,c,0,0⟩):=⟨new_ty (rT a ha),new_right _⟩
 have k2:OkN (newN ⟨false,b,c,0,0⟩):=⟨new_ty (rT b hb),new_right _⟩
 have o1:=opened_pc Γ hp _ k1
 have o2:=opened_pc Γ hp _ k2
 unfold didN at o1 o2
 rw [show (doN (doN (newN ⟨false,a,c,0,0⟩) 2).n 0).n = _ from opened_at a c] at o1
 rw [show (doN (doN (newN ⟨false,b,c,0,0⟩) 2).n 0).n = _ from opened_at b c] at o2
 have d1:=rdrop_pc Γ (askR ⟨false,a,c,0,0⟩) 3 (by have:=(ask_few ⟨false,a,c,0,0⟩).1;omega)
 have d2:=rdrop_pc Γ (askR ⟨false,b,c,0,0⟩) 3 (by have:=(ask_few ⟨false,b,c,0,0⟩).1;omega)
 rw [drop_ask] at d1 d2
 have ag:=agree_pc Γ hp _ _ (at_ok a c ha hc) (at_ok b c hb hc)
 rw [agree_at a b c ha hb e1 e2 e3,decide_eq_true ⟨rfl,rfl⟩] at ag
 generalize (doN (doN (newN ⟨false,a,c,0,0⟩) 2).n 0).sent = s1 at *
 generalize (doN (doN (newN ⟨false,a,c,0,0⟩) 2).n 0).told = t1 at *
 generalize (doN (doN (newN ⟨false,b,c,0,0⟩) 2).n 0).sent = s2 at *
 generalize (doN (doN (newN ⟨false,b,c,0,0⟩) 2).n 0).told = t2 at *
 unfold newN at *
 unfold atN ng ngL at *
 simp only [nums_is] at o1 o2
 generalize askR ⟨false,a,c,0,0⟩ = A1 at *
 generalize askR ⟨false,b,c,0,0⟩ = A2 at *
 simp -implicitDefEqProofs (disch:=omega) [go_sem,i1,i2,i3,i4,i5,i6]
 refine .inl (call_data n1 (by simp [go_sem]) ?_)
 simp -implicitDefEqProofs (disch:=omega) [go_sem]
 refine .inl (call_data n2 (by simp [go_sem]) ?_)
 simp -implicitDefEqProofs (disch:=omega) [go_sem]
 refine .inl (call_data o1 (by simp [go_sem]) ?_)
 simp -implicitDefEqProofs (disch:=omega) [go_sem]
 refine .inl (call_data o2 (by simp [go_sem]) ?_)
 simp -implicitDefEqProofs (disch:=omega) [go_sem]
 refine .inl (call_data d1 (by simp [go_sem]) ?_)
 simp -implicitDefEqProofs (disch:=omega) [go_sem]
 refine .inl (call_data d2 (by simp [go_sem]) ?_)
 simp -implicitDefEqProofs (disch:=omega) [go_sem]
 refine .inl (call_data ag (by simp [go_sem]) ?_)
 simp -implicitDefEqProofs (disch:=omega) [go_sem,Tryz.f6]
end
end Ne
namespace Ne
open Op9 Ru Fs Pa
section
variable (Γ:Nat->Option (List Data))
theorem at_NegoDoes (hp:ProgN Γ) {x0 x1 x2:Data} (a0:argD Tryz.prog 8 29 x0) (a1:argD Tryz.prog 8 3 x1) (a2:argD Tryz.prog 8 32 x2):PC Tryz.prog Γ 3 [x0,x1,x2] (.bool true):=by
 obtain ⟨n,hn,rfl⟩:=arg_nego a0
 obtain ⟨e,_,_,rfl⟩:=arg_i64 Tryz.underlying3 a1
 obtain ⟨p,⟨h1,h2⟩,rfl⟩:=arg_pkt a2
 exact ndoes_pc Γ hp n e p hn h1 h2
theorem at_NegoRight (hp:ProgN Γ) {x0 x1 x2:Data} (a0:argD Tryz.prog 8 29 x0) (a1:argD Tryz.prog 8 3 x1) (a2:argD Tryz.prog 8 32 x2):PC Tryz.prog Γ 4 [x0,x1,x2] (.bool true):=by
 obtain ⟨n,hn,rfl⟩:=arg_nego a0
 obtain ⟨e,_,_,rfl⟩:=arg_i64 Tryz.underlying3 a1
 obtain ⟨p,⟨h1,h2⟩,rfl⟩:=arg_pkt a2
 exact nright_pc Γ hp n e p hn h1 h2
theorem at_NegoAcks (hp:ProgN Γ) {x0 x1:Data} (a0:argD Tryz.prog 8 29 x0) (a1:argD Tryz.prog 8 32 x1):PC Tryz.prog Γ 5 [x0,x1] (.bool true):=by
 obtain ⟨n,hn,rfl⟩:=arg_nego a0
 obtain ⟨p,⟨h1,h2⟩,rfl⟩:=arg_pkt a1
 exact nacks_pc Γ hp n p hn h1 h2
theorem at_NegoPeer (hp:ProgN Γ) {x0 x1 x2:Data} (a0:argD Tryz.prog 8 24 x0) (a1:argD Tryz.prog 8 24 x1) (a2:argD Tryz.prog 8 24 x2):PC Tryz.prog Γ 6 [x0,x1,x2] (.bool true):=by
 obtain ⟨a,ha,rfl⟩:=arg_nat (k:=.u32) rfl Tryz.underlying24 a0
 obtain ⟨b,hb,rfl⟩:=arg_nat (k:=.u32) rfl Tryz.underlying24 a1
 obtain ⟨c,hc,rfl⟩:=arg_nat (k:=.u32) rfl Tryz.underlying24 a2
 exact npeer_pc Γ hp a b c ha hb hc
theorem at_NegoCodes (hp:ProgN Γ) {x0 x1:Data} (a0:argD Tryz.prog 8 29 x0) (a1:argD Tryz.prog 8 32 x1):PC Tryz.prog Γ 7 [x0,x1] (.bool true):=by
 obtain ⟨n,hn,rfl⟩:=arg_nego a0
 obtain ⟨p,⟨h1,h2⟩,rfl⟩:=arg_pkt a1
 exact ncodes_pc Γ hp n p hn h1 h2
theorem at_NegoEchoes (hp:ProgN Γ) {x0 x1 x2:Data} (a0:argD Tryz.prog 8 29 x0) (a1:argD Tryz.prog 8 5 x1) (a2:argD Tryz.prog 8 30 x2):PC Tryz.prog Γ 8 [x0,x1,x2] (.bool true):=by
 obtain ⟨n,hn,rfl⟩:=arg_nego a0
 obtain ⟨i,hi,rfl⟩:=arg_nat (k:=.u8) rfl Tryz.underlying5 a1
 obtain ⟨d,hd,hl,rfl⟩:=arg_bytes Tryz.underlying30 Tryz.underlying5 (by kernel_rfl) a2
 exact nechoes_pc Γ hp n i d hn hi hd hl
end
end Ne
section
variable (P:Program) (Γ:Nat->Option (List Data))
/-- Code,for whatever world stands behind a state. -/
def WP (c:Code) (Q:Exit->St->Prop) (s:St):Prop:=∀ (L0:Nat->Prop) (w0:W0) (m:Nat->MB) (a:Act) (w:World),Rel Γ L0 w0 m s a w->c.wp P (Lifts Γ L0 w0 m s w Q) a w
end
section
variable {P:Program} {Γ:Nat->Option (List Data)} {L0:Nat->Prop} {w0:W0}
theorem WP.code (hm:P.follows .mixedOrders = true) {c:Code} {Q:Exit->St->Prop} {s:St} (h:wpF P Γ c Q s):WP P Γ c Q s:=fun L0 w0 m a w hr=>wp_sound hm c Q m s a w hr h
theorem WP.seq (hm:P.follows .mixedOrders = true) {x y:Code} {Q:Exit->St->Prop} {s:St} (h:wpF P Γ x (thenW (WP P Γ y Q) Q) s):WP P Γ (.seq x y) Q s:=fun L0 w0 m a w hr=>by
 refine wp_seq (wp_mono (wp_sound hm x _ m s a w hr h) fun e a' w' ⟨m',s',h1,h2,h3⟩=>?_)
 cases e with
 | normal=>exact wp_mono (h3 L0 w0 m' a' w' h1) fun e a'' w'' ⟨m'',s'',h4,h5,h6⟩=>⟨m'',s'',h4,h2.trans h5,h6⟩
 | exit id=>exact ⟨m',s',h1,h2,h3⟩
 | goto l=>exact ⟨m',s',h1,h2,h3⟩
 | ret=>exact ⟨m',s',h1,h2,h3⟩
 | panic ch=>exact ⟨m',s',h1,h2,h3⟩
 | outgrown=>exact ⟨m',s',h1,h2,h3⟩
end
/-- Where ways meet: less may be said there. -/
def JoinX (S s:St):Prop:=WeakX s S
def joinW (S:St) (Q:Exit->St->Prop):Exit->St->Prop
 | .normal,s=>JoinX S s
 | e,s=>Q e s
@[go_sem] theorem joinW_normal (S:St) (Q:Exit->St->Prop) (s:St):joinW S Q .normal s = JoinX S s:=rfl
@[go_sem] theorem joinW_exit (S:St) (Q:Exit->St->Prop) (s:St) (id:Nat):joinW S Q (.exit id) s = Q (.exit id) s:=rfl
@[go_sem] theorem joinW_ret (S:St) (Q:Exit->St->Prop) (s:St):joinW S Q .ret s = Q .ret s:=rfl
@[congr] theorem joinW_congr {n0:Nat} (tk:tick = n0) (S:St) (Q:Exit->St->Prop) (x:Exit) (s:St):joinW S Q x s = joinW S Q x s:=rfl
@[congr] theorem JoinX_congr {n0:Nat} (tk:tick = n0) (S s:St):JoinX S s = JoinX S s:=rfl
@[congr] theorem WP_congr {n0:Nat} (tk:tick = n0) (P:Program) (Γ:Nat->Option (List Data)) (c:Code) (Q:Exit->St->Prop) (s:St):WP P Γ c Q s = WP P Γ c Q s:=rfl
section
variable {P:Program} {Γ:Nat->Option (List Data)}
/-- Less may be said of a state. -/
theorem WP.weak {c:Code} {Q:Exit->St->Prop} {s S:St} (hj:JoinX S s) (h:WP P Γ c Q S):WP P Γ c Q s:=fun L0 w0 m a w hr=>by
 obtain ⟨m2,k1,k2⟩:=weakX_rel hr hj
 exact wp_mono (h L0 w0 m2 a w k1) fun e a'' w'' ⟨m'',s'',h4,h5,h6⟩=>⟨m'',s'',h4,k2.trans h5,h6⟩
/-- A row of the call's own has room for one more behind it,or it is as long as it can be: then it is plain data,nobody writes it any more (S: the state in which it is frozen). -/
theorem WP.room {c:Code} {Q:Exit->St->Prop} {s S:St} (t g len es g2:Nat) (l:List Data) (hpos:0 < len) (ht:s.env t = .ref g 0 len es) (h1:WP P Γ c Q ⟨Env.set s.env t (.cut g 0 len (len + 1) es),s.hp,s.nx,s.lo,s.nt⟩)
 (hj:JoinX S s) (hS:S.env t = .ref g2 0 len es) (hg2:S.hp g2 = .blk false ((flat l).map D.data)) (hll:l.length = len) (hes:∀ x∈l,x.cells.length = es) (h2:WP P Γ c Q ⟨Env.set S.env t (.ful es l),S.hp,S.nx,S.lo,S.nt⟩):WP P Γ c Q s:=fun L0 w0 m a w hr=>by
 have hv:=hr.vals t
 rw [ht] at hv
 generalize hvv:a.tmps.getD t undef = v at hv
 cases hv with
 | ref0=>omega
 | ref _ _ _ _ b sz cap o j1 j2 j3 j4 j5 =>
   by_cases hc:len + 1≤cap
   · have hr1:Rel Γ L0 w0 m ⟨Env.set s.env t (.cut g 0 len (len + 1) es),s.hp,s.nx,s.lo,s.nt⟩ a w:=⟨hr.defers,(fun k=>by
      by_cases e:k = t
      · subst e
        rw [hvv]
        simp only [Env.set,if_pos]
        exact .cut g 0 len (len + 1) es b sz cap o j1 j2 j3 (by omega) hc j5
      · simp only [Env.set,if_neg e]
        exact hr.vals k),hr.heap,hr.res,hr.dead,hr.below,hr.l0,hr.glob,hr.lo,hr.slots⟩
     exact wp_mono (h1 L0 w0 m a w hr1) fun e a'' w'' ⟨m'',s'',h4,h5,h6⟩=>⟨m'',s'',h4,⟨h5.grow,h5.keep,h5.lo,h5.nt⟩,h6⟩
   · obtain ⟨m2,k1,k2⟩:=weakX_rel hr hj
     have hcap:cap = len:=by omega
     subst hcap
     have hv2:=k1.vals t
     rw [hS,hvv] at hv2
     have hz:Frz false S.hp (.ref g2 0 cap es) (.sl es l):=frz_ref (rw:=false) hg2 (.inr rfl) hll hes rfl
     have hvd:VD (Live L0 m2 S.hp) w (.sl es l) (.slice (some ⟨b,o,none⟩) cap cap):=by
      refine hz.vd (L:=Live L0 m2 S.hp) (L':=Live L0 m2 S.hp) (m:=m2) (fun _ h=>h) (fun g' rw cells b' sz' hg hrw hm=>?_) (fun g' rw cells hg hm=>?_) (fun e=>by cases e) hv2
      · have e:rw = false:=by simpa using hrw
        subst e
        rcases k1.heap.blk g' false cells hg with ⟨q,_⟩ | ⟨b2,sz2,vs,ty,q1,_,q3,q4,_,_,q7⟩
        · rw [q] at hm;cases hm
        · rw [q1] at hm;cases hm
          exact ⟨(Array.getElem?_eq_some_iff.1 q4).1,q3 rfl,vs,ty,q4,fun i d hd=>by obtain ⟨v,e1,_,e3⟩:=q7 i d hd;exact ⟨v,e1,e3⟩⟩
      · rcases k1.heap.blk g' rw cells hg with ⟨_,q⟩ | ⟨_,_,_,_,q,_⟩
        · exact q
        · rw [hm] at q;cases q
     have hr2:Rel Γ L0 w0 m2 ⟨Env.set S.env t (.ful es l),S.hp,S.nx,S.lo,S.nt⟩ a w:=⟨k1.defers,(fun k=>by
      by_cases e:k = t
      · subst e
        rw [hvv]
        simp only [Env.set,if_pos]
        exact .ful es l _ _ hvd
      · simp only [Env.set,if_neg e]
        exact k1.vals k),k1.heap,k1.res,k1.dead,k1.below,k1.l0,k1.glob,k1.lo,k1.slots⟩
     exact wp_mono (h2 L0 w0 m2 a w hr2) fun e a'' w'' ⟨m'',s'',h4,h5,h6⟩=>⟨m'',s'',h4,k2.trans ⟨h5.grow,h5.keep,h5.lo,h5.nt⟩,h6⟩
end
/-- A value as the call has it,and as the caller does (σ: the call's number,the caller's). -/
inductive Mv (σ:Nat->Nat->Prop):D->D->Prop where
 | data (x:Data):Mv σ (.data x) (.data x)
 | emp (es:Nat):Mv σ (.emp es) (.emp es)
 | ref (k g off len es:Nat) (h:σ k g):Mv σ (.ref k off len es) (.ref g off len es)
 | ptr (k g off:Nat) (h:σ k g):Mv σ (.ptr k off) (.ptr g off)
 | cptr (cells:List Data):Mv σ (.cptr cells) (.cptr cells)
def MvL (σ:Nat->Nat->Prop) (l l':List D):Prop:=l.length = l'.length∧∀ (i:Nat) (a b:D),l[i]? = some a->l'[i]? = some b->Mv σ a b
theorem MvL.nil {σ:Nat->Nat->Prop}:MvL σ [] []:=⟨rfl,fun i a b h=>by simp at h⟩
theorem MvL.cons {σ:Nat->Nat->Prop} {a b:D} {l l':List D} (h:Mv σ a b) (hl:MvL σ l l'):MvL σ (a :: l) (b :: l') :=
 ⟨by simp [hl.1],fun i x y hx hy=>by
  cases i with
  | zero=>simp at hx hy;subst hx;subst hy;exact h
  | succ i=>exact hl.2 i x y (by simpa using hx) (by simpa using hy)⟩
theorem MvL.app {σ:Nat->Nat->Prop} {a a' b b':List D} (h:MvL σ a a') (hl:MvL σ b b'):MvL σ (a++b) (a'++b'):=by
 refine ⟨by simp [h.1,hl.1],fun i x y hx hy=>?_⟩
 by_cases hi:i < a.length
 · rw [List.getElem?_append_left hi] at hx
   rw [List.getElem?_append_left (by rw [<- h.1];exact hi)] at hy
   exact h.2 i x y hx hy
 · rw [List.getElem?_append_right (by omega)] at hx
   rw [List.getElem?_append_right (by rw [<- h.1];omega),<- h.1] at hy
   exact hl.2 _ x y hx hy
theorem MvL.plain {σ:Nat->Nat->Prop} (l:List Data):MvL σ (l.map D.data) (l.map D.data) :=
 ⟨rfl,fun i a b ha hb=>by
  rw [ha] at hb;cases hb
  rw [List.getElem?_map,Option.map_eq_some_iff] at ha
  obtain ⟨x,_,rfl⟩:=ha
  exact .data x⟩
theorem Mv.down {σ:Nat->Nat->Prop} {L L':Nat->Prop} {w:World} {m m0:Nat->MB} (hm:∀ k g,σ k g->m0 k = m g) (hL:∀ b,L' b->L b) {a b:D} {v:Value} (h:Mv σ a b) (hv:VV L w m b v):VV L' w m0 a v:=by
 have hg:Grow L w L' w:=Grow.less w hL
 cases h with
 | data x=>exact .data _ _ (hv.data_inv.mono hg)
 | emp es=>cases hv with | emp _ a=>exact .emp _ a
 | ref k g off len es h =>
   cases hv with
   | ref _ _ _ _ b sz cap o j1 j2 j3 j4 j5=>exact .ref k off len es b sz cap o ((hm k g h).trans j1) j2 j3 j4 j5
   | ref0 _ _ a j1=>exact .ref0 k es a ((hm k g h).trans j1)
 | ptr k g off h=>cases hv with | ptr _ _ b sz j1=>exact .ptr k off b sz ((hm k g h).trans j1)
 | cptr cells=>cases hv with | cptr _ b off us hb hl hc hu=>exact .cptr cells b off us hb (fun h=>hl (hL _ h)) hc fun i x hx=>(hu i x hx).mono hg
theorem Mv.up {σ:Nat->Nat->Prop} {L L':Nat->Prop} {w:World} {m m0:Nat->MB} (hm:∀ k g,σ k g->m g = m0 k) (hL:∀ b,L' b->L b) {a b:D} {v:Value} (h:Mv σ a b) (hv:VV L w m0 a v):VV L' w m b v:=by
 have hg:Grow L w L' w:=Grow.less w hL
 cases h with
 | data x=>exact .data _ _ (hv.data_inv.mono hg)
 | emp es=>cases hv with | emp _ a=>exact .emp _ a
 | ref k g off len es h =>
   cases hv with
   | ref _ _ _ _ b sz cap o j1 j2 j3 j4 j5=>exact .ref g off len es b sz cap o ((hm k g h).trans j1) j2 j3 j4 j5
   | ref0 _ _ a j1=>exact .ref0 g es a ((hm k g h).trans j1)
 | ptr k g off h=>cases hv with | ptr _ _ b sz j1=>exact .ptr g off b sz ((hm k g h).trans j1)
 | cptr cells=>cases hv with | cptr _ b off us hb hl hc hu=>exact .cptr cells b off us hb (fun h=>hl (hL _ h)) hc fun i x hx=>(hu i x hx).mono hg
/-- What is handed back as plain data: a nil row is an empty one. -/
def AsData (d:D) (r:Data):Prop:=d = .data r ∨ ∃ es es',d = .emp es∧r = .sl es' []
theorem AsData.vd {L:Nat->Prop} {w:World} {m:Nat->MB} {d:D} {r:Data} {v:Value} (h:AsData d r) (hv:VV L w m d v):VD L w r v:=by
 rcases h with rfl | ⟨es,es',rfl,rfl⟩
 · exact hv.data_inv
 · cases hv with
   | emp _ a=>exact .sl es' [] a 0 0 0 0 (fun _=>.nilFunc) rfl (Nat.le_refl _) (Nat.zero_le _) (fun x hx=>by cases hx) (.inr rfl) (fun i x hx=>by simp [flat] at hx) (fun i x hx=>by simp [flat] at hx)
/-- Arguments,as the call has them,and as the caller does. -/
inductive Arg:D->D->Prop where
 | data (y:Data):Arg (.data y) (.data y)
 | cptr (c:List Data):Arg (.cptr c) (.cptr c)
 | emp (es es':Nat):Arg (.data (.sl es' [])) (.emp es)
inductive ArgL:List D->List D->Prop where
 | nil:ArgL [] []
 | cons {x y:D} {l l':List D} (h:Arg x y) (t:ArgL l l'):ArgL (x :: l) (y :: l')
theorem ArgL.len:∀ {l l':List D},ArgL l l'->l.length = l'.length
 | _,_,.nil=>rfl
 | _,_,.cons _ t=>by simp [t.len]
theorem Arg.down {L L':Nat->Prop} {w:World} {m m0:Nat->MB} (hL:∀ b,L' b->L b) {a b:D} {v:Value} (h:Arg a b) (hv:VV L w m b v):VV L' w m0 a v:=by
 have hg:Grow L w L' w:=Grow.less w hL
 cases h with
 | data x=>exact .data _ _ (hv.data_inv.mono hg)
 | cptr cells=>cases hv with | cptr _ b off us hb hl hc hu=>exact .cptr cells b off us hb (fun h=>hl (hL _ h)) hc fun i x hx=>(hu i x hx).mono hg
 | emp es es'=>exact .data _ _ (AsData.vd (L:=L') (m:=m0) (d:=.emp es) (.inr ⟨es,es',rfl,rfl⟩) (by cases hv with | emp _ a=>exact .emp _ a))
theorem ArgL.get:∀ {l l':List D},ArgL l l'->∀ (i:Nat) (a b:D),l[i]? = some a->l'[i]? = some b->Arg a b
 | _,_,.nil,i,a,b,ha,_=>by simp at ha
 | _,_,.cons h t,0,a,b,ha,hb=>by simp at ha hb;subst ha;subst hb;exact h
 | _,_,.cons h t,i + 1,a,b,ha,hb=>t.get i a b (by simpa using ha) (by simpa using hb)
theorem argL_vv {L L':Nat->Prop} {w:World} {m m0:Nat->MB} {d0 d1:D} {xs0 xs:List D} {vs:Array Value} (hL:∀ b,L' b->L b) (h0:∀ v,VV L w m d1 v->VV L' w m0 d0 v) (hx:ArgL xs0 xs)
 (hv:∀ (i:Nat) (d:D) (v:Value),(d1 :: xs)[i]? = some d->vs[i]? = some v->VV L w m d v) (i:Nat) (d:D) (v:Value) (hd:(d0 :: xs0)[i]? = some d) (hvi:vs[i]? = some v):VV L' w m0 d v:=by
 cases i with
 | zero =>
   simp only [List.getElem?_cons_zero,Option.some.injEq] at hd
   subst hd
   exact h0 v (hv 0 d1 v rfl hvi)
 | succ i =>
   rw [List.getElem?_cons_succ] at hd
   have hi:i < xs.length:=by rw [<- hx.len];exact (List.getElem?_eq_some_iff.1 hd).1
   exact (hx.get i d _ hd (List.getElem?_eq_getElem hi)).down hL (hv (i + 1) _ v (by rw [List.getElem?_cons_succ];exact List.getElem?_eq_getElem hi) hvi)
/-- The call's number,the caller's: what is lent. -/
def lentS (gs:List Nat) (k g:Nat):Prop:=gs[k]? = some g
def lentN (m:Nat->MB) (gs:List Nat):Nat->MB:=fun i=>match gs[i]? with
 | some g=>m g
 | none=>.res
/-- What is live elsewhere,where rows are lent. -/
def lentE (L0:Nat->Prop) (m:Nat->MB) (H:Nat->Blk) (gs:List Nat):Nat->Prop:=fun b=>Live L0 m H b∧∀ g∈gs,∀ sz,m g≠.at b sz
/-- Behind the call: the caller's number,if it is one of those that the call hands back: the call's. -/
def backM (m m':Nat->MB) (T:Nat->Option Nat):Nat->MB:=fun q=>match T q with
 | some k=>m' k
 | none=>m q
section
variable {Γ:Nat->Option (List Data)} {L0:Nat->Prop} {w0:W0} {m:Nat->MB} {H:Nat->Blk} {w:World}
theorem lentN_at {gs:List Nat} {i g:Nat} (h:gs[i]? = some g):lentN m gs i = m g:=by simp [lentN,h]
theorem lendN (h:WR Γ L0 w0 m H w) {gs:List Nat} {H0:Nat->Blk} (hnd:∀ (i j g:Nat),gs[i]? = some g->gs[j]? = some g->i = j)
 (hrow:∀ (i g:Nat),gs[i]? = some g->∃ c0 c1,H0 i = .blk true c0∧H g = .blk true c1∧MvL (lentS gs) c0 c1) (hdead:∀ (i:Nat),gs.length≤i->H0 i = .dead) :
 WR Γ (lentE L0 m H gs) ⟨w,0,Nat.zero_le _⟩ (lentN m gs) H0 w∧∀ b,Live (lentE L0 m H gs) (lentN m gs) H0 b ↔ Live L0 m H b:=by
 have hin:∀ i,H0 i≠.dead->∃ g,gs[i]? = some g:=fun i hi=>by
  by_cases e:i < gs.length
  · exact ⟨gs[i],List.getElem?_eq_getElem e⟩
  · exact absurd (hdead i (by omega)) hi
 have hlive:∀ b,Live (lentE L0 m H gs) (lentN m gs) H0 b ↔ Live L0 m H b:=by
  intro b
  constructor
  · rintro (hb | ⟨q,sz,hq,hm⟩)
    · exact hb.1
    · obtain ⟨g,hg⟩:=hin q (fun e=>by rw [e] at hq;cases hq)
      obtain ⟨c0,c1,e0,e1,_⟩:=hrow q g hg
      exact .inr ⟨g,sz,by rw [e1];rfl,by rw [lentN_at hg] at hm;exact hm⟩
  · intro hb
    by_cases e:∃ g,g∈gs∧∃ sz,m g = .at b sz
    · obtain ⟨g,hg,sz,e⟩:=e
      obtain ⟨i,hi⟩:=List.getElem?_of_mem hg
      obtain ⟨c0,c1,e0,e1,_⟩:=hrow i g hi
      exact .inr ⟨i,sz,by rw [e0];rfl,by rw [lentN_at hi];exact e⟩
    · exact .inl ⟨hb,fun g hg sz k=>e ⟨g,hg,sz,k⟩⟩
 have vv:∀ {a b:D} {v:Value},Mv (lentS gs) a b->VV (Live L0 m H) w m b v->VV (Live (lentE L0 m H gs) (lentN m gs) H0) w (lentN m gs) a v:=fun hab hv=>hab.down (fun k g hk=>lentN_at hk) (fun b hb=>(hlive b).1 hb) hv
 refine ⟨⟨⟨?_,?_,?_,?_⟩,⟨rfl,rfl,rfl,Nat.le_refl _,fun k hk=>absurd hk (Nat.not_lt_zero k)⟩,fun b hb=>⟨h.live_lt hb.1,rfl⟩,h.glob.mono (Grow.less w fun b hb=>(hlive b).1 hb)⟩,hlive⟩
 · intro q rw cs hq
   obtain ⟨g,hg⟩:=hin q (fun e=>by rw [e] at hq;cases hq)
   obtain ⟨c0,c1,e0,e1,hc⟩:=hrow q g hg
   rw [e0] at hq;cases hq
   rcases h.heap.blk g true _ e1 with ⟨k1,k2⟩ | ⟨b,sz,vs,ty,k1,k2,k3,k4,k5,k6,k7⟩
   · subst k2
     exact .inl ⟨by rw [lentN_at hg];exact k1,List.eq_nil_of_length_eq_zero (by rw [hc.1];rfl)⟩
   · refine .inr ⟨b,sz,vs,ty,by rw [lentN_at hg];exact k1,⟨Nat.zero_le _,fun hl=>hl.2 g (List.mem_of_getElem? hg) sz k1⟩,(fun e=>by cases e),k4,k5,by rw [hc.1];exact k6,fun i d hd=>?_⟩
     have hi:i < c1.length:=by rw [<- hc.1];exact (List.getElem?_eq_some_iff.1 hd).1
     obtain ⟨v,hv,h1c,hvv⟩:=k7 i c1[i] (List.getElem?_eq_getElem hi)
     exact ⟨v,hv,h1c,vv (hc.2 i d _ hd (List.getElem?_eq_getElem hi)) hvv⟩
 · intro q q' cs rw' cs' b sz sz' hq hq' hm1 hm2
   obtain ⟨g,hg⟩:=hin q (fun e=>by rw [e] at hq;cases hq)
   obtain ⟨g',hg'⟩:=hin q' (fun e=>by rw [e] at hq';cases hq')
   obtain ⟨c0,c1,e0,e1,_⟩:=hrow q g hg
   obtain ⟨c0',c1',e0',e1',_⟩:=hrow q' g' hg'
   rw [lentN_at hg] at hm1
   rw [lentN_at hg'] at hm2
   have:=h.inj (g:=g) (g':=g') (by rw [e1];rfl) (fun e=>by rw [e1'] at e;cases e) hm1 hm2
   subst this
   exact hnd q q' g hg hg'
 · intro q o hq
   obtain ⟨g,hg⟩:=hin q (fun e=>by rw [e] at hq;cases hq)
   obtain ⟨c0,c1,e0,_⟩:=hrow q g hg
   rw [e0] at hq;cases hq
 · intro q q' o o' b sz sz' hq _ _ _
   obtain ⟨g,hg⟩:=hin q (fun e=>by rw [e] at hq;cases hq)
   obtain ⟨c0,c1,e0,_⟩:=hrow q g hg
   rw [e0] at hq;cases hq
theorem lentN_back (h:WR Γ L0 w0 m H w) {gs:List Nat} (hgs:∀ g∈gs,∃ c,H g = .blk true c) {m':Nat->MB} {H':Nat->Blk} {w':World}
 (k1:WR Γ (lentE L0 m H gs) ⟨w,0,Nat.zero_le _⟩ m' H' w') (k2:Grow (Live L0 m H) w (Live (lentE L0 m H gs) m' H') w') (hm0:∀ (i g:Nat),gs[i]? = some g->m' i = m g) {T:Nat->Option Nat} {H2:Nat->Blk}
 (hT:∀ q k,T q = some k->(∃ c0 c1,H' k = .blk true c0∧H2 q = .blk true c1∧MvL (fun k g=>T g = some k) c0 c1)∧(gs[k]? = some q ∨ (q ∉ gs∧m q = .res)))
 (hi:∀ q q' k,T q = some k->T q' = some k->q = q') (hN:∀ q,T q = none->q ∉ gs->H2 q = H q) (hD:∀ q,T q = none->q∈gs->H2 q = .dead) :
 WR Γ L0 w0 (backM m m' T) H2 w'∧Grow (Live L0 m H) w (Live L0 (backM m m' T) H2) w'∧(∀ b,Live L0 (backM m m' T) H2 b->Live (lentE L0 m H gs) m' H' b)∧∀ q,m q≠.res->backM m m' T q = m q:=by
 have hown:∀ g∈gs,∀ b sz,m g = .at b sz->Own L0 w0.base b:=fun g hg b sz hm=>by
  obtain ⟨c,hc⟩:=hgs g hg
  rcases h.heap.blk g true _ hc with ⟨j1,_⟩ | ⟨b',sz',vs,ty,j1,j2,_⟩
  · rw [j1] at hm;cases hm
  · rw [j1] at hm;cases hm;exact j2
 have hgl:∀ g∈gs,∀ b sz,m g = .at b sz->Live L0 m H b:=fun g hg b sz hm=>by
  obtain ⟨c,hc⟩:=hgs g hg
  exact .inr ⟨g,sz,by rw [hc];rfl,hm⟩
 have hMt:∀ {q k},T q = some k->backM m m' T q = m' k:=fun e=>by simp [backM,e]
 have hMn:∀ {q},T q = none->backM m m' T q = m q:=fun e=>by simp [backM,e]
 have hM:∀ q,m q≠.res->backM m m' T q = m q:=fun q hq=>by
  cases e:T q with
  | none=>exact hMn e
  | some k =>
    rw [hMt e]
    rcases (hT q k e).2 with e1 | ⟨_,e2⟩
    · exact hm0 k q e1
    · exact absurd e2 hq
 have other:∀ q b sz,q ∉ gs->H q≠.dead->m q = .at b sz->∀ g∈gs,∀ s,m g≠.at b s:=fun q b sz e hq hm g hg s hs=>by
  obtain ⟨c,hc⟩:=hgs g hg
  have:=h.inj (g:=g) (g':=q) (by rw [hc];rfl) hq hs hm
  subst this
  exact e hg
 have sub:∀ b,Live L0 (backM m m' T) H2 b->Live (lentE L0 m H gs) m' H' b:=by
  rintro b (hb | ⟨q,sz,hq,hm⟩)
  · exact .inl ⟨.inl hb,fun g hg sz e=>(hown g hg b sz e).2 hb⟩
  · cases e:T q with
    | some k =>
      obtain ⟨⟨c0,c1,e0,e1,_⟩,_⟩:=hT q k e
      rw [hMt e] at hm
      exact .inr ⟨k,sz,by rw [e0];rfl,hm⟩
    | none =>
      by_cases e2:q∈gs
      · rw [hD q e e2] at hq;cases hq
      · rw [hN q e e2] at hq;rw [hMn e] at hm
        exact .inl ⟨.inr ⟨q,sz,hq,hm⟩,other q b sz e2 (fun e3=>by rw [e3] at hq;cases hq) hm⟩
 have newb:∀ q k,T q = some k->∀ b sz,m' k = .at b sz->b < w.heap.size->∃ g,g∈gs∧∃ s,m g = .at b s:=fun q k e b sz hm hb=>Classical.byContradiction fun hno=>by
  obtain ⟨⟨c0,c1,e0,e1,_⟩,_⟩:=hT q k e
  have hl:Live L0 m H b:=Classical.byContradiction fun hl=>(k2.keep b hb hl).2 (.inr ⟨k,sz,by rw [e0];rfl,hm⟩)
  rcases k1.heap.blk k true _ e0 with ⟨j1,_⟩ | ⟨b',sz',vs,ty,j1,j2,_⟩
  · rw [j1] at hm;cases hm
  · rw [j1] at hm;cases hm
    exact j2.2 ⟨hl,fun g hg s e=>hno ⟨g,hg,s,e⟩⟩
 have oldl:∀ b,b < w.heap.size->Live L0 (backM m m' T) H2 b->Live L0 m H b:=by
  rintro b hb (hl | ⟨q,sz,hq,hm⟩)
  · exact .inl hl
  · cases e:T q with
    | some k =>
      rw [hMt e] at hm
      obtain ⟨g,hg,s,hs⟩:=newb q k e b sz hm hb
      exact hgl g hg b s hs
    | none =>
      by_cases e2:q∈gs
      · rw [hD q e e2] at hq;cases hq
      · rw [hN q e e2] at hq;rw [hMn e] at hm
        exact .inr ⟨q,sz,hq,hm⟩
 have grow:Grow (Live L0 m H) w (Live L0 (backM m m' T) H2) w':=⟨k2.size,fun b hb hL=>⟨(k2.keep b hb hL).1,fun hl=>hL (oldl b hb hl)⟩⟩
 have vd:∀ {x:Data} {v:Value},VD (Live (lentE L0 m H gs) m' H') w' x v->VD (Live L0 (backM m m' T) H2) w' x v:=fun hx=>hx.mono (Grow.less w' sub)
 have vv:∀ {a b:D} {v:Value},Mv (fun k g=>T g = some k) a b->VV (Live (lentE L0 m H gs) m' H') w' m' a v->VV (Live L0 (backM m m' T) H2) w' (backM m m' T) b v:=fun hab hv=>hab.up (fun k g e=>hMt e) sub hv
 have still:∀ b,b < w.heap.size->(∀ g∈gs,∀ s,m g≠.at b s)->w'.heap[b]? = w.heap[b]?:=fun b hb hn=>by
  by_cases hl:Live L0 m H b
  · exact (k1.l0 b ⟨hl,hn⟩).2
  · exact (k2.keep b hb hl).1
 have oback:∀ q o,H2 q = .obj o->T q = none∧q ∉ gs∧H q = .obj o:=fun q o hq=>by
  cases e:T q with
  | some k =>
    obtain ⟨⟨c0,c1,e0,e1,_⟩,_⟩:=hT q k e
    rw [e1] at hq;cases hq
  | none =>
    have e2:q ∉ gs:=fun e2=>by rw [hD q e e2] at hq;cases hq
    exact ⟨rfl,e2,by rw [<- hN q e e2];exact hq⟩
 refine ⟨⟨⟨?_,?_,?_,?_⟩,?_,?_,h.glob.mono grow⟩,grow,sub,hM⟩
 · intro q rw cs hq
   cases e:T q with
   | some k =>
     obtain ⟨⟨c0,c1,e0,e1,hc⟩,_⟩:=hT q k e
     rw [e1] at hq;cases hq
     rcases k1.heap.blk k true _ e0 with ⟨j1,j2⟩ | ⟨b,sz,vs,ty,j1,j2,j3,j4,j5,j6,j7⟩
     · subst j2
       exact .inl ⟨by rw [hMt e];exact j1,List.eq_nil_of_length_eq_zero (by rw [<- hc.1];rfl)⟩
     · refine .inr ⟨b,sz,vs,ty,by rw [hMt e];exact j1,?_,(fun e=>by cases e),j4,j5,by rw [<- hc.1];exact j6,fun i d hd=>?_⟩
       · by_cases hb:b < w.heap.size
         · obtain ⟨g,hg,s,hs⟩:=newb q k e b sz j1 hb
           exact hown g hg b s hs
         · exact ⟨Nat.le_trans h.base (Nat.le_of_not_lt hb),fun hl=>hb (h.l0 b hl).1⟩
       · have hi:i < c0.length:=by rw [hc.1];exact (List.getElem?_eq_some_iff.1 hd).1
         obtain ⟨v,hv,h1c,hvv⟩:=j7 i c0[i] (List.getElem?_eq_getElem hi)
         exact ⟨v,hv,h1c,vv (hc.2 i _ d (List.getElem?_eq_getElem hi) hd) hvv⟩
   | none =>
     by_cases e2:q∈gs
     · rw [hD q e e2] at hq;cases hq
     · rw [hN q e e2] at hq
       rcases h.heap.blk q rw cs hq with ⟨j1,j2⟩ | ⟨b,sz,vs,ty,j1,j2,j3,j4,j5,j6,j7⟩
       · exact .inl ⟨by rw [hMn e];exact j1,j2⟩
       · have hb:=h.lt hq j1
         refine .inr ⟨b,sz,vs,ty,by rw [hMn e];exact j1,j2,fun hrw hl=>j3 hrw (oldl b hb hl),?_,j5,j6,fun i d hd=>?_⟩
         · rw [still b hb (other q b sz e2 (fun e3=>by rw [e3] at hq;cases hq) j1)];exact j4
         · obtain ⟨v,hv,h1c,hvv⟩:=j7 i d hd
           exact ⟨v,hv,h1c,hvv.mono grow hM⟩
 · intro q q' cs rw' cs' b sz sz' hq hq' hm1 hm2
   have tno:∀ q k,T q = some k->∀ p,p ∉ gs->H p≠.dead->∀ s s',m' k = .at b s->m p = .at b s'->False:=fun q k e p e2 hp s s' h1 h2=>by
    have hb:b < w.heap.size:=by
     cases hpe:H p with
     | dead=>exact absurd hpe hp
     | blk rw c2=>exact h.lt hpe h2
     | obj o=>exact h.ltO hpe h2
    obtain ⟨g,hg,s2,hs⟩:=newb q k e b s h1 hb
    exact other p b s' e2 hp h2 g hg s2 hs
   cases e:T q with
   | some k =>
     cases e':T q' with
     | some k' =>
       obtain ⟨⟨c0,c1,e0,e1,_⟩,_⟩:=hT q k e
       obtain ⟨⟨c0',c1',e0',e1',_⟩,_⟩:=hT q' k' e'
       rw [hMt e] at hm1
       rw [hMt e'] at hm2
       have:=k1.inj (g:=k) (g':=k') (by rw [e0];rfl) (fun e3=>by rw [e0'] at e3;cases e3) hm1 hm2
       subst this
       exact hi q q' k e e'
     | none =>
       exfalso
       by_cases e2:q'∈gs
       · rw [hD q' e' e2] at hq';cases hq'
       · rw [hN q' e' e2] at hq';rw [hMn e'] at hm2;rw [hMt e] at hm1
         exact tno q k e q' e2 (fun e3=>by rw [e3] at hq';cases hq') sz sz' hm1 hm2
   | none =>
     by_cases e2:q∈gs
     · rw [hD q e e2] at hq;cases hq
     · rw [hN q e e2] at hq;rw [hMn e] at hm1
       cases e':T q' with
       | some k' =>
         exfalso
         rw [hMt e'] at hm2
         exact tno q' k' e' q e2 (fun e3=>by rw [e3] at hq;cases hq) sz' sz hm2 hm1
       | none =>
         by_cases e3:q'∈gs
         · rw [hD q' e' e3] at hq';cases hq'
         · rw [hN q' e' e3] at hq';rw [hMn e'] at hm2
           exact h.heap.inj q q' cs rw' cs' b sz sz' hq hq' hm1 hm2
 · intro q o hq
   obtain ⟨e,e2,hq⟩:=oback q o hq
   obtain ⟨b,v,j1,j2,j3,j4⟩:=h.heap.obj q o hq
   exact ⟨b,v,by rw [hMn e];exact j1,j2,by rw [still b (h.ltO hq j1) (other q b 0 e2 (fun e3=>by rw [e3] at hq;cases hq) j1)];exact j3,j4.mono grow hM⟩
 · intro q q' o o' b sz sz' hq hq' hm1 hm2
   obtain ⟨e,_,hq⟩:=oback q o hq
   obtain ⟨e',_,hq'⟩:=oback q' o' hq'
   rw [hMn e] at hm1;rw [hMn e'] at hm2
   exact h.heap.injO q q' o o' b sz sz' hq hq' hm1 hm2
 · refine h.below.trans ⟨k1.below.os,k1.below.tape,k1.below.output,k2.size,fun b hb=>still b (Nat.lt_of_lt_of_le hb h.base) fun g hg s hs=>?_⟩
   have:=(hown g hg b s hs).1
   omega
 · intro b hb
   refine ⟨Nat.lt_of_lt_of_le (h.l0 b hb).1 k2.size,?_⟩
   rw [still b (h.l0 b hb).1 fun g hg s hs=>(hown g hg b s hs).2 hb]
   exact (h.l0 b hb).2
end
section
variable {P:Program} {Γ:Nat->Option (List Data)}
/-- A struct,and two rows that it leads to by its last two cells,lent to a method of it,which hands back plain data. -/
theorem dc_obj {f:FuncId} {xs0 xs:List D} {c:List Data} {n1 e1 n2 e2:Nat} {r1 r2:List Data} {K0:Data->List Data->Nat->List Data->Nat->List Data->Prop}
 (hc:DC P Γ f (.ptr 0 0 :: xs0) (hpL [(0,.blk true (c.map D.data++[.ref 1 0 n1 e1,.ref 2 0 n2 e2])),(1,.blk true (r1.map D.data)),(2,.blk true (r2.map D.data))]) 3 fun d H' _=>∃ r c' a b n1' r1' n2' r2',AsData d r∧a≠b∧a≠0∧b≠0∧a < 100000∧b < 100000 ∧
   H' 0 = .blk true (c'.map D.data++[.ref a 0 n1' e1,.ref b 0 n2' e2])∧H' a = .blk true (r1'.map D.data)∧H' b = .blk true (r2'.map D.data)∧K0 r c' n1' r1' n2' r2')
 {H:Nat->Blk} {nx g g1 g2:Nat} {K:D->(Nat->Blk)->Nat->Prop} (hg:H g = .blk true (c.map D.data++[.ref g1 0 n1 e1,.ref g2 0 n2 e2])) (hg1:H g1 = .blk true (r1.map D.data)) (hg2:H g2 = .blk true (r2.map D.data))
 (h01:g≠g1) (h02:g≠g2) (h12:g1≠g2) (hn:g < nx∧g1 < nx∧g2 < nx) (hxs:ArgL xs0 xs)
 (hk:∀ r c' n1' r1' n2' r2',K0 r c' n1' r1' n2' r2'->K (.data r) (Hp.upd H [(g,.blk true (c'.map D.data++[.ref nx 0 n1' e1,.ref (nx + 1) 0 n2' e2])),(g1,.dead),(g2,.dead),(nx,.blk true (r1'.map D.data)),(nx + 1,.blk true (r2'.map D.data))]) (nx + 2)):DC P Γ f (.ptr g 0 :: xs) H nx K:=by
 refine ⟨hc.1,fun L0 w0 m w vs hwr hres hdead hl hv=>?_⟩
 have hgs:∀ (i q:Nat),[g,g1,g2][i]? = some q->(i = 0∧q = g) ∨ (i = 1∧q = g1) ∨ (i = 2∧q = g2):=fun i q h=>by
  match i with
  | 0=>simp at h;exact .inl ⟨rfl,h.symm⟩
  | 1=>simp at h;exact .inr (.inl ⟨rfl,h.symm⟩)
  | 2=>simp at h;exact .inr (.inr ⟨rfl,h.symm⟩)
  | i + 3=>simp at h
 obtain ⟨h1,hlive⟩:=lendN (gs:=[g,g1,g2]) (H0:=hpL [(0,.blk true (c.map D.data++[.ref 1 0 n1 e1,.ref 2 0 n2 e2])),(1,.blk true (r1.map D.data)),(2,.blk true (r2.map D.data))]) hwr (fun i j q hi hj=>by
  rcases hgs i q hi with ⟨rfl,e1⟩ | ⟨rfl,e1⟩ | ⟨rfl,e1⟩ <;> rcases hgs j q hj with ⟨rfl,e2⟩ | ⟨rfl,e2⟩ | ⟨rfl,e2⟩ <;> first | rfl | (exfalso;omega))
  (fun i q hi=>by
    rcases hgs i q hi with ⟨rfl,rfl⟩ | ⟨rfl,rfl⟩ | ⟨rfl,rfl⟩
    · exact ⟨_,_,rfl,hg,(MvL.plain c).app (.cons (.ref _ _ _ _ _ rfl) (.cons (.ref _ _ _ _ _ rfl) .nil))⟩
    · exact ⟨_,_,rfl,hg1,MvL.plain r1⟩
    · exact ⟨_,_,rfl,hg2,MvL.plain r2⟩)
  (fun i hi=>by
    have:3≤i:=hi
    simp [hpL,show i≠0 by omega,show i≠1 by omega,show i≠2 by omega])
 have hdl:∀ b,Live (lentE L0 m H [g,g1,g2]) (lentN m [g,g1,g2]) (hpL [(0,.blk true (c.map D.data++[.ref 1 0 n1 e1,.ref 2 0 n2 e2])),(1,.blk true (r1.map D.data)),(2,.blk true (r2.map D.data))]) b->Live L0 m H b:=fun b hb=>(hlive b).1 hb
 refine (hc.2 _ _ _ w vs h1 (fun q hq=>?_) (fun q hq=>?_) (by simpa [hxs.len] using hl) (argL_vv hdl (fun v hvv=>?_) hxs hv)).mono fun e w' ⟨v,d,H',nx',m',he,k1,hvv,k2,k3,k4,k5,r,c',a,b,n1',r1',n2',r2',hd,hab,ha0,hb0,hal,hbl,hH0,hHa,hHb,hK⟩=>?_
 · simp [lentN,List.getElem?_eq_none (show ([g,g1,g2]:List Nat).length≤q from hq)]
 · simp [hpL,show q≠0 by omega,show q≠1 by omega,show q≠2 by omega]
 · cases hvv with
   | ptr _ _ b sz hm=>exact .ptr 0 0 b sz hm
 have hm0:∀ (i q:Nat),[g,g1,g2][i]? = some q->m' i = m q:=fun i q hi=>by
  rw [k3 i (by rcases hgs i q hi with ⟨e,_⟩ | ⟨e,_⟩ | ⟨e,_⟩ <;> omega)]
  exact lentN_at hi
 have k2':Grow (Live L0 m H) w (Live (lentE L0 m H [g,g1,g2]) m' H') w':=⟨k2.size,fun b hb hL=>k2.keep b hb fun h=>hL (hdl b h)⟩
 let T:Nat->Option Nat:=fun q=>if q = g then some 0 else if q = nx then some a else if q = nx + 1 then some b else none
 have T0:T g = some 0:=by simp [T]
 have T1:T nx = some a:=by simp [T,show nx≠g by omega]
 have T2:T (nx + 1) = some b:=by simp [T,show nx + 1≠g by omega]
 have Ti:∀ q k,T q = some k->(q = g∧k = 0) ∨ (q = nx∧k = a) ∨ (q = nx + 1∧k = b):=fun q k h=>by
  by_cases q0:q = g
  · subst q0;rw [T0] at h;cases h;exact .inl ⟨rfl,rfl⟩
  by_cases q1:q = nx
  · subst q1;rw [T1] at h;cases h;exact .inr (.inl ⟨rfl,rfl⟩)
  by_cases q2:q = nx + 1
  · subst q2;rw [T2] at h;cases h;exact .inr (.inr ⟨rfl,rfl⟩)
  simp [T,q0,q1,q2] at h
 have Tn:∀ q,T q = none->q≠g∧q≠nx∧q≠nx + 1:=fun q h=>⟨(fun e=>by rw [e,T0] at h;cases h),(fun e=>by rw [e,T1] at h;cases h),(fun e=>by rw [e,T2] at h;cases h)⟩
 have up0:Hp.upd H [(g,.blk true (c'.map D.data++[.ref nx 0 n1' e1,.ref (nx + 1) 0 n2' e2])),(g1,.dead),(g2,.dead),(nx,.blk true (r1'.map D.data)),(nx + 1,.blk true (r2'.map D.data))] g = .blk true (c'.map D.data++[.ref nx 0 n1' e1,.ref (nx + 1) 0 n2' e2]):=by
  simp [Hp.upd,Hp.set,h01,h02,show g≠nx by omega,show g≠nx + 1 by omega]
 have up1:Hp.upd H [(g,.blk true (c'.map D.data++[.ref nx 0 n1' e1,.ref (nx + 1) 0 n2' e2])),(g1,.dead),(g2,.dead),(nx,.blk true (r1'.map D.data)),(nx + 1,.blk true (r2'.map D.data))] nx = .blk true (r1'.map D.data):=by
  simp [Hp.upd,Hp.set]
 have up2:Hp.upd H [(g,.blk true (c'.map D.data++[.ref nx 0 n1' e1,.ref (nx + 1) 0 n2' e2])),(g1,.dead),(g2,.dead),(nx,.blk true (r1'.map D.data)),(nx + 1,.blk true (r2'.map D.data))] (nx + 1) = .blk true (r2'.map D.data):=by
  simp [Hp.upd,Hp.set]
 have upn:∀ q,q≠g->q≠g1->q≠g2->q≠nx->q≠nx + 1->Hp.upd H [(g,.blk true (c'.map D.data++[.ref nx 0 n1' e1,.ref (nx + 1) 0 n2' e2])),(g1,.dead),(g2,.dead),(nx,.blk true (r1'.map D.data)),(nx + 1,.blk true (r2'.map D.data))] q = H q:=fun q a1 a2 a3 a4 a5=>by
  simp [Hp.upd,Hp.set,a1,a2,a3,a4,a5]
 have upd:∀ q,q = g1 ∨ q = g2->Hp.upd H [(g,.blk true (c'.map D.data++[.ref nx 0 n1' e1,.ref (nx + 1) 0 n2' e2])),(g1,.dead),(g2,.dead),(nx,.blk true (r1'.map D.data)),(nx + 1,.blk true (r2'.map D.data))] q = .dead:=fun q hq=>by
  rcases hq with rfl | rfl
  · simp [Hp.upd,Hp.set,show q≠nx by omega,show q≠nx + 1 by omega]
  · simp [Hp.upd,Hp.set,show q≠nx by omega,show q≠nx + 1 by omega]
 generalize hH2:Hp.upd H [(g,.blk true (c'.map D.data++[.ref nx 0 n1' e1,.ref (nx + 1) 0 n2' e2])),(g1,.dead),(g2,.dead),(nx,.blk true (r1'.map D.data)),(nx + 1,.blk true (r2'.map D.data))] = H2 at up0 up1 up2 upn upd
 obtain ⟨q1,q2,q3,q4⟩:=lentN_back (gs:=[g,g1,g2]) (T:=T) (H2:=H2) hwr (fun q hq=>by
  simp only [List.mem_cons,List.not_mem_nil,or_false] at hq
  rcases hq with rfl | rfl | rfl
  · exact ⟨_,hg⟩
  · exact ⟨_,hg1⟩
  · exact ⟨_,hg2⟩) k1 k2' hm0
  (fun q k hq=>by
    rcases Ti q k hq with ⟨rfl,rfl⟩ | ⟨rfl,rfl⟩ | ⟨rfl,rfl⟩
    · exact ⟨⟨_,_,hH0,up0,(MvL.plain c').app (.cons (.ref _ _ _ _ _ T1) (.cons (.ref _ _ _ _ _ T2) .nil))⟩,.inl rfl⟩
    · exact ⟨⟨_,_,hHa,up1,MvL.plain r1'⟩,.inr ⟨by simp;omega,hres _ (Nat.le_refl _)⟩⟩
    · exact ⟨⟨_,_,hHb,up2,MvL.plain r2'⟩,.inr ⟨by simp;omega,hres _ (by omega)⟩⟩)
  (fun q q' k hq hq'=>by
    rcases Ti q k hq with ⟨rfl,rfl⟩ | ⟨rfl,rfl⟩ | ⟨rfl,rfl⟩ <;> rcases Ti q' _ hq' with ⟨rfl,e⟩ | ⟨rfl,e⟩ | ⟨rfl,e⟩ <;> first | rfl | (exfalso;omega))
  (fun q hq hqg=>by
    obtain ⟨a1,a2,a3⟩:=Tn q hq
    simp only [List.mem_cons,List.not_mem_nil,or_false,not_or] at hqg
    exact upn q a1 hqg.2.1 hqg.2.2 a2 a3)
  (fun q hq hqg=>by
    obtain ⟨a1,a2,a3⟩:=Tn q hq
    simp only [List.mem_cons,List.not_mem_nil,or_false] at hqg
    exact upd q (by rcases hqg with e | e | e
                    · exact absurd e a1
                    · exact .inl e
                    · exact .inr e))
 have hkk:=hk r c' n1' r1' n2' r2' hK
 rw [hH2] at hkk
 refine ⟨v,.data r,_,nx + 2,backM m m' T,he,q1,.data _ _ ((hd.vd hvv).mono (Grow.less w' q3)),q2,fun q hq=>?_,fun q hq=>?_,by omega,hkk⟩
 · by_cases e:q = g
   · subst e
     show (match T q with | some k=>m' k | none=>m q) = m q
     rw [T0];exact hm0 0 q rfl
   · show (match T q with | some k=>m' k | none=>m q) = m q
     rw [show T q = none by simp [T,e,show q≠nx by omega,show q≠nx + 1 by omega]]
 · show (match T q with | some k=>m' k | none=>m q) = .res
   rw [show T q = none by simp [T,show q≠g by omega,show q≠nx by omega,show q≠nx + 1 by omega]]
   exact hres q (by omega)
end
namespace Fs
def names:List ByteArray:=[⟨#[73,110,105,116,105,97,108]⟩,⟨#[83,116,97,114,116,105,110,103]⟩,⟨#[67,108,111,115,101,100]⟩,⟨#[83,116,111,112,112,101,100]⟩,⟨#[67,108,111,115,105,110,103]⟩,⟨#[83,116,111,112,112,105,110,103]⟩,⟨#[82,101,113,45,83,101,110,116]⟩,⟨#[65,99,107,45,82,99,118,100]⟩,⟨#[65,99,107,45,83,101,110,116]⟩,⟨#[79,112,101,110,101,100]⟩]
end Fs
end Go.Proofs.YtlfhkplbjgcpiaaGreatDoor
namespace Go.Proofs.YtlfhkplbjgcpiaaGreatDoor
set_option linter.unusedSimpArgs false
set_option linter.unusedVariables false
set_option maxRecDepth 100000
namespace Fs
theorem dec_ascii {s:ByteArray} {p:Nat} (h:(s.get! p).toNat < 128):Utf8.decode s p = ((s.get! p).toNat,1):=by
 unfold Utf8.decode
 simp only [Nat.add_zero]
 rw [if_pos h]
/-- A string of such bytes. -/
def Ascii (s:ByteArray):Prop:=∀ p,p < s.size->(s.get! p).toNat < 128
theorem Ascii.dec {s:ByteArray} (h:Ascii s) {p:Nat} (hp:p < s.size):Utf8.decode s p = ((s.get! p).toNat,1):=dec_ascii (h p hp)
end Fs
end Go.Proofs.YtlfhkplbjgcpiaaGreatDoor
namespace Go.Proofs.YtlfhkplbjgcpiaaGreatDoor
open Go.RowKit
set_option linter.unusedSimpArgs false
set_option linter.unusedVariables false
set_option maxRecDepth 100000
namespace Fs
/-- Is a byte a space? -/
def spN (n:Nat):Nat:=if n = 9 ∨ n = 10 ∨ n = 11 ∨ n = 12 ∨ n = 13 ∨ n = 32 then 1 else 0
theorem spN_le (n:Nat):spN n≤1:=by unfold spN;split <;> omega
def spD:List Data:=(List.range 256).map fun i=>.int .u8 (spN i:Nat)
/-- The table of spaces of the package strings. -/
structure Spaces (Γ:Nat->Option (List Data)):Prop where
 sp:Γ 0 = some spD
theorem sp_at (i:Nat) (h:i < 256):spD[i]? = some (.int .u8 (spN i:Nat)):=by simp [spD,h]
/-- A byte of a string. -/
def chN (s:ByteArray) (i:Nat):Nat:=(s.get! i).toNat
theorem chN_at {s:ByteArray} {i:Nat} (h:i < s.size):∃ b:UInt8,s[i]? = some b∧b.toNat = chN s i:=by
 refine ⟨s[i],getElem?_pos s i h,?_⟩
 unfold chN
 obtain ⟨a⟩:=s
 rw [show ByteArray.get! ⟨a⟩ i = a[i]'h from getElem!_pos a i h]
 rfl
def cntS (s:ByteArray):Nat->Nat × Nat × Nat
 | 0=>(0,1,0)
 | i + 1=>((cntS s i).1 + (if (cntS s i).2.1 = 1∧spN (chN s i) = 0 then 1 else 0),spN (chN s i),(cntS s i).2.2 ||| chN s i)
theorem cntS_is (s:ByteArray) (hs:Ascii s):∀ i,i≤s.size->(cntS s i).1≤i∧(cntS s i).2.1≤1∧(cntS s i).2.2 < 128
 | 0,_=>by simp [cntS]
 | i + 1,h=>by
   obtain ⟨h1,h2,h3⟩:=cntS_is s hs i (by omega)
   have h4:=hs i (by omega)
   refine ⟨?_,spN_le _,Nat.or_lt_two_pow (n:=7) h3 h4⟩
   unfold cntS
   dsimp only
   split <;> omega
theorem or_u8 {a b:Nat} (ha:a < 256) (hb:b < 256):orI .u8 a b = ((a ||| b:Nat):Int):=by
 have h:a ||| b < 2 ^ 8:=Nat.or_lt_two_pow (by simpa using ha) (by simpa using hb)
 unfold orI
 rw [IntKind.wrap_u8,BitVec.ofInt_natCast,BitVec.ofInt_natCast,BitVec.toNat_or,BitVec.toNat_ofNat,BitVec.toNat_ofNat,mod_of (show a < 2 ^ IntKind.u8.bits from ha),mod_of (show b < 2 ^ IntKind.u8.bits from hb)]
 omega
theorem andnot_bit {a b:Nat} (ha:a≤1) (hb:b≤1):andI .i64 a (notI .i64 b) = ((if a = 1∧b = 0 then 1 else 0:Nat):Int):=by
 have ha':a = 0 ∨ a = 1:=by omega
 have hb':b = 0 ∨ b = 1:=by omega
 rcases ha' with rfl | rfl <;> rcases hb' with rfl | rfl <;> decide
/-- The machine: k bytes are left;among spaces,or in a field that began at a place. -/
def finF (s:ByteArray) (n:Nat):Nat->Option Nat->List ByteArray->Option (List ByteArray)
 | 0,none,acc=>some acc
 | 0,some st,acc=>if st < s.size then (if acc.length < n then some (acc++[s.extract st s.size]) else none) else some acc
 | k + 1,none,acc=>if spN (chN s (s.size - (k + 1))) = 0 then finF s n k (some (s.size - (k + 1))) acc else finF s n k none acc
 | k + 1,some st,acc=>if spN (chN s (s.size - (k + 1))) = 0 then finF s n k (some st) acc else
    if acc.length < n then finF s n k none (acc++[s.extract st (s.size - (k + 1))]) else none
def fieldsF (s:ByteArray):Option (List ByteArray):=(finF s (cntS s s.size).1 s.size none []).filter fun r=>r.length = (cntS s s.size).1
theorem fin_sp {s:ByteArray} {n i:Nat} {acc:List ByteArray} (h:i < s.size) (hc:spN (chN s i) = 1):finF s n (s.size - i) none acc = finF s n (s.size - (i + 1)) none acc:=by
 obtain ⟨k,hk⟩:∃ k,s.size - i = k + 1:=⟨s.size - i - 1,by omega⟩
 have e:s.size - (i + 1) = k:=by omega
 have e2:s.size - (k + 1) = i:=by omega
 rw [hk,e,finF,e2,if_neg (by omega)]
theorem fin_go {s:ByteArray} {n i:Nat} {acc:List ByteArray} (h:i < s.size) (hc:spN (chN s i) = 0):finF s n (s.size - i) none acc = finF s n (s.size - i) (some i) acc:=by
 obtain ⟨k,hk⟩:∃ k,s.size - i = k + 1:=⟨s.size - i - 1,by omega⟩
 have e2:s.size - (k + 1) = i:=by omega
 rw [hk,finF,finF,e2,if_pos hc,if_pos hc]
theorem fin_in {s:ByteArray} {n i st:Nat} {acc:List ByteArray} (h:i < s.size) (hc:spN (chN s i) = 0):finF s n (s.size - i) (some st) acc = finF s n (s.size - (i + 1)) (some st) acc:=by
 obtain ⟨k,hk⟩:∃ k,s.size - i = k + 1:=⟨s.size - i - 1,by omega⟩
 have e:s.size - (i + 1) = k:=by omega
 have e2:s.size - (k + 1) = i:=by omega
 rw [hk,e,finF,e2,if_pos hc]
theorem fin_out {s:ByteArray} {n i st:Nat} {acc:List ByteArray} (h:i < s.size) (hc:spN (chN s i) = 1):finF s n (s.size - i) (some st) acc = if acc.length < n then finF s n (s.size - (i + 1)) none (acc++[s.extract st i]) else none:=by
 obtain ⟨k,hk⟩:∃ k,s.size - i = k + 1:=⟨s.size - i - 1,by omega⟩
 have e:s.size - (i + 1) = k:=by omega
 have e2:s.size - (k + 1) = i:=by omega
 rw [hk,e,finF,e2,if_neg (by omega)]
theorem fin_end {s:ByteArray} {n st:Nat} {acc:List ByteArray}:finF s n (s.size - s.size) (some st) acc = if st < s.size then (if acc.length < n then some (acc++[s.extract st s.size]) else none) else some acc:=by
 rw [Nat.sub_self,finF]
theorem fin_nil {s:ByteArray} {n:Nat} {acc:List ByteArray}:finF s n (s.size - s.size) none acc = finF s n (s.size - s.size) (some s.size) acc:=by
 rw [Nat.sub_self,finF,finF,if_neg (by omega)]
/-- The row of fields,so far. -/
def accD (n:Nat) (acc:List ByteArray):List D:=(acc++List.replicate (n - acc.length) ByteArray.empty).map fun b=>D.data (.str b)
theorem accD_length {n:Nat} {acc:List ByteArray} (h:acc.length≤n):(accD n acc).length = n:=by simp [accD];omega
theorem accD_set {n:Nat} {acc:List ByteArray} (h:acc.length < n) (b:ByteArray):(accD n acc).set acc.length (.data (.str b)) = accD n (acc++[b]):=by
 obtain ⟨m,hm⟩:∃ m,n - acc.length = m + 1:=⟨n - acc.length - 1,by omega⟩
 unfold accD
 rw [hm,List.map_append,List.set_append_right _ _ (by simp),List.length_append,List.length_singleton,show n - (acc.length + 1) = m by omega]
 simp [List.replicate_succ]
theorem accD_plain (n:Nat) (acc:List ByteArray):(accD n acc).all plainD = true:=by
 rw [List.all_eq_true]
 intro x hx
 obtain ⟨b,_,rfl⟩:=List.mem_map.1 hx
 rfl
theorem accD_full {n:Nat} {acc:List ByteArray} (h:acc.length = n):accD n acc = acc.map fun b=>D.data (.str b):=by
 unfold accD
 rw [h,Nat.sub_self]
 simp
def strsD (l:List ByteArray):List Data:=l.map .str
theorem frz_strs {ok:Bool} {H:Nat->Blk} {g n:Nat} {rw:Bool} {l:List ByteArray} (hg:H g = .blk rw (l.map fun b=>D.data (.str b))) (hrw:ok = true ∨ rw = false) (hn:l.length = n):Frz ok H (.ref g 0 n 1) (.sl 1 (strsD l)):=by
 unfold strsD
 refine frz_ref hg hrw (by simpa using hn) (fun x hx=>?_) ?_
 · obtain ⟨p,_,rfl⟩:=List.mem_map.1 hx
   rfl
 · clear hg hn
   induction l with
   | nil=>rfl
   | cons a l ih =>
     simp only [List.map_cons] at ih ⊢
     rw [ih]
     rfl
section
variable (Γ:Nat->Option (List Data))
set_option maxHeartbeats 4000000 in
theorem fields_pc (hΓ:Spaces Γ) (s:ByteArray) (hs:Ascii s) (hl:s.size≤100000) (r:List ByteArray) (hr:fieldsF s = some r):PC Tryz.prog Γ 109 [.str s] (.sl 1 (strsD r)):=by
 refine pc_by mixed Tryz.func109 rfl (fun args w=>Tryz.call109 args w) ?_
 obtain ⟨hfin,hlen⟩:finF s (cntS s s.size).1 s.size none [] = some r∧r.length = (cntS s s.size).1:=by
  unfold fieldsF at hr
  rw [Option.filter_eq_some_iff] at hr
  exact ⟨hr.1,by simpa using hr.2⟩
 clear hr
 simp -implicitDefEqProofs (disch:=omega) [go_sem]
 refine loop_ren (σ:={ i:Nat // i≤s.size }) (fun i=>⟨envL [(0,.data (.str s)),(3,.data (.int .i64 (cntS s i.1).1)),(4,.data (.int .i64 (cntS s i.1).2.1)),(5,.data (.int .u8 (cntS s i.1).2.2)),(6,.data (.int .i64 i.1))],hpL [],0,0,106⟩) (fun i=>s.size - i.1) ⟨0,by omega⟩ [] (rhoL []) ?_ ?_
 · apply ren_lists <;> simp -implicitDefEqProofs [go_sem,cntS]
 rintro ⟨i,hi⟩
 obtain ⟨b1,b2,b3⟩:=cntS_is s hs i hi
 by_cases h:i < s.size
 · obtain ⟨c,hc,hcn⟩:=chN_at h
   have hlt:=hs i h
   have hlt':chN s i < 128:=hlt
   have hsp:=sp_at (chN s i) (by omega)
   have hn:cntS s (i + 1) = ((cntS s i).1 + (if (cntS s i).2.1 = 1∧spN (chN s i) = 0 then 1 else 0),spN (chN s i),(cntS s i).2.2 ||| chN s i):=rfl
   have hp:=spN_le (chN s i)
   generalize cntS s i = q at *
   obtain ⟨n,w,b⟩:=q
   dsimp only at *
   have e1:=or_u8 (a:=b) (b:=chN s i) (by omega) (by omega)
   have e2:=andnot_bit b2 hp
   have hz:(if w = 1∧spN (chN s i) = 0 then 1 else 0)≤1:=by split <;> omega
   generalize (if w = 1∧spN (chN s i) = 0 then 1 else 0) = z at *
   generalize spN (chN s i) = p at *
   have hnot:∃ m:Int,notI .i64 p = m:=⟨_,rfl⟩
   obtain ⟨m,hm⟩:=hnot
   rw [hm] at e2
   simp -implicitDefEqProofs (disch:=omega) [-getElem?_pos,go_sem,hc,hcn,evalD_global _ _ hΓ.sp,hsp]
   refine next_ren ⟨i + 1,by omega⟩ (by simp only;omega) [] (rhoL []) ?_
   apply ren_lists <;> simp -implicitDefEqProofs [go_sem,hn]
   refine ⟨?_,e1.symm⟩
   rw [hm,e2,IntKind.wrap_i64]
   omega
 have hie:i = s.size:=by omega
 subst hie
 have hp:(cntS s s.size).1≤100000:=by omega
 generalize cntS s s.size = q at *
 obtain ⟨n,w,b⟩:=q
 dsimp only at *
 have b4:¬ (128:Int)≤b:=by omega
 simp -implicitDefEqProofs (disch:=omega) [-getElem?_pos,go_sem,b4]
 have hac:∀ acc:List ByteArray,acc.length≤n->(accD n acc).length = n:=fun acc h=>accD_length h
 refine loop_ren (σ:={ i:Nat // i≤s.size∧finF s n (s.size - i) none [] = some r }) (fun i=>⟨envL [(0,.data (.str s)),(9,.ref 0 0 n 1),(10,.data (.int .i64 0)),(12,.data (.int .i64 i.1))],hpL [(0,.blk true (accD n []))],1,0,106⟩) (fun i=>s.size - i.1) ⟨0,by omega,hfin⟩ [] (rhoL [(0,some 7)]) ?_ ?_
 · apply ren_lists <;> simp -implicitDefEqProofs [go_sem]
   exact renCells_plain (by simp [accD]) (accD_plain n [])
 clear hfin
 rintro ⟨i,hi,hf⟩
 by_cases g1:i < s.size
 · obtain ⟨c,hc,hcn⟩:=chN_at g1
   have hlt':chN s i < 128:=hs i g1
   have hsp:=sp_at (chN s i) (by omega)
   rcases (show spN (chN s i) = 0 ∨ spN (chN s i) = 1 by have:=spN_le (chN s i);omega) with h2 | h2
   · rw [h2] at hsp
     have hf3:=fin_go (n:=n) (acc:=[]) g1 h2
     rw [hf] at hf3
     replace hf3:=hf3.symm
     simp -implicitDefEqProofs (disch:=omega) [-getElem?_pos,go_sem,hc,hcn,evalD_global _ _ hΓ.sp,hsp]
     clear hc hcn hsp g1 h2
     refine loop_ren (σ:={ x:Nat × Nat × List ByteArray // x.1≤s.size∧x.2.1≤x.1∧x.2.2.length≤n∧finF s n (s.size - x.1) (some x.2.1) x.2.2 = some r }) (fun x=>⟨envL [(0,.data (.str s)),(9,.ref 0 0 n 1),(10,.data (.int .i64 x.1.2.2.length)),(11,.data (.int .i64 x.1.2.1)),(12,.data (.int .i64 x.1.1))],hpL [(0,.blk true (accD n x.1.2.2))],1,0,106⟩) (fun x=>s.size - x.1.1) ⟨(i,i,[]),hi,Nat.le_refl _,Nat.zero_le _,hf3⟩ [] (rhoL [(0,some 0)]) ?_ ?_
     · apply ren_lists <;> simp -implicitDefEqProofs [go_sem]
       exact renCells_plain rfl (accD_plain n [])
     clear hf hf3 hi hac
     rintro ⟨⟨j,st,acc⟩,hj,hst,hac,hf⟩
     dsimp only at hj hst hac hf
     by_cases h1:j < s.size
     · obtain ⟨c,hc,hcn⟩:=chN_at h1
       have hlt':chN s j < 128:=hs j h1
       have hsp:=sp_at (chN s j) (by omega)
       rcases (show spN (chN s j) = 0 ∨ spN (chN s j) = 1 by have:=spN_le (chN s j);omega) with h2 | h2
       · rw [h2] at hsp
         have hf2:=fin_in (n:=n) (acc:=acc) (st:=st) h1 h2
         rw [hf] at hf2
         simp -implicitDefEqProofs (disch:=omega) [-getElem?_pos,go_sem,hc,hcn,evalD_global _ _ hΓ.sp,hsp]
         refine next_ren ⟨(j + 1,st,acc),by simp only;omega,by simp only;omega,hac,hf2.symm⟩ (by simp only;omega) [] (rhoL [(0,some 0)]) ?_
         apply ren_lists <;> simp -implicitDefEqProofs [go_sem]
         exact renCells_plain rfl (accD_plain n _)
       · rw [h2] at hsp
         rw [fin_out h1 h2] at hf
         by_cases hn:acc.length < n
         rotate_left
         · rw [if_neg hn] at hf;cases hf
         rw [if_pos hn] at hf
         have hset:=accD_set hn (s.extract st j)
         have hln:(accD n acc).length = n:=accD_length hac
         have hln2:(acc++[s.extract st j]).length = acc.length + 1:=by simp
         simp -implicitDefEqProofs (disch:=omega) [-getElem?_pos,go_sem,hc,hcn,evalD_global _ _ hΓ.sp,hsp,hln]
         simp -implicitDefEqProofs only [over,hset]
         generalize acc++[s.extract st j] = acc' at *
         refine loop_ren (σ:={ x:Nat // j < x∧x≤s.size∧finF s n (s.size - x) none acc' = some r }) (fun x=>⟨envL [(0,.data (.str s)),(9,.ref 0 0 n 1),(10,.data (.int .i64 acc'.length)),(12,.data (.int .i64 x.1))],hpL [(0,.blk true (accD n acc'))],1,0,106⟩) (fun x=>s.size - x.1) ⟨j + 1,by omega,by omega,hf⟩ [] (rhoL [(0,some 0)]) ?_ ?_
         · apply ren_lists <;> simp -implicitDefEqProofs [go_sem,hln2]
           exact renCells_plain rfl (accD_plain n _)
         clear hf
         rintro ⟨x,hx1,hx2,hf⟩
         by_cases g1:x < s.size
         · obtain ⟨c,hc,hcn⟩:=chN_at g1
           have hlt':chN s x < 128:=hs x g1
           have hsp:=sp_at (chN s x) (by omega)
           rcases (show spN (chN s x) = 0 ∨ spN (chN s x) = 1 by have:=spN_le (chN s x);omega) with g2 | g2
           · rw [g2] at hsp
             have hf2:=fin_go (n:=n) (acc:=acc') g1 g2
             rw [hf] at hf2
             simp -implicitDefEqProofs (disch:=omega) [-getElem?_pos,go_sem,hc,hcn,evalD_global _ _ hΓ.sp,hsp]
             refine next_ren ⟨(x,x,acc'),hx2,Nat.le_refl _,by simp only;omega,hf2.symm⟩ (by simp only;omega) [] (rhoL [(0,some 0)]) ?_
             apply ren_lists <;> simp -implicitDefEqProofs [go_sem]
             exact renCells_plain rfl (accD_plain n _)
           · rw [g2] at hsp
             have hf2:=fin_sp (n:=n) (acc:=acc') g1 g2
             rw [hf] at hf2
             simp -implicitDefEqProofs (disch:=omega) [-getElem?_pos,go_sem,hc,hcn,evalD_global _ _ hΓ.sp,hsp]
             refine next_ren ⟨x + 1,by omega,by omega,hf2.symm⟩ (by simp only;omega) [] (rhoL [(0,some 0)]) ?_
             apply ren_lists <;> simp -implicitDefEqProofs [go_sem]
             exact renCells_plain rfl (accD_plain n _)
         · have:x = s.size:=by omega
           subst this
           rw [fin_nil] at hf
           simp -implicitDefEqProofs (disch:=omega) [-getElem?_pos,go_sem]
           refine next_ren ⟨(s.size,s.size,acc'),Nat.le_refl _,Nat.le_refl _,by simp only;omega,hf⟩ (by simp only;omega) [] (rhoL [(0,some 0)]) ?_
           apply ren_lists <;> simp -implicitDefEqProofs [go_sem]
           exact renCells_plain rfl (accD_plain n _)
     · have:j = s.size:=by omega
       subst this
       rw [fin_end] at hf
       by_cases k1:st < s.size
       · rw [if_pos k1] at hf
         by_cases hn:acc.length < n
         rotate_left
         · rw [if_neg hn] at hf;cases hf
         rw [if_pos hn] at hf
         have hset:=accD_set hn (s.extract st s.size)
         have hln:(accD n acc).length = n:=accD_length hac
         obtain rfl:=Option.some.inj hf
         rw [accD_full hlen] at hset
         simp -implicitDefEqProofs (disch:=omega) [-getElem?_pos,go_sem,hln]
         simp -implicitDefEqProofs (disch:=omega) [go_sem,over,hset,Tryz.f109]
         exact ⟨_,⟨_,rfl,frz_strs (rw:=true) (by simp [Hp.upd,Hp.set,hset]) (.inl rfl) hlen⟩,rfl⟩
       · rw [if_neg k1] at hf
         obtain rfl:=Option.some.inj hf
         simp -implicitDefEqProofs (disch:=omega) [-getElem?_pos,go_sem,Tryz.f109]
         exact ⟨_,⟨_,rfl,frz_strs (rw:=true) (by rw [accD_full hlen];rfl) (.inl rfl) hlen⟩,rfl⟩
   · rw [h2] at hsp
     have hf2:=fin_sp (n:=n) (acc:=[]) g1 h2
     rw [hf] at hf2
     simp -implicitDefEqProofs (disch:=omega) [-getElem?_pos,go_sem,hc,hcn,evalD_global _ _ hΓ.sp,hsp]
     refine next_ren ⟨i + 1,by omega,hf2.symm⟩ (by simp only;omega) [] (rhoL [(0,some 0)]) ?_
     apply ren_lists <;> simp -implicitDefEqProofs [go_sem]
     exact renCells_plain rfl (accD_plain n [])
 · have:i = s.size:=by omega
   subst this
   have hf3:=hf
   rw [fin_nil] at hf3
   simp -implicitDefEqProofs (disch:=omega) [-getElem?_pos,go_sem]
   refine loop_ren (σ:={ x:Nat × Nat × List ByteArray // x.1≤s.size∧x.2.1≤x.1∧x.2.2.length≤n∧finF s n (s.size - x.1) (some x.2.1) x.2.2 = some r }) (fun x=>⟨envL [(0,.data (.str s)),(9,.ref 0 0 n 1),(10,.data (.int .i64 x.1.2.2.length)),(11,.data (.int .i64 x.1.2.1)),(12,.data (.int .i64 x.1.1))],hpL [(0,.blk true (accD n x.1.2.2))],1,0,106⟩) (fun x=>s.size - x.1.1) ⟨(s.size,s.size,[]),hi,Nat.le_refl _,Nat.zero_le _,hf3⟩ [] (rhoL [(0,some 0)]) ?_ ?_
   · apply ren_lists <;> simp -implicitDefEqProofs [go_sem]
     exact renCells_plain rfl (accD_plain n [])
   clear hf hf3 hi hac
   rintro ⟨⟨j,st,acc⟩,hj,hst,hac,hf⟩
   dsimp only at hj hst hac hf
   by_cases h1:j < s.size
   · obtain ⟨c,hc,hcn⟩:=chN_at h1
     have hlt':chN s j < 128:=hs j h1
     have hsp:=sp_at (chN s j) (by omega)
     rcases (show spN (chN s j) = 0 ∨ spN (chN s j) = 1 by have:=spN_le (chN s j);omega) with h2 | h2
     · rw [h2] at hsp
       have hf2:=fin_in (n:=n) (acc:=acc) (st:=st) h1 h2
       rw [hf] at hf2
       simp -implicitDefEqProofs (disch:=omega) [-getElem?_pos,go_sem,hc,hcn,evalD_global _ _ hΓ.sp,hsp]
       refine next_ren ⟨(j + 1,st,acc),by simp only;omega,by simp only;omega,hac,hf2.symm⟩ (by simp only;omega) [] (rhoL [(0,some 0)]) ?_
       apply ren_lists <;> simp -implicitDefEqProofs [go_sem]
       exact renCells_plain rfl (accD_plain n _)
     · rw [h2] at hsp
       rw [fin_out h1 h2] at hf
       by_cases hn:acc.length < n
       rotate_left
       · rw [if_neg hn] at hf;cases hf
       rw [if_pos hn] at hf
       have hset:=accD_set hn (s.extract st j)
       have hln:(accD n acc).length = n:=accD_length hac
       have hln2:(acc++[s.extract st j]).length = acc.length + 1:=by simp
       simp -implicitDefEqProofs (disch:=omega) [-getElem?_pos,go_sem,hc,hcn,evalD_global _ _ hΓ.sp,hsp,hln]
       simp -implicitDefEqProofs only [over,hset]
       generalize acc++[s.extract st j] = acc' at *
       refine loop_ren (σ:={ x:Nat // j < x∧x≤s.size∧finF s n (s.size - x) none acc' = some r }) (fun x=>⟨envL [(0,.data (.str s)),(9,.ref 0 0 n 1),(10,.data (.int .i64 acc'.length)),(12,.data (.int .i64 x.1))],hpL [(0,.blk true (accD n acc'))],1,0,106⟩) (fun x=>s.size - x.1) ⟨j + 1,by omega,by omega,hf⟩ [] (rhoL [(0,some 0)]) ?_ ?_
       · apply ren_lists <;> simp -implicitDefEqProofs [go_sem,hln2]
         exact renCells_plain rfl (accD_plain n _)
       clear hf
       rintro ⟨x,hx1,hx2,hf⟩
       by_cases g1:x < s.size
       · obtain ⟨c,hc,hcn⟩:=chN_at g1
         have hlt':chN s x < 128:=hs x g1
         have hsp:=sp_at (chN s x) (by omega)
         rcases (show spN (chN s x) = 0 ∨ spN (chN s x) = 1 by have:=spN_le (chN s x);omega) with g2 | g2
         · rw [g2] at hsp
           have hf2:=fin_go (n:=n) (acc:=acc') g1 g2
           rw [hf] at hf2
           simp -implicitDefEqProofs (disch:=omega) [-getElem?_pos,go_sem,hc,hcn,evalD_global _ _ hΓ.sp,hsp]
           refine next_ren ⟨(x,x,acc'),hx2,Nat.le_refl _,by simp only;omega,hf2.symm⟩ (by simp only;omega) [] (rhoL [(0,some 0)]) ?_
           apply ren_lists <;> simp -implicitDefEqProofs [go_sem]
           exact renCells_plain rfl (accD_plain n _)
         · rw [g2] at hsp
           have hf2:=fin_sp (n:=n) (acc:=acc') g1 g2
           rw [hf] at hf2
           simp -implicitDefEqProofs (disch:=omega) [-getElem?_pos,go_sem,hc,hcn,evalD_global _ _ hΓ.sp,hsp]
           refine next_ren ⟨x + 1,by omega,by omega,hf2.symm⟩ (by simp only;omega) [] (rhoL [(0,some 0)]) ?_
           apply ren_lists <;> simp -implicitDefEqProofs [go_sem]
           exact renCells_plain rfl (accD_plain n _)
       · have:x = s.size:=by omega
         subst this
         rw [fin_nil] at hf
         simp -implicitDefEqProofs (disch:=omega) [-getElem?_pos,go_sem]
         refine next_ren ⟨(s.size,s.size,acc'),Nat.le_refl _,Nat.le_refl _,by simp only;omega,hf⟩ (by simp only;omega) [] (rhoL [(0,some 0)]) ?_
         apply ren_lists <;> simp -implicitDefEqProofs [go_sem]
         exact renCells_plain rfl (accD_plain n _)
   · have:j = s.size:=by omega
     subst this
     rw [fin_end] at hf
     by_cases k1:st < s.size
     · rw [if_pos k1] at hf
       by_cases hn:acc.length < n
       rotate_left
       · rw [if_neg hn] at hf;cases hf
       rw [if_pos hn] at hf
       have hset:=accD_set hn (s.extract st s.size)
       have hln:(accD n acc).length = n:=accD_length hac
       obtain rfl:=Option.some.inj hf
       rw [accD_full hlen] at hset
       simp -implicitDefEqProofs (disch:=omega) [-getElem?_pos,go_sem,hln]
       simp -implicitDefEqProofs (disch:=omega) [go_sem,over,hset,Tryz.f109]
       exact ⟨_,⟨_,rfl,frz_strs (rw:=true) (by simp [Hp.upd,Hp.set,hset]) (.inl rfl) hlen⟩,rfl⟩
     · rw [if_neg k1] at hf
       obtain rfl:=Option.some.inj hf
       simp -implicitDefEqProofs (disch:=omega) [-getElem?_pos,go_sem,Tryz.f109]
       exact ⟨_,⟨_,rfl,frz_strs (rw:=true) (by rw [accD_full hlen];rfl) (.inl rfl) hlen⟩,rfl⟩
end
end Fs
end Go.Proofs.YtlfhkplbjgcpiaaGreatDoor
