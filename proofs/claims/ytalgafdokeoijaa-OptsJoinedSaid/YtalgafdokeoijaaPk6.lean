/- Options: OptsTells, OptsBack, OptsNumbers. Options: OptsJoined, OptsDrops. Options: the laws. -/
import Derived.Test.YtalgafdokeoijaaPk5
namespace Go.Proofs.Ytalgafdokeoijaa
open Go.RowKit
set_option linter.unusedSimpArgs false
set_option linter.unusedVariables false
set_option maxRecDepth 100000
namespace Op9
def lessN:List Nat->List Nat->Bool
 | _,[]=>false
 | [],_ :: _=>true
 | a :: x,b :: y=>decide (a < b) || (decide (a = b) && lessN x y)
theorem less_is:∀ (l m:List Nat),(∀ x∈l,x < 256)->(∀ x∈m,x < 256)->Op.bytesLess (l.map UInt8.ofNat) (m.map UInt8.ofNat) = lessN l m
 | l,[],_,_=>by cases l <;> rfl
 | [],b :: m,_,_=>rfl
 | a :: l,b :: m,hl,hm=>by
   have ha:=hl a (by simp)
   have hb:=hm b (by simp)
   simp only [List.map_cons,Op.bytesLess,lessN]
   rw [less_is l m (fun x hx=>hl x (by simp [hx])) fun x hx=>hm x (by simp [hx])]
   have ea:(UInt8.ofNat a).toNat = a:=by simp;omega
   have eb:(UInt8.ofNat b).toNat = b:=by simp;omega
   have e1:(UInt8.ofNat a < UInt8.ofNat b) ↔ a < b:=by rw [UInt8.lt_iff_toNat_lt,ea,eb]
   have e2:(UInt8.ofNat a = UInt8.ofNat b) ↔ a = b:=by rw [<- UInt8.toNat_inj,ea,eb]
   have e3:(UInt8.ofNat a == UInt8.ofNat b) = decide (a = b):=by
    by_cases h:a = b
    · simp [h]
    · rw [decide_eq_false h]
      exact beq_eq_false_iff_ne.2 fun k=>h (e2.1 k)
   rw [e3,decide_eq_decide.2 e1]
theorem toStr_list (l:List Nat):(toStr l).toList = l.map UInt8.ofNat:=by rw [ByteArray.toList_eq];simp [toStr]
theorem four_less {a b:Nat} (ha:a < 4294967296) (hb:b < 4294967296):Op.bytesLess (toStr (fourO a)).toList (toStr (fourO b)).toList = decide (a < b):=by
 rw [toStr_list,toStr_list,less_is _ _ (four_lt ha) (four_lt hb)]
 simp only [fourO,lessN]
 rw [Bool.eq_iff_iff]
 simp only [Bool.or_eq_true,Bool.and_eq_true,decide_eq_true_eq,Bool.false_eq_true,and_false,or_false]
 omega
theorem binK_less (P:Program) (t:TypeId) (a b:ByteArray) (K:D->Prop):binK P .lss t (.data (.str a)) (.data (.str b)) K = K (boolD (Op.bytesLess a.toList b.toList)):=rfl
section
variable (Γ:Nat->Option (List Data))
set_option maxHeartbeats 8000000 in
theorem otells_pc (l m:List Ot) (b:List Nat) (n:Nat) (hl:l.length≤140737488351232) (hlo:∀ o∈l,InO o) (hm:m.length≤140737488351232) (hmo:∀ o∈m,InO o) (hbl:b.length≤140737488351232) (hb:∀ c∈b,c < 256) (hn:n < 4294967296) :
 PC Try.prog Γ 3 [.agg [.sl 2 (ots l),.sl 2 (ots m),.sl 1 (bys b),.int .u32 n]] (.bool true):=by
 refine pc_by mixed Try.func3 rfl (fun args w=>Try.call3 args w) ?_
 have f1:=rfew_pc Γ l hl (fun o ho=>(hlo o ho).2) (q:=decide (FewO l)) decide_eq_true_iff
 have f2:=rfew_pc Γ m hm (fun o ho=>(hmo o ho).2) (q:=decide (FewO m)) decide_eq_true_iff
 simp -implicitDefEqProofs (disch:=omega) [go_sem]
 refine .inl (call_data (shown10_pc Γ) (by simp [go_sem]) ?_)
 simp -implicitDefEqProofs (disch:=omega) [go_sem]
 refine .inl (call_data f1 (by simp [go_sem]) ?_)
 by_cases g1:FewO l
 rotate_left
 · rw [decide_eq_false g1]
   simp -implicitDefEqProofs (disch:=omega) [go_sem,Try.f3]
 rw [decide_eq_true g1]
 simp -implicitDefEqProofs (disch:=omega) [go_sem]
 refine .inl (call_data f2 (by simp [go_sem]) ?_)
 by_cases g2:FewO m
 rotate_left
 · rw [decide_eq_false g2]
   simp -implicitDefEqProofs (disch:=omega) [go_sem,Try.f3]
 rw [decide_eq_true g2]
 by_cases g3:2000 < b.length
 · simp -implicitDefEqProofs (disch:=omega) [go_sem,g3,Try.f3]
 have h1:=g1.1
 have h2:=g2.1
 obtain ⟨hg,hgl⟩:=gotO_facts hb
 have hbe:=optB_le (l:=l)
 have c1:=obytes_pc Γ l (by omega) (fun o ho=>(hlo o ho).2)
 have c2:=robytes_pc Γ l (by omega) (fun o ho=>(hlo o ho).2)
 have c3:=oread_pc Γ b (by omega) hb
 have c4:=roread_pc Γ b (by omega) hb
 have c5:=Sf.row_same Γ (optB l) (by omega)
 have c6:=rosame_pc Γ (gotO b) (gotO b) (by omega) (by omega) (fun o ho=>by have:=(hg o ho).2;omega) (fun o ho=>by have:=(hg o ho).2;omega)
 rw [decide_eq_true rfl] at c6
 have c7:=osame_pc Γ l m (fun o ho=>(hlo o ho).1) (fun o ho=>(hmo o ho).1) hl hm
 have c8:=rosame_pc Γ l m (by omega) (by omega) (fun o ho=>by have:=g1.2 o ho;omega) (fun o ho=>by have:=g2.2 o ho;omega)
 have c9:=onumber_pc Γ b hbl hb
 have c10:=rnumber_pc Γ b (by omega) hb
 have c11:=ofour_pc Γ n hn
 have c12:=rfour_pc Γ n hn
 have c13:=Sf.row_same Γ (fourO n) (by simp [fourO])
 generalize gotO b = g at *
 generalize errO b = e at *
 generalize optE l = e2 at *
 generalize optB l = x at *
 generalize fourO n = y at *
 generalize numO b = z at *
 generalize decide (l = m) = v at *
 simp -implicitDefEqProofs (disch:=omega) [go_sem,g3]
 refine .inl (call_data c1 (by simp [go_sem]) ?_)
 simp -implicitDefEqProofs (disch:=omega) [go_sem]
 refine .inl (call_data c2 (by simp [go_sem]) ?_)
 simp -implicitDefEqProofs (disch:=omega) [go_sem]
 refine .inl (call_data c3 (by simp [go_sem]) ?_)
 simp -implicitDefEqProofs (disch:=omega) [go_sem]
 refine .inl (call_data c4 (by simp [go_sem]) ?_)
 simp -implicitDefEqProofs (disch:=omega) [go_sem]
 refine .inl (call_data c5 (by simp [go_sem]) ?_)
 simp -implicitDefEqProofs (disch:=omega) [go_sem]
 refine .inl (call_data c6 (by simp [go_sem]) ?_)
 simp -implicitDefEqProofs (disch:=omega) [go_sem]
 refine .inl (call_data c7 (by simp [go_sem]) ?_)
 simp -implicitDefEqProofs (disch:=omega) [go_sem]
 refine .inl (call_data c8 (by simp [go_sem]) ?_)
 simp -implicitDefEqProofs (disch:=omega) [go_sem]
 refine .inl (call_data c9 (by simp [go_sem]) ?_)
 simp -implicitDefEqProofs (disch:=omega) [go_sem]
 refine .inl (call_data c10 (by simp [go_sem]) ?_)
 simp -implicitDefEqProofs (disch:=omega) [go_sem]
 refine .inl (call_data c11 (by simp [go_sem]) ?_)
 simp -implicitDefEqProofs (disch:=omega) [go_sem]
 refine .inl (call_data c12 (by simp [go_sem]) ?_)
 simp -implicitDefEqProofs (disch:=omega) [go_sem]
 refine .inl (call_data c13 (by simp [go_sem]) ?_)
 simp -implicitDefEqProofs (disch:=omega) [go_sem,Try.f3]
theorem law_OptsTells {x0:Data} (a0:argD Try.prog 8 26 x0):PC Try.prog Γ 3 [x0] (.bool true):=by
 obtain ⟨l,m,b,n,rfl,⟨h1,h2⟩,⟨h3,h4⟩,⟨h5,h6⟩,h7⟩:=arg_tells a0
 exact otells_pc Γ l m b n h1 h2 h3 h4 h5 h6 h7
set_option maxHeartbeats 8000000 in
theorem onumbers_pc (a b:Nat) (q:List Nat) (ha:a < 4294967296) (hb:b < 4294967296) (hql:q.length≤140737488351232) (hq:∀ c∈q,c < 256):PC Try.prog Γ 7 [.int .u32 a,.int .u32 b,.sl 1 (bys q)] (.bool true):=by
 refine pc_by mixed Try.func7 rfl (fun args w=>Try.call7 args w) ?_
 simp -implicitDefEqProofs (disch:=omega) [go_sem]
 refine .inl (call_data (shown10_pc Γ) (by simp [go_sem]) ?_)
 by_cases g1:100 < q.length
 · simp -implicitDefEqProofs (disch:=omega) [go_sem,g1,Try.f7]
 have c1:=ofour_pc Γ a ha
 have c2:=ofour_pc Γ b hb
 have hx:=four_lt ha
 have hy:=four_lt hb
 have lx:(fourO a).length = 4:=rfl
 have ly:(fourO b).length = 4:=rfl
 have c3:=onumber_pc Γ (q++fourO a) (by simp [lx];omega) (fun x hx'=>by
  rcases List.mem_append.1 hx' with h | h
  · exact hq x h
  · exact hx x h)
 rw [num_behind q ha] at c3
 have c4:=onumber_pc Γ (fourO a) (by rw [lx];omega) hx
 rw [four_num ha] at c4
 have c5:=Sf.row_same Γ (fourO a) (by rw [lx];omega)
 have hless:=four_less ha hb
 generalize fourO a = x at *
 generalize fourO b = y at *
 have hab:decide ((a:Int) < b) = decide (a < b):=decide_eq_decide.2 (by omega)
 simp -implicitDefEqProofs (disch:=omega) [go_sem,g1]
 refine .inl (call_data c1 (by simp [go_sem]) ?_)
 simp -implicitDefEqProofs (disch:=omega) [go_sem]
 refine .inl (call_data c2 (by simp [go_sem]) ?_)
 simp -implicitDefEqProofs (disch:=omega) [go_sem,lx,ly]
 refine .inl (call_kept 28 (q.length + 4) (q++x) c3 (by simp [Hp.upd,Hp.set,bys]) (by simp [lx]) ?_)
 simp -implicitDefEqProofs (disch:=omega) [go_sem,lx,ly]
 refine conv_bys (e:=5) hx (by simp [go_sem]) (by simp [go_sem]) (by simp [go_sem]) ?_
 simp -implicitDefEqProofs (disch:=omega) [go_sem]
 refine conv_bys (e:=5) hy (by simp [go_sem]) (by simp [go_sem]) (by simp [go_sem]) ?_
 simp -implicitDefEqProofs (disch:=omega) [go_sem,binK_less,hless]
 refine .inl (call_data c4 (by simp [go_sem]) ?_)
 simp -implicitDefEqProofs (disch:=omega) [go_sem]
 refine .inl (call_data c1 (by simp [go_sem]) ?_)
 simp -implicitDefEqProofs (disch:=omega) [go_sem]
 refine .inl (call_data c5 (by simp [go_sem]) ?_)
 simp -implicitDefEqProofs (disch:=omega) [go_sem,Try.f7]
theorem law_OptsNumbers {x0 x1 x2:Data} (a0:argD Try.prog 8 24 x0) (a1:argD Try.prog 8 24 x1) (a2:argD Try.prog 8 23 x2):PC Try.prog Γ 7 [x0,x1,x2] (.bool true):=by
 obtain ⟨a,ha,rfl⟩:=arg_u32 Try.underlying24 a0
 obtain ⟨b,hb,rfl⟩:=arg_u32 Try.underlying24 a1
 obtain ⟨q,lq,hq,rfl⟩:=arg_bytes Try.underlying23 Try.underlying5 (by kernel_rfl) a2
 exact onumbers_pc Γ a b q ha hb hq lq
set_option maxHeartbeats 8000000 in
theorem oback_pc (l:List Ot) (b:List Nat) (n:Nat) (hl:l.length≤140737488351232) (hlo:∀ o∈l,InO o) (hbl:b.length≤140737488351232) (hb:∀ c∈b,c < 256) (hn:n < 4294967296) :
 PC Try.prog Γ 4 [.sl 2 (ots l),.sl 1 (bys b),.int .u32 n] (.bool true):=by
 refine pc_by mixed Try.func4 rfl (fun args w=>Try.call4 args w) ?_
 have f1:=rfew_pc Γ l hl (fun o ho=>(hlo o ho).2) (q:=decide (FewO l)) decide_eq_true_iff
 simp -implicitDefEqProofs (disch:=omega) [go_sem]
 refine .inl (call_data (shown10_pc Γ) (by simp [go_sem]) ?_)
 simp -implicitDefEqProofs (disch:=omega) [go_sem]
 refine .inl (call_data f1 (by simp [go_sem]) ?_)
 by_cases g1:FewO l
 rotate_left
 · rw [decide_eq_false g1]
   simp -implicitDefEqProofs (disch:=omega) [go_sem,Try.f4]
 rw [decide_eq_true g1]
 by_cases g3:1496 < b.length
 · simp -implicitDefEqProofs (disch:=omega) [go_sem,g3,Try.f4]
 have h1:=g1.1
 obtain ⟨hg,hgl⟩:=gotO_facts hb
 have hbe:=optB_le (l:=l)
 have c1:=obytes_pc Γ l (by omega) (fun o ho=>(hlo o ho).2)
 have c3:=oread_pc Γ b (by omega) hb
 have c11:=ofour_pc Γ n hn
 have c9:=onumber_pc Γ (fourO n) (by simp [fourO]) (four_lt hn)
 rw [four_num hn] at c9
 generalize fourO n = y at *
 cases hr:readL b with
 | none =>
   rw [show gotO b = [] by unfold gotO;rw [hr];rfl,show errO b = 2 by unfold errO;rw [hr];rfl] at c3
   by_cases g2:OkO l
   · rw [show optB l = otsB l from if_pos g2,show optE l = 0 from if_pos g2] at c1
     have c2:=oread_pc Γ (otsB l) (by have:=g2.2;omega) (otsB_lt fun o ho=>⟨(hlo o ho).1,g1.2 o ho⟩)
     rw [show gotO (otsB l) = l by unfold gotO;rw [readL_back];rfl,show errO (otsB l) = 0 by unfold errO;rw [readL_back];rfl] at c2
     have c6:=rosame_pc Γ l l (by omega) (by omega) (fun o ho=>by have:=g1.2 o ho;omega) (fun o ho=>by have:=g1.2 o ho;omega)
     rw [decide_eq_true rfl] at c6
     simp -implicitDefEqProofs (disch:=omega) [go_sem,g3]
     refine .inl (call_data c1 (by simp [go_sem]) ?_)
     simp -implicitDefEqProofs (disch:=omega) [go_sem]
     refine .inl (call_data c2 (by simp [go_sem]) ?_)
     simp -implicitDefEqProofs (disch:=omega) [go_sem]
     refine .inl (call_data c6 (by simp [go_sem]) ?_)
     simp -implicitDefEqProofs (disch:=omega) [go_sem]
     refine .inl (call_data c3 (by simp [go_sem]) ?_)
     simp -implicitDefEqProofs (disch:=omega) [go_sem,ots]
     refine .inl (call_data c11 (by simp [go_sem]) ?_)
     simp -implicitDefEqProofs (disch:=omega) [go_sem]
     refine .inl (call_data c9 (by simp [go_sem]) ?_)
     simp -implicitDefEqProofs (disch:=omega) [go_sem,Try.f4]
   · rw [show optB l = [] from if_neg g2,show optE l = 1 from if_neg g2] at c1
     simp -implicitDefEqProofs (disch:=omega) [go_sem,g3]
     refine .inl (call_data c1 (by simp [go_sem]) ?_)
     simp -implicitDefEqProofs (disch:=omega) [go_sem]
     refine .inl (call_data c3 (by simp [go_sem]) ?_)
     simp -implicitDefEqProofs (disch:=omega) [go_sem,ots]
     refine .inl (call_data c11 (by simp [go_sem]) ?_)
     simp -implicitDefEqProofs (disch:=omega) [go_sem]
     refine .inl (call_data c9 (by simp [go_sem]) ?_)
     simp -implicitDefEqProofs (disch:=omega) [go_sem,Try.f4]
 | some p =>
   obtain ⟨eb,hp⟩:=readL_forth hb hr
   have hpl:p.length≤b.length:=by have:=otsB_get p;rw [<- eb] at this;exact this
   have okp:OkO p:=⟨fun o ho=>(hp o ho).2,by rw [<- eb];omega⟩
   rw [show gotO b = p by unfold gotO;rw [hr];rfl,show errO b = 0 by unfold errO;rw [hr];rfl] at c3
   have c4:=obytes_pc Γ p (by omega) (fun o ho=>by have:=(hp o ho).2;omega)
   rw [show optB p = b by rw [eb];exact if_pos okp,show optE p = 0 from if_pos okp] at c4
   have c5:=Sf.row_same Γ b (by omega)
   by_cases g2:OkO l
   · rw [show optB l = otsB l from if_pos g2,show optE l = 0 from if_pos g2] at c1
     have c2:=oread_pc Γ (otsB l) (by have:=g2.2;omega) (otsB_lt fun o ho=>⟨(hlo o ho).1,g1.2 o ho⟩)
     rw [show gotO (otsB l) = l by unfold gotO;rw [readL_back];rfl,show errO (otsB l) = 0 by unfold errO;rw [readL_back];rfl] at c2
     have c6:=rosame_pc Γ l l (by omega) (by omega) (fun o ho=>by have:=g1.2 o ho;omega) (fun o ho=>by have:=g1.2 o ho;omega)
     rw [decide_eq_true rfl] at c6
     clear eb
     simp -implicitDefEqProofs (disch:=omega) [go_sem,g3]
     refine .inl (call_data c1 (by simp [go_sem]) ?_)
     simp -implicitDefEqProofs (disch:=omega) [go_sem]
     refine .inl (call_data c2 (by simp [go_sem]) ?_)
     simp -implicitDefEqProofs (disch:=omega) [go_sem]
     refine .inl (call_data c6 (by simp [go_sem]) ?_)
     simp -implicitDefEqProofs (disch:=omega) [go_sem]
     refine .inl (call_data c3 (by simp [go_sem]) ?_)
     simp -implicitDefEqProofs (disch:=omega) [go_sem]
     refine .inl (call_data c4 (by simp [go_sem]) ?_)
     simp -implicitDefEqProofs (disch:=omega) [go_sem]
     refine .inl (call_data c5 (by simp [go_sem]) ?_)
     simp -implicitDefEqProofs (disch:=omega) [go_sem]
     refine .inl (call_data c11 (by simp [go_sem]) ?_)
     simp -implicitDefEqProofs (disch:=omega) [go_sem]
     refine .inl (call_data c9 (by simp [go_sem]) ?_)
     simp -implicitDefEqProofs (disch:=omega) [go_sem,Try.f4]
   · rw [show optB l = [] from if_neg g2,show optE l = 1 from if_neg g2] at c1
     clear eb
     simp -implicitDefEqProofs (disch:=omega) [go_sem,g3]
     refine .inl (call_data c1 (by simp [go_sem]) ?_)
     simp -implicitDefEqProofs (disch:=omega) [go_sem]
     refine .inl (call_data c3 (by simp [go_sem]) ?_)
     simp -implicitDefEqProofs (disch:=omega) [go_sem]
     refine .inl (call_data c4 (by simp [go_sem]) ?_)
     simp -implicitDefEqProofs (disch:=omega) [go_sem]
     refine .inl (call_data c5 (by simp [go_sem]) ?_)
     simp -implicitDefEqProofs (disch:=omega) [go_sem]
     refine .inl (call_data c11 (by simp [go_sem]) ?_)
     simp -implicitDefEqProofs (disch:=omega) [go_sem]
     refine .inl (call_data c9 (by simp [go_sem]) ?_)
     simp -implicitDefEqProofs (disch:=omega) [go_sem,Try.f4]
theorem law_OptsBack {x0 x1 x2:Data} (a0:argD Try.prog 8 22 x0) (a1:argD Try.prog 8 23 x1) (a2:argD Try.prog 8 24 x2):PC Try.prog Γ 4 [x0,x1,x2] (.bool true):=by
 obtain ⟨l,rfl,hl,hlo⟩:=arg_opts a0
 obtain ⟨b,lb,hb,rfl⟩:=arg_bytes Try.underlying23 Try.underlying5 (by kernel_rfl) a1
 obtain ⟨n,hn,rfl⟩:=arg_u32 Try.underlying24 a2
 exact oback_pc Γ l b n hl hlo hb lb hn
end
end Op9
namespace Op9
theorem flat_ots_app (a b:List Ot):(flat (ots (a++b))).map D.data = (flat (ots a)).map D.data++(flat (ots b)).map D.data:=by simp [ots,flat]
theorem ots_cell (l:List Ot):∀ x∈flat (ots l),x.cell = true:=by
 intro x hx
 simp only [flat,ots,List.mem_flatMap,List.mem_map] at hx
 obtain ⟨_,⟨o,_,rfl⟩,hx⟩:=hx
 simp only [ot,Data.cells,List.mem_cons,List.not_mem_nil,or_false] at hx
 rcases hx with rfl | rfl <;> rfl
theorem fz_ots {ok:Bool} {H:Nat->Blk} {g n:Nat} {l:List Ot} {rw:Bool} (hg:H g = .blk rw ((flat (ots l)).map D.data)) (hrw:ok = true ∨ rw = false) (hn:l.length = n):Frz ok H (.ref g 0 n 2) (.sl 2 (ots l)) :=
 frz_ref hg hrw (by rw [ots_length,hn]) (ots_cells _) rfl
section
variable (Γ:Nat->Option (List Data))
set_option maxHeartbeats 8000000 in
theorem ojoined_pc (a b:List Ot) (ha:a.length≤140737488351232) (hao:∀ o∈a,InO o) (hb:b.length≤140737488351232) (hbo:∀ o∈b,InO o) :
 PC Try.prog Γ 5 [.sl 2 (ots a),.sl 2 (ots b)] (.bool true):=by
 refine pc_by mixed Try.func5 rfl (fun args w=>Try.call5 args w) ?_
 have f1:=rfew_pc Γ a ha (fun o ho=>(hao o ho).2) (q:=decide (FewO a)) decide_eq_true_iff
 have f2:=rfew_pc Γ b hb (fun o ho=>(hbo o ho).2) (q:=decide (FewO b)) decide_eq_true_iff
 simp -implicitDefEqProofs (disch:=omega) [go_sem]
 refine .inl (call_data (shown10_pc Γ) (by simp [go_sem]) ?_)
 simp -implicitDefEqProofs (disch:=omega) [go_sem]
 refine .inl (call_data f1 (by simp [go_sem]) ?_)
 by_cases g1:FewO a
 rotate_left
 · rw [decide_eq_false g1]
   simp -implicitDefEqProofs (disch:=omega) [go_sem,Try.f5]
 rw [decide_eq_true g1]
 simp -implicitDefEqProofs (disch:=omega) [go_sem]
 refine .inl (call_data f2 (by simp [go_sem]) ?_)
 by_cases g2:FewO b
 rotate_left
 · rw [decide_eq_false g2]
   simp -implicitDefEqProofs (disch:=omega) [go_sem,Try.f5]
 rw [decide_eq_true g2]
 have h1:=g1.1
 have h2:=g2.1
 have la:=optB_le (l:=a)
 have lb:=optB_le (l:=b)
 have c1:=obytes_pc Γ a (by omega) (fun o ho=>(hao o ho).2)
 have c2:=obytes_pc Γ b (by omega) (fun o ho=>(hbo o ho).2)
 have c3:=obytes_pc Γ (a++b) (by simp;omega) (fun o ho=>by
  rcases List.mem_append.1 ho with h | h
  · exact (hao o h).2
  · exact (hbo o h).2)
 have hfa:(flat (ots a)).length = a.length * 2:=by rw [flat_length (ots_cells _),ots_length]
 have hfb:(flat (ots b)).length = b.length * 2:=by rw [flat_length (ots_cells _),ots_length]
 simp -implicitDefEqProofs (disch:=omega) [go_sem]
 refine .inl (call_data c1 (by simp [go_sem]) ?_)
 simp -implicitDefEqProofs (disch:=omega) [go_sem]
 refine .inl (call_data c2 (by simp [go_sem]) ?_)
 have hca:=ots_cell a
 have hcb:=ots_cell b
 have hwa:(0 + (a.length:Int)) * 32≤140737488355328:=by omega
 simp -implicitDefEqProofs (disch:=omega) [go_sem,hfa,hfb]
 refine .inl (call_keep 29 (rw:=true) (cells:=(flat (ots (a++b))).map D.data) c3 (by simp [Hp.upd,Hp.set,flat_ots_app]) (fun H' hH'=>frzL_c (fz_ots (rw:=false) hH' (.inr rfl) (by simp)) frzL_n) ?_)
 by_cases k:OkO (a++b)
 rotate_left
 · have e3:optE (a++b) = 1:=if_neg k
   have e4:optB (a++b) = []:=if_neg k
   have two:optE a = 1 ∨ (optE a = 0∧optE b = 1) ∨ (optE a = 0∧optE b = 0∧1496 < (optB a).length + (optB b).length):=by
    by_cases ka:OkO a
    · by_cases kb:OkO b
      · refine .inr (.inr ⟨if_pos ka,if_pos kb,?_⟩)
        rw [show optB a = otsB a from if_pos ka,show optB b = otsB b from if_pos kb]
        refine Nat.lt_of_not_le fun h=>k (okO_app.2 ⟨ka.1,kb.1,h⟩)
      · exact .inr (.inl ⟨if_pos ka,if_neg kb⟩)
    · exact .inl (if_neg ka)
   generalize optB a = x at *
   generalize optB b = y at *
   rcases two with h | ⟨h,h'⟩ | ⟨h,h',h''⟩
   · simp -implicitDefEqProofs (disch:=omega) [go_sem,e3,e4,h,Try.f5]
   · simp -implicitDefEqProofs (disch:=omega) [go_sem,e3,e4,h,h',Try.f5]
   · have h3:(1496:Int) < x.length + y.length:=by omega
     simp -implicitDefEqProofs (disch:=omega) [go_sem,e3,e4,h,h',h3,Try.f5]
 obtain ⟨k1,k2,k3⟩:=okO_app.1 k
 have ka:OkO a:=⟨k1,by omega⟩
 have kb:OkO b:=⟨k2,by omega⟩
 have ea1:optE a = 0:=if_pos ka
 have eb1:optE b = 0:=if_pos kb
 have ea2:optB a = otsB a:=if_pos ka
 have eb2:optB b = otsB b:=if_pos kb
 have ec1:optE (a++b) = 0:=if_pos k
 have ec2:optB (a++b) = otsB a++otsB b:=by rw [show optB (a++b) = otsB (a++b) from if_pos k,otsB_append]
 have hty:∀ o∈a++b,o.Ty∧o.d.length≤253:=fun o ho=>by
  rcases List.mem_append.1 ho with h | h
  · exact ⟨(hao o h).1,k1 o h⟩
  · exact ⟨(hbo o h).1,k2 o h⟩
 have c4:=oread_pc Γ (otsB a++otsB b) (by simp;omega) (by rw [<- otsB_append];exact otsB_lt hty)
 rw [show gotO (otsB a++otsB b) = a++b by rw [<- otsB_append];unfold gotO;rw [readL_back];rfl,show errO (otsB a++otsB b) = 0 by rw [<- otsB_append];unfold errO;rw [readL_back];rfl] at c4
 have c5:=Sf.row_same Γ (otsB a++otsB b) (by simp;omega)
 have c6:=rosame_pc Γ (a++b) (a++b) (by simp;omega) (by simp;omega) (fun o ho=>by have:=(hty o ho).2;omega) (fun o ho=>by have:=(hty o ho).2;omega)
 rw [decide_eq_true rfl] at c6
 rw [ec2]
 have h3:¬ (1496:Int) < (otsB a).length + (otsB b).length:=by omega
 simp -implicitDefEqProofs (disch:=omega) [go_sem,ea1,eb1,ea2,eb2,ec1,h3]
 refine .inl (call_data c4 (by simp [go_sem]) ?_)
 simp -implicitDefEqProofs (disch:=omega) [go_sem]
 refine .inl (call_keep 70 (rw:=true) (cells:=(bys (otsB a++otsB b)).map D.data) c5 (by simp [Hp.upd,Hp.set,bys,ea2,eb2]) (fun H' hH'=>frzL_c (.data _) (frzL_c (frz_bys (rw:=false) hH' (.inr rfl) (by simp [ea2,eb2])) frzL_n)) ?_)
 simp -implicitDefEqProofs (disch:=omega) [go_sem]
 refine .inl (call_keep 29 (rw:=false) (cells:=(flat (ots (a++b))).map D.data) c6 (by simp [Hp.upd,Hp.set]) (fun H' hH'=>frzL_c (.data _) (frzL_c (fz_ots (rw:=false) hH' (.inr rfl) (by simp)) frzL_n)) ?_)
 simp -implicitDefEqProofs (disch:=omega) [go_sem,Try.f5]
theorem law_OptsJoined {x0 x1:Data} (a0:argD Try.prog 8 22 x0) (a1:argD Try.prog 8 22 x1):PC Try.prog Γ 5 [x0,x1] (.bool true):=by
 obtain ⟨a,rfl,ha,hao⟩:=arg_opts a0
 obtain ⟨b,rfl,hb,hbo⟩:=arg_opts a1
 exact ojoined_pc Γ a b ha hao hb hbo
set_option maxHeartbeats 8000000 in
theorem odrops_pc (l:List Ot) (s t:Nat) (o:Ot) (hl:l.length≤140737488351232) (hlo:∀ o∈l,InO o) (ho:InO o) :
 PC Try.prog Γ 6 [.agg [.sl 2 (ots l),.int .u8 s,.int .u8 t,.int .u8 o.t,.sl 1 (bys o.d)]] (.bool true):=by
 refine pc_by mixed Try.func6 rfl (fun args w=>Try.call6 args w) ?_
 have f1:=rfew_pc Γ l hl (fun o ho=>(hlo o ho).2) (q:=decide (FewO l)) decide_eq_true_iff
 simp -implicitDefEqProofs (disch:=omega) [go_sem]
 refine .inl (call_data (shown10_pc Γ) (by simp [go_sem]) ?_)
 simp -implicitDefEqProofs (disch:=omega) [go_sem]
 refine .inl (call_data f1 (by simp [go_sem]) ?_)
 by_cases g1:FewO l
 rotate_left
 · rw [decide_eq_false g1]
   simp -implicitDefEqProofs (disch:=omega) [go_sem,Try.f6]
 rw [decide_eq_true g1]
 by_cases g2:253 < o.d.length
 · simp -implicitDefEqProofs (disch:=omega) [go_sem,g2,Try.f6]
 have h1:=g1.1
 have hds:=drop_len l s
 have hdt:=drop_len l t
 have hdo:=drop_len l o.t
 have h253:∀ x∈l,x.d.length≤1000000000:=fun x hx=>by have:=g1.2 x hx;omega
 have c1:=odrop_pc Γ l s (by omega) h253
 have c2:=odrop_pc Γ (dropO l s) t (by omega) fun x hx=>h253 x (drop_sub x hx)
 have c3:=odrop_pc Γ l t (by omega) h253
 have c4:=odrop_pc Γ (dropO l t) s (by omega) fun x hx=>h253 x (drop_sub x hx)
 rw [<- drop_drop l s t] at c4
 have c5:=odrop_pc Γ l o.t (by omega) h253
 have c6:=oput_pc Γ (dropO l o.t) o (by omega) (fun x hx=>h253 x (drop_sub x hx)) (by omega)
 rw [put_dropped] at c6
 have hl2:=drop_len (dropO l s) t
 have c7:=rosame_pc Γ (dropO (dropO l s) t) (dropO (dropO l s) t) (by omega) (by omega) (fun x hx=>h253 x (drop_sub x (drop_sub x hx))) (fun x hx=>h253 x (drop_sub x (drop_sub x hx)))
 rw [decide_eq_true rfl] at c7
 have c8:=rone_pc Γ o o (by omega) (by omega)
 rw [decide_eq_true rfl] at c8
 have c9:=odrop_pc Γ (dropO l o.t++[o]) o.t (by simp;omega) (fun x hx=>by
  rcases List.mem_append.1 hx with h | h
  · exact h253 x (drop_sub x h)
  · rw [List.mem_singleton.1 h];omega)
 rw [drop_put] at c9
 have c10:=rosame_pc Γ (dropO l o.t) (dropO l o.t) (by omega) (by omega) (fun x hx=>h253 x (drop_sub x hx)) (fun x hx=>h253 x (drop_sub x hx))
 rw [decide_eq_true rfl] at c10
 have hno:∀ x∈dropO l o.t,x.t≠o.t:=drop_mem
 generalize dropO (dropO l s) t = z at *
 generalize dropO l s = z1 at *
 generalize dropO l t = z2 at *
 generalize dropO l o.t = y at *
 unfold ot at c6 c8
 simp -implicitDefEqProofs (disch:=omega) [go_sem,g2]
 refine .inl (call_data c1 (by simp [go_sem]) ?_)
 simp -implicitDefEqProofs (disch:=omega) [go_sem]
 refine .inl (call_data c2 (by simp [go_sem]) ?_)
 simp -implicitDefEqProofs (disch:=omega) [go_sem]
 refine .inl (call_data c3 (by simp [go_sem]) ?_)
 simp -implicitDefEqProofs (disch:=omega) [go_sem]
 refine .inl (call_data c4 (by simp [go_sem]) ?_)
 simp -implicitDefEqProofs (disch:=omega) [go_sem]
 refine .inl (call_data c5 (by simp [go_sem]) ?_)
 simp -implicitDefEqProofs (disch:=omega) [go_sem]
 refine .inl (call_data c6 (by simp [go_sem]) ?_)
 simp -implicitDefEqProofs (disch:=omega) [go_sem]
 refine side (by kernel_rfl) ?_
 simp -implicitDefEqProofs (disch:=omega) [go_sem]
 refine loop_ren (σ:={ i:Nat // i≤y.length + 1 }) (fun i=>⟨envL [(3,.data (.sl 2 (ots l))),(6,.ptr 0 0),(7,.data (.bool true)),(8,.data (.sl 2 (ots z))),(9,.data (.sl 2 (ots z))),(10,.data (.sl 2 (ots (y++[o])))),(11,.data (.int .i64 (if i.1 = y.length + 1 then 1 else 0))),(12,.data (.int .i64 i.1))],hpL [(0,.blk true [.data (.int .u8 o.t),.data (.sl 1 (bys o.d))])],1,0,100⟩) (fun i=>y.length + 1 - i.1) ⟨0,by omega⟩ [] (rhoL [(0,some 13)]) ?_ ?_
 · apply ren_lists <;> simp -implicitDefEqProofs [go_sem]
 rintro ⟨i,hi⟩
 have hyl:(y++[o]).length = y.length + 1:=by simp
 by_cases h:i < y.length + 1
 · have hne:¬ i = y.length + 1:=by omega
   by_cases h2:i < y.length
   · have hne2:¬ i + 1 = y.length + 1:=by omega
     have ht:=hno _ (List.getElem_mem h2)
     have ht2:¬ (y[i].t:Int) = o.t:=by omega
     have hget:(y++[o])[i]? = some y[i]:=by rw [List.getElem?_append_left h2,List.getElem?_eq_getElem h2]
     simp -implicitDefEqProofs (disch:=omega) [go_sem,ot,hyl,hne]
     refine side (by kernel_rfl) ?_
     simp -implicitDefEqProofs (disch:=omega) [go_sem,ot,ht2,hne]
     refine next_ren ⟨i + 1,by omega⟩ (by simp only;omega) [] (rhoL [(0,some 0)]) ?_
     apply ren_lists <;> simp -implicitDefEqProofs [go_sem,hne,hne2]
     omega
   · have e:i = y.length:=by omega
     subst e
     simp -implicitDefEqProofs (disch:=omega) [go_sem,ot,hyl]
     refine side (by kernel_rfl) ?_
     simp -implicitDefEqProofs (disch:=omega) [go_sem,ot]
     refine next_ren ⟨y.length + 1,by omega⟩ (by simp only;omega) [] (rhoL [(0,some 0)]) ?_
     apply ren_lists <;> simp -implicitDefEqProofs [go_sem]
 · have e:i = y.length + 1:=by omega
   subst e
   simp -implicitDefEqProofs (disch:=omega) [go_sem,ot,hyl]
   refine .inl (call_data c7 (by simp [go_sem]) ?_)
   simp -implicitDefEqProofs (disch:=omega) [go_sem,ot]
   refine .inl (call_data c8 (by simp [go_sem]) ?_)
   simp -implicitDefEqProofs (disch:=omega) [go_sem,ot]
   refine .inl (call_data c9 (by simp [go_sem]) ?_)
   simp -implicitDefEqProofs (disch:=omega) [go_sem]
   refine .inl (call_data c5 (by simp [go_sem]) ?_)
   simp -implicitDefEqProofs (disch:=omega) [go_sem]
   refine .inl (call_data c10 (by simp [go_sem]) ?_)
   simp -implicitDefEqProofs (disch:=omega) [go_sem]
   refine side (by kernel_rfl) ?_
   simp -implicitDefEqProofs (disch:=omega) [go_sem,Try.f6]
theorem law_OptsDrops {x0:Data} (a0:argD Try.prog 8 47 x0):PC Try.prog Γ 6 [x0] (.bool true):=by
 obtain ⟨l,s,t,o,rfl,⟨h1,h2⟩,h3,h4,h5⟩:=arg_drops a0
 exact odrops_pc Γ l s t o h1 h2 h5
end
end Op9
theorem law_OptsTells (Γ:Nat->Option (List Data)) {x0:Data} (a0:argD Try.prog 8 26 x0):PC Try.prog Γ 3 [x0] (.bool true):=Op9.law_OptsTells Γ a0
theorem law_OptsBack (Γ:Nat->Option (List Data)) {x0 x1 x2:Data} (a0:argD Try.prog 8 22 x0) (a1:argD Try.prog 8 23 x1) (a2:argD Try.prog 8 24 x2):PC Try.prog Γ 4 [x0,x1,x2] (.bool true):=Op9.law_OptsBack Γ a0 a1 a2
theorem law_OptsJoined (Γ:Nat->Option (List Data)) {x0 x1:Data} (a0:argD Try.prog 8 22 x0) (a1:argD Try.prog 8 22 x1):PC Try.prog Γ 5 [x0,x1] (.bool true):=Op9.law_OptsJoined Γ a0 a1
theorem law_OptsDrops (Γ:Nat->Option (List Data)) {x0:Data} (a0:argD Try.prog 8 47 x0):PC Try.prog Γ 6 [x0] (.bool true):=Op9.law_OptsDrops Γ a0
theorem law_OptsNumbers (Γ:Nat->Option (List Data)) {x0 x1 x2:Data} (a0:argD Try.prog 8 24 x0) (a1:argD Try.prog 8 24 x1) (a2:argD Try.prog 8 23 x2):PC Try.prog Γ 7 [x0,x1,x2] (.bool true):=Op9.law_OptsNumbers Γ a0 a1 a2
end Go.Proofs.Ytalgafdokeoijaa
