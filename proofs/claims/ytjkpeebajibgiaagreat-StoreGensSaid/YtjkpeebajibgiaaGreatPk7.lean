/- Books: the program's own small steps (beginning, counting, stopping, failing, passing, trimming) Code: numbers, names, ops and books as bytes (mathematics): what is told is told back. Code: what is read of bytes, one after the other. Code: names, ops, sessions, lines and locks, as they are read. (By genOC.py.) Code: what is tried; heads. Code: what is written as bytes. Books: sessions, lines and locks, held against each other; books that are the same. Books: the program's rows held against each other; its books that are the same; ops that may be done; the address that is free. Code: heads and records written. Printed by genOF.py. Code: records read. -/
import Derived.Test.YtjkpeebajibgiaaGreatPk6
import Derived.Test.YtjkpeebajibgiaaGreatChecked
namespace Go.Proofs.YtjkpeebajibgiaaGreat
open Go.RowKit
set_option linter.unusedSimpArgs false
set_option linter.unusedVariables false
set_option maxRecDepth 100000
namespace Bk
section
variable (Γ:Nat->Option (List Data))
theorem cloneSess_oc (l:List Sess) (hl:l.length≤1000000):OC Tryz.prog Γ 77 [.sl 6 (sesss l)] (.ref 0 0 l.length 6) [(0,.blk true ((flat (sesss l)).map .data))] 1:=by
 refine oc_by mixed Tryz.func77 rfl (fun args w=>Tryz.call77 args w) ?_
 simp -implicitDefEqProofs (disch:=omega) [go_sem]
 refine fun q hq=>?_
 cases q
 · simp -implicitDefEqProofs (disch:=omega) [go_sem,Tryz.f77]
   refine own_of [] [(0,some 5)] ?_
   apply ren_lists <;> simp -implicitDefEqProofs [go_sem]
 · have h0:l = []:=by simpa [sesss] using hq rfl
   subst h0
   simp -implicitDefEqProofs (disch:=omega) [go_sem,Tryz.f77]
   refine own_of [] [(0,none)] ?_
   apply ren_lists <;> simp -implicitDefEqProofs [go_sem,sesss,flat]
theorem cloneItem_oc (l:List Item) (hl:l.length≤1000000):OC Tryz.prog Γ 78 [.sl 5 (items l)] (.ref 0 0 l.length 5) [(0,.blk true ((flat (items l)).map .data))] 1:=by
 refine oc_by mixed Tryz.func78 rfl (fun args w=>Tryz.call78 args w) ?_
 simp -implicitDefEqProofs (disch:=omega) [go_sem]
 refine fun q hq=>?_
 cases q
 · simp -implicitDefEqProofs (disch:=omega) [go_sem,Tryz.f78]
   refine own_of [] [(0,some 5)] ?_
   apply ren_lists <;> simp -implicitDefEqProofs [go_sem]
 · have h0:l = []:=by simpa [items] using hq rfl
   subst h0
   simp -implicitDefEqProofs (disch:=omega) [go_sem,Tryz.f78]
   refine own_of [] [(0,none)] ?_
   apply ren_lists <;> simp -implicitDefEqProofs [go_sem,items,flat]
theorem cloneLock_oc (l:List Lock) (hl:l.length≤1000000):OC Tryz.prog Γ 79 [.sl 3 (locks l)] (.ref 0 0 l.length 3) [(0,.blk true ((flat (locks l)).map .data))] 1:=by
 refine oc_by mixed Tryz.func79 rfl (fun args w=>Tryz.call79 args w) ?_
 simp -implicitDefEqProofs (disch:=omega) [go_sem]
 refine fun q hq=>?_
 cases q
 · simp -implicitDefEqProofs (disch:=omega) [go_sem,Tryz.f79]
   refine own_of [] [(0,some 5)] ?_
   apply ren_lists <;> simp -implicitDefEqProofs [go_sem]
 · have h0:l = []:=by simpa [locks] using hq rfl
   subst h0
   simp -implicitDefEqProofs (disch:=omega) [go_sem,Tryz.f79]
   refine own_of [] [(0,none)] ?_
   apply ren_lists <;> simp -implicitDefEqProofs [go_sem,locks,flat]
def Short (b:Book):Prop:=b.opn.length≤1000000∧b.items.length≤1000000∧b.locks.length≤1000000
/-- A book over rows of its own. -/
def bookD (b:Book) (i j k:Nat):D:=.agg [.data (.int .i64 b.next),.ref i 0 b.opn.length 6,.ref j 0 b.items.length 5,.ref k 0 b.locks.length 3]
def sessBk (l:List Sess):Blk:=.blk true ((flat (sesss l)).map .data)
def itemBk (l:List Item):Blk:=.blk true ((flat (items l)).map .data)
def lockBk (l:List Lock):Blk:=.blk true ((flat (locks l)).map .data)
set_option maxHeartbeats 1000000 in
theorem copied_oc (b:Book) (hs:Short b):OC Tryz.prog Γ 68 [book b] (bookD b 0 1 2) [(0,sessBk b.opn),(1,itemBk b.items),(2,lockBk b.locks)] 3:=by
 refine oc_by mixed Tryz.func68 rfl (fun args w=>Tryz.call68 args w) ?_
 obtain ⟨s1,s2,s3⟩:=hs
 simp -implicitDefEqProofs (disch:=omega) [go_sem,book]
 refine .inr (eff_own1 (cloneSess_oc Γ b.opn s1) (by simp [go_sem]) ?_)
 simp -implicitDefEqProofs (disch:=omega) [go_sem]
 refine .inr (eff_own1 (cloneItem_oc Γ b.items s2) (by simp [go_sem]) ?_)
 simp -implicitDefEqProofs (disch:=omega) [go_sem]
 refine .inr (eff_own1 (cloneLock_oc Γ b.locks s3) (by simp [go_sem]) ?_)
 simp -implicitDefEqProofs (disch:=omega) [go_sem]
 refine side (by kernel_rfl) ?_
 simp -implicitDefEqProofs (disch:=omega) [go_sem,Tryz.f68]
 refine own_of [] [(0,some 6),(1,some 9),(2,some 12)] ?_
 apply ren_lists <;> simp -implicitDefEqProofs [go_sem,bookD,sessBk,itemBk,lockBk]
 exact ren_aggL rfl (by simp -implicitDefEqProofs [go_sem])
end
section
variable (Γ:Nat->Option (List Data))
theorem hasRoom_pc (b:Book) (hs:Short b) (n:Int) (hn:0≤n∧n≤1000000):PC Tryz.prog Γ 146 [.pc [.int .i64 b.next,.sl 6 (sesss b.opn),.sl 5 (items b.items)],.int .i64 n] (.bool (decide ((b.items.length:Int) + b.opn.length + n≤60))):=by
 refine pc_by mixed Tryz.func146 rfl (fun args w=>Tryz.call146 args w) ?_
 obtain ⟨s1,s2,s3⟩:=hs
 simp -implicitDefEqProofs (disch:=omega) [go_sem]
 refine side (by kernel_rfl) ?_
 simp -implicitDefEqProofs (disch:=omega) [go_sem,Tryz.f146]
def opData (o:Op):List Data:=[.int .i64 o.kind,.int .i64 o.id,.int .i64 o.link,.int .u32 o.addr,.str o.user,.int .u64 o.inn,.int .u64 o.out,.int .i64 o.cause,.int .i64 o.at_]
/-- What is done,and the book to which it is done,as cells. -/
def workData (b:Book) (o:Op):List Data:=[.int .i64 b.next,.sl 6 (sesss b.opn),.sl 5 (items b.items),.sl 3 (locks b.locks),.int .i64 o.kind,.int .i64 o.id,.int .i64 o.link,.int .u32 o.addr,.str o.user,.int .u64 o.inn,.int .u64 o.out,.int .i64 o.cause,.int .i64 o.at_]
def countAt (b:Book) (o:Op) (k:Int):Int × Int :=
 if k < 0 then (0,5)
 else if o.inn < (b.opn.getD k.toNat default).inn ∨ o.out < (b.opn.getD k.toNat default).out then (0,7)
 else (k,0)
set_option maxHeartbeats 1000000 in
set_option maxRecDepth 100000 in
theorem counted2_pc (b:Book) (hs:Short b) (o:Op):PC Tryz.prog Γ 147 [.pc (workData b o)] (.tup [.int .i64 (countAt b o (ofId b o.id)).1,.int .i64 (countAt b o (ofId b o.id)).2]):=by
 refine pc_by mixed Tryz.func147 rfl (fun args w=>Tryz.call147 args w) ?_
 obtain ⟨s1,s2,s3⟩:=hs
 have hk:=placeOfId_pc Γ b.opn (by omega) o.id
 have hrg:=first_range (fun s:Sess=>decide (s.id = o.id)) b.opn 0
 change PC _ _ _ _ (.int .i64 (ofId b o.id)) at hk
 change ofId b o.id = -1 ∨ _≤ofId b o.id∧ofId b o.id < _ at hrg
 generalize ofId b o.id = k at *
 simp -implicitDefEqProofs (disch:=omega) [go_sem,workData]
 refine .inl (call_data hk (by simp [go_sem]) ?_)
 simp -implicitDefEqProofs (disch:=omega) [go_sem]
 refine side (by kernel_rfl) ?_
 by_cases g1:k < 0
 · have hr:countAt b o k = (0,5):=by unfold countAt;rw [if_pos g1]
   simp -implicitDefEqProofs (disch:=omega) [go_sem,hr,Tryz.f147]
 obtain ⟨n,rfl⟩:∃ n:Nat,k = n:=⟨k.toNat,by omega⟩
 have hn:n < b.opn.length:=by omega
 have hgd:b.opn.getD ((n:Int)).toNat default = b.opn[n]:=by rw [Int.toNat_natCast,List.getD_eq_getElem?_getD,List.getElem?_eq_getElem hn];rfl
 by_cases g2:o.inn < b.opn[n].inn
 · have hr:countAt b o n = (0,7):=by unfold countAt;rw [if_neg g1,hgd,if_pos (.inl g2)]
   simp -implicitDefEqProofs (disch:=omega) [go_sem]
   refine side (by kernel_rfl) ?_
   simp -implicitDefEqProofs (disch:=omega) [go_sem,hr,Tryz.f147]
 by_cases g3:o.out < b.opn[n].out
 · have hr:countAt b o n = (0,7):=by unfold countAt;rw [if_neg g1,hgd,if_pos (.inr g3)]
   simp -implicitDefEqProofs (disch:=omega) [go_sem]
   refine side (by kernel_rfl) ?_
   simp -implicitDefEqProofs (disch:=omega) [go_sem,hr,Tryz.f147]
 have hr:countAt b o n = ((n:Int),0):=by unfold countAt;rw [if_neg g1,hgd,if_neg (by omega)]
 simp -implicitDefEqProofs (disch:=omega) [go_sem]
 refine side (by kernel_rfl) ?_
 simp -implicitDefEqProofs (disch:=omega) [go_sem,hr,Tryz.f147]
end
section
variable (Γ:Nat->Option (List Data))
def opsMap:Blk:=.obj (.mp [.int .i64 1,.int .i64 2,.int .i64 3,.int .i64 4,.int .i64 5,.int .i64 6] [.bnd 112 (.ptr 10 0),.bnd 113 (.ptr 10 0),.bnd 114 (.ptr 10 0),.bnd 115 (.ptr 10 0),.bnd 116 (.ptr 10 0),.bnd 117 (.ptr 10 0)])
/-- What Apply has in memory when it does what is to be done. -/
def appL (b:Book) (o:Op):List (Nat × Blk):=[(15,opsMap),
 (10,.blk true [.data (.int .i64 b.next),.ref 5 0 b.opn.length 6,.ref 6 0 b.items.length 5,.ref 7 0 b.locks.length 3,.data (.int .i64 o.kind),.data (.int .i64 o.id),.data (.int .i64 o.link),.data (.int .u32 o.addr),.data (.str o.user),.data (.int .u64 o.inn),.data (.int .u64 o.out),.data (.int .i64 o.cause),.data (.int .i64 o.at_)]),
 (7,.blk true ((flat (locks b.locks)).map .data)),(6,.blk true ((flat (items b.items)).map .data)),(5,.blk true ((flat (sesss b.opn)).map .data)),
 (2,.blk true [.data (.int .i64 0),.emp 0,.emp 0,.emp 0]),
 (1,.blk true [.data (.int .i64 o.kind),.data (.int .i64 o.id),.data (.int .i64 o.link),.data (.int .u32 o.addr),.data (.str o.user),.data (.int .u64 o.inn),.data (.int .u64 o.out),.data (.int .i64 o.cause),.data (.int .i64 o.at_)]),
 (0,.blk true [.data (.int .i64 b.next),.data (.sl 6 (sesss b.opn)),.data (.sl 5 (items b.items)),.data (.sl 3 (locks b.locks))])]
/-- And behind it. -/
def appM (c b:Book) (o:Op):List (Nat × Blk):=[
 (10,.blk true [.data (.int .i64 c.next),.data (.sl 6 (sesss c.opn)),.data (.sl 5 (items c.items)),.data (.sl 3 (locks c.locks)),.data (.int .i64 o.kind),.data (.int .i64 o.id),.data (.int .i64 o.link),.data (.int .u32 o.addr),.data (.str o.user),.data (.int .u64 o.inn),.data (.int .u64 o.out),.data (.int .i64 o.cause),.data (.int .i64 o.at_)]),
 (2,.blk true [.data (.int .i64 0),.emp 0,.emp 0,.emp 0]),
 (1,.blk true [.data (.int .i64 o.kind),.data (.int .i64 o.id),.data (.int .i64 o.link),.data (.int .u32 o.addr),.data (.str o.user),.data (.int .u64 o.inn),.data (.int .u64 o.out),.data (.int .i64 o.cause),.data (.int .i64 o.at_)]),
 (0,.blk true [.data (.int .i64 b.next),.data (.sl 6 (sesss b.opn)),.data (.sl 5 (items b.items)),.data (.sl 3 (locks b.locks))])]
/-- It ends with this. -/
def Ends (c b:Book) (o:Op) (e:Int) (d0:D) (H1:Nat->Blk) (nx1:Nat):Prop:=∃ F,WeakR F (rhoL []) ⟨envL [(0,d0)],H1,nx1,83,1⟩ ⟨envL [(0,.data (.int .i64 e))],hpL (appM c b o),83,83,1⟩
@[congr] theorem Ends_congr {n0:Nat} (tk:tick = n0) (c b:Book) (o:Op) (e:Int) {d0 d1:D} (hd:d0 = d1) {H1 H2:Nat->Blk} (hH:H1 = H2) {nx1 nx2:Nat} (hn:nx1 = nx2):Ends c b o e d0 H1 nx1 = Ends c b o e d1 H2 nx2:=by rw [hd,hH,hn]
/-- The rows of a book that nobody writes any more. -/
theorem ends_of {c b:Book} {o:Op} {e:Int} {H1:Nat->Blk} {nx1 i j k:Nat} (hn:83≤nx1)
 (h10:H1 10 = .blk true [.data (.int .i64 c.next),.ref i 0 c.opn.length 6,.ref j 0 c.items.length 5,.ref k 0 c.locks.length 3,.data (.int .i64 o.kind),.data (.int .i64 o.id),.data (.int .i64 o.link),.data (.int .u32 o.addr),.data (.str o.user),.data (.int .u64 o.inn),.data (.int .u64 o.out),.data (.int .i64 o.cause),.data (.int .i64 o.at_)])
 (hi:∃ t,H1 i = .blk true ((flat (sesss c.opn)).map .data++t)) (hj:∃ t,H1 j = .blk true ((flat (items c.items)).map .data++t)) (hk:∃ t,H1 k = .blk true ((flat (locks c.locks)).map .data++t))
 (h2:H1 2 = .blk true [.data (.int .i64 0),.emp 0,.emp 0,.emp 0])
 (h1:H1 1 = .blk true [.data (.int .i64 o.kind),.data (.int .i64 o.id),.data (.int .i64 o.link),.data (.int .u32 o.addr),.data (.str o.user),.data (.int .u64 o.inn),.data (.int .u64 o.out),.data (.int .i64 o.cause),.data (.int .i64 o.at_)])
 (h0:H1 0 = .blk true [.data (.int .i64 b.next),.data (.sl 6 (sesss b.opn)),.data (.sl 5 (items b.items)),.data (.sl 3 (locks b.locks))])
 (hne:(i≠0∧i≠1∧i≠2∧i≠10)∧(j≠0∧j≠1∧j≠2∧j≠10)∧(k≠0∧k≠1∧k≠2∧k≠10)):Ends c b o e (.data (.int .i64 e)) H1 nx1:=by
 obtain ⟨ti,hi⟩:=hi
 obtain ⟨tj,hj⟩:=hj
 obtain ⟨tk,hk⟩:=hk
 obtain ⟨⟨i0,i1,i2,i10⟩,⟨j0,j1,j2,j10⟩,k0,k1,k2,k10⟩:=hne
 have fi:fzH H1 [i,j,k] i = .blk false ((flat (sesss c.opn)).map .data++ti):=by simp [fzH,hi,fz]
 have fj:fzH H1 [i,j,k] j = .blk false ((flat (items c.items)).map .data++tj):=by simp [fzH,hj,fz]
 have fk:fzH H1 [i,j,k] k = .blk false ((flat (locks c.locks)).map .data++tk):=by simp [fzH,hk,fz]
 have frz:∀ (g es:Nat) (l:List Data) (t:List D),fzH H1 [i,j,k] g = .blk false ((flat l).map .data++t)->(∀ x∈l,x.cells.length = es)->Frz false (fzH H1 [i,j,k]) (.ref g 0 l.length es) (.sl es l):=fun g es l t hg hes=>by
  refine .ref g 0 l.length es false _ l (fun q=>.data ((flat l).getD q .nilp)) hg (.inr rfl) rfl hes (by simp [flat_length hes]) (fun q x hx=>?_) (fun q x hx=>?_)
  · have hq:=(List.getElem?_eq_some_iff.1 hx).1
    rw [Nat.zero_add,List.getElem?_append_left (by simpa using hq)]
    simp [hx]
  · have:(flat l).getD q .nilp = x:=by simp [hx]
    rw [this];exact .data x
 have r1:Ren 83 (rhoL []) (fzH H1 [i,j,k]) (.data (.sl 6 (sesss c.opn))) (.ref i 0 c.opn.length 6):=.frz _ _ (by have:=frz i 6 (sesss c.opn) ti fi (sesss_cells _);rwa [sesss_length] at this)
 have r2:Ren 83 (rhoL []) (fzH H1 [i,j,k]) (.data (.sl 5 (items c.items))) (.ref j 0 c.items.length 5):=.frz _ _ (by have:=frz j 5 (items c.items) tj fj (items_cells _);rwa [items_length] at this)
 have r3:Ren 83 (rhoL []) (fzH H1 [i,j,k]) (.data (.sl 3 (locks c.locks))) (.ref k 0 c.locks.length 3):=.frz _ _ (by have:=frz k 3 (locks c.locks) tk fk (locks_cells _);rwa [locks_length] at this)
 have g10:fzH H1 [i,j,k] 10 = H1 10:=by simp [fzH,Ne.symm i10,Ne.symm j10,Ne.symm k10]
 have g2:fzH H1 [i,j,k] 2 = H1 2:=by simp [fzH,Ne.symm i2,Ne.symm j2,Ne.symm k2]
 have g1:fzH H1 [i,j,k] 1 = H1 1:=by simp [fzH,Ne.symm i1,Ne.symm j1,Ne.symm k1]
 have g0:fzH H1 [i,j,k] 0 = H1 0:=by simp [fzH,Ne.symm i0,Ne.symm j0,Ne.symm k0]
 refine ⟨[i,j,k],ren_lists [] _ _ 83 (fun p hp=>?_) (fun p hp=>?_) (by simp [appM,rhoL]) (by omega) (by simp)⟩
 · simp only [List.mem_singleton] at hp
   subst hp
   simp [envL,go_sem]
 · simp only [appM,List.mem_cons,List.not_mem_nil,or_false] at hp
   rcases hp with rfl | rfl | rfl | rfl
   · refine ⟨by omega,?_⟩
     simp only [rhoL_nil,renO_some,g10,h10,renK_blk]
     refine ⟨trivial,?_⟩
     simp -implicitDefEqProofs [go_sem,r1,r2,r3]
   · refine ⟨by omega,?_⟩
     simp only [rhoL_nil,renO_some,g2,h2,renK_blk]
     refine ⟨trivial,?_⟩
     simp -implicitDefEqProofs [go_sem]
   · refine ⟨by omega,?_⟩
     simp only [rhoL_nil,renO_some,g1,h1,renK_blk]
     refine ⟨trivial,?_⟩
     simp -implicitDefEqProofs [go_sem]
   · refine ⟨by omega,?_⟩
     simp only [rhoL_nil,renO_some,g0,h0,renK_blk]
     refine ⟨trivial,?_⟩
     simp -implicitDefEqProofs [go_sem]
end
section
variable (Γ:Nat->Option (List Data))
theorem item_one (x:Item):flat (items [x]) = [.int .i64 x.kind,.int .i64 x.id,.int .u64 x.inn,.int .u64 x.out,.int .i64 x.cause]:=rfl
theorem lock_one (x:Lock):flat (locks [x]) = [.str x.user,.int .i64 x.n,.int .i64 x.at_]:=rfl
theorem busy_iff (b:Book) (o:Op):Busy b o ↔ 0≤first (fun s:Sess=>decide (s.link = o.link)) 0 b.opn ∨ 0≤first (fun s:Sess=>decide (s.addr = o.addr)) 0 b.opn:=by
 have some:∀ (p:Sess->Bool),0≤first p 0 b.opn ↔ ∃ (i:Nat) (h:i < b.opn.length),p b.opn[i] = true:=fun p=>by
  constructor
  · intro h
    apply Classical.byContradiction
    intro hn
    have:first p 0 b.opn = -1:=first_none fun a ha=>by
     obtain ⟨j,hj,rfl⟩:=List.mem_iff_getElem.1 ha
     cases hp:p b.opn[j] with
     | false=>rfl
     | true=>exact absurd ⟨j,hj,hp⟩ hn
    omega
  · rintro ⟨i,hi,hp⟩
    rcases first_range p b.opn 0 with h | h
    · exfalso
      have key:∀ (l:List Sess) (n:Nat),first p n l = -1->∀ a∈l,p a = false:=by
       intro l
       induction l with
       | nil=>intro n _ a ha;cases ha
       | cons x l ih =>
         intro n h a ha
         simp only [first] at h
         split at h
         · omega
         · rename_i hx
           rcases List.mem_cons.1 ha with rfl | ha
           · simpa using hx
           · exact ih (n + 1) h a ha
      have:=key b.opn 0 h _ (List.getElem_mem hi)
      rw [hp] at this;cases this
    · omega
 rw [some,some]
 unfold Busy
 constructor
 · rintro ⟨i,h,hk | hk⟩
   · exact .inl ⟨i,h,by simpa using hk⟩
   · exact .inr ⟨i,h,by simpa using hk⟩
 · rintro (⟨i,h,hk⟩ | ⟨i,h,hk⟩)
   · exact ⟨i,h,.inl (by simpa using hk)⟩
   · exact ⟨i,h,.inr (by simpa using hk)⟩
set_option maxHeartbeats 4000000 in
set_option maxRecDepth 100000 in
theorem begin_dc (b:Book) (o:Op) (hs:Short b) (h0:0≤b.next∧b.next≤1000000000):DC Tryz.prog Γ 112 [.ptr 10 0] (hpL (appL b o)) 83 (Ends (openedOp b o).1 b o (openedOp b o).2):=by
 refine dc_by mixed Tryz.func112 rfl (fun args w=>Tryz.call112 args w) ?_
 obtain ⟨s1,s2,s3⟩:=hs
 have c1:=isOfPool_pc Γ o.addr
 have c2:=hasLink_pc Γ b.opn (by omega) o.link
 have c3:=hasAddr_pc Γ b.opn (by omega) o.addr
 have c4:=hasRoom_pc Γ b ⟨s1,s2,s3⟩ 2 (by omega)
 have hbusy:=busy_iff b o
 unfold appL
 simp -implicitDefEqProofs (disch:=omega) [go_sem]
 refine .inl (call_data c1 (by simp [go_sem]) ?_)
 by_cases g1:poolOk o.addr
 rotate_left
 · have hr:openedOp b o = (b,1):=by unfold openedOp;rw [if_pos g1]
   rw [hr]
   simp -implicitDefEqProofs (disch:=omega) [go_sem,g1,Tryz.f112]
   exact ends_of (i:=5) (j:=6) (k:=7) (by omega) (by simp [go_sem]) ⟨[],by simp [go_sem]⟩ ⟨[],by simp [go_sem]⟩ ⟨[],by simp [go_sem]⟩ (by simp [go_sem]) (by simp [go_sem]) (by simp [go_sem]) (by omega)
 simp -implicitDefEqProofs (disch:=omega) [go_sem,g1]
 refine .inl (call_bare [5] c2 (by constructor) (fun H' hH=>?_) ?_)
 · have h5:=hH 5 (by simp)
   simp -implicitDefEqProofs [go_sem] at h5
   exact frzL_c (fz_sesss (rw:=true) h5 (.inl rfl) rfl) (frzL_c ((frz_data _ _ _ _).2 rfl) frzL_n)
 by_cases g2:0≤first (fun s:Sess=>decide (s.link = o.link)) 0 b.opn
 · have hr:openedOp b o = (b,6):=by unfold openedOp;rw [if_neg (by simpa using g1),if_pos (hbusy.2 (.inl g2))]
   rw [decide_eq_true g2]
   simp -implicitDefEqProofs (disch:=omega) [go_sem]
   refine side (by kernel_rfl) ?_
   rw [hr]
   simp -implicitDefEqProofs (disch:=omega) [go_sem,Tryz.f112]
   exact ends_of (i:=5) (j:=6) (k:=7) (by omega) (by simp [go_sem]) ⟨[],by simp [go_sem]⟩ ⟨[],by simp [go_sem]⟩ ⟨[],by simp [go_sem]⟩ (by simp [go_sem]) (by simp [go_sem]) (by simp [go_sem]) (by omega)
 rw [decide_eq_false g2]
 simp -implicitDefEqProofs (disch:=omega) [go_sem]
 refine .inl (call_bare [5] c3 (by constructor) (fun H' hH=>?_) ?_)
 · have h5:=hH 5 (by simp)
   simp -implicitDefEqProofs [go_sem] at h5
   exact frzL_c (fz_sesss (rw:=true) h5 (.inl rfl) rfl) (frzL_c ((frz_data _ _ _ _).2 rfl) frzL_n)
 by_cases g3:0≤first (fun s:Sess=>decide (s.addr = o.addr)) 0 b.opn
 · have hr:openedOp b o = (b,6):=by unfold openedOp;rw [if_neg (by simpa using g1),if_pos (hbusy.2 (.inr g3))]
   rw [decide_eq_true g3]
   simp -implicitDefEqProofs (disch:=omega) [go_sem]
   refine side (by kernel_rfl) ?_
   rw [hr]
   simp -implicitDefEqProofs (disch:=omega) [go_sem,Tryz.f112]
   exact ends_of (i:=5) (j:=6) (k:=7) (by omega) (by simp [go_sem]) ⟨[],by simp [go_sem]⟩ ⟨[],by simp [go_sem]⟩ ⟨[],by simp [go_sem]⟩ (by simp [go_sem]) (by simp [go_sem]) (by simp [go_sem]) (by omega)
 have hfree:¬ Busy b o:=fun hk=>by rcases hbusy.1 hk with h | h <;> contradiction
 rw [decide_eq_false g3]
 simp -implicitDefEqProofs (disch:=omega) [go_sem]
 refine side (by kernel_rfl) ?_
 simp -implicitDefEqProofs (disch:=omega) [go_sem]
 refine .inl (call_bare [10,5,6] c4 (by constructor) (fun H' hH=>?_) ?_)
 · have h10:=hH 10 (by simp)
   have h5:=hH 5 (by simp)
   have h6:=hH 6 (by simp)
   simp -implicitDefEqProofs [go_sem] at h10 h5 h6
   exact frzL_c (frz_ptrL h10 (.inl rfl) (frzL_c ((frz_data _ _ _ _).2 rfl) (frzL_c (fz_sesss (rw:=true) h5 (.inl rfl) rfl) (frzL_c (fz_items (rw:=true) h6 (.inl rfl) rfl) frzL_n)))) (frzL_c ((frz_data _ _ _ _).2 rfl) frzL_n)
 by_cases g4:(b.items.length:Int) + b.opn.length + 2≤60
 rotate_left
 · have hr:openedOp b o = (b,4):=by unfold openedOp;rw [if_neg (by simpa using g1),if_neg hfree,if_pos (.inl (by omega))]
   rw [decide_eq_false g4]
   rw [hr]
   simp -implicitDefEqProofs (disch:=omega) [go_sem,Tryz.f112]
   exact ends_of (i:=5) (j:=6) (k:=7) (by omega) (by simp [go_sem]) ⟨[],by simp [go_sem]⟩ ⟨[],by simp [go_sem]⟩ ⟨[],by simp [go_sem]⟩ (by simp [go_sem]) (by simp [go_sem]) (by simp [go_sem]) (by omega)
 rw [decide_eq_true g4]
 by_cases g5:b.next = 1000000000
 · have hr:openedOp b o = (b,4):=by unfold openedOp;rw [if_neg (by simpa using g1),if_neg hfree,if_pos (.inr g5)]
   rw [hr]
   simp -implicitDefEqProofs (disch:=omega) [go_sem,g5,Tryz.f112]
   exact ends_of (i:=5) (j:=6) (k:=7) (by omega) (by simp [go_sem,g5]) ⟨[],by simp [go_sem,g5]⟩ ⟨[],by simp [go_sem,g5]⟩ ⟨[],by simp [go_sem,g5]⟩ (by simp [go_sem,g5]) (by simp [go_sem,g5]) (by simp [go_sem,g5]) (by omega)
 have hr:openedOp b o = ({ next:=b.next + 1,opn:=b.opn++[⟨b.next,o.link,o.addr,o.user,0,0⟩],items:=b.items++[⟨1,b.next,0,0,0⟩],locks:=b.locks },0):=by unfold openedOp;rw [if_neg (by simpa using g1),if_neg hfree,if_neg (by simp [g5];omega)]
 rw [hr]
 simp -implicitDefEqProofs (disch:=omega) [go_sem]
 refine side (by kernel_rfl) ?_
 simp -implicitDefEqProofs (disch:=omega) [go_sem]
 refine side (by kernel_rfl) ?_
 simp -implicitDefEqProofs (disch:=omega) [go_sem,Tryz.f112]
 exact ends_of (i:=157) (j:=175) (k:=7) (by omega) (by simp [go_sem]) ⟨[],by simp [go_sem,<- sesss_append,flat_sess1]⟩ ⟨[],by simp [go_sem,<- items_append,item_one]⟩ ⟨[],by simp [go_sem]⟩ (by simp [go_sem]) (by simp [go_sem]) (by simp [go_sem]) (by omega)
end
section
variable (Γ:Nat->Option (List Data))
theorem frz_work {b:Book} {o:Op} {H':Nat->Blk} (h5:H' 5 = .blk true ((flat (sesss b.opn)).map .data)) (h6:H' 6 = .blk true ((flat (items b.items)).map .data)) (h7:H' 7 = .blk true ((flat (locks b.locks)).map .data)) :
 FrzL true H' (([.data (.int .i64 b.next),.ref 5 0 b.opn.length 6,.ref 6 0 b.items.length 5,.ref 7 0 b.locks.length 3,.data (.int .i64 o.kind),.data (.int .i64 o.id),.data (.int .i64 o.link),.data (.int .u32 o.addr),.data (.str o.user),.data (.int .u64 o.inn),.data (.int .u64 o.out),.data (.int .i64 o.cause),.data (.int .i64 o.at_)].drop 0).take (workData b o).length) (workData b o):=by
 refine frzL_c ((frz_data _ _ _ _).2 rfl) (frzL_c (fz_sesss (rw:=true) h5 (.inl rfl) rfl) (frzL_c (fz_items (rw:=true) h6 (.inl rfl) rfl) (frzL_c (fz_locks (rw:=true) h7 (.inl rfl) rfl) ?_)))
 exact frzL_c ((frz_data _ _ _ _).2 rfl) (frzL_c ((frz_data _ _ _ _).2 rfl) (frzL_c ((frz_data _ _ _ _).2 rfl) (frzL_c ((frz_data _ _ _ _).2 rfl) (frzL_c ((frz_data _ _ _ _).2 rfl) (frzL_c ((frz_data _ _ _ _).2 rfl) (frzL_c ((frz_data _ _ _ _).2 rfl) (frzL_c ((frz_data _ _ _ _).2 rfl) (frzL_c ((frz_data _ _ _ _).2 rfl) frzL_n))))))))
theorem sess_set2 (l:List Sess) (n:Nat) (h:n < l.length) (x y:Int):(((flat (sesss l)).map D.data).set (n * 6 + 4) (.data (.int .u64 x))).set (n * 6 + 5) (.data (.int .u64 y)) = (flat (sesss (l.set n { l[n] with inn:=x,out:=y }))).map D.data:=by
 rw [<- sess_set l n h { l[n] with inn:=x,out:=y }]
 have hc:=sess_cut l n h
 have hlen:((flat (sesss l)).map D.data).length = l.length * 6:=by rw [List.length_map,flat_sesss_length]
 generalize (flat (sesss l)).map D.data = L at *
 have e:L = List.take (n * 6) L++(List.take 6 (List.drop (n * 6) L)++List.drop (n * 6 + 6) L):=by
  rw [<- List.drop_drop,List.take_append_drop,List.take_append_drop]
 have ht:(List.take (n * 6) L).length = n * 6:=by rw [List.length_take];omega
 conv=>lhs;rw [e]
 rw [hc]
 rw [List.set_append_right _ _ (by omega),List.set_append_right _ _ (by omega),ht]
 simp [Nat.add_sub_cancel_left]
set_option maxHeartbeats 4000000 in
set_option maxRecDepth 100000 in
theorem count_dc (b:Book) (o:Op) (hk:o.kind = 2) (hs:Short b):DC Tryz.prog Γ 113 [.ptr 10 0] (hpL (appL b o)) 83 (Ends (countedOp b o).1 b o (countedOp b o).2):=by
 refine dc_by mixed Tryz.func113 rfl (fun args w=>Tryz.call113 args w) ?_
 have c1:=counted2_pc Γ b hs o
 have c4:=hasRoom_pc Γ b hs 1 (by omega)
 have hrg:=first_range (fun s:Sess=>decide (s.id = o.id)) b.opn 0
 obtain ⟨s1,s2,s3⟩:=hs
 have hr0:countedOp b o = countedAt b o (ofId b o.id):=rfl
 rw [hr0];clear hr0
 change ofId b o.id = -1 ∨ _≤ofId b o.id∧ofId b o.id < _ at hrg
 generalize ofId b o.id = k at *
 unfold appL
 simp -implicitDefEqProofs (disch:=omega) [go_sem]
 refine .inl (call_bare [10,5,6,7] c1 (.tup _ (by simp;exact ⟨.int _ _,.int _ _⟩)) (fun H' hH=>?_) ?_)
 · have h10:=hH 10 (by simp)
   have h5:=hH 5 (by simp)
   have h6:=hH 6 (by simp)
   have h7:=hH 7 (by simp)
   simp -implicitDefEqProofs [go_sem] at h10 h5 h6 h7
   exact frzL_c (frz_ptrL h10 (.inl rfl) (frz_work h5 h6 h7)) frzL_n
 by_cases g1:k < 0
 · have hr:countedAt b o k = (b,5):=by unfold countedAt;rw [if_pos g1]
   have hq:countAt b o k = (0,5):=by unfold countAt;rw [if_pos g1]
   rw [hq]
   rw [hr]
   simp -implicitDefEqProofs (disch:=omega) [go_sem,Tryz.f113]
   exact ends_of (i:=5) (j:=6) (k:=7) (by omega) (by simp [go_sem]) ⟨[],by simp [go_sem]⟩ ⟨[],by simp [go_sem]⟩ ⟨[],by simp [go_sem]⟩ (by simp [go_sem]) (by simp [go_sem]) (by simp [go_sem]) (by omega)
 obtain ⟨n,rfl⟩:∃ n:Nat,k = n:=⟨k.toNat,by omega⟩
 have hn:n < b.opn.length:=by omega
 have hgd:b.opn.getD ((n:Int)).toNat default = b.opn[n]:=by rw [Int.toNat_natCast,List.getD_eq_getElem?_getD,List.getElem?_eq_getElem hn];rfl
 by_cases g2:o.inn < b.opn[n].inn ∨ o.out < b.opn[n].out
 · have hr:countedAt b o n = (b,7):=by unfold countedAt;rw [if_neg g1,hgd,if_pos g2]
   have hq:countAt b o n = (0,7):=by unfold countAt;rw [if_neg g1,hgd,if_pos g2]
   rw [hq]
   rw [hr]
   simp -implicitDefEqProofs (disch:=omega) [go_sem,Tryz.f113]
   exact ends_of (i:=5) (j:=6) (k:=7) (by omega) (by simp [go_sem]) ⟨[],by simp [go_sem]⟩ ⟨[],by simp [go_sem]⟩ ⟨[],by simp [go_sem]⟩ (by simp [go_sem]) (by simp [go_sem]) (by simp [go_sem]) (by omega)
 have hq:countAt b o n = ((n:Int),0):=by unfold countAt;rw [if_neg g1,hgd,if_neg g2]
 rw [hq]
 simp -implicitDefEqProofs (disch:=omega) [go_sem]
 refine .inl (call_bare [10,5,6] c4 (by constructor) (fun H' hH=>?_) ?_)
 · have h10:=hH 10 (by simp)
   have h5:=hH 5 (by simp)
   have h6:=hH 6 (by simp)
   simp -implicitDefEqProofs [go_sem] at h10 h5 h6
   exact frzL_c (frz_ptrL h10 (.inl rfl) (frzL_c ((frz_data _ _ _ _).2 rfl) (frzL_c (fz_sesss (rw:=true) h5 (.inl rfl) rfl) (frzL_c (fz_items (rw:=true) h6 (.inl rfl) rfl) frzL_n)))) (frzL_c ((frz_data _ _ _ _).2 rfl) frzL_n)
 by_cases g4:(b.items.length:Int) + b.opn.length + 1≤60
 rotate_left
 · have hr:countedAt b o n = (b,4):=by unfold countedAt;rw [if_neg g1,hgd,if_neg g2,if_neg (by omega),if_pos (by omega)]
   rw [decide_eq_false g4]
   rw [hr]
   simp -implicitDefEqProofs (disch:=omega) [go_sem,Tryz.f113]
   exact ends_of (i:=5) (j:=6) (k:=7) (by omega) (by simp [go_sem]) ⟨[],by simp [go_sem]⟩ ⟨[],by simp [go_sem]⟩ ⟨[],by simp [go_sem]⟩ (by simp [go_sem]) (by simp [go_sem]) (by simp [go_sem]) (by omega)
 have hr:countedAt b o n = ({ b with items:=b.items++[⟨2,o.id,o.inn,o.out,0⟩],opn:=b.opn.set n { b.opn[n] with inn:=o.inn,out:=o.out } },0):=by unfold countedAt;rw [if_neg g1,hgd,if_neg g2,if_neg (by omega),if_neg (by omega),Int.toNat_natCast]
 rw [decide_eq_true g4,hr]
 simp -implicitDefEqProofs (disch:=omega) [go_sem]
 refine side (by kernel_rfl) ?_
 simp -implicitDefEqProofs (disch:=omega) [go_sem]
 refine side (by kernel_rfl) ?_
 simp -implicitDefEqProofs (disch:=omega) [go_sem,Tryz.f113]
 exact ends_of (i:=5) (j:=149) (k:=7) (by omega) (by simp [go_sem]) ⟨[],by have:=sess_set2 b.opn n hn o.inn o.out;simp [go_sem,this]⟩ ⟨[],by simp [go_sem,<- items_append,item_one]⟩ ⟨[],by simp [go_sem]⟩ (by simp [go_sem]) (by simp [go_sem]) (by simp [go_sem]) (by omega)
end
section
variable (Γ:Nat->Option (List Data))
theorem first_hit {α:Type} {p:α->Bool}:∀ {l:List α} {m n:Nat},first p m l = ((m + n:Nat):Int)->∃ h:n < l.length,p l[n] = true
 | [],m,n,h=>by simp only [first] at h;omega
 | a :: l,m,n,h=>by
   simp only [first] at h
   split at h
   · rename_i hp
     obtain rfl:n = 0:=by omega
     exact ⟨by simp,hp⟩
   · rcases first_range p l (m + 1) with h1 | h1
     · omega
     · obtain ⟨q,rfl⟩:∃ q,n = q + 1:=⟨n - 1,by omega⟩
       obtain ⟨h2,h3⟩:=first_hit (l:=l) (m:=m + 1) (n:=q) (by rw [h];congr 1;omega)
       exact ⟨by simpa using h2,by simpa using h3⟩
theorem lock_cut (l:List Lock) (n:Nat) (h:n < l.length):List.take 3 (List.drop (n * 3) ((flat (locks l)).map D.data)) = [.data (.str l[n].user),.data (.int .i64 l[n].n),.data (.int .i64 l[n].at_)]:=by
 rw [<- List.map_drop,<- flat_drop (locks_cells l) n (by rw [locks_length];omega),locks_drop,List.drop_eq_getElem_cons h]
 rfl
theorem lock_set2 (l:List Lock) (n:Nat) (h:n < l.length) (x y:Int):(((flat (locks l)).map D.data).set (n * 3 + 1) (.data (.int .i64 x))).set (n * 3 + 2) (.data (.int .i64 y)) = (flat (locks (l.set n ⟨l[n].user,x,y⟩))).map D.data:=by
 rw [<- lock_set l n h ⟨l[n].user,x,y⟩]
 have hc:=lock_cut l n h
 have hlen:((flat (locks l)).map D.data).length = l.length * 3:=by rw [List.length_map,flat_locks_length]
 generalize (flat (locks l)).map D.data = L at *
 have e:L = List.take (n * 3) L++(List.take 3 (List.drop (n * 3) L)++List.drop (n * 3 + 3) L):=by
  rw [<- List.drop_drop,List.take_append_drop,List.take_append_drop]
 have ht:(List.take (n * 3) L).length = n * 3:=by rw [List.length_take];omega
 conv=>lhs;rw [e]
 rw [hc]
 rw [List.set_append_right _ _ (by omega),List.set_append_right _ _ (by omega),ht]
 simp [Nat.add_sub_cancel_left]
set_option maxHeartbeats 4000000 in
set_option maxRecDepth 100000 in
theorem fail_dc (b:Book) (o:Op) (hk:o.kind = 4) (hs:Short b) (hl:b.locks.length≤8) (hn0:∀ l∈b.locks,-1000000≤l.n∧l.n≤1000000):DC Tryz.prog Γ 115 [.ptr 10 0] (hpL (appL b o)) 83 (Ends (failedOp b o).1 b o (failedOp b o).2):=by
 refine dc_by mixed Tryz.func115 rfl (fun args w=>Tryz.call115 args w) ?_
 have c1:=placeOfUser_pc Γ b.locks (by have:=hs.2.2;omega) o.user
 have hrg:=first_range (fun l:Lock=>decide (l.user = o.user)) b.locks 0
 have hh:=fun n=>first_hit (p:=fun l:Lock=>decide (l.user = o.user)) (l:=b.locks) (m:=0) (n:=n)
 obtain ⟨s1,s2,s3⟩:=hs
 have hr0:failedOp b o = failedAt b o (failed b o.user):=rfl
 rw [hr0];clear hr0
 change PC _ _ _ _ (.int .i64 (failed b o.user)) at c1
 change failed b o.user = -1 ∨ _≤failed b o.user∧failed b o.user < _ at hrg
 change ∀ n,failed b o.user = _->_ at hh
 generalize failed b o.user = k at *
 unfold appL
 simp -implicitDefEqProofs (disch:=omega) [go_sem]
 refine .inl (call_bare [7] c1 (by constructor) (fun H' hH=>?_) ?_)
 · have h7:=hH 7 (by simp)
   simp -implicitDefEqProofs [go_sem] at h7
   exact frzL_c (fz_locks (rw:=true) h7 (.inl rfl) rfl) (frzL_c ((frz_data _ _ _ _).2 rfl) frzL_n)
 simp -implicitDefEqProofs (disch:=omega) [go_sem]
 refine side (by kernel_rfl) ?_
 by_cases g1:k < 0
 · have g1':¬ 0≤k:=by omega
   simp -implicitDefEqProofs (disch:=omega) [go_sem,g1']
   refine side (by kernel_rfl) ?_
   by_cases g2:(b.locks.length:Int) = 8
   · have hr:failedAt b o k = (b,4):=by unfold failedAt;rw [if_neg (by omega),if_pos g1,if_pos g2]
     rw [hr]
     simp -implicitDefEqProofs (disch:=omega) [go_sem,g1',Tryz.f115]
     exact ends_of (i:=5) (j:=6) (k:=7) (by omega) (by simp [go_sem]) ⟨[],by simp [go_sem]⟩ ⟨[],by simp [go_sem]⟩ ⟨[],by simp [go_sem]⟩ (by simp [go_sem]) (by simp [go_sem]) (by simp [go_sem]) (by omega)
   have hr:failedAt b o k = ({ b with locks:=b.locks++[⟨o.user,1,o.at_⟩] },0):=by unfold failedAt;rw [if_neg (by omega),if_pos g1,if_neg g2]
   rw [hr]
   simp -implicitDefEqProofs (disch:=omega) [go_sem,g1']
   refine side (by kernel_rfl) ?_
   simp -implicitDefEqProofs (disch:=omega) [go_sem,Tryz.f115]
   exact ends_of (i:=5) (j:=6) (k:=145) (by omega) (by simp [go_sem]) ⟨[],by simp [go_sem]⟩ ⟨[],by simp [go_sem]⟩ ⟨[],by simp [go_sem,<- locks_append,lock_one]⟩ (by simp [go_sem]) (by simp [go_sem]) (by simp [go_sem]) (by omega)
 obtain ⟨n,rfl⟩:∃ n:Nat,k = n:=⟨k.toNat,by omega⟩
 have hn:n < b.locks.length:=by omega
 have hgd:b.locks.getD ((n:Int)).toNat default = b.locks[n]:=by rw [Int.toNat_natCast,List.getD_eq_getElem?_getD,List.getElem?_eq_getElem hn];rfl
 have hnn:=hn0 _ (List.getElem_mem hn)
 obtain ⟨_,hu⟩:=hh n (by omega)
 have hu:b.locks[n].user = o.user:=of_decide_eq_true hu
 have a1:(flat (locks b.locks))[n * 3 + 1]? = some (.int .i64 b.locks[n].n):=flat_at (locks_cells _) (i:=n) (y:=lock b.locks[n]) (by rw [locks_get,List.getElem?_eq_getElem hn];rfl) (j:=1) rfl
 have a2:(flat (locks b.locks))[n * 3 + 2]? = some (.int .i64 b.locks[n].at_):=flat_at (locks_cells _) (i:=n) (y:=lock b.locks[n]) (by rw [locks_get,List.getElem?_eq_getElem hn];rfl) (j:=2) rfl
 have g1':(0:Int)≤(n:Int):=by omega
 by_cases g3:b.locks[n].at_ > o.at_
 · have hr:failedAt b o n = (b,7):=by unfold failedAt;rw [if_neg (by omega),if_neg g1,hgd,if_pos g3]
   simp -implicitDefEqProofs (disch:=omega) [-getElem?_pos,go_sem,a1,a2]
   refine side (by kernel_rfl) ?_
   rw [hr]
   simp -implicitDefEqProofs (disch:=omega) [go_sem,Tryz.f115]
   exact ends_of (i:=5) (j:=6) (k:=7) (by omega) (by simp [go_sem]) ⟨[],by simp [go_sem]⟩ ⟨[],by simp [go_sem]⟩ ⟨[],by simp [go_sem]⟩ (by simp [go_sem]) (by simp [go_sem]) (by simp [go_sem]) (by omega)
 have hr:failedAt b o n = ({ b with locks:=b.locks.set n ⟨o.user,min 255 (b.locks[n].n + 1),o.at_⟩ },0):=by unfold failedAt;rw [if_neg (by omega),if_neg g1,hgd,if_neg g3,Int.toNat_natCast]
 rw [hr]
 have hmin:(if (254:Int) < b.locks[n].n then (254:Int) else b.locks[n].n) + 1 = min 255 (b.locks[n].n + 1):=by split <;> omega
 have hset:=lock_set2 b.locks n hn (min 255 (b.locks[n].n + 1)) o.at_
 rw [hu] at hset
 simp -implicitDefEqProofs (disch:=omega) [-getElem?_pos,go_sem,a1,a2]
 refine side (by kernel_rfl) ?_
 simp -implicitDefEqProofs (disch:=omega) [-getElem?_pos,go_sem,a1,a2]
 refine side (by kernel_rfl) ?_
 simp -implicitDefEqProofs (disch:=omega) [-getElem?_pos,go_sem,a1,a2]
 refine side (by kernel_rfl) ?_
 simp -implicitDefEqProofs (disch:=omega) [go_sem,Tryz.f115]
 exact ends_of (i:=5) (j:=6) (k:=7) (by omega) (by simp [go_sem]) ⟨[],by simp [go_sem]⟩ ⟨[],by simp [go_sem]⟩ ⟨[],by simp [go_sem,hset,hmin]⟩ (by simp [go_sem]) (by simp [go_sem]) (by simp [go_sem]) (by omega)
end
end Bk
namespace Bk
/-- A number's bytes,the highest first. -/
def be:Nat->Nat->List Nat
 | 0,_=>[]
 | k + 1,n=>be k (n / 256)++[n % 256]
def ofBe (l:List Nat):Nat:=l.foldl (fun n x=>n * 256 + x) 0
theorem be_length:∀ k n,(be k n).length = k
 | 0,_=>rfl
 | k + 1,n=>by simp [be,be_length k]
theorem be_lt:∀ k n,∀ x∈be k n,x < 256
 | 0,_=>fun x hx=>by cases hx
 | k + 1,n=>fun x hx=>by
   rcases List.mem_append.1 hx with h | h
   · exact be_lt k _ x h
   · rw [List.mem_singleton.1 h];omega
theorem ofBe_snoc (l:List Nat) (x:Nat):ofBe (l++[x]) = ofBe l * 256 + x:=by simp [ofBe]
theorem ofBe_be:∀ k n,n < 256 ^ k->ofBe (be k n) = n
 | 0,n,h=>by simp at h;subst h;rfl
 | k + 1,n,h=>by
   rw [be,ofBe_snoc,ofBe_be k (n / 256) (by rw [Nat.pow_succ] at h;omega)]
   omega
theorem snoc_ind {p:List Nat->Prop} (h0:p []) (h1:∀ l x,p l->p (l++[x])) (l:List Nat):p l:=by
 have:∀ n (l:List Nat),l.length = n->p l:=by
  intro n
  induction n with
  | zero=>intro l hl;rw [List.length_eq_zero_iff.1 hl];exact h0
  | succ n ih =>
    intro l hl
    have hne:l≠[]:=fun e=>by rw [e] at hl;simp at hl
    rw [<- List.dropLast_concat_getLast hne]
    exact h1 _ _ (ih _ (by simp [hl]))
 exact this _ l rfl
theorem be_ofBe (l:List Nat):(∀ x∈l,x < 256)->be l.length (ofBe l) = l∧ofBe l < 256 ^ l.length:=by
 refine snoc_ind (p:=fun l=>(∀ x∈l,x < 256)->be l.length (ofBe l) = l∧ofBe l < 256 ^ l.length) ?_ ?_ l
 · intro _;exact ⟨rfl,by simp [ofBe]⟩
 · intro l x ih h
   have hx:=h x (by simp)
   obtain ⟨h1,h2⟩:=ih fun y hy=>h y (by simp [hy])
   rw [ofBe_snoc,List.length_append,List.length_singleton,be]
   refine ⟨?_,by rw [Nat.pow_succ];omega⟩
   rw [show (ofBe l * 256 + x) / 256 = ofBe l by omega,show (ofBe l * 256 + x) % 256 = x by omega,h1]
theorem be_get:∀ (k n i:Nat) (h:i < k),(be k n)[i]'(by rw [be_length];exact h) = n / 256 ^ (k - 1 - i) % 256
 | 0,_,_,h=>absurd h (by omega)
 | k + 1,n,i,h=>by
   simp only [be]
   by_cases e:i < k
   · rw [List.getElem_append_left (by rw [be_length];exact e),be_get k (n / 256) i e,Nat.div_div_eq_div_mul]
     congr 2
     rw [show k + 1 - 1 - i = (k - 1 - i) + 1 by omega,Nat.pow_succ,Nat.mul_comm]
   · have:i = k:=by omega
     subst this
     rw [List.getElem_append_right (by rw [be_length];exact Nat.le_refl _)]
     simp [be_length]
def Bytes (l:List Nat):Prop:=∀ x∈l,x < 256
/-- A number of so many bytes,read. -/
def numP (k:Nat) (l:List Nat):Option (Nat × List Nat):=if k≤l.length then some (ofBe (l.take k),l.drop k) else none
theorem numP_iff {k:Nat} {l:List Nat} (hl:Bytes l) (n:Nat) (r:List Nat):numP k l = some (n,r) ↔ l = be k n++r∧n < 256 ^ k:=by
 unfold numP
 constructor
 · intro h
   split at h
   · rename_i hk
     simp only [Option.some.injEq,Prod.mk.injEq] at h
     obtain ⟨rfl,rfl⟩:=h
     have:=be_ofBe (l.take k) fun x hx=>hl x (List.mem_of_mem_take hx)
     rw [List.length_take,Nat.min_eq_left hk] at this
     rw [this.1,List.take_append_drop]
     exact ⟨rfl,this.2⟩
   · cases h
 · rintro ⟨rfl,hn⟩
   rw [if_pos (by rw [List.length_append,be_length];omega)]
   rw [List.take_append_of_le_length (by rw [be_length];exact Nat.le_refl _),List.take_of_length_le (by rw [be_length];exact Nat.le_refl _),ofBe_be k n hn,List.drop_append_of_le_length (by rw [be_length];exact Nat.le_refl _),List.drop_of_length_le (by rw [be_length];exact Nat.le_refl _)]
   rfl
theorem bytes_rest {k n:Nat} {l r:List Nat} (hl:Bytes l) (h:numP k l = some (n,r)):Bytes r:=by
 obtain ⟨rfl,_⟩:=(numP_iff hl n r).1 h
 exact fun x hx=>hl x (List.mem_append_right _ hx)
/-- A text's bytes. -/
def strB (u:ByteArray):List Nat:=u.data.toList.map (·.toNat)
theorem strB_length (u:ByteArray):(strB u).length = u.size:=by simp [strB]
theorem strB_lt (u:ByteArray):Bytes (strB u):=fun x hx=>by
 obtain ⟨b,_,rfl⟩:=List.mem_map.1 hx
 exact b.toNat_lt
theorem toStr_strB (u:ByteArray):toStr (strB u) = u:=by
 unfold toStr strB
 rw [List.map_map]
 have:(UInt8.ofNat ∘ fun b:UInt8=>b.toNat) = id:=by funext b;simp
 rw [this,List.map_id]
theorem strB_toStr {l:List Nat} (h:Bytes l):strB (toStr l) = l:=by
 unfold toStr strB
 rw [List.map_map]
 have:∀ x∈l,((fun b:UInt8=>b.toNat) ∘ UInt8.ofNat) x = x:=fun x hx=>by
  have:=h x hx
  simp only [Function.comp,UInt8.toNat_ofNat']
  omega
 rw [List.map_congr_left this,List.map_id']
def nameB (u:ByteArray):List Nat:=u.size :: (strB u++List.replicate (16 - u.size) 0)
def nameP (l:List Nat):Option (ByteArray × List Nat):=match numP 1 l with
 | none=>none
 | some (n,l)=>if 16≤l.length∧n≤16∧∀ x∈(l.take 16).drop n,x = 0 then some (toStr ((l.take 16).take n),l.drop 16) else none
theorem nameB_length {u:ByteArray} (h:u.size≤16):(nameB u).length = 17:=by
 simp [nameB,strB_length];omega
theorem be_one {n:Nat} (h:n < 256):be 1 n = [n]:=by simp [be];omega
theorem nameP_iff {l:List Nat} (hl:Bytes l) (u:ByteArray) (r:List Nat):nameP l = some (u,r) ↔ l = nameB u++r∧u.size≤16:=by
 unfold nameP
 constructor
 · intro h
   split at h
   · cases h
   · rename_i n l1 hn
     split at h
     · rename_i hc
       obtain ⟨h1,h2,h3⟩:=hc
       simp only [Option.some.injEq,Prod.mk.injEq] at h
       obtain ⟨rfl,rfl⟩:=h
       have hb1:=bytes_rest hl hn
       obtain ⟨rfl,hn2⟩:=(numP_iff hl n l1).1 hn
       have hbt:Bytes ((l1.take 16).take n):=fun x hx=>hb1 x (List.mem_of_mem_take (List.mem_of_mem_take hx))
       have hsz:(toStr ((l1.take 16).take n)).size = n:=by
        rw [<- strB_length,strB_toStr hbt];simp;omega
       refine ⟨?_,by omega⟩
       unfold nameB
       rw [hsz,strB_toStr hbt,be_one (by omega)]
       have hz:(l1.take 16).drop n = List.replicate (16 - n) 0:=by
        refine List.eq_replicate_iff.2 ⟨by simp;omega,fun x hx=>h3 x hx⟩
       rw [<- hz,List.take_append_drop]
       simp
     · cases h
 · rintro ⟨rfl,hu⟩
   have hb:Bytes (nameB u++r):=hl
   have hn:numP 1 (nameB u++r) = some (u.size,strB u++List.replicate (16 - u.size) 0++r):=by
    rw [numP_iff hb]
    refine ⟨?_,by omega⟩
    rw [be_one (by omega)]
    simp [nameB]
   rw [hn]
   simp only
   have hlen:(strB u++List.replicate (16 - u.size) 0).length = 16:=by simp [strB_length];omega
   have ht:(strB u++List.replicate (16 - u.size) 0++r).take 16 = strB u++List.replicate (16 - u.size) 0:=by
    rw [List.take_append_of_le_length (by omega),List.take_of_length_le (by omega)]
   have hd:(strB u++List.replicate (16 - u.size) 0++r).drop 16 = r:=by
    rw [List.drop_append_of_le_length (by omega),List.drop_of_length_le (by omega)];rfl
   rw [ht,hd]
   have htn:(strB u++List.replicate (16 - u.size) 0).take u.size = strB u:=by
    rw [List.take_append_of_le_length (by rw [strB_length];exact Nat.le_refl _),List.take_of_length_le (by rw [strB_length];exact Nat.le_refl _)]
   have hdn:(strB u++List.replicate (16 - u.size) 0).drop u.size = List.replicate (16 - u.size) 0:=by
    rw [List.drop_append_of_le_length (by rw [strB_length];exact Nat.le_refl _),List.drop_of_length_le (by rw [strB_length];exact Nat.le_refl _)];rfl
   rw [htn,hdn,toStr_strB,if_pos]
   exact ⟨by rw [List.length_append];omega,hu,fun x hx=>List.eq_of_mem_replicate hx⟩
def bnd {α β:Type} (p:Option (α × List Nat)) (q:α->List Nat->Option β):Option β:=match p with
 | none=>none
 | some (n,l)=>q n l
theorem bnd_some {α β:Type} {p:Option (α × List Nat)} {q:α->List Nat->Option β} {x:β}:bnd p q = some x ↔ ∃ n l,p = some (n,l)∧q n l = some x:=by
 unfold bnd
 cases p with
 | none=>simp
 | some y =>
   obtain ⟨n,l⟩:=y
   exact ⟨fun h=>⟨n,l,rfl,h⟩,fun ⟨_,_,e,h⟩=>by cases e;exact h⟩
/-- A number of so many bytes,or none. -/
def Fit (k:Nat) (n:Int):Prop:=0≤n∧n < (256 ^ k:Nat)
theorem fit_nat {k n:Nat} (h:n < 256 ^ k):Fit k (n:Int):=⟨by omega,by exact_mod_cast h⟩
theorem Fit.lt {k:Nat} {n:Int} (h:Fit k n):n.toNat < 256 ^ k:=by
 have:=h.1;have:=h.2;omega
theorem Fit.eq {k:Nat} {n:Int} (h:Fit k n):((n.toNat:Nat):Int) = n:=Int.toNat_of_nonneg h.1
theorem num_put {k:Nat} {n:Int} {r:List Nat} (h:Fit k n) (hr:Bytes (be k n.toNat++r)):numP k (be k n.toNat++r) = some (n.toNat,r):=(numP_iff hr _ _).2 ⟨rfl,h.lt⟩
theorem bytes_app {a b:List Nat}:Bytes (a++b) ↔ Bytes a∧Bytes b :=
 ⟨fun h=>⟨fun x hx=>h x (List.mem_append_left _ hx),fun x hx=>h x (List.mem_append_right _ hx)⟩,fun h x hx=>(List.mem_append.1 hx).elim (h.1 x) (h.2 x)⟩
theorem name_rest {l r:List Nat} {u:ByteArray} (hl:Bytes l) (h:nameP l = some (u,r)):Bytes r:=by
 obtain ⟨rfl,_⟩:=(nameP_iff hl u r).1 h
 exact (bytes_app.1 hl).2
def opB (o:Op):List Nat:=be 1 o.kind.toNat++(be 4 o.id.toNat++(be 1 o.link.toNat++(be 4 o.addr.toNat++(nameB o.user++(be 8 o.inn.toNat++(be 8 o.out.toNat++(be 1 o.cause.toNat++be 4 o.at_.toNat)))))))
structure OpFit (o:Op):Prop where
 kind:Fit 1 o.kind
 id:Fit 4 o.id
 link:Fit 1 o.link
 addr:Fit 4 o.addr
 user:o.user.size≤16
 inn:Fit 8 o.inn
 out:Fit 8 o.out
 cause:Fit 1 o.cause
 at_:Fit 4 o.at_
def opP (l:List Nat):Option (Op × List Nat):=bnd (numP 1 l) fun kind l=>bnd (numP 4 l) fun id l=>bnd (numP 1 l) fun link l=>bnd (numP 4 l) fun addr l=>bnd (nameP l) fun user l =>
 bnd (numP 8 l) fun inn l=>bnd (numP 8 l) fun out l=>bnd (numP 1 l) fun cause l=>bnd (numP 4 l) fun at_ l=>some (⟨kind,id,link,addr,user,inn,out,cause,at_⟩,l)
theorem opP_iff {l:List Nat} (hl:Bytes l) (o:Op) (r:List Nat):opP l = some (o,r) ↔ l = opB o++r∧OpFit o:=by
 unfold opP
 constructor
 · simp only [bnd_some,Option.some.injEq,Prod.mk.injEq]
   rintro ⟨a1,l1,h1,a2,l2,h2,a3,l3,h3,a4,l4,h4,a5,l5,h5,a6,l6,h6,a7,l7,h7,a8,l8,h8,a9,l9,h9,rfl,rfl⟩
   have b1:=bytes_rest hl h1
   have b2:=bytes_rest b1 h2
   have b3:=bytes_rest b2 h3
   have b4:=bytes_rest b3 h4
   have b5:=name_rest b4 h5
   have b6:=bytes_rest b5 h6
   have b7:=bytes_rest b6 h7
   have b8:=bytes_rest b7 h8
   obtain ⟨rfl,q1⟩:=(numP_iff hl _ _).1 h1
   obtain ⟨rfl,q2⟩:=(numP_iff b1 _ _).1 h2
   obtain ⟨rfl,q3⟩:=(numP_iff b2 _ _).1 h3
   obtain ⟨rfl,q4⟩:=(numP_iff b3 _ _).1 h4
   obtain ⟨rfl,q5⟩:=(nameP_iff b4 _ _).1 h5
   obtain ⟨rfl,q6⟩:=(numP_iff b5 _ _).1 h6
   obtain ⟨rfl,q7⟩:=(numP_iff b6 _ _).1 h7
   obtain ⟨rfl,q8⟩:=(numP_iff b7 _ _).1 h8
   obtain ⟨rfl,q9⟩:=(numP_iff b8 _ _).1 h9
   exact ⟨by simp [opB,List.append_assoc],fit_nat q1,fit_nat q2,fit_nat q3,fit_nat q4,q5,fit_nat q6,fit_nat q7,fit_nat q8,fit_nat q9⟩
 · rintro ⟨rfl,f⟩
   unfold opB at hl ⊢
   simp only [List.append_assoc] at hl ⊢
   have b1:=(bytes_app.1 hl).2
   have b2:=(bytes_app.1 b1).2
   have b3:=(bytes_app.1 b2).2
   have b4:=(bytes_app.1 b3).2
   have b5:=(bytes_app.1 b4).2
   have b6:=(bytes_app.1 b5).2
   have b7:=(bytes_app.1 b6).2
   have b8:=(bytes_app.1 b7).2
   rw [num_put f.kind hl];simp only [bnd]
   rw [num_put f.id b1];simp only
   rw [num_put f.link b2];simp only
   rw [num_put f.addr b3];simp only
   rw [(nameP_iff b4 _ _).2 ⟨rfl,f.user⟩];simp only
   rw [num_put f.inn b5];simp only
   rw [num_put f.out b6];simp only
   rw [num_put f.cause b7];simp only
   rw [num_put f.at_ b8];simp only
   rw [f.kind.eq,f.id.eq,f.link.eq,f.addr.eq,f.inn.eq,f.out.eq,f.cause.eq,f.at_.eq]
def sessB (s:Sess):List Nat:=be 4 s.id.toNat++(be 1 s.link.toNat++(be 4 s.addr.toNat++(nameB s.user++(be 8 s.inn.toNat++be 8 s.out.toNat))))
structure SessFit (s:Sess):Prop where
 id:Fit 4 s.id
 link:Fit 1 s.link
 addr:Fit 4 s.addr
 user:s.user.size≤16
 inn:Fit 8 s.inn
 out:Fit 8 s.out
def sessP (l:List Nat):Option (Sess × List Nat):=bnd (numP 4 l) fun id l=>bnd (numP 1 l) fun link l=>bnd (numP 4 l) fun addr l=>bnd (nameP l) fun user l=>bnd (numP 8 l) fun inn l=>bnd (numP 8 l) fun out l=>some (⟨id,link,addr,user,inn,out⟩,l)
theorem sessP_iff {l:List Nat} (hl:Bytes l) (s:Sess) (r:List Nat):sessP l = some (s,r) ↔ l = sessB s++r∧SessFit s:=by
 unfold sessP
 constructor
 · simp only [bnd_some,Option.some.injEq,Prod.mk.injEq]
   rintro ⟨a2,l2,h2,a3,l3,h3,a4,l4,h4,a5,l5,h5,a6,l6,h6,a7,l7,h7,rfl,rfl⟩
   have b2:=bytes_rest hl h2
   have b3:=bytes_rest b2 h3
   have b4:=bytes_rest b3 h4
   have b5:=name_rest b4 h5
   have b6:=bytes_rest b5 h6
   obtain ⟨rfl,q2⟩:=(numP_iff hl _ _).1 h2
   obtain ⟨rfl,q3⟩:=(numP_iff b2 _ _).1 h3
   obtain ⟨rfl,q4⟩:=(numP_iff b3 _ _).1 h4
   obtain ⟨rfl,q5⟩:=(nameP_iff b4 _ _).1 h5
   obtain ⟨rfl,q6⟩:=(numP_iff b5 _ _).1 h6
   obtain ⟨rfl,q7⟩:=(numP_iff b6 _ _).1 h7
   exact ⟨by simp [sessB,List.append_assoc],fit_nat q2,fit_nat q3,fit_nat q4,q5,fit_nat q6,fit_nat q7⟩
 · rintro ⟨rfl,f⟩
   unfold sessB at hl ⊢
   simp only [List.append_assoc] at hl ⊢
   have b2:=(bytes_app.1 hl).2
   have b3:=(bytes_app.1 b2).2
   have b4:=(bytes_app.1 b3).2
   have b5:=(bytes_app.1 b4).2
   have b6:=(bytes_app.1 b5).2
   rw [num_put f.id hl];simp only [bnd]
   rw [num_put f.link b2];simp only
   rw [num_put f.addr b3];simp only
   rw [(nameP_iff b4 _ _).2 ⟨rfl,f.user⟩];simp only
   rw [num_put f.inn b5];simp only
   rw [num_put f.out b6];simp only
   rw [f.id.eq,f.link.eq,f.addr.eq,f.inn.eq,f.out.eq]
def itemB (x:Item):List Nat:=be 1 x.kind.toNat++(be 4 x.id.toNat++(be 8 x.inn.toNat++(be 8 x.out.toNat++be 1 x.cause.toNat)))
structure ItemFit (x:Item):Prop where
 kind:Fit 1 x.kind
 id:Fit 4 x.id
 inn:Fit 8 x.inn
 out:Fit 8 x.out
 cause:Fit 1 x.cause
def itemP (l:List Nat):Option (Item × List Nat):=bnd (numP 1 l) fun kind l=>bnd (numP 4 l) fun id l=>bnd (numP 8 l) fun inn l=>bnd (numP 8 l) fun out l=>bnd (numP 1 l) fun cause l=>some (⟨kind,id,inn,out,cause⟩,l)
theorem itemP_iff {l:List Nat} (hl:Bytes l) (x:Item) (r:List Nat):itemP l = some (x,r) ↔ l = itemB x++r∧ItemFit x:=by
 unfold itemP
 constructor
 · simp only [bnd_some,Option.some.injEq,Prod.mk.injEq]
   rintro ⟨a2,l2,h2,a3,l3,h3,a4,l4,h4,a6,l6,h6,a7,l7,h7,rfl,rfl⟩
   have b2:=bytes_rest hl h2
   have b3:=bytes_rest b2 h3
   have b4:=bytes_rest b3 h4
   have b6:=bytes_rest b4 h6
   obtain ⟨rfl,q2⟩:=(numP_iff hl _ _).1 h2
   obtain ⟨rfl,q3⟩:=(numP_iff b2 _ _).1 h3
   obtain ⟨rfl,q4⟩:=(numP_iff b3 _ _).1 h4
   obtain ⟨rfl,q6⟩:=(numP_iff b4 _ _).1 h6
   obtain ⟨rfl,q7⟩:=(numP_iff b6 _ _).1 h7
   exact ⟨by simp [itemB,List.append_assoc],fit_nat q2,fit_nat q3,fit_nat q4,fit_nat q6,fit_nat q7⟩
 · rintro ⟨rfl,f⟩
   unfold itemB at hl ⊢
   simp only [List.append_assoc] at hl ⊢
   have b2:=(bytes_app.1 hl).2
   have b3:=(bytes_app.1 b2).2
   have b4:=(bytes_app.1 b3).2
   have b5:=(bytes_app.1 b4).2
   rw [num_put f.kind hl];simp only [bnd]
   rw [num_put f.id b2];simp only
   rw [num_put f.inn b3];simp only
   rw [num_put f.out b4];simp only
   rw [num_put f.cause b5];simp only
   rw [f.kind.eq,f.id.eq,f.inn.eq,f.out.eq,f.cause.eq]
def lockB (x:Lock):List Nat:=nameB x.user++(be 1 x.n.toNat++be 4 x.at_.toNat)
structure LockFit (x:Lock):Prop where
 user:x.user.size≤16
 n:Fit 1 x.n
 at_:Fit 4 x.at_
def lockP (l:List Nat):Option (Lock × List Nat):=bnd (nameP l) fun user l=>bnd (numP 1 l) fun n l=>bnd (numP 4 l) fun at_ l=>some (⟨user,n,at_⟩,l)
theorem lockP_iff {l:List Nat} (hl:Bytes l) (x:Lock) (r:List Nat):lockP l = some (x,r) ↔ l = lockB x++r∧LockFit x:=by
 unfold lockP
 constructor
 · simp only [bnd_some,Option.some.injEq,Prod.mk.injEq]
   rintro ⟨a2,l2,h2,a3,l3,h3,a4,l4,h4,rfl,rfl⟩
   have b2:=name_rest hl h2
   have b3:=bytes_rest b2 h3
   obtain ⟨rfl,q2⟩:=(nameP_iff hl _ _).1 h2
   obtain ⟨rfl,q3⟩:=(numP_iff b2 _ _).1 h3
   obtain ⟨rfl,q4⟩:=(numP_iff b3 _ _).1 h4
   exact ⟨by simp [lockB,List.append_assoc],q2,fit_nat q3,fit_nat q4⟩
 · rintro ⟨rfl,f⟩
   unfold lockB at hl ⊢
   simp only [List.append_assoc] at hl ⊢
   have b2:=(bytes_app.1 hl).2
   have b3:=(bytes_app.1 b2).2
   rw [(nameP_iff hl _ _).2 ⟨rfl,f.user⟩];simp only [bnd]
   rw [num_put f.n b2];simp only
   rw [num_put f.at_ b3];simp only
   rw [f.n.eq,f.at_.eq]
/-- So many,one behind the other. -/
def manyP {α:Type} (p:List Nat->Option (α × List Nat)):Nat->List Nat->Option (List α × List Nat)
 | 0,l=>some ([],l)
 | n + 1,l=>bnd (p l) fun x l=>bnd (manyP p n l) fun xs l=>some (x :: xs,l)
theorem manyP_iff {α:Type} {p:List Nat->Option (α × List Nat)} {enc:α->List Nat} {ok:α->Prop} (h:∀ {l:List Nat},Bytes l->∀ x r,p l = some (x,r) ↔ l = enc x++r∧ok x):∀ (n:Nat) {l:List Nat},Bytes l->∀ xs r,manyP p n l = some (xs,r) ↔ l = xs.flatMap enc++r∧xs.length = n∧∀ x∈xs,ok x
 | 0,l,hl,xs,r=>by
   simp only [manyP,Option.some.injEq,Prod.mk.injEq]
   constructor
   · rintro ⟨rfl,rfl⟩;simp
   · rintro ⟨h1,h2,_⟩
     rw [List.length_eq_zero_iff] at h2
     subst h2
     simpa using h1
 | n + 1,l,hl,xs,r=>by
   simp only [manyP,bnd_some,Option.some.injEq,Prod.mk.injEq]
   constructor
   · rintro ⟨x,l1,h1,ys,l2,h2,rfl,rfl⟩
     obtain ⟨rfl,q1⟩:=(h hl x l1).1 h1
     have b1:=(bytes_app.1 hl).2
     obtain ⟨rfl,q2,q3⟩:=(manyP_iff h n b1 ys l2).1 h2
     refine ⟨by simp,by simp [q2],fun y hy=>?_⟩
     rcases List.mem_cons.1 hy with rfl | hy
     · exact q1
     · exact q3 y hy
   · rintro ⟨rfl,h2,h3⟩
     cases xs with
     | nil=>simp at h2
     | cons x ys =>
       simp only [List.flatMap_cons,List.append_assoc] at hl ⊢
       have b1:=(bytes_app.1 hl).2
       exact ⟨x,_,(h hl x _).2 ⟨rfl,h3 x List.mem_cons_self⟩,ys,r,(manyP_iff h n b1 ys r).2 ⟨rfl,by simpa using h2,fun y hy=>h3 y (List.mem_cons_of_mem _ hy)⟩,rfl,rfl⟩
end Bk
namespace Bk
section
variable (Γ:Nat->Option (List Data))
/-- What is told,where bytes can't be read. -/
def errV:Value:=.iface 41 (.int .i64 2)
theorem need_dx (ok:Bool) {H:Nat->Blk} {nx:Nat} {K:D->(Nat->Blk)->Nat->Prop} {X:Value->(Nat->Blk)->Nat->Prop} (hk:ok = true->K (.data (.tup [])) H (nx + 2)) (hx:ok = false->X errV H (nx + 3)) :
 DX Tryz.prog Γ 158 [.data (.bool ok)] H nx K X:=by
 refine dx_by mixed Tryz.func158 rfl (fun args w=>Tryz.call158 args w) ?_
 cases ok with
 | true =>
   have hk:=hk rfl
   simp -implicitDefEqProofs (disch:=omega) [go_sem,hk,Tryz.f158]
   exact ⟨_,rfl,hk⟩
 | false =>
   have hx:=hx rfl
   unfold errV at hx
   simp -implicitDefEqProofs (disch:=omega) [go_sem,hx]
/-- A reader's call: what it hands back,what is left;or it can't be read. -/
def RdK (p:Option (Data × List Nat)):D->(Nat->Blk)->Nat->Prop:=fun d H' _=>∃ r c,d = .data r∧H' 0 = .blk true (c.map D.data)∧∃ l',c = [.sl 1 (bys l')]∧p = some (r,l')
def RdX (p:Option (Data × List Nat)):Value->(Nat->Blk)->Nat->Prop:=fun v H' _=>∃ c,H' 0 = .blk true (c.map D.data)∧(∃ l',c = [Data.sl 1 (bys l')])∧v = errV∧p = none
theorem rdK {p:Option (Data × List Nat)} {r:Data} {l':List Nat} {H':Nat->Blk} {n:Nat} (hH:H' 0 = .blk true [.data (.sl 1 (bys l'))]) (hp:p = some (r,l')):RdK p (.data r) H' n:=⟨r,[.sl 1 (bys l')],rfl,hH,l',rfl,hp⟩
theorem rdX {p:Option (Data × List Nat)} {v:Value} {l':List Nat} {H':Nat->Blk} {n:Nat} (hv:v = errV) (hH:H' 0 = .blk true [.data (.sl 1 (bys l'))]) (hp:p = none):RdX p v H' n:=⟨[.sl 1 (bys l')],hH,⟨l',rfl⟩,hv,hp⟩
def RD (f:FuncId) (xs:List D) (l:List Nat) (p:Option (Data × List Nat)):Prop:=DX Tryz.prog Γ f (.ptr 0 0 :: xs) (hpL [(0,.blk true [.data (.sl 1 (bys l))])]) 1 (RdK p) (RdX p)
variable {Γ}
theorem rd_lent {f:FuncId} {xs:List D} {l:List Nat} {p:Option (Data × List Nat)} (h:RD Γ f xs l p) {H:Nat->Blk} {nx g:Nat} {K:D->(Nat->Blk)->Nat->Prop} {X:Value->(Nat->Blk)->Nat->Prop} (hg:H g = .blk true [.data (.sl 1 (bys l))]) (hxs:∀ x∈xs,(∃ y,x = .data y) ∨ ∃ c,x = .cptr c)
 (hk:∀ r l',p = some (r,l')->K (.data r) (Hp.upd H [(g,.blk true [.data (.sl 1 (bys l'))])]) nx) (hx:p = none->∀ l',X errV (Hp.upd H [(g,.blk true [.data (.sl 1 (bys l'))])]) nx):DX Tryz.prog Γ f (.ptr g 0 :: xs) H nx K X:=by
 refine dx_lent (cells:=[.sl 1 (bys l)]) (K0:=fun r c=>∃ l',c = [.sl 1 (bys l')]∧p = some (r,l')) (X0:=fun v c=>(∃ l',c = [Data.sl 1 (bys l')])∧v = errV∧p = none) h hg (.ptr 0) hxs ?_ ?_
 · rintro r c ⟨l',rfl,hp⟩;exact hk r l' hp
 · rintro v c ⟨⟨l',rfl⟩,rfl,hp⟩;exact hx hp l'
variable (Γ)
/-- Some bytes. -/
def takeP (n:Nat) (l:List Nat):Option (Data × List Nat):=if n≤l.length then some (.sl 1 (bys (l.take n)),l.drop n) else none
theorem take_rd (l:List Nat) (hl:l.length≤1000000) (n:Nat) (hn:n≤1000000):RD Γ 180 [.data (.int .i64 n)] l (takeP n l):=by
 refine dx_by mixed Tryz.func180 rfl (fun args w=>Tryz.call180 args w) ?_
 by_cases h:n≤l.length
 · simp -implicitDefEqProofs (disch:=omega) [go_sem]
   refine .inr (.inr (need_dx Γ true (fun _=>?_) (fun e=>by cases e)))
   simp -implicitDefEqProofs (disch:=omega) [go_sem,Tryz.f180]
   exact rdK (l':=l.drop n) (by simp [go_sem]) (by simp [takeP,h])
 · simp -implicitDefEqProofs (disch:=omega) [go_sem]
   refine .inr (.inr (need_dx Γ false (fun e=>by cases e) (fun _=>?_)))
   simp -implicitDefEqProofs (disch:=omega) [go_sem]
   exact rdX (l':=l) rfl (by simp [go_sem]) (by simp [takeP,h])
theorem zeros_pc (l:List Nat) (hl:l.length≤1000000) {v:Bool} (hv:v = true ↔ ∀ x∈l,x = 0):PC Tryz.prog Γ 182 [.sl 1 (bys l)] (.bool v):=by
 refine pc_by mixed Tryz.func182 rfl (fun args w=>Tryz.call182 args w) ?_
 have no:(¬ ∀ x∈l,x = 0)->v = false:=fun h=>by
  cases v
  · rfl
  · exact absurd (hv.1 rfl) h
 simp -implicitDefEqProofs (disch:=omega) [go_sem]
 refine loop_ren (σ:={ i:Nat // i≤l.length∧∀ (j:Nat) (h:j < l.length),j < i->l[j] = 0 }) (fun i=>⟨envL [(5,.data (.sl 1 (bys l))),(6,.data (.int .i64 l.length)),(7,.data (.int .i64 i.1))],hpL [],0,0,14⟩) (fun i=>l.length - i.1) ⟨0,by omega,by omega⟩ [] (rhoL []) ?_ ?_
 · apply ren_lists <;> simp -implicitDefEqProofs [go_sem]
 rintro ⟨i,hi,hall⟩
 by_cases h:i < l.length
 · by_cases e:l[i] = 0
   · simp -implicitDefEqProofs (disch:=omega) [go_sem,e]
     refine next_ren ⟨i + 1,by omega,fun j hj hl=>if e2:j = i then by subst e2;exact e else hall j hj (by omega)⟩ (by simp only;omega) [] (rhoL []) ?_
     apply ren_lists <;> simp -implicitDefEqProofs [go_sem]
   · have hvf:v = false:=no fun h2=>e (h2 _ (List.getElem_mem h))
     simp -implicitDefEqProofs (disch:=omega) [go_sem,e,hvf,Tryz.f182]
 have hvt:v = true:=hv.2 fun x hx=>by
  obtain ⟨j,hj,rfl⟩:=List.getElem_of_mem hx
  exact hall j hj (by omega)
 simp -implicitDefEqProofs (disch:=omega) [go_sem,hvt,Tryz.f182]
theorem or_byte {a b:Nat} (ha:a < 72057594037927936) (hb:b < 256):orI .u64 ((a:Int) * 256 % 18446744073709551616) ((b:Int) % 18446744073709551616) = ((a * 256 + b:Nat):Int):=by
 rw [show ((b:Int) % 18446744073709551616) = b by omega]
 have e1:((a:Int) * 256 % 18446744073709551616) = ((a * 256:Nat):Int):=by omega
 rw [e1]
 unfold orI
 rw [IntKind.wrap_u64,BitVec.ofInt_natCast,BitVec.ofInt_natCast,BitVec.toNat_or,BitVec.toNat_ofNat,BitVec.toNat_ofNat,Nat.mod_eq_of_lt (show a * 256 < 2 ^ IntKind.u64.bits by show a * 256 < 2 ^ 64;omega),Nat.mod_eq_of_lt (show b < 2 ^ IntKind.u64.bits by show b < 2 ^ 64;omega)]
 have h:=Nat.shiftLeft_add_eq_or_of_lt (show b < 2 ^ 8 by omega) a
 rw [Nat.shiftLeft_eq] at h
 have h2:a * 256 ||| b = a * 256 + b:=h.symm
 rw [h2]
 omega
theorem ofBe_take (l:List Nat) (i:Nat) (h:i < l.length):ofBe (l.take (i + 1)) = ofBe (l.take i) * 256 + l[i]:=by
 rw [List.take_succ_eq_append_getElem h,ofBe_snoc]
theorem ofBe_le (l:List Nat) (hl:Bytes l) (i k:Nat) (hk:i < k) (h8:k≤8):ofBe (l.take i) < 72057594037927936:=by
 have h:=(be_ofBe (l.take i) fun x hx=>hl x (List.mem_of_mem_take hx)).2
 have h2:256 ^ (l.take i).length≤256 ^ 7:=Nat.pow_le_pow_right (by omega) (by simp;omega)
 have:256 ^ 7 = 72057594037927936:=by decide
 omega
def numD (p:Option (Nat × List Nat)) (f:Nat->Data):Option (Data × List Nat):=p.map fun x=>(f x.1,x.2)
theorem number_rd (l:List Nat) (hl:l.length≤1000000) (hb:Bytes l) (k:Nat) (hk:k≤8):RD Γ 181 [.data (.int .i64 k)] l (numD (numP k l) fun n=>.int .u64 n):=by
 refine dx_by mixed Tryz.func181 rfl (fun args w=>Tryz.call181 args w) ?_
 have ct:=take_rd Γ l hl k (by omega)
 simp -implicitDefEqProofs (disch:=omega) [go_sem]
 refine .inr (.inr (rd_lent ct (by simp [go_sem]) (by simp) (fun r l' hp=>?_) (fun hp l'=>?_)))
 rotate_left
 · have hn:numP k l = none:=by
    unfold takeP at hp;unfold numP
    split at hp
    · cases hp
    · rename_i h;rw [if_neg h]
   simp -implicitDefEqProofs (disch:=omega) [go_sem]
   exact rdX (l':=l') rfl (by simp [go_sem]) (by rw [hn];rfl)
 unfold takeP at hp
 split at hp
 rotate_left
 · cases hp
 rename_i hkl
 simp only [Option.some.injEq,Prod.mk.injEq] at hp
 obtain ⟨rfl,rfl⟩:=hp
 have hlen:(l.take k).length = k:=by simp;omega
 have hbt:Bytes (l.take k):=fun x hx=>hb x (List.mem_of_mem_take hx)
 have hnum:numP k l = some (ofBe (l.take k),l.drop k):=by unfold numP;rw [if_pos hkl]
 generalize l.take k = q at *
 generalize l.drop k = rest at *
 simp -implicitDefEqProofs (disch:=omega) [go_sem]
 refine loop_ren (σ:={ i:Nat // i≤k }) (fun i=>⟨envL [(5,.data (.int .u64 (ofBe (q.take i.1)))),(10,.data (.sl 1 (bys q))),(11,.data (.int .i64 k)),(12,.data (.int .i64 i.1))],hpL [(0,.blk true [.data (.sl 1 (bys rest))])],1,1,23⟩) (fun i=>k - i.1) ⟨0,by omega⟩ [] (rhoL []) ?_ ?_
 · apply ren_lists <;> simp -implicitDefEqProofs [go_sem,hlen,ofBe]
 rintro ⟨i,hi⟩
 by_cases h:i < k
 · have hx:=hbt _ (List.getElem_mem (show i < q.length by omega))
   have hs:=ofBe_take q i (by omega)
   have hle:=ofBe_le q hbt i k h hk
   have hor:=or_byte hle hx
   generalize ofBe (q.take i) = n at *
   simp -implicitDefEqProofs (disch:=omega) [go_sem,hor]
   refine next_ren ⟨i + 1,by omega⟩ (by simp only;omega) [] (rhoL []) ?_
   apply ren_lists <;> simp -implicitDefEqProofs [go_sem,hs]
 have:i = k:=by omega
 subst this
 simp -implicitDefEqProofs (disch:=omega) [go_sem,Tryz.f181]
 exact rdK (l':=rest) (by simp [go_sem]) (by rw [hnum,<- hlen,List.take_length];rfl)
theorem numD_none {p:Option (Nat × List Nat)} {f:Nat->Data}:numD p f = none ↔ p = none:=by unfold numD;cases p <;> simp
theorem numD_some {p:Option (Nat × List Nat)} {f:Nat->Data} {r:Data} {l':List Nat}:numD p f = some (r,l') ↔ ∃ n,p = some (n,l')∧r = f n:=by
 unfold numD
 cases p with
 | none=>simp
 | some x =>
   obtain ⟨n,l2⟩:=x
   simp only [Option.map_some,Option.some.injEq,Prod.mk.injEq]
   exact ⟨fun ⟨a,b⟩=>⟨n,⟨rfl,b⟩,a.symm⟩,fun ⟨_,⟨a,b⟩,c⟩=>⟨by rw [c,a],b⟩⟩
theorem numP_lt {k n:Nat} {l r:List Nat} (hl:Bytes l) (h:numP k l = some (n,r)):n < 256 ^ k:=((numP_iff hl n r).1 h).2
theorem numP_len {k n:Nat} {l r:List Nat} (h:numP k l = some (n,r)):r.length≤l.length:=by
 unfold numP at h
 split at h
 · simp only [Option.some.injEq,Prod.mk.injEq] at h
   rw [<- h.2,List.length_drop];omega
 · cases h
theorem small_rd (l:List Nat) (hl:l.length≤1000000) (hb:Bytes l) (k:Nat) (hk:k≤4):RD Γ 160 [.data (.int .i64 k)] l (numD (numP k l) fun n=>.int .i64 n):=by
 refine dx_by mixed Tryz.func160 rfl (fun args w=>Tryz.call160 args w) ?_
 have ct:=number_rd Γ l hl hb k (by omega)
 simp -implicitDefEqProofs (disch:=omega) [go_sem]
 refine .inr (.inr (rd_lent ct (by simp [go_sem]) (by simp) (fun r l' hp=>?_) (fun hp l'=>?_)))
 rotate_left
 · rw [numD_none] at hp
   simp -implicitDefEqProofs (disch:=omega) [go_sem]
   exact rdX (l':=l') rfl (by simp [go_sem]) (by rw [hp];rfl)
 obtain ⟨n,hn,rfl⟩:=numD_some.1 hp
 have h1:=numP_lt hb hn
 have h2:256 ^ k≤256 ^ 4:=Nat.pow_le_pow_right (by omega) hk
 have h3:256 ^ 4 = 4294967296:=by decide
 simp -implicitDefEqProofs (disch:=omega) [go_sem,Tryz.f160]
 exact rdK (l':=l') (by simp [go_sem]) (by rw [hn];rfl)
theorem end_rd (l:List Nat) (hl:l.length≤1000000) {v:Bool} (hv:v = true ↔ ∀ x∈l,x = 0):RD Γ 161 [] l (if v = true then some (.tup [],l) else none):=by
 refine dx_by mixed Tryz.func161 rfl (fun args w=>Tryz.call161 args w) ?_
 have cz:=zeros_pc Γ l hl hv
 simp -implicitDefEqProofs (disch:=omega) [go_sem]
 refine .inl (call_data cz (by simp [go_sem]) ?_)
 simp -implicitDefEqProofs (disch:=omega) [go_sem]
 refine .inr (.inr (need_dx Γ v (fun e=>?_) (fun e=>?_)))
 · simp -implicitDefEqProofs (disch:=omega) [go_sem,Tryz.f161]
   exact ⟨_,rfl,rdK (l':=l) (by simp [go_sem]) (by simp [e])⟩
 · simp -implicitDefEqProofs (disch:=omega) [go_sem]
   exact rdX (l':=l) rfl (by simp [go_sem]) (by simp [e])
/-- With these letters it must begin. -/
def letP (u:ByteArray) (l:List Nat):Option (Data × List Nat):=if u.size≤l.length∧toStr (l.take u.size) = u then some (.tup [],l.drop u.size) else none
theorem letters_rd (l:List Nat) (hl:l.length≤1000000) (hb:Bytes l) (u:ByteArray) (hu:u.size≤1000000):RD Γ 159 [.data (.str u)] l (letP u l):=by
 refine dx_by mixed Tryz.func159 rfl (fun args w=>Tryz.call159 args w) ?_
 have ct:=take_rd Γ l hl u.size hu
 simp -implicitDefEqProofs (disch:=omega) [go_sem]
 refine .inr (.inr (rd_lent ct (by simp [go_sem]) (by simp) (fun r l' hp=>?_) (fun hp l'=>?_)))
 rotate_left
 · have hn:letP u l = none:=by
    unfold takeP at hp;unfold letP
    split at hp
    · cases hp
    · rename_i h;rw [if_neg fun e=>h e.1]
   simp -implicitDefEqProofs (disch:=omega) [go_sem]
   exact rdX (l':=l') rfl (by simp [go_sem]) hn
 unfold takeP at hp
 split at hp
 rotate_left
 · cases hp
 rename_i hkl
 simp only [Option.some.injEq,Prod.mk.injEq] at hp
 obtain ⟨rfl,rfl⟩:=hp
 have hbt:Bytes (l.take u.size):=fun x hx=>hb x (List.mem_of_mem_take hx)
 simp -implicitDefEqProofs (disch:=omega) [go_sem]
 refine conv_bys (e:=5) hbt (by simp [go_sem]) (by simp [go_sem]) (by simp [go_sem]) ?_
 by_cases h:toStr (l.take u.size) = u
 · simp -implicitDefEqProofs (disch:=omega) [go_sem,h]
   refine .inr (.inr (need_dx Γ true (fun _=>?_) (fun e=>by cases e)))
   simp -implicitDefEqProofs (disch:=omega) [go_sem,Tryz.f159]
   exact ⟨_,rfl,rdK (l':=l.drop u.size) (by simp [go_sem]) (by unfold letP;rw [if_pos ⟨hkl,h⟩])⟩
 · simp -implicitDefEqProofs (disch:=omega) [go_sem,h]
   refine .inr (.inr (need_dx Γ false (fun e=>by cases e) (fun _=>?_)))
   simp -implicitDefEqProofs (disch:=omega) [go_sem]
   exact rdX (l':=l.drop u.size) rfl (by simp [go_sem]) (by unfold letP;rw [if_neg fun e=>h e.2])
end
end Bk
namespace Bk
section
variable (Γ:Nat->Option (List Data))
def mapD {α:Type} (p:Option (α × List Nat)) (f:α->Data):Option (Data × List Nat):=p.map fun x=>(f x.1,x.2)
theorem mapD_none {α:Type} {p:Option (α × List Nat)} {f:α->Data}:mapD p f = none ↔ p = none:=by unfold mapD;cases p <;> simp
theorem mapD_some {α:Type} {p:Option (α × List Nat)} {f:α->Data} {r:Data} {l':List Nat}:mapD p f = some (r,l') ↔ ∃ n,p = some (n,l')∧r = f n:=by
 unfold mapD
 cases p with
 | none=>simp
 | some x =>
   obtain ⟨n,l2⟩:=x
   simp only [Option.map_some,Option.some.injEq,Prod.mk.injEq]
   exact ⟨fun ⟨a,b⟩=>⟨n,⟨rfl,b⟩,a.symm⟩,fun ⟨_,⟨a,b⟩,c⟩=>⟨by rw [c,a],b⟩⟩
theorem nameP_len {l r:List Nat} {u:ByteArray} (h:nameP l = some (u,r)):r.length≤l.length:=by
 unfold nameP at h
 split at h
 · cases h
 · rename_i n l1 hn
   have:=numP_len hn
   split at h
   · simp only [Option.some.injEq,Prod.mk.injEq] at h
     rw [<- h.2,List.length_drop];omega
   · cases h
theorem take_none {n:Nat} {l:List Nat} (h:takeP n l = none):¬ n≤l.length:=fun e=>by unfold takeP at h;rw [if_pos e] at h;cases h
theorem take_some {n:Nat} {l l':List Nat} {r:Data} (h:takeP n l = some (r,l')):n≤l.length∧r = .sl 1 (bys (l.take n))∧l' = l.drop n:=by
 unfold takeP at h
 split at h
 · simp only [Option.some.injEq,Prod.mk.injEq] at h
   exact ⟨‹_›,h.1.symm,h.2.symm⟩
 · cases h
set_option maxHeartbeats 2000000 in
theorem name_rd (l:List Nat) (hl:l.length≤1000000) (hb:Bytes l):RD Γ 183 [] l (mapD (nameP l) Data.str):=by
 refine dx_by mixed Tryz.func183 rfl (fun args w=>Tryz.call183 args w) ?_
 simp -implicitDefEqProofs (disch:=omega) [go_sem]
 refine .inr (.inr (rd_lent (small_rd Γ l hl hb 1 (by omega)) (by simp [go_sem]) (by simp) (fun r l1 hp=>?_) (fun hp l'=>?_)))
 rotate_left
 · rw [numD_none] at hp
   simp -implicitDefEqProofs (disch:=omega) [go_sem]
   exact rdX (l':=l') rfl (by simp [go_sem]) (by simp [mapD,nameP,hp])
 obtain ⟨n,h1,rfl⟩:=numD_some.1 hp
 clear hp
 have hb1:=bytes_rest hb h1
 have hl1:l1.length≤1000000:=Nat.le_trans (numP_len h1) hl
 have hn:n < 256:=numP_lt hb h1
 simp -implicitDefEqProofs (disch:=omega) [go_sem]
 refine .inr (.inr (rd_lent (take_rd Γ l1 hl1 16 (by omega)) (by simp [go_sem]) (by simp) (fun r l2 hp=>?_) (fun hp l'=>?_)))
 rotate_left
 · have h16:=take_none hp
   simp -implicitDefEqProofs (disch:=omega) [go_sem]
   exact rdX (l':=l') rfl (by simp [go_sem]) (by simp [mapD,nameP,h1];omega)
 obtain ⟨h16,rfl,rfl⟩:=take_some hp
 clear hp
 have hlen:(l1.take 16).length = 16:=by simp;omega
 have hbt:Bytes (l1.take 16):=fun x hx=>hb1 x (List.mem_of_mem_take hx)
 have hnm:nameP l = if n≤16∧∀ x∈(l1.take 16).drop n,x = 0 then some (toStr ((l1.take 16).take n),l1.drop 16) else none:=by
  unfold nameP
  rw [h1]
  simp only [h16,true_and]
 generalize l1.take 16 = q at *
 generalize l1.drop 16 = rest at *
 simp -implicitDefEqProofs (disch:=omega) [go_sem]
 by_cases g:n≤16
 rotate_left
 · simp -implicitDefEqProofs (disch:=omega) [go_sem,hlen]
   refine .inr (.inr (need_dx Γ false (fun e=>by cases e) (fun _=>?_)))
   simp -implicitDefEqProofs (disch:=omega) [go_sem]
   exact rdX (l':=rest) rfl (by simp [go_sem]) (by rw [hnm,if_neg fun e=>g e.1];rfl)
 obtain ⟨v,hv⟩:∃ v:Bool,v = true ↔ ∀ x∈q.drop n,x = 0:=by classical exact ⟨decide (∀ x∈q.drop n,x = 0),by simp⟩
 have cz:=zeros_pc Γ (q.drop n) (by simp;omega) hv
 have hta:q.take 16 = q:=List.take_of_length_le (by omega)
 simp -implicitDefEqProofs (disch:=omega) [go_sem,hlen]
 refine .inl (call_data cz (by simp [go_sem,hta]) ?_)
 simp -implicitDefEqProofs (disch:=omega) [go_sem,hlen]
 refine .inr (.inr (need_dx Γ v (fun e=>?_) (fun e=>?_)))
 rotate_left
 · simp -implicitDefEqProofs (disch:=omega) [go_sem]
   exact rdX (l':=rest) rfl (by simp [go_sem]) (by rw [hnm,if_neg fun e2=>by rw [hv.2 e2.2] at e;cases e];rfl)
 have hz:=hv.1 e
 simp -implicitDefEqProofs (disch:=omega) [go_sem,hlen]
 refine conv_bys (e:=5) (fun x hx=>hbt x (List.mem_of_mem_take hx)) (by simp [go_sem]) (by simp [go_sem]) (by simp [go_sem]) ?_
 simp -implicitDefEqProofs (disch:=omega) [go_sem,Tryz.f183]
 exact rdK (l':=rest) (by simp [go_sem]) (by rw [hnm,if_pos ⟨g,hz⟩];rfl)
set_option maxHeartbeats 8000000 in
theorem op_rd (l:List Nat) (hl:l.length≤1000000) (hb:Bytes l):RD Γ 185 [] l (mapD (opP l) op):=by
 refine dx_by mixed Tryz.func185 rfl (fun args w=>Tryz.call185 args w) ?_
 have hl0:=hl
 have hb0:=hb
 simp -implicitDefEqProofs (disch:=omega) [go_sem]
 refine .inr (.inr (rd_lent (small_rd Γ l hl0 hb0 1 (by omega)) (by simp [go_sem]) (by simp) (fun r l1 hp=>?_) (fun hp l'=>?_)))
 rotate_left
 · rw [numD_none] at hp
   simp -implicitDefEqProofs (disch:=omega) [go_sem]
   exact rdX (l':=l') rfl (by simp [go_sem]) (by simp [mapD,opP,bnd,hp])
 obtain ⟨n1,h1,rfl⟩:=numD_some.1 hp
 clear hp
 have hb1:=bytes_rest hb0 h1
 have hl1:l1.length≤1000000:=Nat.le_trans (numP_len h1) hl0
 simp -implicitDefEqProofs (disch:=omega) [go_sem]
 refine .inr (.inr (rd_lent (small_rd Γ l1 hl1 hb1 4 (by omega)) (by simp [go_sem]) (by simp) (fun r l2 hp=>?_) (fun hp l'=>?_)))
 rotate_left
 · rw [numD_none] at hp
   simp -implicitDefEqProofs (disch:=omega) [go_sem]
   exact rdX (l':=l') rfl (by simp [go_sem]) (by simp [mapD,opP,bnd,h1,hp])
 obtain ⟨n2,h2,rfl⟩:=numD_some.1 hp
 clear hp
 have hb2:=bytes_rest hb1 h2
 have hl2:l2.length≤1000000:=Nat.le_trans (numP_len h2) hl1
 simp -implicitDefEqProofs (disch:=omega) [go_sem]
 refine .inr (.inr (rd_lent (small_rd Γ l2 hl2 hb2 1 (by omega)) (by simp [go_sem]) (by simp) (fun r l3 hp=>?_) (fun hp l'=>?_)))
 rotate_left
 · rw [numD_none] at hp
   simp -implicitDefEqProofs (disch:=omega) [go_sem]
   exact rdX (l':=l') rfl (by simp [go_sem]) (by simp [mapD,opP,bnd,h1,h2,hp])
 obtain ⟨n3,h3,rfl⟩:=numD_some.1 hp
 clear hp
 have hb3:=bytes_rest hb2 h3
 have hl3:l3.length≤1000000:=Nat.le_trans (numP_len h3) hl2
 simp -implicitDefEqProofs (disch:=omega) [go_sem]
 refine .inr (.inr (rd_lent (number_rd Γ l3 hl3 hb3 4 (by omega)) (by simp [go_sem]) (by simp) (fun r l4 hp=>?_) (fun hp l'=>?_)))
 rotate_left
 · rw [numD_none] at hp
   simp -implicitDefEqProofs (disch:=omega) [go_sem]
   exact rdX (l':=l') rfl (by simp [go_sem]) (by simp [mapD,opP,bnd,h1,h2,h3,hp])
 obtain ⟨n4,h4,rfl⟩:=numD_some.1 hp
 clear hp
 have hb4:=bytes_rest hb3 h4
 have hl4:l4.length≤1000000:=Nat.le_trans (numP_len h4) hl3
 have q4:n4 < 4294967296:=numP_lt hb3 h4
 have e4:((n4:Int) % 4294967296) = n4:=by omega
 simp -implicitDefEqProofs (disch:=omega) [go_sem,e4]
 refine .inr (.inr (rd_lent (name_rd Γ l4 hl4 hb4) (by simp [go_sem]) (by simp) (fun r l5 hp=>?_) (fun hp l'=>?_)))
 rotate_left
 · rw [mapD_none] at hp
   simp -implicitDefEqProofs (disch:=omega) [go_sem]
   exact rdX (l':=l') rfl (by simp [go_sem]) (by simp [mapD,opP,bnd,h1,h2,h3,h4,hp])
 obtain ⟨n5,h5,rfl⟩:=mapD_some.1 hp
 clear hp
 have hb5:=name_rest hb4 h5
 have hl5:l5.length≤1000000:=Nat.le_trans (nameP_len h5) hl4
 simp -implicitDefEqProofs (disch:=omega) [go_sem,e4]
 refine .inr (.inr (rd_lent (number_rd Γ l5 hl5 hb5 8 (by omega)) (by simp [go_sem]) (by simp) (fun r l6 hp=>?_) (fun hp l'=>?_)))
 rotate_left
 · rw [numD_none] at hp
   simp -implicitDefEqProofs (disch:=omega) [go_sem]
   exact rdX (l':=l') rfl (by simp [go_sem]) (by simp [mapD,opP,bnd,h1,h2,h3,h4,h5,hp])
 obtain ⟨n6,h6,rfl⟩:=numD_some.1 hp
 clear hp
 have hb6:=bytes_rest hb5 h6
 have hl6:l6.length≤1000000:=Nat.le_trans (numP_len h6) hl5
 simp -implicitDefEqProofs (disch:=omega) [go_sem,e4]
 refine .inr (.inr (rd_lent (number_rd Γ l6 hl6 hb6 8 (by omega)) (by simp [go_sem]) (by simp) (fun r l7 hp=>?_) (fun hp l'=>?_)))
 rotate_left
 · rw [numD_none] at hp
   simp -implicitDefEqProofs (disch:=omega) [go_sem]
   exact rdX (l':=l') rfl (by simp [go_sem]) (by simp [mapD,opP,bnd,h1,h2,h3,h4,h5,h6,hp])
 obtain ⟨n7,h7,rfl⟩:=numD_some.1 hp
 clear hp
 have hb7:=bytes_rest hb6 h7
 have hl7:l7.length≤1000000:=Nat.le_trans (numP_len h7) hl6
 simp -implicitDefEqProofs (disch:=omega) [go_sem,e4]
 refine .inr (.inr (rd_lent (small_rd Γ l7 hl7 hb7 1 (by omega)) (by simp [go_sem]) (by simp) (fun r l8 hp=>?_) (fun hp l'=>?_)))
 rotate_left
 · rw [numD_none] at hp
   simp -implicitDefEqProofs (disch:=omega) [go_sem]
   exact rdX (l':=l') rfl (by simp [go_sem]) (by simp [mapD,opP,bnd,h1,h2,h3,h4,h5,h6,h7,hp])
 obtain ⟨n8,h8,rfl⟩:=numD_some.1 hp
 clear hp
 have hb8:=bytes_rest hb7 h8
 have hl8:l8.length≤1000000:=Nat.le_trans (numP_len h8) hl7
 simp -implicitDefEqProofs (disch:=omega) [go_sem,e4]
 refine .inr (.inr (rd_lent (small_rd Γ l8 hl8 hb8 4 (by omega)) (by simp [go_sem]) (by simp) (fun r l9 hp=>?_) (fun hp l'=>?_)))
 rotate_left
 · rw [numD_none] at hp
   simp -implicitDefEqProofs (disch:=omega) [go_sem]
   exact rdX (l':=l') rfl (by simp [go_sem]) (by simp [mapD,opP,bnd,h1,h2,h3,h4,h5,h6,h7,h8,hp])
 obtain ⟨n9,h9,rfl⟩:=numD_some.1 hp
 clear hp
 have hb9:=bytes_rest hb8 h9
 have hl9:l9.length≤1000000:=Nat.le_trans (numP_len h9) hl8
 simp -implicitDefEqProofs (disch:=omega) [go_sem,e4,Tryz.f185]
 exact rdK (l':=l9) (by simp [go_sem]) (by simp [mapD,opP,bnd,h1,h2,h3,h4,h5,h6,h7,h8,h9,op])
set_option maxHeartbeats 8000000 in
theorem sess_rd (l:List Nat) (hl:l.length≤1000000) (hb:Bytes l):RD Γ 164 [] l (mapD (sessP l) sess):=by
 refine dx_by mixed Tryz.func164 rfl (fun args w=>Tryz.call164 args w) ?_
 have hl0:=hl
 have hb0:=hb
 simp -implicitDefEqProofs (disch:=omega) [go_sem]
 refine .inr (.inr (rd_lent (small_rd Γ l hl0 hb0 4 (by omega)) (by simp [go_sem]) (by simp) (fun r l1 hp=>?_) (fun hp l'=>?_)))
 rotate_left
 · rw [numD_none] at hp
   simp -implicitDefEqProofs (disch:=omega) [go_sem]
   exact rdX (l':=l') rfl (by simp [go_sem]) (by simp [mapD,sessP,bnd,hp])
 obtain ⟨n1,h1,rfl⟩:=numD_some.1 hp
 clear hp
 have hb1:=bytes_rest hb0 h1
 have hl1:l1.length≤1000000:=Nat.le_trans (numP_len h1) hl0
 simp -implicitDefEqProofs (disch:=omega) [go_sem]
 refine .inr (.inr (rd_lent (small_rd Γ l1 hl1 hb1 1 (by omega)) (by simp [go_sem]) (by simp) (fun r l2 hp=>?_) (fun hp l'=>?_)))
 rotate_left
 · rw [numD_none] at hp
   simp -implicitDefEqProofs (disch:=omega) [go_sem]
   exact rdX (l':=l') rfl (by simp [go_sem]) (by simp [mapD,sessP,bnd,h1,hp])
 obtain ⟨n2,h2,rfl⟩:=numD_some.1 hp
 clear hp
 have hb2:=bytes_rest hb1 h2
 have hl2:l2.length≤1000000:=Nat.le_trans (numP_len h2) hl1
 simp -implicitDefEqProofs (disch:=omega) [go_sem]
 refine .inr (.inr (rd_lent (number_rd Γ l2 hl2 hb2 4 (by omega)) (by simp [go_sem]) (by simp) (fun r l3 hp=>?_) (fun hp l'=>?_)))
 rotate_left
 · rw [numD_none] at hp
   simp -implicitDefEqProofs (disch:=omega) [go_sem]
   exact rdX (l':=l') rfl (by simp [go_sem]) (by simp [mapD,sessP,bnd,h1,h2,hp])
 obtain ⟨n3,h3,rfl⟩:=numD_some.1 hp
 clear hp
 have hb3:=bytes_rest hb2 h3
 have hl3:l3.length≤1000000:=Nat.le_trans (numP_len h3) hl2
 have q3:n3 < 4294967296:=numP_lt hb2 h3
 have e3:((n3:Int) % 4294967296) = n3:=by omega
 simp -implicitDefEqProofs (disch:=omega) [go_sem,e3]
 refine .inr (.inr (rd_lent (name_rd Γ l3 hl3 hb3) (by simp [go_sem]) (by simp) (fun r l4 hp=>?_) (fun hp l'=>?_)))
 rotate_left
 · rw [mapD_none] at hp
   simp -implicitDefEqProofs (disch:=omega) [go_sem]
   exact rdX (l':=l') rfl (by simp [go_sem]) (by simp [mapD,sessP,bnd,h1,h2,h3,hp])
 obtain ⟨n4,h4,rfl⟩:=mapD_some.1 hp
 clear hp
 have hb4:=name_rest hb3 h4
 have hl4:l4.length≤1000000:=Nat.le_trans (nameP_len h4) hl3
 simp -implicitDefEqProofs (disch:=omega) [go_sem,e3]
 refine .inr (.inr (rd_lent (number_rd Γ l4 hl4 hb4 8 (by omega)) (by simp [go_sem]) (by simp) (fun r l5 hp=>?_) (fun hp l'=>?_)))
 rotate_left
 · rw [numD_none] at hp
   simp -implicitDefEqProofs (disch:=omega) [go_sem]
   exact rdX (l':=l') rfl (by simp [go_sem]) (by simp [mapD,sessP,bnd,h1,h2,h3,h4,hp])
 obtain ⟨n5,h5,rfl⟩:=numD_some.1 hp
 clear hp
 have hb5:=bytes_rest hb4 h5
 have hl5:l5.length≤1000000:=Nat.le_trans (numP_len h5) hl4
 simp -implicitDefEqProofs (disch:=omega) [go_sem,e3]
 refine .inr (.inr (rd_lent (number_rd Γ l5 hl5 hb5 8 (by omega)) (by simp [go_sem]) (by simp) (fun r l6 hp=>?_) (fun hp l'=>?_)))
 rotate_left
 · rw [numD_none] at hp
   simp -implicitDefEqProofs (disch:=omega) [go_sem]
   exact rdX (l':=l') rfl (by simp [go_sem]) (by simp [mapD,sessP,bnd,h1,h2,h3,h4,h5,hp])
 obtain ⟨n6,h6,rfl⟩:=numD_some.1 hp
 clear hp
 have hb6:=bytes_rest hb5 h6
 have hl6:l6.length≤1000000:=Nat.le_trans (numP_len h6) hl5
 simp -implicitDefEqProofs (disch:=omega) [go_sem,e3,Tryz.f164]
 exact rdK (l':=l6) (by simp [go_sem]) (by simp [mapD,sessP,bnd,h1,h2,h3,h4,h5,h6,sess])
set_option maxHeartbeats 8000000 in
theorem item_rd (l:List Nat) (hl:l.length≤1000000) (hb:Bytes l):RD Γ 166 [] l (mapD (itemP l) item):=by
 refine dx_by mixed Tryz.func166 rfl (fun args w=>Tryz.call166 args w) ?_
 have hl0:=hl
 have hb0:=hb
 simp -implicitDefEqProofs (disch:=omega) [go_sem]
 refine .inr (.inr (rd_lent (small_rd Γ l hl0 hb0 1 (by omega)) (by simp [go_sem]) (by simp) (fun r l1 hp=>?_) (fun hp l'=>?_)))
 rotate_left
 · rw [numD_none] at hp
   simp -implicitDefEqProofs (disch:=omega) [go_sem]
   exact rdX (l':=l') rfl (by simp [go_sem]) (by simp [mapD,itemP,bnd,hp])
 obtain ⟨n1,h1,rfl⟩:=numD_some.1 hp
 clear hp
 have hb1:=bytes_rest hb0 h1
 have hl1:l1.length≤1000000:=Nat.le_trans (numP_len h1) hl0
 simp -implicitDefEqProofs (disch:=omega) [go_sem]
 refine .inr (.inr (rd_lent (small_rd Γ l1 hl1 hb1 4 (by omega)) (by simp [go_sem]) (by simp) (fun r l2 hp=>?_) (fun hp l'=>?_)))
 rotate_left
 · rw [numD_none] at hp
   simp -implicitDefEqProofs (disch:=omega) [go_sem]
   exact rdX (l':=l') rfl (by simp [go_sem]) (by simp [mapD,itemP,bnd,h1,hp])
 obtain ⟨n2,h2,rfl⟩:=numD_some.1 hp
 clear hp
 have hb2:=bytes_rest hb1 h2
 have hl2:l2.length≤1000000:=Nat.le_trans (numP_len h2) hl1
 simp -implicitDefEqProofs (disch:=omega) [go_sem]
 refine .inr (.inr (rd_lent (number_rd Γ l2 hl2 hb2 8 (by omega)) (by simp [go_sem]) (by simp) (fun r l3 hp=>?_) (fun hp l'=>?_)))
 rotate_left
 · rw [numD_none] at hp
   simp -implicitDefEqProofs (disch:=omega) [go_sem]
   exact rdX (l':=l') rfl (by simp [go_sem]) (by simp [mapD,itemP,bnd,h1,h2,hp])
 obtain ⟨n3,h3,rfl⟩:=numD_some.1 hp
 clear hp
 have hb3:=bytes_rest hb2 h3
 have hl3:l3.length≤1000000:=Nat.le_trans (numP_len h3) hl2
 simp -implicitDefEqProofs (disch:=omega) [go_sem]
 refine .inr (.inr (rd_lent (number_rd Γ l3 hl3 hb3 8 (by omega)) (by simp [go_sem]) (by simp) (fun r l4 hp=>?_) (fun hp l'=>?_)))
 rotate_left
 · rw [numD_none] at hp
   simp -implicitDefEqProofs (disch:=omega) [go_sem]
   exact rdX (l':=l') rfl (by simp [go_sem]) (by simp [mapD,itemP,bnd,h1,h2,h3,hp])
 obtain ⟨n4,h4,rfl⟩:=numD_some.1 hp
 clear hp
 have hb4:=bytes_rest hb3 h4
 have hl4:l4.length≤1000000:=Nat.le_trans (numP_len h4) hl3
 simp -implicitDefEqProofs (disch:=omega) [go_sem]
 refine .inr (.inr (rd_lent (small_rd Γ l4 hl4 hb4 1 (by omega)) (by simp [go_sem]) (by simp) (fun r l5 hp=>?_) (fun hp l'=>?_)))
 rotate_left
 · rw [numD_none] at hp
   simp -implicitDefEqProofs (disch:=omega) [go_sem]
   exact rdX (l':=l') rfl (by simp [go_sem]) (by simp [mapD,itemP,bnd,h1,h2,h3,h4,hp])
 obtain ⟨n5,h5,rfl⟩:=numD_some.1 hp
 clear hp
 have hb5:=bytes_rest hb4 h5
 have hl5:l5.length≤1000000:=Nat.le_trans (numP_len h5) hl4
 simp -implicitDefEqProofs (disch:=omega) [go_sem,Tryz.f166]
 exact rdK (l':=l5) (by simp [go_sem]) (by simp [mapD,itemP,bnd,h1,h2,h3,h4,h5,item])
set_option maxHeartbeats 8000000 in
theorem lock_rd (l:List Nat) (hl:l.length≤1000000) (hb:Bytes l):RD Γ 168 [] l (mapD (lockP l) lock):=by
 refine dx_by mixed Tryz.func168 rfl (fun args w=>Tryz.call168 args w) ?_
 have hl0:=hl
 have hb0:=hb
 simp -implicitDefEqProofs (disch:=omega) [go_sem]
 refine .inr (.inr (rd_lent (name_rd Γ l hl0 hb0) (by simp [go_sem]) (by simp) (fun r l1 hp=>?_) (fun hp l'=>?_)))
 rotate_left
 · rw [mapD_none] at hp
   simp -implicitDefEqProofs (disch:=omega) [go_sem]
   exact rdX (l':=l') rfl (by simp [go_sem]) (by simp [mapD,lockP,bnd,hp])
 obtain ⟨n1,h1,rfl⟩:=mapD_some.1 hp
 clear hp
 have hb1:=name_rest hb0 h1
 have hl1:l1.length≤1000000:=Nat.le_trans (nameP_len h1) hl0
 simp -implicitDefEqProofs (disch:=omega) [go_sem]
 refine .inr (.inr (rd_lent (small_rd Γ l1 hl1 hb1 1 (by omega)) (by simp [go_sem]) (by simp) (fun r l2 hp=>?_) (fun hp l'=>?_)))
 rotate_left
 · rw [numD_none] at hp
   simp -implicitDefEqProofs (disch:=omega) [go_sem]
   exact rdX (l':=l') rfl (by simp [go_sem]) (by simp [mapD,lockP,bnd,h1,hp])
 obtain ⟨n2,h2,rfl⟩:=numD_some.1 hp
 clear hp
 have hb2:=bytes_rest hb1 h2
 have hl2:l2.length≤1000000:=Nat.le_trans (numP_len h2) hl1
 simp -implicitDefEqProofs (disch:=omega) [go_sem]
 refine .inr (.inr (rd_lent (small_rd Γ l2 hl2 hb2 4 (by omega)) (by simp [go_sem]) (by simp) (fun r l3 hp=>?_) (fun hp l'=>?_)))
 rotate_left
 · rw [numD_none] at hp
   simp -implicitDefEqProofs (disch:=omega) [go_sem]
   exact rdX (l':=l') rfl (by simp [go_sem]) (by simp [mapD,lockP,bnd,h1,h2,hp])
 obtain ⟨n3,h3,rfl⟩:=numD_some.1 hp
 clear hp
 have hb3:=bytes_rest hb2 h3
 have hl3:l3.length≤1000000:=Nat.le_trans (numP_len h3) hl2
 simp -implicitDefEqProofs (disch:=omega) [go_sem,Tryz.f168]
 exact rdK (l':=l3) (by simp [go_sem]) (by simp [mapD,lockP,bnd,h1,h2,h3,lock])
end
end Bk
namespace Bk
section
variable (Γ:Nat->Option (List Data))
def errD:Data:=.ifc 41 (.int .i64 2)
theorem isGen_pc (n:Int):PC Tryz.prog Γ 118 [.int .i64 n] (.bool (decide (1≤n∧n≤1000000000))):=by
 refine pc_by mixed Tryz.func118 rfl (fun args w=>Tryz.call118 args w) ?_
 by_cases h1:1≤n
 · by_cases h2:n≤1000000000
   · simp -implicitDefEqProofs (disch:=omega) [go_sem,h1,h2,Tryz.f118]
   · simp -implicitDefEqProofs (disch:=omega) [go_sem,h1,h2,Tryz.f118]
 · simp -implicitDefEqProofs (disch:=omega) [go_sem,h1,Tryz.f118]
def uHD:ByteArray:=⟨#[72,68]⟩
theorem uHD_size:uHD.size = 2:=rfl
def headP (l:List Nat):Option (Nat × List Nat):=if l.length = 128 then bnd (letP uHD l) fun _ l=>bnd (numP 4 l) fun n l=>if (1≤(n:Int)∧(n:Int)≤1000000000)∧∀ x∈l,x = 0 then some (n,l) else none else none
theorem letP_rest {u:ByteArray} {l l':List Nat} {r:Data} (h:letP u l = some (r,l')):r = .tup []∧l' = l.drop u.size∧u.size≤l.length∧toStr (l.take u.size) = u:=by
 unfold letP at h
 split at h
 · rename_i hc
   simp only [Option.some.injEq,Prod.mk.injEq] at h
   exact ⟨h.1.symm,h.2.symm,hc.1,hc.2⟩
 · cases h
set_option maxHeartbeats 4000000 in
theorem head_rd (l:List Nat) (hl:l.length≤1000000) (hb:Bytes l):RD Γ 139 [] l (numD (headP l) fun n=>.int .i64 n):=by
 refine dx_by mixed Tryz.func139 rfl (fun args w=>Tryz.call139 args w) ?_
 by_cases h128:l.length = 128
 rotate_left
 · simp -implicitDefEqProofs (disch:=omega) [go_sem]
   refine .inr (.inr (need_dx Γ false (fun e=>by cases e) (fun _=>?_)))
   simp -implicitDefEqProofs (disch:=omega) [go_sem]
   exact rdX (l':=l) rfl (by simp [go_sem]) (by simp [numD,headP,h128])
 simp -implicitDefEqProofs (disch:=omega) [go_sem]
 refine .inr (.inr (need_dx Γ true (fun _=>?_) (fun e=>by cases e)))
 simp -implicitDefEqProofs (disch:=omega) [go_sem]
 refine .inr (.inr (rd_lent (letters_rd Γ l hl hb uHD (by rw [uHD_size];omega)) (by simp [go_sem]) (by simp) (fun r l1 hp=>?_) (fun hp l'=>?_)))
 rotate_left
 · simp -implicitDefEqProofs (disch:=omega) [go_sem]
   exact rdX (l':=l') rfl (by simp [go_sem]) (by simp [numD,headP,h128,bnd,hp])
 have h1:=hp
 obtain ⟨rfl,e1,_,_⟩:=letP_rest hp
 clear hp
 have hb1:Bytes l1:=by rw [e1];exact fun x hx=>hb x (List.mem_of_mem_drop hx)
 have hl1:l1.length≤1000000:=by rw [e1,List.length_drop];omega
 simp -implicitDefEqProofs (disch:=omega) [go_sem]
 refine .inr (.inr (rd_lent (small_rd Γ l1 hl1 hb1 4 (by omega)) (by simp [go_sem]) (by simp) (fun r l2 hp=>?_) (fun hp l'=>?_)))
 rotate_left
 · rw [numD_none] at hp
   simp -implicitDefEqProofs (disch:=omega) [go_sem]
   exact rdX (l':=l') rfl (by simp [go_sem]) (by simp [numD,headP,h128,bnd,h1,hp])
 obtain ⟨n,h2,rfl⟩:=numD_some.1 hp
 clear hp
 have hl2:l2.length≤1000000:=Nat.le_trans (numP_len h2) hl1
 have cg:=isGen_pc Γ n
 simp -implicitDefEqProofs (disch:=omega) [go_sem]
 refine .inl (call_data cg (by simp [go_sem]) ?_)
 by_cases hg:1≤(n:Int)∧(n:Int)≤1000000000
 rotate_left
 · rw [decide_eq_false hg]
   simp -implicitDefEqProofs (disch:=omega) [go_sem]
   refine .inr (.inr (need_dx Γ false (fun e=>by cases e) (fun _=>?_)))
   simp -implicitDefEqProofs (disch:=omega) [go_sem]
   exact rdX (l':=l2) rfl (by simp [go_sem]) (by simp only [numD,headP,h128,bnd,h1,h2,if_true];rw [if_neg fun e=>hg e.1];rfl)
 rw [decide_eq_true hg]
 simp -implicitDefEqProofs (disch:=omega) [go_sem]
 refine .inr (.inr (need_dx Γ true (fun _=>?_) (fun e=>by cases e)))
 simp -implicitDefEqProofs (disch:=omega) [go_sem]
 obtain ⟨v,hv⟩:∃ v:Bool,v = true ↔ ∀ x∈l2,x = 0:=by classical exact ⟨decide (∀ x∈l2,x = 0),by simp⟩
 refine .inr (.inr (rd_lent (end_rd Γ l2 hl2 hv) (by simp [go_sem]) (by simp) (fun r l3 hp=>?_) (fun hp l'=>?_)))
 rotate_left
 · have hv0:¬ ∀ x∈l2,x = 0:=fun e=>by rw [hv.2 e,if_pos rfl] at hp;cases hp
   simp -implicitDefEqProofs (disch:=omega) [go_sem]
   exact rdX (l':=l') rfl (by simp [go_sem]) (by simp only [numD,headP,h128,bnd,h1,h2,if_true];rw [if_neg fun e=>hv0 e.2];rfl)
 split at hp
 rotate_left
 · cases hp
 rename_i hv1
 simp only [Option.some.injEq,Prod.mk.injEq] at hp
 obtain ⟨rfl,rfl⟩:=hp
 simp -implicitDefEqProofs (disch:=omega) [go_sem,Tryz.f139]
 exact rdK (l':=l2) (by simp [go_sem]) (by simp only [numD,headP,h128,bnd,h1,h2,if_true];rw [if_pos ⟨hg,hv.1 hv1⟩];rfl)
theorem any_interface:Tryz.prog.underlying 20 = some (.interface #[]):=by kernel_rfl
theorem clInt_nil {g:Nat} {H:Nat->Blk} {nx:Nat} {K:(Nat->Blk)->Nat->Prop} (hk:K H (nx + 2)):DR Tryz.prog Γ 157 [.ptr g 0] .nili H nx K:=by
 refine dr_by mixed Tryz.func157 rfl rfl (fun args w=>Tryz.call157 args w) (by decide) (by decide) ?_
 simp -implicitDefEqProofs (disch:=omega) [go_sem]
 refine eqK_nil any_interface ?_
 simp -implicitDefEqProofs (disch:=omega) [go_sem,hk]
theorem clInt_err {g:Nat} {H:Nat->Blk} {nx:Nat} {x:D} {K:(Nat->Blk)->Nat->Prop} (hg:H g = .blk true [x]) (hk:K (Hp.upd H [(g,.blk true [.data (.int .i64 2)])]) (nx + 5)):DR Tryz.prog Γ 157 [.ptr g 0] errD H nx K:=by
 refine dr_by mixed Tryz.func157 rfl rfl (fun args w=>Tryz.call157 args w) (by decide) (by decide) ?_
 unfold errD
 simp -implicitDefEqProofs (disch:=omega) [go_sem]
 refine eqK_ifc any_interface ?_
 simp -implicitDefEqProofs (disch:=omega) [go_sem,hg]
 exact hk
def gotN (p:Option (Nat × List Nat)):Int:=match p with
 | some (n,_)=>n
 | none=>0
def gotE {α:Type} (p:Option (α × List Nat)):Int:=match p with
 | some _=>0
 | none=>2
set_option maxHeartbeats 2000000 in
theorem triedInt_pc {f:FuncId} (l:List Nat) (p:Option (Nat × List Nat)) (h:RD Γ f [] l (numD p fun n=>.int .i64 n)):PC Tryz.prog Γ 138 [.sl 1 (bys l),.fn f []] (.tup [.int .i64 (gotN p),.int .i64 (gotE p)]):=by
 refine pc_def_by mixed Tryz.func138 rfl (fun args w=>Tryz.call138 args w) (by decide) ?_
 simp -implicitDefEqProofs (disch:=omega) [go_sem]
 refine .inr (.inr (rd_lent h (by simp [go_sem]) (by simp) (fun r l' hp=>?_) (fun hp l'=>?_)))
 · obtain ⟨n,hp2,rfl⟩:=numD_some.1 hp
   simp -implicitDefEqProofs (disch:=omega) [go_sem]
   refine clInt_nil Γ ?_
   simp -implicitDefEqProofs (disch:=omega) [go_sem,Tryz.f138,hp2,gotN,gotE]
 · rw [numD_none] at hp
   simp -implicitDefEqProofs (disch:=omega) [go_sem]
   refine bodyR_panic (x:=.int .i64 2) rfl (clInt_err Γ (by simp [go_sem];rfl) ?_)
   simp -implicitDefEqProofs (disch:=omega) [go_sem,Tryz.f138,hp,gotN,gotE]
theorem readHead_pc (l:List Nat) (hl:l.length≤1000000) (hb:Bytes l):PC Tryz.prog Γ 102 [.sl 1 (bys l)] (.tup [.int .i64 (gotN (headP l)),.int .i64 (gotE (headP l))]):=by
 refine pc_by mixed Tryz.func102 rfl (fun args w=>Tryz.call102 args w) ?_
 have ct:=triedInt_pc Γ l (headP l) (head_rd Γ l hl hb)
 simp -implicitDefEqProofs (disch:=omega) [go_sem]
 refine .inl (call_data ct (by simp [go_sem]) ?_)
 simp -implicitDefEqProofs (disch:=omega) [go_sem,Tryz.f102]
end
end Bk
namespace Bk
section
variable (Γ:Nat->Option (List Data))
inductive Part where
 | num (k v:Nat)
 | nam (u:ByteArray)
def numDt (k v:Nat):Data:=.agg [.int .i64 k,.int .u64 v]
def partD:Part->Data
 | .num k v=>.ifc 168 (numDt k v)
 | .nam u=>.ifc 172 (.str u)
def partB:Part->List Nat
 | .num k v=>be k v
 | .nam u=>nameB u
def partN:Part->Nat
 | .num k _=>k
 | .nam _=>17
def PartOk:Part->Prop
 | .num k v=>1≤k∧k≤8∧v < 18446744073709551616
 | .nam u=>u.size≤16
theorem partB_length {p:Part} (h:PartOk p):(partB p).length = partN p:=by
 cases p with
 | num k v=>exact be_length k v
 | nam u=>exact nameB_length h
theorem oneB_pc (n:Nat) (hn:n < 256):PC Tryz.prog Γ 120 [.int .u8 n] (numDt 1 n):=by
 refine pc_by mixed Tryz.func120 rfl (fun args w=>Tryz.call120 args w) ?_
 have e:((n:Int) % 18446744073709551616) = n:=by omega
 simp -implicitDefEqProofs (disch:=omega) [go_sem,numDt,e,Tryz.f120]
theorem oneI_pc (n:Nat) (hn:n < 9223372036854775808):PC Tryz.prog Γ 122 [.int .i64 n] (numDt 1 n):=by
 refine pc_by mixed Tryz.func122 rfl (fun args w=>Tryz.call122 args w) ?_
 have e:((n:Int) % 18446744073709551616) = n:=by omega
 simp -implicitDefEqProofs (disch:=omega) [go_sem,numDt,e,Tryz.f122]
theorem fourI_pc (n:Nat) (hn:n < 9223372036854775808):PC Tryz.prog Γ 121 [.int .i64 n] (numDt 4 n):=by
 refine pc_by mixed Tryz.func121 rfl (fun args w=>Tryz.call121 args w) ?_
 have e:((n:Int) % 18446744073709551616) = n:=by omega
 simp -implicitDefEqProofs (disch:=omega) [go_sem,numDt,e,Tryz.f121]
theorem fourU_pc (n:Nat) (hn:n < 4294967296):PC Tryz.prog Γ 123 [.int .u32 n] (numDt 4 n):=by
 refine pc_by mixed Tryz.func123 rfl (fun args w=>Tryz.call123 args w) ?_
 have e:((n:Int) % 18446744073709551616) = n:=by omega
 simp -implicitDefEqProofs (disch:=omega) [go_sem,numDt,e,Tryz.f123]
theorem eight_pc (n:Nat):PC Tryz.prog Γ 124 [.int .u64 n] (numDt 8 n):=by
 refine pc_by mixed Tryz.func124 rfl (fun args w=>Tryz.call124 args w) ?_
 simp -implicitDefEqProofs (disch:=omega) [go_sem,numDt,Tryz.f124]
theorem sizeNum_pc (k v:Nat):PC Tryz.prog Γ 203 [numDt k v] (.int .i64 k):=by
 refine pc_by mixed Tryz.func203 rfl (fun args w=>Tryz.call203 args w) ?_
 simp -implicitDefEqProofs (disch:=omega) [go_sem,numDt,Tryz.f203]
theorem sizeNam_pc (u:ByteArray):PC Tryz.prog Γ 204 [.str u] (.int .i64 17):=by
 refine pc_by mixed Tryz.func204 rfl (fun args w=>Tryz.call204 args w) ?_
 simp -implicitDefEqProofs (disch:=omega) [go_sem,Tryz.f204]
theorem meth_num (x:Value) (w:World):(method (Tryz.prog.types.size + Made.depth) 168 x "portreeve/code.size").run Tryz.prog w = .ok (203,x) w:=by kernel_rfl
theorem meth_nam (x:Value) (w:World):(method (Tryz.prog.types.size + Made.depth) 172 x "portreeve/code.size").run Tryz.prog w = .ok (204,x) w:=by kernel_rfl
theorem okNum:MethOk Tryz.prog "portreeve/code.size" 168 203:=meth_ok meth_num fun args w=>Tryz.call203 args w
theorem okNam:MethOk Tryz.prog "portreeve/code.size" 172 204:=meth_ok meth_nam fun args w=>Tryz.call204 args w
/-- Bytes put over others. -/
def ovr (q:List Nat) (off:Nat) (l:List Nat):List Nat:=q.take off++l++q.drop (off + l.length)
theorem ovr_nil (q:List Nat) (off:Nat):ovr q off [] = q:=by simp [ovr]
theorem ovr_length {q l:List Nat} {off:Nat} (h:off + l.length≤q.length):(ovr q off l).length = q.length:=by simp [ovr];omega
theorem ovr_snoc {q l:List Nat} {off x:Nat} (h:off + l.length < q.length):(ovr q off l).set (off + l.length) x = ovr q off (l++[x]):=by
 unfold ovr
 rw [List.append_assoc,List.set_append_right _ _ (by simp;omega),List.set_append_right _ _ (by simp;omega)]
 have e:off + l.length - (List.take off q).length - l.length = 0:=by simp;omega
 rw [e,List.drop_eq_getElem_cons h,List.set_cons_zero,List.length_append,List.length_singleton]
 simp [Nat.add_assoc]
theorem shr_byte (v m:Nat):((v:Int) / 2 ^ (8 * m) % 256) = ((v / 256 ^ m % 256:Nat):Int):=by
 have h:256 ^ m = 2 ^ (8 * m):=by rw [Nat.pow_mul]
 rw [h]
 push_cast
 rfl
theorem bys_set (l:List Nat) (i x:Nat):((bys l).map D.data).set i (.data (.int .u8 x)) = (bys (l.set i x)).map D.data:=by
 unfold bys
 rw [List.map_set,List.map_set]
 rfl
set_option maxHeartbeats 4000000 in
theorem putNum_dc (q:List Nat) (off k v:Nat) (hk:1≤k∧k≤8) (hv:v < 18446744073709551616) (ho:off + k≤q.length) (hq:q.length≤1000000):DC Tryz.prog Γ 119 [.ref 0 off k 1,.data (partD (.num k v))] (hpL [(0,.blk true ((bys q).map D.data))]) 1
 (fun d H' _=>∃ r c,d = .data r∧H' 0 = .blk true (c.map D.data)∧r = .tup []∧c = bys (ovr q off (be k v))):=by
 refine dc_by mixed Tryz.func119 rfl (fun args w=>Tryz.call119 args w) ?_
 unfold partD numDt
 simp -implicitDefEqProofs (disch:=omega) [go_sem]
 refine loop_ren (σ:={ i:Nat // i≤k }) (fun i=>⟨envL [(0,.ref 0 off k 1),(4,.ptr 1 0),(12,.data (.int .i64 k)),(13,.data (.int .i64 i.1))],hpL [(0,.blk true ((bys (ovr q off ((be k v).take i.1))).map D.data)),(1,.blk true [.data (.int .i64 k),.data (.int .u64 v)])],2,1,42⟩) (fun i=>k - i.1) ⟨0,by omega⟩ [] (rhoL [(1,some 5)]) ?_ ?_
 · apply ren_lists <;> simp -implicitDefEqProofs [go_sem,ovr_nil]
 rintro ⟨i,hi⟩
 have hB:=be_length k v
 have hol:(ovr q off ((be k v).take i)).length = q.length:=ovr_length (by rw [List.length_take];omega)
 by_cases h:i < k
 · simp -implicitDefEqProofs (disch:=omega) [go_sem]
   refine next_ren ⟨i + 1,by omega⟩ (by simp only;omega) [] (rhoL []) ?_
   apply ren_lists <;> simp -implicitDefEqProofs [go_sem]
   have e1:(8 * ((k:Int) - 1 - i)).toNat = 8 * (k - 1 - i):=by omega
   rw [e1,shr_byte,<- be_get k v i h,bys_set]
   have hs:=ovr_snoc (q:=q) (l:=(be k v).take i) (off:=off) (x:=(be k v)[i]) (by rw [List.length_take];omega)
   rw [List.length_take,Nat.min_eq_left (by omega),<- List.take_succ_eq_append_getElem (by omega)] at hs
   rw [hs]
   exact renCells_plain rfl (by simp [plainD])
 have:i = k:=by omega
 subst this
 simp -implicitDefEqProofs (disch:=omega) [go_sem,Tryz.f119]
 exact ⟨_,rfl,rfl,by rw [List.take_of_length_le (by omega)]⟩
theorem ovr_zeros {q l:List Nat} {off n:Nat} (h:off + l.length + n≤q.length) (hz:∀ (j:Nat) (hj:j < q.length),off + l.length≤j->j < off + l.length + n->q[j] = 0):ovr q off (l++List.replicate n 0) = ovr q off l:=by
 unfold ovr
 have h1:q.drop (off + l.length) = List.replicate n 0++q.drop (off + (l.length + n)):=by
  have e:(q.drop (off + l.length)).take n = List.replicate n 0:=by
   refine List.eq_replicate_iff.2 ⟨by simp;omega,fun x hx=>?_⟩
   obtain ⟨j,hj,rfl⟩:=List.getElem_of_mem hx
   rw [List.length_take,List.length_drop] at hj
   rw [List.getElem_take,List.getElem_drop]
   exact hz _ (by omega) (by omega) (by omega)
  rw [<- e,show off + (l.length + n) = off + l.length + n by omega,show List.drop (off + l.length + n) q = List.drop n (List.drop (off + l.length) q) by rw [List.drop_drop],List.take_append_drop]
 rw [h1,List.length_append,List.length_replicate]
 simp [List.append_assoc]
theorem strD (u:ByteArray):(u.toList.map fun b=>D.data (Data.int .u8 b.toNat)) = (bys (strB u)).map D.data:=by
 unfold bys strB
 rw [ByteArray.toList_eq,List.map_map,List.map_map]
 rfl
theorem bys_over (q l:List Nat) (off:Nat) (h:off + l.length≤q.length):over ((bys q).map D.data) off ((bys l).map D.data) = (bys (ovr q off l)).map D.data:=by
 have hgen:∀ m:List D,m.length≠1->over ((bys q).map D.data) off m = ((bys q).map D.data).take off++m++((bys q).map D.data).drop (off + m.length):=fun m hm=>by
  unfold over
  split
  · simp at hm
  · rfl
 by_cases h1:l.length = 1
 · obtain ⟨x,rfl⟩:=List.length_eq_one_iff.1 h1
   show ((bys q).map D.data).set off (.data (.int .u8 x)) = _
   rw [bys_set]
   have:=ovr_snoc (q:=q) (l:=[]) (off:=off) (x:=x) (by simp at h ⊢;omega)
   rw [ovr_nil] at this
   simpa using congrArg (fun z=>(bys z).map D.data) this
 · rw [hgen _ (by simpa [bys] using h1)]
   unfold ovr bys
   simp [List.map_take,List.map_drop]
theorem ovr_cons {q l:List Nat} {off x:Nat} (h:off + 1 + l.length≤q.length):ovr (q.set off x) (off + 1) l = ovr q off (x :: l):=by
 unfold ovr
 have h1:(q.set off x).take (off + 1) = q.take off++[x]:=by
  rw [List.take_succ_eq_append_getElem (by rw [List.length_set];omega),List.getElem_set_self,List.take_set_of_le (Nat.le_refl _)]
 have h2:(q.set off x).drop (off + 1 + l.length) = q.drop (off + 1 + l.length):=List.drop_set_of_lt (by omega)
 rw [h1,h2,List.length_cons,show off + (l.length + 1) = off + 1 + l.length by omega]
 simp
set_option maxHeartbeats 4000000 in
theorem putNam_dc (q:List Nat) (off:Nat) (u:ByteArray) (hu:u.size≤16) (ho:off + 17≤q.length) (hq:q.length≤1000000) (hz:∀ (j:Nat) (hj:j < q.length),off≤j->j < off + 17->q[j] = 0):DC Tryz.prog Γ 119 [.ref 0 off 17 1,.data (partD (.nam u))] (hpL [(0,.blk true ((bys q).map D.data))]) 1
 (fun d H' _=>∃ r c,d = .data r∧H' 0 = .blk true (c.map D.data)∧r = .tup []∧c = bys (ovr q off (nameB u))):=by
 refine dc_by mixed Tryz.func119 rfl (fun args w=>Tryz.call119 args w) ?_
 unfold partD
 have e1:((u.size:Int) % 256) = u.size:=by omega
 simp -implicitDefEqProofs (disch:=omega) [go_sem,e1]
 have ht:List.take u.size (List.map (fun b=>D.data (Data.int .u8 b.toNat)) u.toList) = (bys (strB u)).map D.data:=by
  rw [strD,List.take_of_length_le]
  simp [strB_length,bys_length]
 rw [ht,bys_set,bys_over _ _ _ (by rw [strB_length,List.length_set];omega),ovr_cons (by rw [strB_length];omega)]
 have hzz:=ovr_zeros (q:=q) (l:=u.size :: strB u) (off:=off) (n:=16 - u.size) (by simp [strB_length];omega) (fun j hj h1 h2=>hz j hj (by simp [strB_length] at h1;omega) (by simp [strB_length] at h2;omega))
 refine ⟨_,rfl,rfl,?_⟩
 rw [<- hzz]
 rfl
def parts (l:List Part):List Data:=l.map partD
@[go_sem] theorem parts_length (l:List Part):(parts l).length = l.length:=by simp [parts]
@[go_sem] theorem parts_get (l:List Part) (i:Nat):(parts l)[i]? = (l[i]?).map partD:=by simp [parts]
@[go_sem] theorem partD_cells (p:Part):(partD p).cells = [partD p]:=by cases p <;> rfl
def padB (n:Nat) (l:List Nat):List Nat:=l++List.replicate (n - l.length) 0
theorem padB_length {n:Nat} {l:List Nat} (h:l.length≤n):(padB n l).length = n:=by simp [padB];omega
theorem ovr_zero {n:Nat} {l:List Nat} (h:l.length≤n):ovr (List.replicate n 0) 0 l = padB n l:=by
 unfold ovr padB
 simp
theorem ovr_app {q a b:List Nat} {o:Nat} (h:o + a.length + b.length≤q.length):ovr (ovr q o a) (o + a.length) b = ovr q o (a++b):=by
 unfold ovr
 have h1:(List.take o q++a++List.drop (o + a.length) q).take (o + a.length) = List.take o q++a:=by
  rw [List.take_append_of_le_length (by simp;omega),List.take_of_length_le (by simp;omega)]
 have h2:(List.take o q++a++List.drop (o + a.length) q).drop (o + a.length + b.length) = q.drop (o + a.length + b.length):=by
  have hx:(List.take o q++a).length = o + a.length:=by simp;omega
  rw [List.drop_append,List.drop_of_length_le (by omega),List.nil_append,List.drop_drop,hx]
  congr 1
  omega
 rw [h1,h2]
 simp [List.append_assoc,Nat.add_assoc]
theorem padB_get {n:Nat} {l:List Nat} (j:Nat) (hj:j < (padB n l).length) (h:l.length≤j):(padB n l)[j] = 0:=by
 unfold padB at hj ⊢
 rw [List.getElem_append_right h,List.getElem_replicate]
theorem padB_more {n:Nat} {l m:List Nat} (h:l.length + m.length≤n):ovr (padB n l) l.length m = padB n (l++m):=by
 have h1:=ovr_app (q:=List.replicate n 0) (a:=l) (b:=m) (o:=0) (by simp;omega)
 rw [ovr_zero (by omega),ovr_zero (by simp;omega),Nat.zero_add] at h1
 exact h1
theorem acc_succ (ps:List Part) (i:Nat) (h:i < ps.length):(ps.take (i + 1)).flatMap partB = (ps.take i).flatMap partB++partB ps[i]:=by
 rw [List.take_succ_eq_append_getElem h,List.flatMap_append]
 simp
theorem acc_le (ps:List Part) (i:Nat):((ps.take i).flatMap partB).length≤(ps.flatMap partB).length:=by
 conv=>rhs;rw [<- List.take_append_drop i ps]
 rw [List.flatMap_append,List.length_append]
 omega
set_option maxHeartbeats 8000000 in
theorem laid_pc (size:Nat) (ps:List Part) (hok:∀ p∈ps,PartOk p) (hfit:(ps.flatMap partB).length≤size) (hsz:size≤1000000) (hps:ps.length≤1000000):PC Tryz.prog Γ 72 [.int .i64 size,.sl 1 (parts ps)] (.sl 1 (bys (padB size (ps.flatMap partB)))):=by
 refine pc_by mixed Tryz.func72 rfl (fun args w=>Tryz.call72 args w) ?_
 simp -implicitDefEqProofs (disch:=omega) [go_sem]
 refine loop_ren (σ:={ i:Nat // i≤ps.length }) (fun i=>⟨envL [(5,.ref 0 0 size 1),(6,.ref 0 ((ps.take i.1).flatMap partB).length (size - ((ps.take i.1).flatMap partB).length) 1),(12,.data (.sl 1 (parts ps))),(13,.data (.int .i64 ps.length)),(14,.data (.int .i64 i.1))],hpL [(0,.blk true ((bys (padB size ((ps.take i.1).flatMap partB))).map D.data))],1,0,30⟩) (fun i=>ps.length - i.1) ⟨0,by omega⟩ [] (rhoL [(0,some 2)]) ?_ ?_
 · apply ren_lists <;> simp -implicitDefEqProofs [go_sem]
   rw [show padB size [] = List.replicate size 0 by simp [padB]]
   exact renCells_plain rfl (by simp [plainD])
 rintro ⟨i,hi⟩
 by_cases h:i < ps.length
 · have hs:=acc_succ ps i h
   have ha:=acc_le ps (i + 1)
   have hp:=hok _ (List.getElem_mem h)
   have hpl:=partB_length hp
   rw [hs,List.length_append,hpl] at ha
   have hpb:=padB_length (n:=size) (l:=(ps.take i).flatMap partB) (by omega)
   have hpg:=fun j hj=>padB_get (n:=size) (l:=(ps.take i).flatMap partB) j hj
   have hpm:=padB_more (n:=size) (l:=(ps.take i).flatMap partB) (m:=partB ps[i]) (by omega)
   generalize (ps.take i).flatMap partB = acc at *
   generalize hpi:ps[i] = p at *
   cases p with
   | num k v =>
     obtain ⟨hk1,hk2,hv⟩:=hp
     simp only [partN] at ha hpl
     simp -implicitDefEqProofs (disch:=omega) [go_sem,hpi,partD]
     refine inv_by _ okNum ?_
     refine call_data (sizeNum_pc Γ k v) (by simp [go_sem,numDt]) ?_
     simp -implicitDefEqProofs (disch:=omega) [go_sem]
     refine .inr (dc_lent (putNum_dc Γ (padB size acc) acc.length k v ⟨hk1,hk2⟩ hv (by omega) (by omega)) (by simp [go_sem]) (.ref _ _ _) (by simp) (fun r c hrc=>?_))
     obtain ⟨rfl,rfl⟩:=hrc
     have hpm:ovr (padB size acc) acc.length (be k v) = padB size (acc++be k v):=hpm
     have hs:List.flatMap partB (List.take (i + 1) ps) = acc++be k v:=hs
     have hbl:=be_length k v
     rw [hpm]
     simp -implicitDefEqProofs (disch:=omega) [go_sem]
     refine inv_by _ okNum ?_
     refine call_data (sizeNum_pc Γ k v) (by simp [go_sem,numDt]) ?_
     simp -implicitDefEqProofs (disch:=omega) [go_sem]
     refine next_ren ⟨i + 1,by omega⟩ (by simp only;omega) [] (rhoL [(0,some 0)]) ?_
     apply ren_lists <;> simp -implicitDefEqProofs [go_sem,hs,hbl]
     all_goals omega
   | nam u =>
     have hu:u.size≤16:=hp
     simp only [partN] at ha hpl
     simp -implicitDefEqProofs (disch:=omega) [go_sem,hpi,partD]
     refine inv_by _ okNam ?_
     refine call_data (sizeNam_pc Γ u) (by simp [go_sem]) ?_
     simp -implicitDefEqProofs (disch:=omega) [go_sem]
     refine .inr (dc_lent (putNam_dc Γ (padB size acc) acc.length u hu (by omega) (by omega) (fun j hj h1 h2=>hpg j hj h1)) (by simp [go_sem]) (.ref _ _ _) (by simp) (fun r c hrc=>?_))
     obtain ⟨rfl,rfl⟩:=hrc
     have hpm:ovr (padB size acc) acc.length (nameB u) = padB size (acc++nameB u):=hpm
     have hs:List.flatMap partB (List.take (i + 1) ps) = acc++nameB u:=hs
     have hbl:=nameB_length hu
     rw [hpm]
     simp -implicitDefEqProofs (disch:=omega) [go_sem]
     refine inv_by _ okNam ?_
     refine call_data (sizeNam_pc Γ u) (by simp [go_sem]) ?_
     simp -implicitDefEqProofs (disch:=omega) [go_sem]
     refine next_ren ⟨i + 1,by omega⟩ (by simp only;omega) [] (rhoL [(0,some 0)]) ?_
     apply ren_lists <;> simp -implicitDefEqProofs [go_sem,hs,hbl]
     all_goals omega
 have:i = ps.length:=by omega
 subst this
 have ha:((ps.take ps.length).flatMap partB).length≤size:=by rw [List.take_length];exact hfit
 simp -implicitDefEqProofs (disch:=omega) [go_sem,Tryz.f72,List.take_length]
 exact ⟨_,⟨_,rfl,frz_bys rfl (.inl rfl) (padB_length hfit)⟩,rfl⟩
end
end Bk
namespace Bk
theorem sess_flat:∃ fs,FlatS Tryz.prog 110 fs [.i .i64,.i .i64,.i .u32,.s,.i .u64,.i .u64]:=⟨_,{
 ut:=Tryz.underlying110
 n:=rfl
 ct:=by kernel_rfl
 names:=by simp
 each:=by kernel_rfl
 deep:=run_equalIn_deep 9998 2 110 (by kernel_rfl)
 guard:=by kernel_rfl }⟩
theorem item_flat:∃ fs,FlatS Tryz.prog 112 fs [.i .i64,.i .i64,.i .u64,.i .u64,.i .i64]:=⟨_,{
 ut:=Tryz.underlying112
 n:=rfl
 ct:=by kernel_rfl
 names:=by simp
 each:=by kernel_rfl
 deep:=run_equalIn_deep 9998 2 112 (by kernel_rfl)
 guard:=by kernel_rfl }⟩
theorem lock_flat:∃ fs,FlatS Tryz.prog 114 fs [.s,.i .i64,.i .i64]:=⟨_,{
 ut:=Tryz.underlying114
 n:=rfl
 ct:=by kernel_rfl
 names:=by simp
 each:=by kernel_rfl
 deep:=run_equalIn_deep 9998 2 114 (by kernel_rfl)
 guard:=by kernel_rfl }⟩
def R64 (n:Int):Prop:=-9223372036854775808≤n∧n≤9223372036854775807
def U64 (n:Int):Prop:=0≤n∧n≤18446744073709551615
structure Sess.Ty (s:Sess):Prop where
 id:R64 s.id
 link:R64 s.link
 addr:0≤s.addr∧s.addr≤4294967295
 user:s.user.size≤maxLen
 inn:U64 s.inn
 out:U64 s.out
structure Item.Ty (s:Item):Prop where
 kind:R64 s.kind
 id:R64 s.id
 inn:U64 s.inn
 out:U64 s.out
 cause:R64 s.cause
structure Lock.Ty (s:Lock):Prop where
 user:s.user.size≤maxLen
 n:R64 s.n
 at_:R64 s.at_
structure Book.Ty (b:Book):Prop where
 o:∀ s∈b.opn,s.Ty
 i:∀ x∈b.items,x.Ty
 l:∀ x∈b.locks,x.Ty
theorem Sess.fit {s:Sess} (h:s.Ty):FitD [.i .i64,.i .i64,.i .u32,.s,.i .u64,.i .u64] [.int .i64 s.id,.int .i64 s.link,.int .u32 s.addr,.str s.user,.int .u64 s.inn,.int .u64 s.out]:=by
 simp only [fitD_cons,fitD_nil]
 exact ⟨fit_int h.id,fit_int h.link,fit_int h.addr,fit_str h.user,fit_int h.inn,fit_int h.out,trivial⟩
theorem Item.fit {s:Item} (h:s.Ty):FitD [.i .i64,.i .i64,.i .u64,.i .u64,.i .i64] [.int .i64 s.kind,.int .i64 s.id,.int .u64 s.inn,.int .u64 s.out,.int .i64 s.cause]:=by
 simp only [fitD_cons,fitD_nil]
 exact ⟨fit_int h.kind,fit_int h.id,fit_int h.inn,fit_int h.out,fit_int h.cause,trivial⟩
theorem Lock.fit {s:Lock} (h:s.Ty):FitD [.s,.i .i64,.i .i64] [.str s.user,.int .i64 s.n,.int .i64 s.at_]:=by
 simp only [fitD_cons,fitD_nil]
 exact ⟨fit_str h.user,fit_int h.n,fit_int h.at_,trivial⟩
theorem sess_eq (a c:Sess):([.int .i64 a.id,.int .i64 a.link,.int .u32 a.addr,.str a.user,.int .u64 a.inn,.int .u64 a.out]:List Data) = [.int .i64 c.id,.int .i64 c.link,.int .u32 c.addr,.str c.user,.int .u64 c.inn,.int .u64 c.out] ↔ a = c:=by
 cases a;cases c;simp
theorem item_eq (a c:Item):([.int .i64 a.kind,.int .i64 a.id,.int .u64 a.inn,.int .u64 a.out,.int .i64 a.cause]:List Data) = [.int .i64 c.kind,.int .i64 c.id,.int .u64 c.inn,.int .u64 c.out,.int .i64 c.cause] ↔ a = c:=by
 cases a;cases c;simp
theorem lock_eq (a c:Lock):([.str a.user,.int .i64 a.n,.int .i64 a.at_]:List Data) = [.str c.user,.int .i64 c.n,.int .i64 c.at_] ↔ a = c:=by
 cases a;cases c;simp
theorem eqK_sess {a c:Sess} (ha:a.Ty) (hc:c.Ty) {K:Bool->Prop} (hk:K (decide (a = c))):eqK Tryz.prog 110 (.agg [.int .i64 a.id,.int .i64 a.link,.int .u32 a.addr,.str a.user,.int .u64 a.inn,.int .u64 a.out]) (.agg [.int .i64 c.id,.int .i64 c.link,.int .u32 c.addr,.str c.user,.int .u64 c.inn,.int .u64 c.out]) K:=by
 obtain ⟨fs,hf⟩:=sess_flat
 exact eqK_flat hf (Sess.fit ha) (Sess.fit hc) (sess_eq a c) hk
theorem eqK_item {a c:Item} (ha:a.Ty) (hc:c.Ty) {K:Bool->Prop} (hk:K (decide (a = c))):eqK Tryz.prog 112 (.agg [.int .i64 a.kind,.int .i64 a.id,.int .u64 a.inn,.int .u64 a.out,.int .i64 a.cause]) (.agg [.int .i64 c.kind,.int .i64 c.id,.int .u64 c.inn,.int .u64 c.out,.int .i64 c.cause]) K:=by
 obtain ⟨fs,hf⟩:=item_flat
 exact eqK_flat hf (Item.fit ha) (Item.fit hc) (item_eq a c) hk
theorem eqK_lock {a c:Lock} (ha:a.Ty) (hc:c.Ty) {K:Bool->Prop} (hk:K (decide (a = c))):eqK Tryz.prog 114 (.agg [.str a.user,.int .i64 a.n,.int .i64 a.at_]) (.agg [.str c.user,.int .i64 c.n,.int .i64 c.at_]) K:=by
 obtain ⟨fs,hf⟩:=lock_flat
 exact eqK_flat hf (Lock.fit ha) (Lock.fit hc) (lock_eq a c) hk
set_option maxHeartbeats 4000000 in
set_option maxRecDepth 100000 in
theorem same_pc (Γ:Nat->Option (List Data)) (a b:Book) (ha:Fits a) (hb:Fits b) (ta:a.Ty) (tb:b.Ty):PC Tryz.prog Γ 34 [book a,book b] (.bool (decide (a = b))):=by
 refine pc_by mixed Tryz.func34 rfl (fun args w=>Tryz.call34 args w) ?_
 obtain ⟨ao,ai,al,-,-⟩:=ha
 obtain ⟨bo,bi,bl,-,-⟩:=hb
 simp -implicitDefEqProofs (disch:=omega) [go_sem,book]
 by_cases g0:a.next = b.next
 rotate_left
 · have hno:¬ a = b:=fun e=>g0 (by rw [e])
   simp -implicitDefEqProofs (disch:=omega) [go_sem,g0,hno,Tryz.results34]
 by_cases g1:a.opn.length = b.opn.length
 rotate_left
 · have hno:¬ a = b:=fun e=>g1 (by rw [e])
   simp -implicitDefEqProofs (disch:=omega) [go_sem,g0,hno,Tryz.results34]
 by_cases g2:a.items.length = b.items.length
 rotate_left
 · have hno:¬ a = b:=fun e=>g2 (by rw [e])
   simp -implicitDefEqProofs (disch:=omega) [go_sem,g0,hno,Tryz.results34]
 by_cases g3:a.locks.length = b.locks.length
 rotate_left
 · have hno:¬ a = b:=fun e=>g3 (by rw [e])
   simp -implicitDefEqProofs (disch:=omega) [go_sem,g0,hno,Tryz.results34]
 simp -implicitDefEqProofs (disch:=omega) [go_sem,g0]
 refine loop_ren (σ:={ i:Nat // i≤a.opn.length∧∀ (j:Nat) (h:j < a.opn.length) (h2:j < b.opn.length),j < i->a.opn[j] = b.opn[j] }) (fun i=>⟨envL [(2,.ptr 0 0),(3,.ptr 1 0),(5,.data (.int .i64 i.1))],hpL [(0,.blk true [.data (.int .i64 b.next),.data (.sl 6 (sesss a.opn)),.data (.sl 5 (items a.items)),.data (.sl 3 (locks a.locks))]),(1,.blk true [.data (.int .i64 b.next),.data (.sl 6 (sesss b.opn)),.data (.sl 5 (items b.items)),.data (.sl 3 (locks b.locks))])],2,0,94⟩) (fun i=>a.opn.length - i.1) ⟨0,by omega,by omega⟩ [] (rhoL [(0,some 0),(1,some 1)]) ?_ ?_
 · apply ren_lists <;> simp -implicitDefEqProofs [go_sem]
 rintro ⟨i,hi,hall⟩
 by_cases h:i < a.opn.length
 · have h2:i < b.opn.length:=by omega
   simp -implicitDefEqProofs (disch:=omega) [go_sem]
   refine eqK_sess (ta.o _ (List.getElem_mem h)) (tb.o _ (List.getElem_mem h2)) ?_
   by_cases he:a.opn[i] = b.opn[i]
   · simp -implicitDefEqProofs (disch:=omega) [go_sem,he]
     refine side (by kernel_rfl) ?_
     simp -implicitDefEqProofs (disch:=omega) [go_sem]
     refine next_ren ⟨i + 1,by omega,fun j hj hj2 hl=>if e:j = i then by subst e;exact he else hall j hj hj2 (by omega)⟩ (by simp only;omega) [] (rhoL [(0,some 0),(1,some 1)]) ?_
     apply ren_lists <;> simp -implicitDefEqProofs [go_sem]
   · have hno:¬ a = b:=fun e=>he (by subst e;rfl)
     simp -implicitDefEqProofs (disch:=omega) [go_sem,he]
     refine side (by kernel_rfl) ?_
     simp -implicitDefEqProofs (disch:=omega) [go_sem,hno,Tryz.results34]
 have e0:a.opn = b.opn:=List.ext_getElem g1 fun j h1 h2=>hall j h1 h2 (by omega)
 simp -implicitDefEqProofs (disch:=omega) [go_sem]
 clear h hall hi
 refine loop_ren (σ:={ i:Nat // i≤a.items.length∧∀ (j:Nat) (h:j < a.items.length) (h2:j < b.items.length),j < i->a.items[j] = b.items[j] }) (fun i=>⟨envL [(2,.ptr 0 0),(3,.ptr 1 0),(6,.data (.int .i64 i.1))],hpL [(0,.blk true [.data (.int .i64 b.next),.data (.sl 6 (sesss a.opn)),.data (.sl 5 (items a.items)),.data (.sl 3 (locks a.locks))]),(1,.blk true [.data (.int .i64 b.next),.data (.sl 6 (sesss b.opn)),.data (.sl 5 (items b.items)),.data (.sl 3 (locks b.locks))])],2,0,94⟩) (fun i=>a.items.length - i.1) ⟨0,by omega,by omega⟩ [] (rhoL [(0,some 0),(1,some 1)]) ?_ ?_
 · apply ren_lists <;> simp -implicitDefEqProofs [go_sem]
 rintro ⟨i,hi,hall⟩
 by_cases h:i < a.items.length
 · have h2:i < b.items.length:=by omega
   simp -implicitDefEqProofs (disch:=omega) [go_sem]
   refine eqK_item (ta.i _ (List.getElem_mem h)) (tb.i _ (List.getElem_mem h2)) ?_
   by_cases he:a.items[i] = b.items[i]
   · simp -implicitDefEqProofs (disch:=omega) [go_sem,he]
     refine side (by kernel_rfl) ?_
     simp -implicitDefEqProofs (disch:=omega) [go_sem]
     refine next_ren ⟨i + 1,by omega,fun j hj hj2 hl=>if e:j = i then by subst e;exact he else hall j hj hj2 (by omega)⟩ (by simp only;omega) [] (rhoL [(0,some 0),(1,some 1)]) ?_
     apply ren_lists <;> simp -implicitDefEqProofs [go_sem]
   · have hno:¬ a = b:=fun e=>he (by subst e;rfl)
     simp -implicitDefEqProofs (disch:=omega) [go_sem,he]
     refine side (by kernel_rfl) ?_
     simp -implicitDefEqProofs (disch:=omega) [go_sem,hno,Tryz.results34]
 have e1:a.items = b.items:=List.ext_getElem g2 fun j h1 h2=>hall j h1 h2 (by omega)
 simp -implicitDefEqProofs (disch:=omega) [go_sem]
 clear h hall hi
 refine loop_ren (σ:={ i:Nat // i≤a.locks.length∧∀ (j:Nat) (h:j < a.locks.length) (h2:j < b.locks.length),j < i->a.locks[j] = b.locks[j] }) (fun i=>⟨envL [(2,.ptr 0 0),(3,.ptr 1 0),(7,.data (.int .i64 i.1))],hpL [(0,.blk true [.data (.int .i64 b.next),.data (.sl 6 (sesss a.opn)),.data (.sl 5 (items a.items)),.data (.sl 3 (locks a.locks))]),(1,.blk true [.data (.int .i64 b.next),.data (.sl 6 (sesss b.opn)),.data (.sl 5 (items b.items)),.data (.sl 3 (locks b.locks))])],2,0,94⟩) (fun i=>a.locks.length - i.1) ⟨0,by omega,by omega⟩ [] (rhoL [(0,some 0),(1,some 1)]) ?_ ?_
 · apply ren_lists <;> simp -implicitDefEqProofs [go_sem]
 rintro ⟨i,hi,hall⟩
 by_cases h:i < a.locks.length
 · have h2:i < b.locks.length:=by omega
   simp -implicitDefEqProofs (disch:=omega) [go_sem]
   refine eqK_lock (ta.l _ (List.getElem_mem h)) (tb.l _ (List.getElem_mem h2)) ?_
   by_cases he:a.locks[i] = b.locks[i]
   · simp -implicitDefEqProofs (disch:=omega) [go_sem,he]
     refine side (by kernel_rfl) ?_
     simp -implicitDefEqProofs (disch:=omega) [go_sem]
     refine next_ren ⟨i + 1,by omega,fun j hj hj2 hl=>if e:j = i then by subst e;exact he else hall j hj hj2 (by omega)⟩ (by simp only;omega) [] (rhoL [(0,some 0),(1,some 1)]) ?_
     apply ren_lists <;> simp -implicitDefEqProofs [go_sem]
   · have hno:¬ a = b:=fun e=>he (by subst e;rfl)
     simp -implicitDefEqProofs (disch:=omega) [go_sem,he]
     refine side (by kernel_rfl) ?_
     simp -implicitDefEqProofs (disch:=omega) [go_sem,hno,Tryz.results34]
 have e2:a.locks = b.locks:=List.ext_getElem g3 fun j h1 h2=>hall j h1 h2 (by omega)
 have hyes:a = b:=by
  cases a;cases b
  simp only at g0 e0 e1 e2
  subst g0;subst e0;subst e1;subst e2
  rfl
 simp -implicitDefEqProofs (disch:=omega) [go_sem,hyes,Tryz.results34]
end Bk
namespace Bk
variable (Γ:Nat->Option (List Data))
set_option maxHeartbeats 1000000 in
theorem eqSess_pc (a b:List Sess) (ha:a.length≤140737488351232) (hb:b.length≤140737488351232) (ta:∀ s∈a,s.Ty) (tb:∀ s∈b,s.Ty):PC Tryz.prog Γ 98 [.sl 6 (sesss a),.sl 6 (sesss b)] (.bool (decide (a = b))):=by
 refine pc_by mixed Tryz.func98 rfl (fun args w=>Tryz.call98 args w) ?_
 by_cases g1:a.length = b.length
 rotate_left
 · have hno:¬ a = b:=fun e=>g1 (by rw [e])
   simp -implicitDefEqProofs (disch:=omega) [go_sem,hno,Tryz.results98]
 simp -implicitDefEqProofs (disch:=omega) [go_sem]
 refine loop_ren (σ:={ i:Nat // i≤a.length∧∀ (j:Nat) (h:j < a.length) (h2:j < b.length),j < i->a[j] = b[j] }) (fun i=>⟨envL [(0,.data (.sl 6 (sesss a))),(1,.data (.sl 6 (sesss b))),(12,.data (.int .i64 a.length)),(13,.data (.int .i64 i.1))],hpL [],0,0,26⟩) (fun i=>a.length - i.1) ⟨0,by omega,by omega⟩ [] (rhoL []) ?_ ?_
 · apply ren_lists <;> simp -implicitDefEqProofs [go_sem,g1]
 rintro ⟨i,hi,hall⟩
 by_cases h:i < a.length
 · have h2:i < b.length:=by omega
   simp -implicitDefEqProofs (disch:=omega) [go_sem]
   refine eqK_sess (ta _ (List.getElem_mem h)) (tb _ (List.getElem_mem h2)) ?_
   by_cases he:a[i] = b[i]
   · simp -implicitDefEqProofs (disch:=omega) [go_sem,he]
     refine side (by kernel_rfl) ?_
     simp -implicitDefEqProofs (disch:=omega) [go_sem]
     refine next_ren ⟨i + 1,by omega,fun j hj hj2 hl=>if e:j = i then by subst e;exact he else hall j hj hj2 (by omega)⟩ (by simp only;omega) [] (rhoL []) ?_
     apply ren_lists <;> simp -implicitDefEqProofs [go_sem]
   · have hno:¬ a = b:=fun e=>he (by subst e;rfl)
     simp -implicitDefEqProofs (disch:=omega) [go_sem,he]
     refine side (by kernel_rfl) ?_
     simp -implicitDefEqProofs (disch:=omega) [go_sem,hno,Tryz.results98]
 have e0:a = b:=List.ext_getElem g1 fun j h1 h2=>hall j h1 h2 (by omega)
 simp -implicitDefEqProofs (disch:=omega) [go_sem,e0,Tryz.results98]
set_option maxHeartbeats 1000000 in
theorem eqItem_pc (a b:List Item) (ha:a.length≤140737488351232) (hb:b.length≤140737488351232) (ta:∀ s∈a,s.Ty) (tb:∀ s∈b,s.Ty):PC Tryz.prog Γ 99 [.sl 5 (items a),.sl 5 (items b)] (.bool (decide (a = b))):=by
 refine pc_by mixed Tryz.func99 rfl (fun args w=>Tryz.call99 args w) ?_
 by_cases g1:a.length = b.length
 rotate_left
 · have hno:¬ a = b:=fun e=>g1 (by rw [e])
   simp -implicitDefEqProofs (disch:=omega) [go_sem,hno,Tryz.results99]
 simp -implicitDefEqProofs (disch:=omega) [go_sem]
 refine loop_ren (σ:={ i:Nat // i≤a.length∧∀ (j:Nat) (h:j < a.length) (h2:j < b.length),j < i->a[j] = b[j] }) (fun i=>⟨envL [(0,.data (.sl 5 (items a))),(1,.data (.sl 5 (items b))),(12,.data (.int .i64 a.length)),(13,.data (.int .i64 i.1))],hpL [],0,0,26⟩) (fun i=>a.length - i.1) ⟨0,by omega,by omega⟩ [] (rhoL []) ?_ ?_
 · apply ren_lists <;> simp -implicitDefEqProofs [go_sem,g1]
 rintro ⟨i,hi,hall⟩
 by_cases h:i < a.length
 · have h2:i < b.length:=by omega
   simp -implicitDefEqProofs (disch:=omega) [go_sem]
   refine eqK_item (ta _ (List.getElem_mem h)) (tb _ (List.getElem_mem h2)) ?_
   by_cases he:a[i] = b[i]
   · simp -implicitDefEqProofs (disch:=omega) [go_sem,he]
     refine side (by kernel_rfl) ?_
     simp -implicitDefEqProofs (disch:=omega) [go_sem]
     refine next_ren ⟨i + 1,by omega,fun j hj hj2 hl=>if e:j = i then by subst e;exact he else hall j hj hj2 (by omega)⟩ (by simp only;omega) [] (rhoL []) ?_
     apply ren_lists <;> simp -implicitDefEqProofs [go_sem]
   · have hno:¬ a = b:=fun e=>he (by subst e;rfl)
     simp -implicitDefEqProofs (disch:=omega) [go_sem,he]
     refine side (by kernel_rfl) ?_
     simp -implicitDefEqProofs (disch:=omega) [go_sem,hno,Tryz.results99]
 have e0:a = b:=List.ext_getElem g1 fun j h1 h2=>hall j h1 h2 (by omega)
 simp -implicitDefEqProofs (disch:=omega) [go_sem,e0,Tryz.results99]
set_option maxHeartbeats 1000000 in
theorem eqLock_pc (a b:List Lock) (ha:a.length≤140737488351232) (hb:b.length≤140737488351232) (ta:∀ s∈a,s.Ty) (tb:∀ s∈b,s.Ty):PC Tryz.prog Γ 100 [.sl 3 (locks a),.sl 3 (locks b)] (.bool (decide (a = b))):=by
 refine pc_by mixed Tryz.func100 rfl (fun args w=>Tryz.call100 args w) ?_
 by_cases g1:a.length = b.length
 rotate_left
 · have hno:¬ a = b:=fun e=>g1 (by rw [e])
   simp -implicitDefEqProofs (disch:=omega) [go_sem,hno,Tryz.results100]
 simp -implicitDefEqProofs (disch:=omega) [go_sem]
 refine loop_ren (σ:={ i:Nat // i≤a.length∧∀ (j:Nat) (h:j < a.length) (h2:j < b.length),j < i->a[j] = b[j] }) (fun i=>⟨envL [(0,.data (.sl 3 (locks a))),(1,.data (.sl 3 (locks b))),(12,.data (.int .i64 a.length)),(13,.data (.int .i64 i.1))],hpL [],0,0,26⟩) (fun i=>a.length - i.1) ⟨0,by omega,by omega⟩ [] (rhoL []) ?_ ?_
 · apply ren_lists <;> simp -implicitDefEqProofs [go_sem,g1]
 rintro ⟨i,hi,hall⟩
 by_cases h:i < a.length
 · have h2:i < b.length:=by omega
   simp -implicitDefEqProofs (disch:=omega) [go_sem]
   refine eqK_lock (ta _ (List.getElem_mem h)) (tb _ (List.getElem_mem h2)) ?_
   by_cases he:a[i] = b[i]
   · simp -implicitDefEqProofs (disch:=omega) [go_sem,he]
     refine side (by kernel_rfl) ?_
     simp -implicitDefEqProofs (disch:=omega) [go_sem]
     refine next_ren ⟨i + 1,by omega,fun j hj hj2 hl=>if e:j = i then by subst e;exact he else hall j hj hj2 (by omega)⟩ (by simp only;omega) [] (rhoL []) ?_
     apply ren_lists <;> simp -implicitDefEqProofs [go_sem]
   · have hno:¬ a = b:=fun e=>he (by subst e;rfl)
     simp -implicitDefEqProofs (disch:=omega) [go_sem,he]
     refine side (by kernel_rfl) ?_
     simp -implicitDefEqProofs (disch:=omega) [go_sem,hno,Tryz.results100]
 have e0:a = b:=List.ext_getElem g1 fun j h1 h2=>hall j h1 h2 (by omega)
 simp -implicitDefEqProofs (disch:=omega) [go_sem,e0,Tryz.results100]
set_option maxHeartbeats 1000000 in
theorem same2_pc (a b:Book) (ha:Fits a) (hb:Fits b) (ta:a.Ty) (tb:b.Ty):PC Tryz.prog Γ 56 [book a,book b] (.bool (decide (a = b))):=by
 refine pc_by mixed Tryz.func56 rfl (fun args w=>Tryz.call56 args w) ?_
 have c1:=eqSess_pc Γ a.opn b.opn ha.o hb.o ta.o tb.o
 have c2:=eqItem_pc Γ a.items b.items ha.i hb.i ta.i tb.i
 have c3:=eqLock_pc Γ a.locks b.locks ha.l hb.l ta.l tb.l
 by_cases g0:a.next = b.next
 rotate_left
 · have hno:¬ a = b:=fun e=>g0 (by rw [e])
   simp -implicitDefEqProofs (disch:=omega) [go_sem,book,g0,hno,Tryz.f56]
 simp -implicitDefEqProofs (disch:=omega) [go_sem,book,g0]
 refine .inl (call_data c1 (by simp [go_sem]) ?_)
 by_cases g1:a.opn = b.opn
 rotate_left
 · have hno:¬ a = b:=fun e=>g1 (by rw [e])
   simp -implicitDefEqProofs (disch:=omega) [go_sem,g1,hno,Tryz.f56]
 simp -implicitDefEqProofs (disch:=omega) [go_sem,g1]
 refine .inl (call_data c2 (by simp [go_sem]) ?_)
 by_cases g2:a.items = b.items
 rotate_left
 · have hno:¬ a = b:=fun e=>g2 (by rw [e])
   simp -implicitDefEqProofs (disch:=omega) [go_sem,g2,hno,Tryz.f56]
 simp -implicitDefEqProofs (disch:=omega) [go_sem,g2]
 refine .inl (call_data c3 (by simp [go_sem]) ?_)
 by_cases g3:a.locks = b.locks
 rotate_left
 · have hno:¬ a = b:=fun e=>g3 (by rw [e])
   simp -implicitDefEqProofs (disch:=omega) [go_sem,g3,hno,Tryz.f56]
 have hyes:a = b:=by
  cases a;cases b
  simp only at g0 g1 g2 g3
  subst g0;subst g1;subst g2;subst g3
  rfl
 simp -implicitDefEqProofs (disch:=omega) [go_sem,hyes,Tryz.f56]
set_option maxHeartbeats 1000000 in
theorem may2_pc (o:Op):PC Tryz.prog Γ 69 [op o] (.bool (decide (MayP o))):=by
 refine pc_by mixed Tryz.func69 rfl (fun args w=>Tryz.call69 args w) ?_
 have c0:=isFrom_pc Γ o.kind 1 6
 have c1:=isFrom_pc Γ o.id 0 1000000000
 have c2:=isLink_pc Γ o.link
 have c3:=isFrom_pc Γ o.at_ 0 1000000000
 have c4:=isFrom_pc Γ o.cause 0 255
 have c5:=isUser_pc Γ o.user
 simp -implicitDefEqProofs (disch:=omega) [go_sem,op]
 refine .inl (call_data c0 (by simp [go_sem]) ?_)
 by_cases g0:1≤o.kind∧o.kind≤6
 rotate_left
 · have hno:¬ MayP o:=fun hk=>by unfold MayP at hk;omega
   simp -implicitDefEqProofs (disch:=omega) [go_sem,decide_eq_false g0,decide_eq_false hno,Tryz.f69]
 rw [decide_eq_true g0]
 simp -implicitDefEqProofs (disch:=omega) [go_sem]
 refine .inl (call_data c1 (by simp [go_sem]) ?_)
 by_cases g1:0≤o.id∧o.id≤1000000000
 rotate_left
 · have hno:¬ MayP o:=fun hk=>by unfold MayP at hk;omega
   simp -implicitDefEqProofs (disch:=omega) [go_sem,decide_eq_false g1,decide_eq_false hno,Tryz.f69]
 rw [decide_eq_true g1]
 simp -implicitDefEqProofs (disch:=omega) [go_sem]
 refine .inl (call_data c2 (by simp [go_sem]) ?_)
 by_cases g2:0≤o.link∧o.link≤7
 rotate_left
 · have hno:¬ MayP o:=fun hk=>by unfold MayP at hk;omega
   simp -implicitDefEqProofs (disch:=omega) [go_sem,decide_eq_false g2,decide_eq_false hno,Tryz.f69]
 rw [decide_eq_true g2]
 simp -implicitDefEqProofs (disch:=omega) [go_sem]
 refine .inl (call_data c3 (by simp [go_sem]) ?_)
 by_cases g3:0≤o.at_∧o.at_≤1000000000
 rotate_left
 · have hno:¬ MayP o:=fun hk=>by unfold MayP at hk;omega
   simp -implicitDefEqProofs (disch:=omega) [go_sem,decide_eq_false g3,decide_eq_false hno,Tryz.f69]
 rw [decide_eq_true g3]
 simp -implicitDefEqProofs (disch:=omega) [go_sem]
 refine .inl (call_data c4 (by simp [go_sem]) ?_)
 by_cases g4:0≤o.cause∧o.cause≤255
 rotate_left
 · have hno:¬ MayP o:=fun hk=>by unfold MayP at hk;omega
   simp -implicitDefEqProofs (disch:=omega) [go_sem,decide_eq_false g4,decide_eq_false hno,Tryz.f69]
 rw [decide_eq_true g4]
 simp -implicitDefEqProofs (disch:=omega) [go_sem]
 refine .inl (call_data c5 (by simp [go_sem]) ?_)
 by_cases g5:nameOk o.user
 rotate_left
 · have hno:¬ MayP o:=fun hk=>by unfold MayP at hk;unfold nameOk at g5;omega
   simp -implicitDefEqProofs (disch:=omega) [go_sem,decide_eq_false g5,decide_eq_false hno,Tryz.f69]
 rw [decide_eq_true g5]
 have hyes:MayP o:=by unfold MayP;unfold nameOk at g5;omega
 simp -implicitDefEqProofs (disch:=omega) [go_sem,hyes,Tryz.f69]
/-- Somebody holds it. -/
def held (l:List Sess) (a:Int):Bool:=decide (0≤first (fun s:Sess=>decide (s.addr = a)) 0 l)
end Bk
namespace Bk
section
variable (Γ:Nat->Option (List Data))
theorem hd0:(ByteArray.mk #[72,68])[0]? = some 72:=rfl
theorem hd1:(ByteArray.mk #[72,68])[1]? = some 68:=rfl
theorem re0:(ByteArray.mk #[82,69])[0]? = some 82:=rfl
theorem re1:(ByteArray.mk #[82,69])[1]? = some 69:=rfl
theorem parts_cells (l:List Part):∀ x∈parts l,x.cells.length = 1:=fun x hx=>by
 obtain ⟨p,_,rfl⟩:=List.mem_map.1 hx
 rw [partD_cells]
 rfl
theorem flat_parts (l:List Part):flat (parts l) = parts l:=by
 induction l with
 | nil=>rfl
 | cons p l ih =>
   show (partD p).cells++flat (parts l) = _
   rw [partD_cells,ih]
   rfl
theorem frz_parts {H:Nat->Blk} {g n:Nat} {l:List Part} {rw:Bool} (hg:H g = .blk rw ((parts l).map D.data)) (hn:l.length = n):Frz true H (.ref g 0 n 1) (.sl 1 (parts l)) :=
 frz_ref hg (.inl rfl) (by rw [parts_length,hn]) (parts_cells l) (by rw [flat_parts])
def headW (g:Nat):List Part:=[.num 1 72,.num 1 68,.num 4 g]
set_option maxHeartbeats 4000000 in
theorem headParts_pc (g:Nat) (hg:g < 9223372036854775808):PC Tryz.prog Γ 133 [.int .i64 g] (.sl 1 (parts (headW g))):=by
 refine pc_by mixed Tryz.func133 rfl (fun args w=>Tryz.call133 args w) ?_
 simp -implicitDefEqProofs (disch:=omega) [go_sem,hd0,hd1,re0,re1,numDt]
 refine .inl (call_data (oneB_pc Γ 72 (by omega)) (by simp [go_sem,numDt]) ?_)
 simp -implicitDefEqProofs (disch:=omega) [go_sem,hd0,hd1,re0,re1,numDt]
 refine .inl (call_data (oneB_pc Γ 68 (by omega)) (by simp [go_sem,numDt]) ?_)
 simp -implicitDefEqProofs (disch:=omega) [go_sem,hd0,hd1,re0,re1,numDt]
 refine .inl (call_data (fourI_pc Γ g (by omega)) (by simp [go_sem,numDt]) ?_)
 simp -implicitDefEqProofs (disch:=omega) [go_sem,hd0,hd1,re0,re1,numDt]
 refine side (by kernel_rfl) ?_
 simp -implicitDefEqProofs (disch:=omega) [go_sem,Tryz.f133]
 exact ⟨_,⟨_,rfl,frz_parts (l:=headW g) rfl rfl⟩,rfl⟩
def headB (g:Nat):List Nat:=be 1 72++(be 1 68++be 4 g)
theorem headW_bytes (g:Nat):(headW g).flatMap partB = headB g:=by simp [headW,headB,partB]
set_option maxHeartbeats 4000000 in
theorem headBytes_pc (g:Int):PC Tryz.prog Γ 89 [.int .i64 g] (if 1≤g∧g≤1000000000 then .tup [.sl 1 (bys (padB 128 (headB g.toNat))),.int .i64 0] else .tup [.sl 1 [],.int .i64 1]):=by
 refine pc_by mixed Tryz.func89 rfl (fun args w=>Tryz.call89 args w) ?_
 have cg:=isGen_pc Γ g
 simp -implicitDefEqProofs (disch:=omega) [go_sem]
 refine .inl (call_data cg (by simp [go_sem]) ?_)
 by_cases h:1≤g∧g≤1000000000
 · rw [decide_eq_true h,if_pos h]
   obtain ⟨n,rfl⟩:∃ n:Nat,g = n:=⟨g.toNat,by omega⟩
   simp -implicitDefEqProofs (disch:=omega) [go_sem]
   refine .inl (call_data (headParts_pc Γ n (by omega)) (by simp [go_sem]) ?_)
   simp -implicitDefEqProofs (disch:=omega) [go_sem]
   have hl:=laid_pc Γ 128 (headW n) (by intro p hp;simp [headW] at hp;rcases hp with rfl | rfl | rfl <;> simp only [PartOk] <;> omega) (by rw [headW_bytes];simp [headB,be_length]) (by omega) (by simp [headW])
   rw [headW_bytes] at hl
   refine .inl (call_data hl (by simp [go_sem]) ?_)
   simp -implicitDefEqProofs (disch:=omega) [go_sem,Tryz.f89]
 · rw [decide_eq_false h,if_neg h]
   simp -implicitDefEqProofs (disch:=omega) [go_sem,Tryz.f89]
   exact ⟨_,⟨_,rfl,.emp ..⟩,rfl⟩
def recD (g s:Int) (o:Op):Data:=.agg [.int .i64 g,.int .i64 s,.int .i64 o.kind,.int .i64 o.id,.int .i64 o.link,.int .u32 o.addr,.str o.user,.int .u64 o.inn,.int .u64 o.out,.int .i64 o.cause,.int .i64 o.at_]
structure RecFit (g s:Int) (o:Op):Prop where
 gen:Fit 4 g
 seq:Fit 1 s
 op:OpFit o
def recW (g s:Int) (o:Op):List Part:=[.num 1 82,.num 1 69,.num 4 g.toNat,.num 1 s.toNat,.num 1 o.kind.toNat,.num 4 o.id.toNat,.num 1 o.link.toNat,.num 4 o.addr.toNat,.nam o.user,.num 8 o.inn.toNat,.num 8 o.out.toNat,.num 1 o.cause.toNat,.num 4 o.at_.toNat]
set_option maxHeartbeats 8000000 in
theorem recParts_pc (g s k i l a n t c z:Nat) (u:ByteArray) (h1:g < 4294967296) (h2:s < 256) (h3:k < 256) (h4:i < 4294967296) (h5:l < 256) (h6:a < 4294967296) (h7:n < 18446744073709551616) (h8:t < 18446744073709551616) (h9:c < 256) (h10:z < 4294967296):PC Tryz.prog Γ 73 [recD g s ⟨k,i,l,a,u,n,t,c,z⟩] (.sl 1 (parts (recW g s ⟨k,i,l,a,u,n,t,c,z⟩))):=by
 refine pc_by mixed Tryz.func73 rfl (fun args w=>Tryz.call73 args w) ?_
 unfold recD
 simp -implicitDefEqProofs (disch:=omega) [go_sem,hd0,hd1,re0,re1,numDt]
 refine .inl (call_data (oneB_pc Γ 82 (by omega)) (by simp [go_sem,numDt]) ?_)
 simp -implicitDefEqProofs (disch:=omega) [go_sem,hd0,hd1,re0,re1,numDt]
 refine .inl (call_data (oneB_pc Γ 69 (by omega)) (by simp [go_sem,numDt]) ?_)
 simp -implicitDefEqProofs (disch:=omega) [go_sem,hd0,hd1,re0,re1,numDt]
 refine .inl (call_data (fourI_pc Γ g (by omega)) (by simp [go_sem,numDt]) ?_)
 simp -implicitDefEqProofs (disch:=omega) [go_sem,hd0,hd1,re0,re1,numDt]
 refine .inl (call_data (oneI_pc Γ s (by omega)) (by simp [go_sem,numDt]) ?_)
 simp -implicitDefEqProofs (disch:=omega) [go_sem,hd0,hd1,re0,re1,numDt]
 refine .inl (call_data (oneI_pc Γ k (by omega)) (by simp [go_sem,numDt]) ?_)
 simp -implicitDefEqProofs (disch:=omega) [go_sem,hd0,hd1,re0,re1,numDt]
 refine .inl (call_data (fourI_pc Γ i (by omega)) (by simp [go_sem,numDt]) ?_)
 simp -implicitDefEqProofs (disch:=omega) [go_sem,hd0,hd1,re0,re1,numDt]
 refine .inl (call_data (oneI_pc Γ l (by omega)) (by simp [go_sem,numDt]) ?_)
 simp -implicitDefEqProofs (disch:=omega) [go_sem,hd0,hd1,re0,re1,numDt]
 refine .inl (call_data (fourU_pc Γ a (by omega)) (by simp [go_sem,numDt]) ?_)
 simp -implicitDefEqProofs (disch:=omega) [go_sem,hd0,hd1,re0,re1,numDt]
 refine .inl (call_data (eight_pc Γ n) (by simp [go_sem,numDt]) ?_)
 simp -implicitDefEqProofs (disch:=omega) [go_sem,hd0,hd1,re0,re1,numDt]
 refine .inl (call_data (eight_pc Γ t) (by simp [go_sem,numDt]) ?_)
 simp -implicitDefEqProofs (disch:=omega) [go_sem,hd0,hd1,re0,re1,numDt]
 refine .inl (call_data (oneI_pc Γ c (by omega)) (by simp [go_sem,numDt]) ?_)
 simp -implicitDefEqProofs (disch:=omega) [go_sem,hd0,hd1,re0,re1,numDt]
 refine .inl (call_data (fourI_pc Γ z (by omega)) (by simp [go_sem,numDt]) ?_)
 simp -implicitDefEqProofs (disch:=omega) [go_sem,hd0,hd1,re0,re1,numDt]
 refine side (by kernel_rfl) ?_
 simp -implicitDefEqProofs (disch:=omega) [go_sem,Tryz.f73]
 exact ⟨_,⟨_,rfl,frz_parts (l:=recW g s ⟨k,i,l,a,u,n,t,c,z⟩) rfl rfl⟩,rfl⟩
theorem recParts2_pc {g s:Int} {o:Op} (h:RecFit g s o):PC Tryz.prog Γ 73 [recD g s o] (.sl 1 (parts (recW g s o))):=by
 obtain ⟨hg,hs,ho⟩:=h
 obtain ⟨k,i,l,a,u,n,t,c,z⟩:=o
 obtain ⟨h1,h2,h3,h4,h5,h6,h7,h8,h9⟩:=ho
 simp only [Fit] at *
 obtain ⟨g,rfl⟩:∃ x:Nat,g = x:=⟨g.toNat,by omega⟩
 obtain ⟨s,rfl⟩:∃ x:Nat,s = x:=⟨s.toNat,by omega⟩
 obtain ⟨k,rfl⟩:∃ x:Nat,k = x:=⟨k.toNat,by omega⟩
 obtain ⟨i,rfl⟩:∃ x:Nat,i = x:=⟨i.toNat,by omega⟩
 obtain ⟨l,rfl⟩:∃ x:Nat,l = x:=⟨l.toNat,by omega⟩
 obtain ⟨a,rfl⟩:∃ x:Nat,a = x:=⟨a.toNat,by omega⟩
 obtain ⟨n,rfl⟩:∃ x:Nat,n = x:=⟨n.toNat,by omega⟩
 obtain ⟨t,rfl⟩:∃ x:Nat,t = x:=⟨t.toNat,by omega⟩
 obtain ⟨c,rfl⟩:∃ x:Nat,c = x:=⟨c.toNat,by omega⟩
 obtain ⟨z,rfl⟩:∃ x:Nat,z = x:=⟨z.toNat,by omega⟩
 exact recParts_pc Γ g s k i l a n t c z u (by omega) (by omega) (by omega) (by omega) (by omega) (by omega) (by omega) (by omega) (by omega) (by omega)
def recB (g s:Int) (o:Op):List Nat:=be 1 82++(be 1 69++(be 4 g.toNat++(be 1 s.toNat++opB o)))
theorem recW_bytes (g s:Int) (o:Op):(recW g s o).flatMap partB = recB g s o:=by simp [recW,recB,opB,partB,List.append_assoc]
theorem recW_ok {g s:Int} {o:Op} (h:RecFit g s o):∀ p∈recW g s o,PartOk p:=by
 obtain ⟨hg,hs,ho⟩:=h
 obtain ⟨h1,h2,h3,h4,h5,h6,h7,h8,h9⟩:=ho
 simp only [Fit] at *
 intro p hp
 simp only [recW,List.mem_cons,List.not_mem_nil,or_false] at hp
 rcases hp with rfl | rfl | rfl | rfl | rfl | rfl | rfl | rfl | rfl | rfl | rfl | rfl | rfl <;> simp only [PartOk] <;> omega
theorem recB_length {g s:Int} {o:Op} (h:RecFit g s o):(recB g s o).length = 55:=by
 simp [recB,opB,be_length,nameB_length h.op.user]
def RecP (g s:Int) (o:Op):Prop:=(1≤g∧g≤1000000000)∧(0≤s∧s < 30)∧MayP o
instance (g s:Int) (o:Op):Decidable (RecP g s o):=by unfold RecP;infer_instance
structure OpRange (o:Op):Prop where
 addr:0≤o.addr∧o.addr < 4294967296
 inn:0≤o.inn∧o.inn < 18446744073709551616
 out:0≤o.out∧o.out < 18446744073709551616
theorem RecP.fit {g s:Int} {o:Op} (h:RecP g s o) (r:OpRange o):RecFit g s o:=by
 obtain ⟨r1,r2,r3⟩:=r
 unfold RecP MayP at h
 refine ⟨?_,?_,?_,?_,?_,?_,?_,?_,?_,?_,?_⟩ <;> (try unfold Fit) <;> omega
set_option maxHeartbeats 4000000 in
theorem recMay_pc (g s:Int) (o:Op):PC Tryz.prog Γ 71 [recD g s o] (.bool (decide (RecP g s o))):=by
 refine pc_by mixed Tryz.func71 rfl (fun args w=>Tryz.call71 args w) ?_
 have cg:=isGen_pc Γ g
 have cm:=may2_pc Γ o
 unfold recD
 simp -implicitDefEqProofs (disch:=omega) [go_sem]
 refine .inl (call_data cg (by simp [go_sem]) ?_)
 by_cases h1:1≤g∧g≤1000000000
 rotate_left
 · have hno:¬ RecP g s o:=fun hk=>by unfold RecP at hk;omega
   simp -implicitDefEqProofs (disch:=omega) [go_sem,decide_eq_false h1,decide_eq_false hno,Tryz.f71]
 rw [decide_eq_true h1]
 by_cases h2:0≤s
 rotate_left
 · have hno:¬ RecP g s o:=fun hk=>by unfold RecP at hk;omega
   simp -implicitDefEqProofs (disch:=omega) [go_sem,h2,decide_eq_false hno,Tryz.f71]
 by_cases h3:s < 30
 rotate_left
 · have hno:¬ RecP g s o:=fun hk=>by unfold RecP at hk;omega
   simp -implicitDefEqProofs (disch:=omega) [go_sem,h2,h3,decide_eq_false hno,Tryz.f71]
 simp -implicitDefEqProofs (disch:=omega) [go_sem,h2,h3]
 refine .inl (call_data cm (by simp [go_sem,op]) ?_)
 have e:decide (RecP g s o) = decide (MayP o):=by
  rw [decide_eq_decide]
  exact ⟨fun h=>h.2.2,fun h=>⟨h1,⟨h2,h3⟩,h⟩⟩
 rw [e]
 simp -implicitDefEqProofs (disch:=omega) [go_sem,Tryz.f71]
set_option maxHeartbeats 4000000 in
theorem opBytes_pc (g s:Int) (o:Op) (hr:OpRange o):PC Tryz.prog Γ 40 [.int .i64 g,.int .i64 s,op o] (if RecP g s o then .tup [.sl 1 (bys (padB 128 (recB g s o))),.int .i64 0] else .tup [.sl 1 [],.int .i64 1]):=by
 refine pc_by mixed Tryz.func40 rfl (fun args w=>Tryz.call40 args w) ?_
 have cm:=recMay_pc Γ g s o
 unfold op
 simp -implicitDefEqProofs (disch:=omega) [go_sem]
 refine .inl (call_data cm (by simp [go_sem,recD]) ?_)
 by_cases h:RecP g s o
 · rw [decide_eq_true h,if_pos h]
   have hf:=h.fit hr
   simp -implicitDefEqProofs (disch:=omega) [go_sem]
   refine .inl (call_data (recParts2_pc Γ hf) (by simp [go_sem,recD]) ?_)
   simp -implicitDefEqProofs (disch:=omega) [go_sem]
   have hl:=laid_pc Γ 128 (recW g s o) (recW_ok hf) (by rw [recW_bytes,recB_length hf];omega) (by omega) (by simp [recW])
   rw [recW_bytes] at hl
   refine .inl (call_data hl (by simp [go_sem]) ?_)
   simp -implicitDefEqProofs (disch:=omega) [go_sem,Tryz.f40]
 · rw [decide_eq_false h,if_neg h]
   simp -implicitDefEqProofs (disch:=omega) [go_sem,Tryz.f40]
   exact ⟨_,⟨_,rfl,.emp ..⟩,rfl⟩
end
end Bk
namespace Bk
section
variable (Γ:Nat->Option (List Data))
def uRE:ByteArray:=⟨#[82,69]⟩
theorem uRE_size:uRE.size = 2:=rfl
def recordP (l:List Nat):Option ((Nat × Nat × Op) × List Nat):=if l.length = 128 then bnd (letP uRE l) fun _ l=>bnd (numP 4 l) fun g l=>bnd (numP 1 l) fun s l=>bnd (opP l) fun o l=>if RecP g s o∧∀ x∈l,x = 0 then some ((g,s,o),l) else none else none
theorem opP_rest {l:List Nat} (hl:Bytes l) {o:Op} {r:List Nat} (h:opP l = some (o,r)):Bytes r∧r.length≤l.length:=by
 obtain ⟨rfl,_⟩:=(opP_iff hl o r).1 h
 exact ⟨(bytes_app.1 hl).2,by simp⟩
set_option maxHeartbeats 8000000 in
theorem record_rd (l:List Nat) (hl:l.length≤1000000) (hb:Bytes l):RD Γ 170 [] l (mapD (recordP l) fun x=>recD x.1 x.2.1 x.2.2):=by
 refine dx_by mixed Tryz.func170 rfl (fun args w=>Tryz.call170 args w) ?_
 by_cases h128:l.length = 128
 rotate_left
 · simp -implicitDefEqProofs (disch:=omega) [go_sem]
   refine .inr (.inr (need_dx Γ false (fun e=>by cases e) (fun _=>?_)))
   simp -implicitDefEqProofs (disch:=omega) [go_sem]
   exact rdX (l':=l) rfl (by simp [go_sem]) (by simp [mapD,recordP,h128])
 simp -implicitDefEqProofs (disch:=omega) [go_sem]
 refine .inr (.inr (need_dx Γ true (fun _=>?_) (fun e=>by cases e)))
 simp -implicitDefEqProofs (disch:=omega) [go_sem]
 refine .inr (.inr (rd_lent (letters_rd Γ l hl hb uRE (by rw [uRE_size];omega)) (by simp [go_sem]) (by simp) (fun r l1 hp=>?_) (fun hp l'=>?_)))
 rotate_left
 · simp -implicitDefEqProofs (disch:=omega) [go_sem]
   exact rdX (l':=l') rfl (by simp [go_sem]) (by simp [mapD,recordP,h128,bnd,hp])
 have h1:=hp
 obtain ⟨rfl,e1,_,_⟩:=letP_rest hp
 clear hp
 have hb1:Bytes l1:=by rw [e1];exact fun x hx=>hb x (List.mem_of_mem_drop hx)
 have hl1:l1.length≤1000000:=by rw [e1,List.length_drop];omega
 clear e1
 simp -implicitDefEqProofs (disch:=omega) [go_sem]
 refine .inr (.inr (rd_lent (small_rd Γ l1 hl1 hb1 4 (by omega)) (by simp [go_sem]) (by simp) (fun r l2 hp=>?_) (fun hp l'=>?_)))
 rotate_left
 · rw [numD_none] at hp
   simp -implicitDefEqProofs (disch:=omega) [go_sem]
   exact rdX (l':=l') rfl (by simp [go_sem]) (by simp [mapD,recordP,h128,bnd,h1,hp])
 obtain ⟨g,h2,rfl⟩:=numD_some.1 hp
 clear hp
 have hl2:l2.length≤1000000:=Nat.le_trans (numP_len h2) hl1
 have hb2:=bytes_rest hb1 h2
 simp -implicitDefEqProofs (disch:=omega) [go_sem]
 refine .inr (.inr (rd_lent (small_rd Γ l2 hl2 hb2 1 (by omega)) (by simp [go_sem]) (by simp) (fun r l3 hp=>?_) (fun hp l'=>?_)))
 rotate_left
 · rw [numD_none] at hp
   simp -implicitDefEqProofs (disch:=omega) [go_sem]
   exact rdX (l':=l') rfl (by simp [go_sem]) (by simp [mapD,recordP,h128,bnd,h1,h2,hp])
 obtain ⟨s,h3,rfl⟩:=numD_some.1 hp
 clear hp
 have hl3:l3.length≤1000000:=Nat.le_trans (numP_len h3) hl2
 have hb3:=bytes_rest hb2 h3
 simp -implicitDefEqProofs (disch:=omega) [go_sem]
 refine .inr (.inr (rd_lent (op_rd Γ l3 hl3 hb3) (by simp [go_sem]) (by simp) (fun r l4 hp=>?_) (fun hp l'=>?_)))
 rotate_left
 · rw [mapD_none] at hp
   simp -implicitDefEqProofs (disch:=omega) [go_sem]
   exact rdX (l':=l') rfl (by simp [go_sem]) (by simp [mapD,recordP,h128,bnd,h1,h2,h3,hp])
 obtain ⟨o,h4,rfl⟩:=mapD_some.1 hp
 clear hp
 have hl4:l4.length≤1000000:=Nat.le_trans (opP_rest hb3 h4).2 hl3
 have hrp:recordP l = if RecP g s o∧∀ x∈l4,x = 0 then some ((g,s,o),l4) else none:=by simp only [recordP,h128,bnd,h1,h2,h3,h4,if_true]
 clear h1 h2 h3 h4
 have cm:=recMay_pc Γ g s o
 unfold op
 simp -implicitDefEqProofs (disch:=omega) [go_sem]
 refine .inl (call_data cm (by simp [go_sem,recD]) ?_)
 by_cases hg:RecP g s o
 rotate_left
 · rw [decide_eq_false hg]
   simp -implicitDefEqProofs (disch:=omega) [go_sem]
   refine .inr (.inr (need_dx Γ false (fun e=>by cases e) (fun _=>?_)))
   simp -implicitDefEqProofs (disch:=omega) [go_sem]
   exact rdX (l':=l4) rfl (by simp [go_sem]) (by rw [hrp,if_neg fun e=>hg e.1];rfl)
 rw [decide_eq_true hg]
 simp -implicitDefEqProofs (disch:=omega) [go_sem]
 refine .inr (.inr (need_dx Γ true (fun _=>?_) (fun e=>by cases e)))
 simp -implicitDefEqProofs (disch:=omega) [go_sem]
 obtain ⟨v,hv⟩:∃ v:Bool,v = true ↔ ∀ x∈l4,x = 0:=by classical exact ⟨decide (∀ x∈l4,x = 0),by simp⟩
 refine .inr (.inr (rd_lent (end_rd Γ l4 hl4 hv) (by simp [go_sem]) (by simp) (fun r l5 hp=>?_) (fun hp l'=>?_)))
 rotate_left
 · have hv0:¬ ∀ x∈l4,x = 0:=fun e=>by rw [hv.2 e,if_pos rfl] at hp;cases hp
   simp -implicitDefEqProofs (disch:=omega) [go_sem]
   exact rdX (l':=l') rfl (by simp [go_sem]) (by rw [hrp,if_neg fun e=>hv0 e.2];rfl)
 split at hp
 rotate_left
 · cases hp
 rename_i hv1
 simp only [Option.some.injEq,Prod.mk.injEq] at hp
 obtain ⟨rfl,rfl⟩:=hp
 simp -implicitDefEqProofs (disch:=omega) [go_sem,Tryz.f170]
 exact rdK (l':=l4) (by simp [go_sem]) (by rw [hrp,if_pos ⟨hg,hv.1 hv1⟩];rfl)
theorem clRec_nil {g:Nat} {H:Nat->Blk} {nx:Nat} {K:(Nat->Blk)->Nat->Prop} (hk:K H (nx + 2)):DR Tryz.prog Γ 184 [.ptr g 0] .nili H nx K:=by
 refine dr_by mixed Tryz.func184 rfl rfl (fun args w=>Tryz.call184 args w) (by decide) (by decide) ?_
 simp -implicitDefEqProofs (disch:=omega) [go_sem]
 refine eqK_nil any_interface ?_
 simp -implicitDefEqProofs (disch:=omega) [go_sem,hk]
theorem clRec_err {g:Nat} {H:Nat->Blk} {nx:Nat} {x:D} {K:(Nat->Blk)->Nat->Prop} (hg:H g = .blk true [x]) (hk:K (Hp.upd H [(g,.blk true [.data (.int .i64 2)])]) (nx + 5)):DR Tryz.prog Γ 184 [.ptr g 0] errD H nx K:=by
 refine dr_by mixed Tryz.func184 rfl rfl (fun args w=>Tryz.call184 args w) (by decide) (by decide) ?_
 unfold errD
 simp -implicitDefEqProofs (disch:=omega) [go_sem]
 refine eqK_ifc any_interface ?_
 simp -implicitDefEqProofs (disch:=omega) [go_sem,hg]
 exact hk
def noOp:Op:=⟨0,0,0,0,ByteArray.empty,0,0,0,0⟩
def gotG (p:Option ((Nat × Nat × Op) × List Nat)):Int × Int × Op:=match p with
 | some ((g,s,o),_)=>(g,s,o)
 | none=>(0,0,noOp)
set_option maxHeartbeats 2000000 in
theorem triedRec_pc {f:FuncId} (l:List Nat) (p:Option ((Nat × Nat × Op) × List Nat)) (h:RD Γ f [] l (mapD p fun x=>recD x.1 x.2.1 x.2.2)):PC Tryz.prog Γ 169 [.sl 1 (bys l),.fn f []] (.tup [recD (gotG p).1 (gotG p).2.1 (gotG p).2.2,.int .i64 (gotE p)]):=by
 refine pc_def_by mixed Tryz.func169 rfl (fun args w=>Tryz.call169 args w) (by decide) ?_
 simp -implicitDefEqProofs (disch:=omega) [go_sem]
 refine .inr (.inr (rd_lent h (by simp [go_sem]) (by simp) (fun r l' hp=>?_) (fun hp l'=>?_)))
 · obtain ⟨⟨g,s,o⟩,hp2,rfl⟩:=mapD_some.1 hp
   unfold recD
   simp -implicitDefEqProofs (disch:=omega) [go_sem]
   refine clRec_nil Γ ?_
   simp -implicitDefEqProofs (disch:=omega) [go_sem,Tryz.f169,hp2,gotG,gotE]
 · rw [mapD_none] at hp
   simp -implicitDefEqProofs (disch:=omega) [go_sem]
   refine bodyR_panic (x:=.int .i64 2) rfl (clRec_err Γ (by simp [go_sem];rfl) ?_)
   simp -implicitDefEqProofs (disch:=omega) [go_sem,Tryz.f169,hp,gotG,gotE,recD,noOp]
set_option maxHeartbeats 2000000 in
theorem readOp_pc (l:List Nat) (hl:l.length≤1000000) (hb:Bytes l):PC Tryz.prog Γ 142 [.sl 1 (bys l)] (.tup [.int .i64 (gotG (recordP l)).1,.int .i64 (gotG (recordP l)).2.1,op (gotG (recordP l)).2.2,.int .i64 (gotE (recordP l))]):=by
 refine pc_by mixed Tryz.func142 rfl (fun args w=>Tryz.call142 args w) ?_
 have ct:=triedRec_pc Γ l (recordP l) (record_rd Γ l hl hb)
 generalize recordP l = p at *
 simp -implicitDefEqProofs (disch:=omega) [go_sem]
 refine .inl (call_data ct (by simp [go_sem]) ?_)
 unfold recD op
 simp -implicitDefEqProofs (disch:=omega) [go_sem]
 refine side (by kernel_rfl) ?_
 simp -implicitDefEqProofs (disch:=omega) [go_sem,Tryz.f142]
end
end Bk
end Go.Proofs.YtjkpeebajibgiaaGreat
